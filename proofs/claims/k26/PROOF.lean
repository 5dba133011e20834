import PyProof.Rows.All
import Wide.All
import OpenK.AllK
import Wide.FinOn
import Lean
import PyProof.EqAt
import PyProof.EqKinds
import PyProof.TupleCall
import PyProof.ListMulRoad
import PySem.Challenge.RW_furrow_k26_programs_written
set_option Elab.async false
set_option linter.all false
set_option maxRecDepth 100000
namespace L2
open PySem PySem.Spec PyProof.Rows

noncomputable abbrev Key := Sum Int Str
noncomputable def keyIs : Key → Value → Bool
  | .inl k, v => Value.isInt k v
  | .inr x, v => Value.isStrOf x v
noncomputable def keyH (w : World) : Key → Int
  | .inl k => hashInt k
  | .inr x => hashStr w x
theorem keyIs_shape : ∀ {k : Key} {v : Value}, keyIs k v = true → (∃ i t, k = Sum.inl i ∧ v = Value.int i t) ∨ (∃ x t, k = Sum.inr x ∧ v = Value.str x t)
  | .inl i, v, h => by
    obtain ⟨t, e⟩ := Value.isInt_shape (k := i) (v := v) h
    exact .inl ⟨i, t, rfl, e⟩
  | .inr x, v, h => by
    obtain ⟨t, e⟩ := Value.isStrOf_shape (x := x) (v := v) h
    exact .inr ⟨x, t, rfl, e⟩
theorem key_ll (a b : Int) : decide ((Sum.inl a : Key) = Sum.inl b) = (a == b) := by
  by_cases e : a = b
  · subst e; simp
  · have h : ¬ (Sum.inl a : Key) = Sum.inl b := fun q => e (Sum.inl.inj q)
    rw [decide_eq_false h]
    exact (beq_eq_false_iff_ne.mpr e).symm
theorem key_rr (a b : Str) : decide ((Sum.inr a : Key) = Sum.inr b) = decide (a = b) := by
  by_cases e : a = b
  · subst e; simp
  · have h : ¬ (Sum.inr a : Key) = Sum.inr b := fun q => e (Sum.inr.inj q)
    rw [decide_eq_false h, decide_eq_false e]
theorem key_lr (a : Int) (b : Str) : decide ((Sum.inl a : Key) = Sum.inr b) = false := decide_eq_false (fun q => nomatch q)
theorem key_rl (a : Str) (b : Int) : decide ((Sum.inr a : Key) = Sum.inl b) = false := decide_eq_false (fun q => nomatch q)

noncomputable def mixKind (prog : Program) (w : World) : PySem.KeyKind prog w Key where
  is := keyIs
  hash := keyH w
  inj := fun v a b ha hb => by
    rcases keyIs_shape ha with ⟨i, t, rfl, rfl⟩ | ⟨x, t, rfl, rfl⟩
    · rcases keyIs_shape hb with ⟨j, u, rfl, e⟩ | ⟨y, u, rfl, e⟩
      · injection e with e1 _; rw [e1]
      · exact nomatch e
    · rcases keyIs_shape hb with ⟨j, u, rfl, e⟩ | ⟨y, u, rfl, e⟩
      · exact nomatch e
      · injection e with e1 _; rw [e1]
  byValue := fun k v h => by
    rcases keyIs_shape h with ⟨i, t, rfl, rfl⟩ | ⟨x, t, rfl, rfl⟩ <;> rfl
  pyHash := fun hv h => by
    rcases keyIs_shape hv with ⟨i, t, rfl, rfl⟩ | ⟨x, t, rfl, rfl⟩
    · exact wpAny_pyHash_int h
    · exact wpAny_pyHash_str h
  eqBool := fun hu hv h => by
    rcases keyIs_shape hu with ⟨i, t, rfl, rfl⟩ | ⟨x, t, rfl, rfl⟩
    · rcases keyIs_shape hv with ⟨j, u, rfl, rfl⟩ | ⟨y, u, rfl, rfl⟩
      · rw [key_ll] at h; exact wpAny_eqBool_int h
      · rw [key_lr] at h; exact SeqAt.EqAt.int_str i t y u _ _ _ _ h
    · rcases keyIs_shape hv with ⟨j, u, rfl, rfl⟩ | ⟨y, u, rfl, rfl⟩
      · rw [key_rl] at h; exact SeqAt.EqAt.str_int x t j u _ _ _ _ h
      · rw [key_rr] at h; exact wpAny_eqBool_str h
  «strs» := fun k x t v h => by
    rcases keyIs_shape h with ⟨i, u, rfl, e⟩ | ⟨y, u, rfl, e⟩
    · exact nomatch e
    · injection e with e1 _
      subst e1
      cases v <;> rfl

end L2

namespace L2
open PySem PySem.Spec PyProof.Rows

inductive V where
  | non | bl (b : Bool) | int (i : Int) | str (x : Str) | byt (b : Array UInt8) | flt (b : UInt64) | ref (a : Addr) | ty (n : String)
  deriving DecidableEq

noncomputable def RelV : V → Value → Prop
  | .non, u => u = Value.none
  | .bl b, u => u = Value.bool b
  | .int i, u => ∃ t, u = Value.int i t
  | .str x, u => ∃ t, u = Value.str x t
  | .byt b, u => ∃ t, u = Value.bytes b t
  | .flt b, u => ∃ t, u = Value.float b t
  | .ref a, u => u = Value.ref a
  | .ty n, u => u = Value.type n

noncomputable abbrev Vals : List V → List Value → Prop := Paired RelV
theorem Vals.length {xs : List V} {us : List Value} (r : Vals xs us) : xs.length = us.length := Paired.length r
theorem Vals.get : ∀ {xs : List V} {us : List Value} {i : Nat} {x : V}, Vals xs us → xs[i]? = some x → ∃ u, us[i]? = some u ∧ RelV x u
  | _, _, _, _, .nil, e => by simp at e
  | _, _, 0, _, .cons r _, e => by simp at e; subst e; exact ⟨_, rfl, r⟩
  | _, _, i + 1, x, .cons _ t, e => by
    obtain ⟨u, h1, h2⟩ := Vals.get (i := i) (x := x) t (by simpa using e)
    exact ⟨u, by simpa using h1, h2⟩
theorem Vals.append : ∀ {xs ys : List V} {us ws : List Value}, Vals xs us → Vals ys ws → Vals (xs ++ ys) (us ++ ws)
  | _, _, _, _, .nil, s => s
  | _, _, _, _, .cons r t, s => .cons r (Vals.append t s)
theorem Vals.take : ∀ {xs : List V} {us : List Value} (n : Nat), Vals xs us → Vals (xs.take n) (us.take n)
  | _, _, 0, _ => .nil
  | _, _, _ + 1, .nil => .nil
  | _, _, n + 1, .cons r t => .cons r (Vals.take n t)
theorem Vals.drop : ∀ {xs : List V} {us : List Value} (n : Nat), Vals xs us → Vals (xs.drop n) (us.drop n)
  | _, _, 0, r => r
  | _, _, _ + 1, .nil => .nil
  | _, _, n + 1, .cons _ t => Vals.drop n t
noncomputable def RelO : Option V → Option Value → Prop
  | some v, some u => RelV v u
  | none, none => True
  | _, _ => False
noncomputable def KV {κ : Type} : List (κ × V) → List (κ × Value) → Prop := Paired fun (p : κ × V) (q : κ × Value) => p.1 = q.1 ∧ RelV p.2 q.2

noncomputable def kV : Key → V
  | .inl i => .int i
  | .inr x => .str x

inductive HO where
  /-- a list -/
  | lst (xs : List V)
  /-- a tuple (never changes) -/
  | tup (xs : List V)
  /-- a dict whose keys are ints and texts; one whose keys are tuples of ints and texts (the empty one is both) -/
  | dK (kvs : List (Key × V)) | dT (kvs : List (List Key × V))
  /-- a set of ints: its members, its size -/
  | set (S : Int → Bool) (n : Nat)
  /-- an instance of the class at C, its dict at dx, its attributes -/
  | ins (C dx : Addr) (fs : List (Str × V))
  /-- the dict of the instance at x -/
  | own (x : Addr)
  /-- the dict of an exception -/
  | xd (fs : List (Str × V))
  /-- a bound method, f of x -/
  | met (f x : Addr)
  /-- a range object lo, lo + 1, .. below hi -/
  | rng (lo hi : Int)
  /-- a thing that is known to the object (the script; a dict while a loop walks it): read, never written while it is so -/
  | frz (o : Obj) (u : HO)
  /-- a code object's table -/
  | tbl (ps : Array Value)
  /-- any other thing, by what is true of its one object (a def of one's own: SetO a S n := HO.ext fun h => ..) -/
  | ext (φ : Heap → Prop)

noncomputable abbrev Hp := Addr → Option HO
noncomputable def upd (H : Hp) (a : Addr) (o : HO) : Hp := fun b => if b = a then some o else H b
theorem upd_same {H : Hp} {a : Addr} {o : HO} : upd H a o a = some o := by unfold upd; rw [if_pos rfl]
theorem upd_ne {H : Hp} {a b : Addr} {o : HO} (h : b ≠ a) : upd H a o b = H b := by unfold upd; rw [if_neg h]
theorem ne_of {H : Hp} {a b : Addr} {o u : HO} (h : H a = some o) (h' : H b = some u) (d : o ≠ u) : a ≠ b := by
  intro e; subst e; rw [h] at h'; exact d (Option.some.inj h')
theorem ne_of_none {H : Hp} {a b : Addr} {o : HO} (h : H a = some o) (h' : H b = none) : a ≠ b := by
  intro e; subst e; rw [h] at h'; cases h'

section
variable (P : Program) (w : World)
noncomputable def IsTupN (h : Heap) (a : Addr) (its : Array Value) : Prop := ∃ o, h.get? a = some o ∧ o.cls = .type "tuple" ∧ (∃ n, o.data = .seq its n) ∧ o.dict = none
theorem IsTupN.tup {h : Heap} {a : Addr} {its : Array Value} (x : IsTupN h a its) : IsTup h a its := let ⟨o, e, c, d, _⟩ := x; ⟨o, e, c, d⟩
theorem IsTupN.new (h : Heap) (its : Array Value) : IsTupN (h.push { cls := .type "tuple", data := .seq its }) h.objs.size its := ⟨_, Heap.get?_push_size _ rfl, rfl, ⟨_, rfl⟩, rfl⟩
noncomputable def ObjOk (H : Hp) (h : Heap) (a : Addr) : HO → Prop
  | .lst xs => xs.length ≤ sizeLine ∧ ∃ (its : List Value) (n : Nat), Vals xs its ∧ h.get? a = some { cls := .type "list", data := .seq its.toArray n }
  | .tup xs => xs.length ≤ sizeLine ∧ ∃ its : List Value, Vals xs its ∧ IsTupN h a its.toArray
  | .dK kvs => kvs.length ≤ sizeLine ∧ (a == sysModules) = false ∧ ∃ vs, KV kvs vs ∧ h.DictOf (mixKind P w) a vs
  | .dT kvs => kvs.length ≤ sizeLine ∧ (a == sysModules) = false ∧ ∃ xs : List (List Key × Addr × Value),
      Paired (fun (p : List Key × V) (q : List Key × Addr × Value) => p.1 = q.1 ∧ H q.2.1 = some (.tup (p.1.map kV)) ∧ RelV p.2 q.2.2) kvs xs ∧
      ∃ o es ep, h.get? a = some o ∧ o.ExactDict ∧ o.data = .dict es ep ∧ es.toList = xs.map (entryOfKey (tupleKind (mixKind P w))) ∧ (xs.map (·.1)).Nodup
  | .set S n => h.SetOf (intKind P w) a S n
  | .ins C dx fs => H dx = some (.own a) ∧ fs.length ≤ 1000 ∧ dx ≠ a ∧ h.get? a = some (PySem.W.instObj C dx) ∧
      ∃ mA, h.Ns1 dx mA ∧ (∀ f, RelO (fs.lookup f) (mA f)) ∧ PySem.Within mA (fs.map (·.1))
  | .own _ => ∃ o, h.get? a = some o
  | .xd fs => ∃ mA, h.Ns1 a mA ∧ ∀ f, RelO (fs.lookup f) (mA f)
  | .rng lo hi => ∃ t u v, h.get? a = some { cls := .type "range", data := .fields #[.int lo t, .int hi u, .int 1 v] }
  | .frz o u => h.get? a = some o ∧ ObjOk H h a u
  | .tbl ps => h.get? a = some { cls := .none, data := .fields ps }
  | .met f x => h.get? a = some (PySem.W.methodObj (.ref f) (.ref x))
  | .ext φ => φ h ∧ (∃ o, h.get? a = some o) ∧ ∀ h1 h2 : Heap, φ h1 → (∀ o, h1.get? a = some o → h2.get? a = some o) → φ h2
noncomputable def HOk (H : Hp) (h : Heap) : Prop := ∀ a o, H a = some o → ObjOk P w H h a o
end

section
variable {P : Program} {w : World} {H H' : Hp} {h h' : Heap} {a : Addr} {o : HO}
theorem ObjOk.lt (x : ObjOk P w H h a o) : a < h.objs.size := by
  cases o with
  | lst xs => obtain ⟨_, _, _, _, e⟩ := x; exact Heap.lt_size e
  | tup xs => obtain ⟨_, _, _, p⟩ := x; exact p.tup.lt
  | dK kvs => obtain ⟨_, _, _, _, o, _, _, e, _⟩ := x; exact Heap.lt_size e
  | dT kvs => obtain ⟨_, _, _, _, o, _, _, e, _⟩ := x; exact Heap.lt_size e
  | set S n => obtain ⟨o, _, _, _, e, _⟩ := x; exact Heap.lt_size e
  | ins C dx fs => obtain ⟨_, _, _, e, _⟩ := x; exact Heap.lt_size e
  | own y => obtain ⟨_, e⟩ := x; exact Heap.lt_size e
  | xd fs => obtain ⟨_, ⟨_, _, _, e, _⟩, _⟩ := x; exact Heap.lt_size e
  | rng lo hi => obtain ⟨_, _, _, e⟩ := x; exact Heap.lt_size e
  | frz ob u => obtain ⟨e, _⟩ := x; exact Heap.lt_size e
  | tbl ps => exact Heap.lt_size (show h.get? a = some _ from x)
  | met f y => exact Heap.lt_size (show h.get? a = some _ from x)
  | ext φ => obtain ⟨_, ⟨_, e⟩, _⟩ := x; exact Heap.lt_size e
theorem Paired.mapP {α β : Type} {F G : α → β → Prop} : ∀ {l₁ : List α} {l₂ : List β}, Paired F l₁ l₂ → (∀ a b, F a b → G a b) → Paired G l₁ l₂
  | _, _, .nil, _ => .nil
  | _, _, .cons r t, f => .cons (f _ _ r) (Paired.mapP t f)
theorem ObjOk.stay (x : ObjOk P w H h a o) (k : ∀ b u, (b = a ∨ H b = some (.own a)) → h.get? b = some u → h'.get? b = some u)
    (ho : ∀ b, H b = some (.own a) → H' b = some (.own a)) (ht : ∀ b xs, H b = some (.tup xs) → H' b = some (.tup xs)) : ObjOk P w H' h' a o := by
  induction o with
  | lst xs => obtain ⟨z, its, n, r, e⟩ := x; exact ⟨z, its, n, r, k _ _ (.inl rfl) e⟩
  | tup xs => obtain ⟨z, its, r, ob, e, c⟩ := x; exact ⟨z, its, r, ob, k _ _ (.inl rfl) e, c⟩
  | dK kvs => obtain ⟨z, y, vs, r, ob, es, ep, e, c⟩ := x; exact ⟨z, y, vs, r, ob, es, ep, k _ _ (.inl rfl) e, c⟩
  | dT kvs =>
    obtain ⟨z, y, xs, r, ob, es, ep, e, c⟩ := x
    exact ⟨z, y, xs, Paired.mapP r fun p q z => ⟨z.1, ht _ _ z.2.1, z.2.2⟩, ob, es, ep, k _ _ (.inl rfl) e, c⟩
  | set S n => obtain ⟨ob, es, ep, t, e, c⟩ := x; exact ⟨ob, es, ep, t, k _ _ (.inl rfl) e, c⟩
  | ins C dx fs =>
    obtain ⟨d, z, ne, e, mA, ⟨od, es, ep, e2, c⟩, r⟩ := x
    exact ⟨ho _ d, z, ne, k _ _ (.inl rfl) e, mA, ⟨od, es, ep, k _ _ (.inr d) e2, c⟩, r⟩
  | own y => obtain ⟨ob, e⟩ := x; exact ⟨ob, k _ _ (.inl rfl) e⟩
  | xd fs => obtain ⟨mA, ⟨od, es, ep, e, c⟩, r⟩ := x; exact ⟨mA, ⟨od, es, ep, k _ _ (.inl rfl) e, c⟩, r⟩
  | rng lo hi => obtain ⟨t, u, v, e⟩ := x; exact ⟨t, u, v, k _ _ (.inl rfl) e⟩
  | frz ob u ih => obtain ⟨e, q⟩ := x; exact ⟨k _ _ (.inl rfl) e, ih q⟩
  | tbl ps =>
    have e : h.get? a = some { cls := .none, data := .fields ps } := x
    show h'.get? a = some { cls := .none, data := .fields ps }
    exact k a _ (.inl rfl) e
  | met f y =>
    have e : h.get? a = some (PySem.W.methodObj (.ref f) (.ref y)) := x
    show h'.get? a = some (PySem.W.methodObj (.ref f) (.ref y))
    exact k a _ (.inl rfl) e
  | ext φ => obtain ⟨p, ⟨o, e⟩, st⟩ := x; exact ⟨st _ _ p fun o q => k _ _ (.inl rfl) q, ⟨o, k _ _ (.inl rfl) e⟩, st⟩
theorem HOk.lt (x : HOk P w H h) (e : H a = some o) : a < h.objs.size := (x a o e).lt
theorem HOk.fresh (x : HOk P w H h) (e : h.objs.size ≤ a) : H a = none := by
  cases q : H a with
  | none => rfl
  | some u => exact absurd (Nat.lt_of_lt_of_le (x.lt q) e) (Nat.lt_irrefl _)
theorem HOk.kept (x : HOk P w H h) (k : ∀ b u, h.get? b = some u → h'.get? b = some u) : HOk P w H h' := fun a o e =>
  (x a o e).stay (fun b u _ q => k b u q) (fun _ q => q) fun _ _ q => q
theorem HOk.laid (x : HOk P w H h) (k : ∀ b u, h.get? b = some u → h'.get? b = some u) (hp : h.objs.size ≤ a) (new : ObjOk P w (upd H a o) h' a o) : HOk P w (upd H a o) h' := fun b u e => by
  have hn := x.fresh hp
  by_cases hb : b = a
  · subst hb; rw [upd_same] at e; cases e; exact new
  · rw [upd_ne hb] at e
    exact (x b u e).stay (fun c v _ q => k c v q) (fun c q => by rw [upd_ne (ne_of_none q hn)]; exact q) fun c xs q => by rw [upd_ne (ne_of_none q hn)]; exact q
end

noncomputable def Rd (H : Hp) (a : Addr) (u : HO) : Prop := H a = some u ∨ ∃ o, H a = some (.frz o u)
theorem Rd.ok {P : Program} {w : World} {H : Hp} {h : Heap} {a : Addr} {u : HO} (r : Rd H a u) (x : HOk P w H h) : ObjOk P w H h a u := by
  rcases r with r | ⟨o, r⟩
  · exact x a u r
  · obtain ⟨_, q⟩ := x a _ r
    exact q
noncomputable def Mut : Option HO → Prop
  | some (.lst _) => True
  | some (.dK _) => True
  | some (.dT _) => True
  | some (.set _ _) => True
  | some (.ins _ _ _) => True
  | some (.ext _) => True
  | _ => False
section
variable {P : Program} {w : World} {H : Hp} {h h' : Heap} {x e : Addr} {o' : HO}
theorem HOk.write (ok : HOk P w H h) (mu : Mut (H x)) (he : e = x ∨ H e = some (.own x)) (k : ∀ b u, b ≠ e → h.get? b = some u → h'.get? b = some u) (heo : ∃ u, h'.get? e = some u)
    (new : ObjOk P w (upd H x o') h' x o') : HOk P w (upd H x o') h' := fun b u q => by
  have nown : ∀ c y, H c = some (.own y) → c ≠ x := fun c y r z => by subst z; rw [r] at mu; exact mu
  have ntup : ∀ c xs, H c = some (.tup xs) → c ≠ x := fun c xs r z => by subst z; rw [r] at mu; exact mu
  by_cases hb : b = x
  · subst hb; rw [upd_same] at q; cases q; exact new
  · rw [upd_ne hb] at q
    by_cases hbe : b = e
    · have q' : H b = some (.own x) := by
        rcases he with z | z
        · exact absurd (hbe.trans z) hb
        · rw [hbe]; exact z
      rw [q] at q'; cases q'
      obtain ⟨v, hv⟩ := heo
      exact ⟨v, by rw [hbe]; exact hv⟩
    · refine (ok b u q).stay (fun c v hc r => k c v ?_ r) (fun c r => by rw [upd_ne (nown c b r)]; exact r) fun c xs r => by rw [upd_ne (ntup c xs r)]; exact r
      rcases hc with rfl | hc
      · exact hbe
      · rintro rfl
        rcases he with z | z
        · exact nown c b hc z
        · rw [hc] at z; cases z; exact hb rfl
end

structure Un (fs ex : List Addr) (H H' : Hp) (h h' : Heap) : Prop where
  keep : ∀ b o, h.get? b = some o → H b = none → b ∉ fs → b ∉ ex → h'.get? b = some o
  slot : ∀ b o, h.get? b = some o → H b = none → b ∈ fs → b ∉ ex → ∃ sl, h'.get? b = some { o with slots := sl }
  free : ∀ b o, h.get? b = some o → H b = none → b ∉ ex → H' b = none
  there : ∀ b o, h.get? b = some o → b ∉ ex → ∃ o', h'.get? b = some o'
  tups : ∀ b xs, H b = some (.tup xs) → H' b = some (.tup xs)
  frzs : ∀ b o u, H b = some (.frz o u) → H' b = some (.frz o u)
  tbls : ∀ b ps, H b = some (.tbl ps) → ∃ more, H' b = some (.tbl (ps ++ more))
section
variable {fs fs' ex ex' : List Addr} {H H1 H2 : Hp} {h h1 h2 h' : Heap} {a x e : Addr} {o : HO}
theorem Un.any (u : Un fs ex H H1 h h1) {b : Addr} {ob : Obj} (q : h.get? b = some ob) (n : H b = none) (hx : b ∉ ex) : ∃ sl, h1.get? b = some { ob with slots := sl } := by
  by_cases hb : b ∈ fs
  · exact u.slot b ob q n hb hx
  · exact ⟨ob.slots, u.keep b ob q n hb hx⟩
theorem Un.kept (k : ∀ b u, h.get? b = some u → h'.get? b = some u) : Un fs ex H H h h' :=
  ⟨fun b ob q _ _ _ => k b ob q, fun b ob q _ _ _ => ⟨ob.slots, k b ob q⟩, fun _ _ _ n _ => n, fun b ob q _ => ⟨ob, k b ob q⟩, fun _ _ q => q, fun _ _ _ q => q, fun _ ps q => ⟨#[], by rw [q]; simp⟩⟩
theorem Un.refl : Un fs ex H H h h := Un.kept fun _ _ q => q
theorem Un.laid (k : ∀ b u, h.get? b = some u → h'.get? b = some u) (hp : h.objs.size ≤ a) (hn : H a = none) : Un fs ex H (upd H a o) h h' where
  keep := fun b u q _ _ _ => k b u q
  slot := fun b u q _ _ _ => ⟨u.slots, k b u q⟩
  free := fun b u q n _ => by rw [upd_ne (Nat.ne_of_lt (Nat.lt_of_lt_of_le (Heap.lt_size q) hp))]; exact n
  there := fun b u q _ => ⟨u, k b u q⟩
  tups := fun b xs q => by rw [upd_ne (ne_of_none q hn)]; exact q
  frzs := fun b u xs q => by rw [upd_ne (ne_of_none q hn)]; exact q
  tbls := fun b ps q => ⟨#[], by rw [upd_ne (ne_of_none q hn), q]; simp⟩
theorem Un.write (mu : Mut (H x)) (he : e = x ∨ H e = some (.own x)) (k : ∀ b u, b ≠ e → h.get? b = some u → h'.get? b = some u) (heo : ∃ u, h'.get? e = some u) : Un fs ex H (upd H x o) h h' := by
  have hx : ∀ b, H b = none → b ≠ x := fun b n z => by subst z; rw [n] at mu; exact mu
  have hb : ∀ b, H b = none → b ≠ e := fun b n z => by
    subst z
    rcases he with r | r
    · exact hx b n r
    · rw [n] at r; cases r
  have hm : ∀ b u, H b = some u → ¬ Mut (some u) → b ≠ x := fun b u q nm z => by subst z; rw [q] at mu; exact nm mu
  refine ⟨fun b u q n _ _ => k b u (hb b n) q, fun b u q n _ _ => ⟨u.slots, k b u (hb b n) q⟩, fun b u q n _ => by rw [upd_ne (hx b n)]; exact n, fun b u q _ => ?_,
    fun b xs q => by rw [upd_ne (hm b _ q fun z => z)]; exact q, fun b u xs q => by rw [upd_ne (hm b _ q fun z => z)]; exact q, fun b ps q => ⟨#[], by rw [upd_ne (hm b _ q fun z => z), q]; simp⟩⟩
  by_cases hbe : b = e
  · subst hbe; exact heo
  · exact ⟨u, k b u hbe q⟩
end

noncomputable def trk (h : Heap) (H : Hp) : List Addr := (List.range h.objs.size).filter fun a => (H a).isSome
noncomputable def hidT (h : Heap) (H : Hp) : Heap := PySem.W.hideAll h (trk h H)
theorem hidT_size (h : Heap) (H : Hp) : (hidT h H).objs.size = h.objs.size := PySem.W.hideAll_size _ _
theorem hidT_get {h : Heap} {H : Hp} {b : Addr} {o : Obj} (e : h.get? b = some o) (n : H b = none) : (hidT h H).get? b = some o :=
  PySem.W.hideAll_get _ e fun hm => by
    have q : (H b).isSome = true := (List.mem_filter.mp hm).2
    rw [n] at q; simp at q
theorem of_hidT {h : Heap} {H : Hp} {b : Addr} {o : Obj} (e : (hidT h H).get? b = some o) : h.get? b = some o ∧ H b = none := by
  have e' : h.get? b = some o := PySem.W.of_hideAll (trk h H) e
  refine ⟨e', ?_⟩
  cases q : H b with
  | none => rfl
  | some x =>
    have hm : b ∈ trk h H := List.mem_filter.mpr ⟨List.mem_range.mpr (Heap.lt_size e'), by simp [q]⟩
    have z : (hidT h H).get? b = none := PySem.W.hideAll_none (trk h H) hm
    rw [z] at e; cases e

end L2

namespace L2
open PySem PySem.Spec PyProof.Rows

structure Mod (K : PySem.W.Frag) (mg : Str → Option Value) (base : Heap) : Prop where
  kin : K.In base
  glob : base.Ns mainGlobals mg
  blt : ∃ mb, base.Ns builtinsNs mb ∧ ∀ x : Str, x ≠ "__name__" → mb x = bootBuiltins x
  nolimit : base.NoLimit

structure Cx where
  prog : Program
  w : World
  K : PySem.W.Frag
  mg : Str → Option Value
  base : Heap
  A : Around
  N : List Str
  s₀ : Shared
  H₀ : Hp
  env : Env
  outer : List Env
  stack : List Env
  ex : List Addr
  fn : Str → Bool
  calm : Bool
  pn : List (Addr × Obj)
  xe : Value → Shared → Prop
noncomputable def frs (l : List Env) : List Addr := l.filterMap (·.frame)
noncomputable abbrev Cx.fs (X : Cx) : List Addr := frs X.outer

noncomputable def Vis (sc : Scope) (x : Str) : Prop := sc.names.lookup x = some .local ∨ sc.names.lookup x = some .cell ∨ sc.names.lookup x = some .free
noncomputable def Loc (sc : Scope) (x : Str) : Prop := sc.names.lookup x = some .local ∨ sc.names.lookup x = some .cell
noncomputable def Look (env : Env) (h : Heap) (m : Str → Option Value) (x : Str) (u : Value) : Prop :=
  (env.kindOf x = some .local ∧ m x = some u) ∨ ((env.kindOf x = some .cell ∨ env.kindOf x = some .free) ∧ ∃ c, env.cells.lookup x = some c ∧ h.IsCell c (some u))

structure Cx.Ok (X : Cx) : Prop where
  mod : Mod X.K X.mg X.base
  kind : X.env.scope.kind = .function
  glob : X.env.globals = mainGlobals
  blt : X.env.builtins = builtinsNs
  above : X.s₀.heap.objs.size ≤ X.env.locals
  inj : ∀ x y c, X.env.cells.lookup x = some c → X.env.cells.lookup y = some c → x = y
  has : ∀ x, (X.env.kindOf x = some .cell ∨ X.env.kindOf x = some .free) → ∃ c, X.env.cells.lookup x = some c
  cab : ∀ x c, X.fn x = true → X.env.cells.lookup x = some c → X.s₀.heap.objs.size ≤ c
  hd : X.calm = true → X.A.handled = none
  frames : X.A.frames = some X.stack
  stk : X.stack = X.outer ∨ (X.stack = X.env :: X.outer ∧ X.env.frame = some X.env.locals)
  exf : ∀ b ∈ X.ex, b ≠ X.env.locals ∧ ∀ x c, X.env.cells.lookup x = some c → c ≠ b
  bs : ∀ b o, X.base.get? b = some o → X.s₀.heap.get? b = some o ∧ X.H₀ b = none
  bsz : X.base.objs.size ≤ X.s₀.heap.objs.size
  noex : ∀ b o, X.base.get? b = some o → b ∉ X.ex
  exfs : ∀ b ∈ X.ex, b ∉ X.fs
  funs : X.s₀.heap.FunFrames X.base X.outer
  frf : ∀ b ∈ X.fs, X.H₀ b = none

structure Inv (X : Cx) (pins : List (Addr × Obj)) (σ : List (Option V)) (H : Hp) (s : Shared) : Prop where
  ok : X.Ok
  os : s.os = X.s₀.os
  bare : AllBare s.gens
  base : Un X.fs X.ex X.H₀ H X.s₀.heap s.heap
  loc : ∃ m, s.heap.Ns X.env.locals m ∧ ∀ (i : Nat) (x : Str) (v : V), X.N[i]? = some x → σ[i]? = some (some v) → Vis X.env.scope x → ∃ u, RelV v u ∧ Look X.env s.heap m x u
  cell : ∀ x c, X.env.cells.lookup x = some c → ∃ v, s.heap.IsCell c v
  free : H X.env.locals = none
  freeC : ∀ x c, X.env.cells.lookup x = some c → H c = none
  pin : ∀ p ∈ X.pn ++ pins, s.heap.get? p.1 = some p.2 ∧ H p.1 = none ∧ p.1 ≠ X.env.locals ∧ p.1 ∉ X.fs ∧ ∀ v, p.2.data ≠ .cell v
  hok : HOk X.prog X.w H s.heap
  len : σ.length = X.N.length

section
variable {X : Cx} {pins : List (Addr × Obj)} {σ : List (Option V)} {H H' : Hp} {s : Shared} {h' : Heap}

theorem Cx.Ok.nofr (ok : X.Ok) {b : Addr} {o : Obj} (e : X.base.get? b = some o) : b ∉ X.fs := fun hb => by
  have := (ok.funs.mem hb).1
  rw [e] at this; cases this
theorem Inv.bs (I : Inv X pins σ H s) : ∀ b o, X.base.get? b = some o → s.heap.get? b = some o ∧ H b = none := fun b o e =>
  ⟨I.base.keep b o (I.ok.bs b o e).1 (I.ok.bs b o e).2 (I.ok.nofr e) (I.ok.noex b o e), I.base.free b o (I.ok.bs b o e).1 (I.ok.bs b o e).2 (I.ok.noex b o e)⟩
theorem Inv.bk (I : Inv X pins σ H s) : ∀ b o, X.base.get? b = some o → s.heap.get? b = some o := fun b o e => (I.bs b o e).1
theorem Inv.mod (I : Inv X pins σ H s) : Mod X.K X.mg X.base := I.ok.mod
theorem Inv.kIn (I : Inv X pins σ H s) : X.K.In s.heap := I.ok.mod.kin.keeps I.bk
theorem Inv.lt (I : Inv X pins σ H s) : X.env.locals < s.heap.objs.size := let ⟨_, hn, _⟩ := I.loc; hn.lt
theorem Inv.sz (I : Inv X pins σ H s) : X.s₀.heap.objs.size ≤ s.heap.objs.size := Nat.le_trans I.ok.above (Nat.le_of_lt I.lt)
theorem Inv.nofs (I : Inv X pins σ H s) {a : Addr} (h : s.heap.objs.size ≤ a) : a ∉ X.fs := fun hb => by
  obtain ⟨_, o, ho, _⟩ := I.ok.funs.mem hb
  exact absurd (Nat.lt_of_lt_of_le (Heap.lt_size ho) (Nat.le_trans I.sz h)) (Nat.lt_irrefl _)
theorem Inv.cne (I : Inv X pins σ H s) : ∀ x c, X.env.cells.lookup x = some c → c ≠ X.env.locals := fun x c e z => by
  obtain ⟨v, o, ho, hd⟩ := I.cell x c e
  obtain ⟨m, ⟨o', es, ep, ho', hd', _⟩, _⟩ := I.loc
  rw [z, ho'] at ho; cases ho; rw [hd'] at hd; cases hd
theorem Inv.funs (I : Inv X pins σ H s) : s.heap.FunFrames X.base X.outer := by
  have all : ∀ (l : List Env), (∀ b ∈ frs l, b ∈ X.fs) → X.s₀.heap.FunFrames X.base l → s.heap.FunFrames X.base l := by
    intro l
    induction l with
    | nil => intro _ _; trivial
    | cons env r ih =>
      intro hs hl
      obtain ⟨hk, ⟨L, o, hf, hn, ho, hd⟩, hr⟩ := hl
      have hL : L ∈ X.fs := hs L (by unfold frs; rw [List.filterMap_cons, hf]; exact List.mem_cons_self)
      obtain ⟨sl, e⟩ := I.base.slot L o ho (I.ok.frf L hL) hL fun z => I.ok.exfs L z hL
      exact ⟨hk, ⟨L, _, hf, hn, e, hd⟩, ih (fun b hb => hs b (by unfold frs; rw [List.filterMap_cons, hf]; exact List.mem_cons_of_mem _ hb)) hr⟩
  exact all X.outer (fun _ hb => hb) I.ok.funs

theorem Inv.stack (I : Inv X pins σ H s) : s.heap.FunFrames X.base X.stack := by
  rcases I.ok.stk with e | ⟨e, hf⟩
  · rw [e]; exact I.funs
  · rw [e]
    obtain ⟨m, hn, _⟩ := I.loc
    refine .cons (by rw [I.ok.kind]; decide) hf hn ?_ I.funs
    exact Heap.get?_none_of_le (Nat.le_trans I.ok.bsz I.ok.above)
theorem Inv.stkSub (I : Inv X pins σ H s) : ∀ b ∈ frs X.stack, b ∈ X.env.locals :: X.fs := fun b hb => by
  rcases I.ok.stk with e | ⟨e, hf⟩
  · rw [e] at hb; exact List.mem_cons_of_mem _ hb
  · rw [e] at hb
    unfold frs at hb
    rw [List.filterMap_cons, hf] at hb
    exact hb
theorem Inv.stkFree (I : Inv X pins σ H s) : ∀ b ∈ frs X.stack, H b = none := fun b hb => by
  rcases List.mem_cons.mp (I.stkSub b hb) with e | hb
  · rw [e]; exact I.free
  · obtain ⟨_, o, ho, _⟩ := I.ok.funs.mem hb
    exact I.base.free b o ho (I.ok.frf b hb) fun z => I.ok.exfs b z hb

theorem Inv.step {g' : Array GenState} {t' : Nat} {d' : Drawn} {ch : List Addr} (I : Inv X pins σ H s)
    (hch : ∀ b ∈ ch, (b ∈ X.ex ∨ X.s₀.heap.objs.size ≤ b) ∧ b ≠ X.env.locals ∧ (∀ x c, X.env.cells.lookup x = some c → c ≠ b) ∧ ∀ p ∈ X.pn ++ pins, p.1 ≠ b)
    (keep : ∀ b o, b ≠ X.env.locals → b ∉ X.fs → b ∉ ch → s.heap.get? b = some o → H b = none → h'.get? b = some o)
    (slot : ∀ b o, b ≠ X.env.locals → b ∈ X.fs → b ∉ ch → s.heap.get? b = some o → H b = none → ∃ sl, h'.get? b = some { o with slots := sl }) (free : ∀ b o, b ∉ ch → s.heap.get? b = some o → H b = none → H' b = none)
    (there : ∀ b o, b ∉ ch → s.heap.get? b = some o → ∃ o', h'.get? b = some o')
    (tups : ∀ b xs, H b = some (.tup xs) → H' b = some (.tup xs)) (frzs : ∀ b o u, H b = some (.frz o u) → H' b = some (.frz o u)) (tbls : ∀ b ps, H b = some (.tbl ps) → ∃ more, H' b = some (.tbl (ps ++ more)))
    (ns : ∀ m, s.heap.Ns X.env.locals m → h'.Ns X.env.locals m) (hok : HOk X.prog X.w H' h') (hg : AllBare g') :
    Inv X pins σ H' { s with heap := h', gens := g', drawn := d', toks := t' } := by
  have neL : ∀ b o, X.s₀.heap.get? b = some o → b ≠ X.env.locals := fun b o e => Nat.ne_of_lt (Nat.lt_of_lt_of_le (Heap.lt_size e) I.ok.above)
  have neC : ∀ b o, X.s₀.heap.get? b = some o → b ∉ X.ex → b ∉ ch := fun b o e hx hb => by
    rcases (hch b hb).1 with z | z
    · exact hx z
    · exact absurd (Nat.lt_of_lt_of_le (Heap.lt_size e) z) (Nat.lt_irrefl _)
  have cellK : ∀ x c, X.env.cells.lookup x = some c → ∀ v, s.heap.IsCell c v → h'.IsCell c v := fun x c e v ⟨o, ho, hd⟩ => by
    have nch : c ∉ ch := fun z => (hch c z).2.2.1 x c e rfl
    by_cases hc : c ∈ X.fs
    · obtain ⟨sl, q⟩ := slot c o (I.cne x c e) hc nch ho (I.freeC x c e)
      exact ⟨_, q, hd⟩
    · exact ⟨o, keep c o (I.cne x c e) hc nch ho (I.freeC x c e), hd⟩
  refine ⟨I.ok, I.os, hg, ⟨fun b o e n hb hx => ?_, fun b o e n hb hx => ?_, fun b o e n hx => ?_, fun b o e hx => ?_, fun b xs e => tups b xs (I.base.tups b xs e), fun b o xs e => frzs b o xs (I.base.frzs b o xs e), fun b ps e => ?_⟩, ?_, fun x c e => ?_, ?_, fun x c e => ?_, fun p hp => ?_, hok, I.len⟩
  · exact keep b o (neL b o e) hb (neC b o e hx) (I.base.keep b o e n hb hx) (I.base.free b o e n hx)
  · obtain ⟨sl, e1⟩ := I.base.slot b o e n hb hx
    obtain ⟨sl', e2⟩ := slot b _ (neL b o e) hb (neC b o e hx) e1 (I.base.free b o e n hx)
    exact ⟨sl', e2⟩
  · obtain ⟨o', e1⟩ := I.base.there b o e hx
    exact free b o' (neC b o e hx) e1 (I.base.free b o e n hx)
  · obtain ⟨o', e1⟩ := I.base.there b o e hx
    exact there b o' (neC b o e hx) e1
  · obtain ⟨m1, e1⟩ := I.base.tbls b ps e
    obtain ⟨m2, e2⟩ := tbls b _ e1
    exact ⟨m1 ++ m2, by rw [e2, Array.append_assoc]⟩
  · obtain ⟨m, hn, hl⟩ := I.loc
    refine ⟨m, ns m hn, fun i x v e1 e2 e3 => ?_⟩
    obtain ⟨u, r, l⟩ := hl i x v e1 e2 e3
    refine ⟨u, r, ?_⟩
    rcases l with l | ⟨k, c, e, z⟩
    · exact .inl l
    · exact .inr ⟨k, c, e, cellK x c e _ z⟩
  · obtain ⟨v, z⟩ := I.cell x c e
    exact ⟨v, cellK x c e v z⟩
  · obtain ⟨m, ⟨o, _, _, ho, _⟩, _⟩ := I.loc
    exact free _ o (fun z => (hch _ z).2.1 rfl) ho I.free
  · obtain ⟨v, o, ho, hd⟩ := I.cell x c e
    exact free c o (fun z => (hch c z).2.2.1 x c e rfl) ho (I.freeC x c e)
  · obtain ⟨e, n, ne, nf, d⟩ := I.pin p hp
    have nch : p.1 ∉ ch := fun z => (hch p.1 z).2.2.2 p hp rfl
    exact ⟨keep p.1 p.2 ne nf nch e n, free p.1 p.2 nch e n, ne, nf, d⟩
theorem Inv.un {t' : Nat} (I : Inv X pins σ H s) (u : Un X.fs [] H H' s.heap h') (hok : HOk X.prog X.w H' h') : Inv X pins σ H' { s with heap := h', toks := t' } := by
  obtain ⟨m, ⟨o, es, ep, ho, r⟩, _⟩ := id I.loc
  obtain ⟨sl, hL⟩ := u.any ho I.free (by simp)
  exact I.step (g' := s.gens) (d' := s.drawn) (ch := []) (fun _ z => nomatch z) (fun b o _ hb _ e n => u.keep b o e n hb (by simp)) (fun b o _ hb _ e n => u.slot b o e n hb (by simp)) (fun b o _ e n => u.free b o e n (by simp)) (fun b o _ e => u.there b o e (by simp)) u.tups u.frzs u.tbls (fun m' hm => by
    obtain ⟨o', es', ep', ho', r'⟩ := hm
    rw [ho] at ho'; cases ho'
    exact ⟨_, es', ep', hL, r'⟩) hok I.bare
theorem Inv.call {g' : Array GenState} {t' : Nat} {d' : Drawn} {ch : List Addr} (I : Inv X pins σ H s) (u : Un (frs X.stack) ch H H' s.heap h') (hok : HOk X.prog X.w H' h') (hg : AllBare g')
    (hch : ∀ b ∈ ch, (b ∈ X.ex ∨ X.s₀.heap.objs.size ≤ b) ∧ b ≠ X.env.locals ∧ (∀ x c, X.env.cells.lookup x = some c → c ≠ b) ∧ ∀ p ∈ X.pn ++ pins, p.1 ≠ b) :
    Inv X pins σ H' { s with heap := h', gens := g', drawn := d', toks := t' } := by
  obtain ⟨m, ⟨o, es, ep, ho, r⟩, _⟩ := id I.loc
  obtain ⟨sl, hL⟩ := u.any ho I.free fun z => (hch _ z).2.1 rfl
  exact I.step (ch := ch) hch (fun b o hL hb hc e n => u.keep b o e n (fun z => (List.mem_cons.mp (I.stkSub b z)).elim hL hb) hc) (fun b o _ _ hc e n => u.any e n hc) (fun b o hc e n => u.free b o e n hc) (fun b o hc e => u.there b o e hc) u.tups u.frzs u.tbls (fun m' hm => by
    obtain ⟨o', es', ep', ho', r'⟩ := hm
    rw [ho] at ho'; cases ho'
    exact ⟨_, es', ep', hL, r'⟩) hok hg
theorem Inv.turned {t' : Nat} {it : Addr} (I : Inv X pins σ H s) (k : ∀ b o, b ≠ it → s.heap.get? b = some o → h'.get? b = some o) (hn : H it = none) (hL : it ≠ X.env.locals)
    (h1 : it ∈ X.ex ∨ X.s₀.heap.objs.size ≤ it) (h2 : ∀ x c, X.env.cells.lookup x = some c → c ≠ it) (h3 : ∀ p ∈ X.pn ++ pins, p.1 ≠ it) : Inv X pins σ H { s with heap := h', toks := t' } := by
  have nit : ∀ b u, H b = some u → b ≠ it := fun b u e z => by rw [z, hn] at e; cases e
  refine I.step (g' := s.gens) (d' := s.drawn) (ch := [it]) (fun b hb => ?_) (fun b o _ _ hc e _ => k b o (fun z => hc (by simp [z])) e) (fun b o _ _ hc e _ => ⟨o.slots, k b o (fun z => hc (by simp [z])) e⟩) (fun _ _ _ _ n => n)
    (fun b o hc e => ⟨o, k b o (fun z => hc (by simp [z])) e⟩) (fun _ _ e => e) (fun _ _ _ e => e) (fun b ps e => ⟨#[], by rw [e]; simp⟩) (fun m hm => ?_) (fun b u e => ?_) I.bare
  · have e : b = it := by simpa using hb
    subst e
    exact ⟨h1, hL, h2, h3⟩
  · obtain ⟨o, es, ep, ho, r⟩ := hm
    exact ⟨o, es, ep, k _ o (Ne.symm hL) ho, r⟩
  · refine (I.hok b u e).stay (fun c v hc q => k c v ?_ q) (fun _ q => q) fun _ _ q => q
    rcases hc with z | z
    · rw [z]; exact nit b u e
    · exact nit c _ z
theorem Inv.tok (I : Inv X pins σ H s) (t : Nat) : Inv X pins σ H { s with toks := t } := I.un (h' := s.heap) (t' := t) Un.refl I.hok
theorem Inv.kept {t' : Nat} (I : Inv X pins σ H s) (k : ∀ b u, s.heap.get? b = some u → h'.get? b = some u) : Inv X pins σ H { s with heap := h', toks := t' } := I.un (Un.kept k) (I.hok.kept k)
theorem Inv.laid {a : Addr} {o : HO} {t' : Nat} (I : Inv X pins σ H s) (k : ∀ b u, s.heap.get? b = some u → h'.get? b = some u) (hp : s.heap.objs.size ≤ a) (new : ObjOk X.prog X.w (upd H a o) h' a o) :
    Inv X pins σ (upd H a o) { s with heap := h', toks := t' } := I.un (Un.laid k hp (I.hok.fresh hp)) (I.hok.laid k hp new)
theorem Inv.write {x e : Addr} {o : HO} {t' : Nat} (I : Inv X pins σ H s) (mu : Mut (H x)) (he : e = x ∨ H e = some (.own x)) (k : ∀ b u, b ≠ e → s.heap.get? b = some u → h'.get? b = some u) (heo : ∃ u, h'.get? e = some u)
    (new : ObjOk X.prog X.w (upd H x o) h' x o) : Inv X pins σ (upd H x o) { s with heap := h', toks := t' } := I.un (Un.write mu he k heo) (I.hok.write mu he k heo new)
theorem Inv.weak {σ' : List (Option V)} (I : Inv X pins σ H s) (hl : σ'.length = σ.length) (w : ∀ (i : Nat) v, σ'[i]? = some (some v) → σ[i]? = some (some v)) : Inv X pins σ' H s :=
  ⟨I.ok, I.os, I.bare, I.base, let ⟨m, hn, hl'⟩ := I.loc; ⟨m, hn, fun i x v e1 e2 e3 => hl' i x v e1 (w i v e2) e3⟩, I.cell, I.free, I.freeC, I.pin, I.hok, hl.trans I.len⟩
theorem Inv.pins_of {pins' : List (Addr × Obj)} (I : Inv X pins σ H s) (h : ∀ p ∈ pins', s.heap.get? p.1 = some p.2 ∧ H p.1 = none ∧ p.1 ≠ X.env.locals ∧ p.1 ∉ X.fs ∧ ∀ v, p.2.data ≠ .cell v) : Inv X pins' σ H s :=
  ⟨I.ok, I.os, I.bare, I.base, I.loc, I.cell, I.free, I.freeC, fun p hp => (List.mem_append.mp hp).elim (fun z => I.pin p (List.mem_append_left _ z)) (h p), I.hok, I.len⟩

theorem nodup_ix {N : List Str} (hN : N.Nodup) {i j : Nat} {x : Str} (a : N[i]? = some x) (b : N[j]? = some x) : i = j := by
  obtain ⟨h1, e1⟩ := List.getElem?_eq_some_iff.mp a
  obtain ⟨h2, e2⟩ := List.getElem?_eq_some_iff.mp b
  exact (List.getElem_inj hN).mp (e1.trans e2.symm)

theorem store_ok2 {M : Model} {A : Around} {E : Value → Shared → Prop} {i : Nat} {x : Str} {v : V} {u : Value} {Q : Unit → Shared → Prop} (I : Inv X pins σ H s) (hN : X.N.Nodup) (hi : X.N[i]? = some x) (hx : Loc X.env.scope x) (r : RelV v u)
    (h : ∀ s', Inv X pins (σ.set i (some v)) H s' → (∃ a, Heap.SameBut a s.heap s'.heap ∧ (a = X.env.locals ∨ X.env.cells.lookup x = some a)) → Q () s') (hf : X.fn x = true ∨ X.env.scope.names.lookup x = some .local := by first | exact .inl rfl | exact .inr rfl | assumption) : wpAny M A (storeName X.env x u) Q E s := by
  obtain ⟨m, hn, hl⟩ := id I.loc
  have hcls : (X.env.scope.kind == .class || (X.env.scope.kind == .module && X.env.locals != X.env.globals)) = false := by rw [I.ok.kind]; rfl
  have hiσ : i < σ.length := by rw [I.len]; exact (List.getElem?_eq_some_iff.mp hi).1
  have cne := I.cne
  have tracked : ∀ {a : Addr} {h' : Heap}, (∃ o, s.heap.get? a = some o ∧ H a = none) → Heap.SameBut a s.heap h' → HOk X.prog X.w H h' := fun {a h'} ha hs b ob e => by
    obtain ⟨_, _, hfree⟩ := ha
    refine (I.hok b ob e).stay (fun c w' hc q => (hs.2 c ?_).trans q) (fun _ q => q) fun _ _ q => q
    rintro rfl
    rcases hc with rfl | hc
    · rw [hfree] at e; cases e
    · rw [hfree] at hc; cases hc
  rcases hx with hk | hk
  · refine wpAny_storeName_local hk hn (fun h' hn' hs => ?_) hcls
    obtain ⟨oL, _, _, hoL, _⟩ := id hn
    refine h _ ⟨I.ok, I.os, I.bare, ⟨fun b o e n hb hx => ?_, fun b o e n hb hx => ?_, I.base.free, fun b o e hx => ?_, I.base.tups, I.base.frzs, I.base.tbls⟩, ⟨_, hn', fun j y v' e1 e2 e3 => ?_⟩, fun y c e => ?_, I.free, I.freeC, fun p hp => ?_, tracked ⟨oL, hoL, I.free⟩ hs, by simpa using I.len⟩ ⟨_, hs, .inl rfl⟩
    · exact (hs.2 b (Nat.ne_of_lt (Nat.lt_of_lt_of_le (Heap.lt_size e) I.ok.above))).trans (I.base.keep b o e n hb hx)
    · obtain ⟨sl, e1⟩ := I.base.slot b o e n hb hx
      exact ⟨sl, (hs.2 b (Nat.ne_of_lt (Nat.lt_of_lt_of_le (Heap.lt_size e) I.ok.above))).trans e1⟩
    · obtain ⟨o', e1⟩ := I.base.there b o e hx
      exact ⟨o', (hs.2 b (Nat.ne_of_lt (Nat.lt_of_lt_of_le (Heap.lt_size e) I.ok.above))).trans e1⟩
    · by_cases hj : j = i
      · subst hj
        rw [hi] at e1; cases e1
        rw [List.getElem?_set_self hiσ] at e2
        cases e2
        exact ⟨u, r, .inl ⟨hk, by simp⟩⟩
      · rw [List.getElem?_set_ne (Ne.symm hj)] at e2
        obtain ⟨u', r', q⟩ := hl j y v' e1 e2 e3
        refine ⟨u', r', ?_⟩
        rcases q with ⟨k, e⟩ | ⟨k, c, e, z⟩
        · refine .inl ⟨k, ?_⟩
          have : y ≠ x := fun e => hj (nodup_ix hN e1 (e ▸ hi))
          simp [this, e]
        · exact .inr ⟨k, c, e, z.sameBut hs (cne y c e)⟩
    · obtain ⟨w', z⟩ := I.cell y c e
      exact ⟨w', z.sameBut hs (cne y c e)⟩
    · obtain ⟨e, n, ne, nf, d⟩ := I.pin p hp
      exact ⟨(hs.2 p.1 ne).trans e, n, ne, nf, d⟩
  · have hfn : X.fn x = true := by
      rcases hf with z | z
      · exact z
      · rw [z] at hk; cases hk
    obtain ⟨c, hc⟩ := I.ok.has x (.inl hk)
    obtain ⟨w', z⟩ := I.cell x c hc
    refine wpAny_storeName_cell I.ok.kind hk hc z (fun h' hc' hs => ?_)
    obtain ⟨oc, hoc, hocd⟩ := id z
    refine h { s with heap := h' } ⟨I.ok, I.os, I.bare, ⟨fun b o e n hb hx => ?_, fun b o e n hb hx => ?_, I.base.free, fun b o e hx => ?_, I.base.tups, I.base.frzs, I.base.tbls⟩, ⟨m, hn.sameBut hs (Ne.symm (cne x c hc)), fun j y v' e1 e2 e3 => ?_⟩, fun y c' e => ?_, I.free, I.freeC, fun p hp => ?_, tracked ⟨oc, hoc, I.freeC x c hc⟩ hs, by simpa using I.len⟩ ⟨c, hs, .inr hc⟩
    · exact (hs.2 b (Nat.ne_of_lt (Nat.lt_of_lt_of_le (Heap.lt_size e) (I.ok.cab x c hfn hc)))).trans (I.base.keep b o e n hb hx)
    · obtain ⟨sl, e1⟩ := I.base.slot b o e n hb hx
      exact ⟨sl, (hs.2 b (Nat.ne_of_lt (Nat.lt_of_lt_of_le (Heap.lt_size e) (I.ok.cab x c hfn hc)))).trans e1⟩
    · obtain ⟨o', e1⟩ := I.base.there b o e hx
      exact ⟨o', (hs.2 b (Nat.ne_of_lt (Nat.lt_of_lt_of_le (Heap.lt_size e) (I.ok.cab x c hfn hc)))).trans e1⟩
    · by_cases hj : j = i
      · subst hj
        rw [hi] at e1; cases e1
        rw [List.getElem?_set_self hiσ] at e2
        cases e2
        exact ⟨u, r, .inr ⟨.inl hk, c, hc, hc'⟩⟩
      · rw [List.getElem?_set_ne (Ne.symm hj)] at e2
        obtain ⟨u', r', q⟩ := hl j y v' e1 e2 e3
        refine ⟨u', r', ?_⟩
        rcases q with q | ⟨k, c', e, z'⟩
        · exact .inl q
        · refine .inr ⟨k, c', e, z'.sameBut hs ?_⟩
          rintro rfl
          exact hj (nodup_ix hN e1 (I.ok.inj _ _ _ e hc ▸ hi))
    · by_cases hcc : c' = c
      · subst hcc; exact ⟨_, hc'⟩
      · obtain ⟨w2, z2⟩ := I.cell y c' e
        exact ⟨w2, z2.sameBut hs hcc⟩
    · obtain ⟨e, n, ne, nf, d⟩ := I.pin p hp
      refine ⟨(hs.2 p.1 ?_).trans e, n, ne, nf, d⟩
      intro q
      rw [q, hoc] at e
      have q' : oc = p.2 := Option.some.inj e
      exact d w' (by rw [← q']; exact hocd)
theorem store_ok {M : Model} {A : Around} {E : Value → Shared → Prop} {i : Nat} {x : Str} {v : V} {u : Value} {Q : Unit → Shared → Prop} (I : Inv X pins σ H s) (hN : X.N.Nodup) (hi : X.N[i]? = some x) (hx : Loc X.env.scope x) (r : RelV v u)
    (h : ∀ s', Inv X pins (σ.set i (some v)) H s' → Q () s') (hf : X.fn x = true ∨ X.env.scope.names.lookup x = some .local := by first | exact .inl rfl | exact .inr rfl | assumption) : wpAny M A (storeName X.env x u) Q E s :=
  store_ok2 I hN hi hx r (fun s' I' _ => h s' I') hf
theorem Inv.call' {s' : Shared} {ch : List Addr} (I : Inv X pins σ H s) (ho : s'.os = s.os) (u : Un (frs X.stack) ch H H' s.heap s'.heap) (hok : HOk X.prog X.w H' s'.heap) (hg : AllBare s'.gens)
    (hch : ∀ b ∈ ch, (b ∈ X.ex ∨ X.s₀.heap.objs.size ≤ b) ∧ b ≠ X.env.locals ∧ (∀ x c, X.env.cells.lookup x = some c → c ≠ b) ∧ ∀ p ∈ X.pn ++ pins, p.1 ≠ b) : Inv X pins σ H' s' := by
  obtain ⟨h', g', d', t', o'⟩ := s'
  have e : o' = s.os := ho
  subst e
  exact I.call (g' := g') (t' := t') (d' := d') u hok hg hch
end

noncomputable abbrev XK := Value → Option Addr → Hp → Prop
noncomputable abbrev St := List (Option V)
noncomputable abbrev VK := V → Hp → Prop
noncomputable abbrev TE := St → Hp → VK → Prop
noncomputable abbrev TT := St → Hp → (Bool → Hp → Prop) → Prop
noncomputable abbrev TA := St → Hp → (List V → Hp → Prop) → Prop
structure Ends where
  nx : St → Hp → Prop
  rt : VK
  bk : St → Hp → Prop := fun _ _ => False
  ct : St → Hp → Prop := fun _ _ => False
noncomputable abbrev TS := Ends → St → Hp → Prop

noncomputable def EP (X : Cx) (pins : List (Addr × Obj)) (σ : St) (Q : VK) (u : Value) (s' : Shared) : Prop := ∃ v H', Inv X pins σ H' s' ∧ RelV v u ∧ Q v H'
noncomputable def TP (X : Cx) (pins : List (Addr × Obj)) (σ : St) (Q : Bool → Hp → Prop) (b : Bool) (s' : Shared) : Prop := ∃ H', Inv X pins σ H' s' ∧ Q b H'
noncomputable def AP (X : Cx) (pins : List (Addr × Obj)) (σ : St) (Q : List V → Hp → Prop) (us : List Value) (s' : Shared) : Prop := ∃ vs H', Inv X pins σ H' s' ∧ Vals vs us ∧ Q vs H'
noncomputable def SP (X : Cx) (pins : List (Addr × Obj)) (D : Ends) (f : Flow) (s' : Shared) : Prop :=
  match f with
  | .next => ∃ σ' H', Inv X pins σ' H' s' ∧ D.nx σ' H'
  | .brk => ∃ σ' H', Inv X pins σ' H' s' ∧ D.bk σ' H'
  | .cont => ∃ σ' H', Inv X pins σ' H' s' ∧ D.ct σ' H'
  | .ret u => ∃ v σ' H', Inv X pins σ' H' s' ∧ RelV v u ∧ D.rt v H'

noncomputable def PE (X : Cx) (e : Expr) (t : TE) : Prop :=
  ∀ (pins : List (Addr × Obj)) (s : Shared) (σ : St) (H : Hp) (Q : VK), Inv X pins σ H s → t σ H Q → wpAny (model X.prog X.w) X.A (eval e X.env) (EP X pins σ Q) X.xe s
noncomputable def PT (X : Cx) (e : Expr) (t : TT) : Prop :=
  ∀ (pins : List (Addr × Obj)) (s : Shared) (σ : St) (H : Hp) (Q : Bool → Hp → Prop), Inv X pins σ H s → t σ H Q → wpAny (model X.prog X.w) X.A (isTrue e X.env (eval e X.env)) (TP X pins σ Q) X.xe s
noncomputable def PW (X : Cx) (e : Expr) (t : TT) : Prop :=
  ∀ (whole : Sem Value) (pins : List (Addr × Obj)) (s : Shared) (σ : St) (H : Hp) (Q : Bool → Hp → Prop), Inv X pins σ H s → t σ H Q → wpAny (model X.prog X.w) X.A (isTrue e X.env whole) (TP X pins σ Q) X.xe s
theorem PW.pt {X : Cx} {e : Expr} {t : TT} (h : PW X e t) : PT X e t := h _
noncomputable def PA (X : Cx) (es : List Expr) (t : TA) : Prop :=
  ∀ (pos : Pos) (pins : List (Addr × Obj)) (s : Shared) (σ : St) (H : Hp) (Q : List V → Hp → Prop), Inv X pins σ H s → t σ H Q → wpAny (model X.prog X.w) X.A (spliced (backTo pos (starEach es X.env))) (AP X pins σ Q) X.xe s
noncomputable def PS (X : Cx) (st : Stmt) (t : TS) : Prop :=
  ∀ (pins : List (Addr × Obj)) (s : Shared) (σ : St) (H : Hp) (D : Ends), Inv X pins σ H s → t D σ H → wpAny (model X.prog X.w) X.A (exec st X.env) (SP X pins D) X.xe s
noncomputable def PSs (X : Cx) (st : List Stmt) (t : TS) : Prop :=
  ∀ (pins : List (Addr × Obj)) (s : Shared) (σ : St) (H : Hp) (D : Ends), Inv X pins σ H s → t D σ H → wpAny (model X.prog X.w) X.A (execs st X.env) (SP X pins D) X.xe s
theorem thn {α : Type} {t : Sem α} {Q Q' : α → Shared → Prop} {M : Model} {A : Around} {E : Value → Shared → Prop} {s : Shared} (h : wpAny M A t Q E s) (hQ : ∀ a s, Q a s → Q' a s) : wpAny M A t Q' E s := wpAny_mono h hQ fun _ _ x => x
end L2

namespace L2
open PySem PySem.Spec PyProof.Rows
section
variable {X : Cx}

noncomputable def tVar (i : Nat) : TE := fun σ H Q => ∃ v, σ[i]? = some (some v) ∧ Q v H
noncomputable def tC (v : V) : TE := fun _ H Q => Q v H
theorem pe_var {i : Nat} {x : Str} {pos : Pos} (hN : X.N[i]? = some x) (hv : Vis X.env.scope x) (hd : (x == ("__debug__" : Str)) = false := by decide) (hcd : (x == ("__classdict__" : Str)) = false := by decide) : PE X (.Name x pos) (tVar i) := by
  intro pins s σ H Q I h
  obtain ⟨v, e, h⟩ := h
  obtain ⟨m, hn, hl⟩ := I.loc
  obtain ⟨u, r, l⟩ := hl i x v hN e hv
  have fin : EP X pins σ Q u s := ⟨v, H, I, r, h⟩
  rcases l with ⟨hk, hm⟩ | ⟨hk, c, hc, hcell⟩
  · exact wpAny_Name (wpAny_loadName_local I.ok.kind hk hn hm fin) hd
  · rcases hk with hk | hk
    · exact wpAny_Name (wpAny_loadName_cell I.ok.kind hk hc hcell fin) hd
    · exact wpAny_Name (wpAny_loadName_free I.ok.kind hk hc hcell fin hcd) hd
theorem pe_int {i j pos} : PE X (.Constant (.int i) j pos) (tC (.int i)) := fun _ _ _ H _ I h => wpAny_Constant_int ⟨.int i, H, I.tok _, ⟨_, rfl⟩, h⟩
theorem pe_bl {b j pos} : PE X (.Constant (.bool b) j pos) (tC (.bl b)) := fun _ _ _ H _ I h => Constant_bool ⟨.bl b, H, I, rfl, h⟩
theorem pe_non {j pos} : PE X (.Constant .none j pos) (tC .non) := fun _ _ _ H _ I h => Constant_none ⟨.non, H, I, rfl, h⟩
theorem pe_str {x j pos} : PE X (.Constant (.str x) j pos) (tC (.str x)) := fun _ _ _ H _ I h => Calls.Constant_str ⟨.str x, H, I.tok _, ⟨_, rfl⟩, h⟩

noncomputable def Gl (X : Cx) (x : Str) : Prop := X.env.kindOf x = some .globalImplicit
theorem ld_glob {E : Value → Shared → Prop} {pins : List (Addr × Obj)} {s : Shared} {σ : St} {H : Hp} {x : Str} {u : Value} {pos : Pos} {Q : Value → Shared → Prop} (I : Inv X pins σ H s) (hg : Gl X x) (hm : X.mg x = some u) (h : Q u s)
    (hd : (x == ("__debug__" : Str)) = false := by decide) : wpAny (model X.prog X.w) X.A (eval (.Name x pos) X.env) Q E s :=
  Calls.Name_function_global I.ok.kind hg (Calls.loadGlobal_global (by rw [I.ok.glob]; exact I.mod.glob.keeps I.bk) hm h) hd
theorem ld_blt {E : Value → Shared → Prop} {pins : List (Addr × Obj)} {s : Shared} {σ : St} {H : Hp} {x : Str} {u : Value} {pos : Pos} {Q : Value → Shared → Prop} (I : Inv X pins σ H s) (hg : Gl X x) (hm : X.mg x = none) (hv : bootBuiltins x = some u) (h : Q u s)
    (hn : x ≠ "__name__" := by decide) (hd : (x == ("__debug__" : Str)) = false := by decide) : wpAny (model X.prog X.w) X.A (eval (.Name x pos) X.env) Q E s := by
  obtain ⟨mb, h1, h2⟩ := I.mod.blt
  exact Calls.Name_function_global I.ok.kind hg (Calls.loadGlobal_builtin (by rw [I.ok.glob]; exact I.mod.glob.keeps I.bk) hm (by rw [I.ok.blt]; exact h1.keeps I.bk) ((h2 x hn).trans hv) h) hd
theorem pe_glob {x : Str} {v : V} {u : Value} {pos : Pos} (hg : Gl X x) (hm : X.mg x = some u) (r : RelV v u) (hd : (x == ("__debug__" : Str)) = false := by decide) : PE X (.Name x pos) (tC v) :=
  fun _ _ _ H _ I h => ld_glob I hg hm ⟨v, H, I, r, h⟩ hd
theorem pe_bltn {x : Str} {v : V} {u : Value} {pos : Pos} (hg : Gl X x) (hm : X.mg x = none) (hv : bootBuiltins x = some u) (r : RelV v u) (hn : x ≠ "__name__" := by decide) (hd : (x == ("__debug__" : Str)) = false := by decide) : PE X (.Name x pos) (tC v) :=
  fun _ _ _ H _ I h => ld_blt I hg hm hv ⟨v, H, I, r, h⟩ hn hd

variable {a b : Expr} {ta tb : TE} {pos : Pos}
noncomputable def tB (t : TE) : TT := fun σ H Q => t σ H fun x H1 => ∃ c, x = .bl c ∧ Q c H1
theorem pt_val {e : Expr} {t : TE} (h : PE X e t) (he : ∀ whole, isTrue e X.env whole = (do let v ← whole; standAt e.pos; holding [v] (truthy v)) := by intro _; rfl) : PT X e (tB t) := by
  intro pins s σ H Q I hw
  refine isTrue_plain (thn (h pins s σ H _ I hw) fun v s1 ⟨x, H1, I1, r1, q1⟩ => ?_) (he _)
  obtain ⟨d, rfl, q⟩ := q1
  cases r1
  exact wpAny_truthy_bool ⟨H1, I1, q⟩

variable {tA tB' : TT} {rest : List Expr}
noncomputable def tAnd (t u : TT) : TT := fun σ H Q => t σ H fun c H1 => if c = true then u σ H1 Q else Q false H1
noncomputable def tOr (t u : TT) : TT := fun σ H Q => t σ H fun c H1 => if c = true then Q true H1 else u σ H1 Q
noncomputable def tNot (t : TT) : TT := fun σ H Q => t σ H fun c H1 => Q (!c) H1
theorem pw_and1 (ha : PT X a tA) : PW X (.BoolOp .And [a] pos) tA := by
  intro wh pins s σ H Q I h
  refine isTrue_and (thn (ha pins s σ H Q I h) fun c s1 e => ?_)
  cases c with
  | true => exact isTrue_and_nil e
  | false => exact e
theorem pw_or1 (ha : PT X a tA) : PW X (.BoolOp .Or [a] pos) tA := by
  intro wh pins s σ H Q I h
  refine isTrue_or (thn (ha pins s σ H Q I h) fun c s1 e => ?_)
  cases c with
  | false => exact isTrue_or_nil e
  | true => exact e
theorem pw_and (ha : PT X a tA) (hb : PW X (.BoolOp .And (b :: rest) pos) tB') : PW X (.BoolOp .And (a :: b :: rest) pos) (tAnd tA tB') := by
  intro wh pins s σ H Q I h
  refine isTrue_and (thn (ha pins s σ H _ I h) fun c s1 ⟨H1, I1, q1⟩ => ?_)
  cases c with
  | true => exact hb wh pins s1 σ H1 Q I1 q1
  | false => exact ⟨H1, I1, q1⟩
theorem pw_or (ha : PT X a tA) (hb : PW X (.BoolOp .Or (b :: rest) pos) tB') : PW X (.BoolOp .Or (a :: b :: rest) pos) (tOr tA tB') := by
  intro wh pins s σ H Q I h
  refine isTrue_or (thn (ha pins s σ H _ I h) fun c s1 ⟨H1, I1, q1⟩ => ?_)
  cases c with
  | true => exact ⟨H1, I1, q1⟩
  | false => exact hb wh pins s1 σ H1 Q I1 q1
theorem pt_not (ha : PT X a tA) : PT X (.UnaryOp .Not a pos) (tNot tA) := by
  intro pins s σ H Q I h
  exact isTrue_not (ha pins s σ H (fun c H1 => Q (!c) H1) I h)
noncomputable def tAndV (ta tb : TE) : TE := fun σ H Q => ta σ H fun x H1 => ∃ c, x = .bl c ∧ if c = true then tb σ H1 Q else Q (.bl false) H1
theorem pe_one {op} {t : TE} (h : PE X a t) : PE X (.BoolOp op [a] pos) t := fun pins s σ H Q I hw => BoolOp_one (h pins s σ H Q I hw)
theorem pe_and (ha : PE X a ta) (hb : PE X (.BoolOp .And (b :: rest) pos) tb) : PE X (.BoolOp .And (a :: b :: rest) pos) (tAndV ta tb) := by
  intro pins s σ H Q I h
  refine BoolOp_and (thn (ha pins s σ H _ I h) fun v s1 ⟨x, H1, I1, r1, q1⟩ => ?_)
  obtain ⟨c, rfl, q1⟩ := q1
  cases r1
  refine wpAny_truthy_bool ?_
  cases c with
  | true => exact hb pins s1 σ H1 Q I1 q1
  | false => exact ⟨.bl false, H1, I1, rfl, q1⟩
end
end L2

namespace L2
open PySem PySem.Spec PyProof.Rows

noncomputable def SqL (K : PySem.W.Frag) (H : Hp) (a : Addr) (xs : List V) : Prop :=
  Rd H a (.lst xs) ∨
    ∃ (o : Obj) (its : Array Value) (n : Nat), K.lookup a = some o ∧ o.cls = .type "list" ∧ o.dict = none ∧ o.data = .seq its n ∧ its.size ≤ sizeLine ∧ Vals xs its.toList
noncomputable def SqT (K : PySem.W.Frag) (H : Hp) (a : Addr) (xs : List V) : Prop :=
  Rd H a (.tup xs) ∨
    ∃ (o : Obj) (its : Array Value) (n : Nat), K.lookup a = some o ∧ o.cls = .type "tuple" ∧ o.data = .seq its n ∧ its.size ≤ sizeLine ∧ Vals xs its.toList
noncomputable def absV : Value → Option V
  | .none => some .non
  | .bool b => some (.bl b)
  | .int i _ => some (.int i)
  | .str x _ => some (.str x)
  | .bytes b _ => some (.byt b)
  | .float b _ => some (.flt b)
  | .ref a => some (.ref a)
  | .type n => some (.ty n)
  | _ => none
theorem RelV.abs {x : V} {u : Value} (r : RelV x u) : absV u = some x := by
  cases x with
  | non => cases r; rfl
  | bl _ => cases r; rfl
  | int _ => obtain ⟨t, rfl⟩ := r; rfl
  | str _ => obtain ⟨t, rfl⟩ := r; rfl
  | byt _ => obtain ⟨t, rfl⟩ := r; rfl
  | flt _ => obtain ⟨t, rfl⟩ := r; rfl
  | ref _ => cases r; rfl
  | ty _ => cases r; rfl
theorem RelV.inj {x y : V} {u : Value} (r : RelV x u) (q : RelV y u) : x = y := Option.some.inj (r.abs.symm.trans q.abs)
theorem Vals.inj : ∀ {xs ys : List V} {us : List Value}, Vals xs us → Vals ys us → xs = ys
  | _, _, _, .nil, .nil => rfl
  | _, _, _, .cons r t, .cons r' t' => by rw [r.inj r', Vals.inj t t']
section
variable {X : Cx} {pins : List (Addr × Obj)} {σ : St} {H : Hp} {s : Shared} {a : Addr} {xs ys : List V}
theorem SqL.of {K : PySem.W.Frag} (h : H a = some (.lst xs)) : SqL K H a xs := .inl (.inl h)
theorem SqT.of {K : PySem.W.Frag} (h : H a = some (.tup xs)) : SqT K H a xs := .inl (.inl h)
theorem Inv.list (I : Inv X pins σ H s) (h : SqL X.K H a xs) : ∃ its : List Value, Vals xs its ∧ PlainL s.heap a its.toArray ∧ xs.length ≤ sizeLine := by
  rcases h with h | ⟨o, its, n, hk, hc, hd, hs, hz, r⟩
  · obtain ⟨z, its, n, r, e⟩ := h.ok I.hok
    exact ⟨its, r, ⟨_, n, e, rfl, rfl, rfl⟩, z⟩
  · refine ⟨its.toList, r, ⟨o, n, I.kIn a o hk, hc, hd, by simpa using hs⟩, ?_⟩
    have e := r.length
    simp only [Array.length_toList] at e
    omega
theorem Inv.tuple (I : Inv X pins σ H s) (h : SqT X.K H a xs) : ∃ its : List Value, Vals xs its ∧ IsTup s.heap a its.toArray ∧ xs.length ≤ sizeLine := by
  rcases h with h | ⟨o, its, n, hk, hc, hs, hz, r⟩
  · obtain ⟨z, its, r, p⟩ := h.ok I.hok
    exact ⟨its, r, p.tup, z⟩
  · refine ⟨its.toList, r, ⟨o, I.kIn a o hk, hc, n, by simpa using hs⟩, ?_⟩
    have e := r.length
    simp only [Array.length_toList] at e
    omega
theorem Inv.list_inj (I : Inv X pins σ H s) (h : SqL X.K H a xs) (h' : SqL X.K H a ys) : xs = ys := by
  obtain ⟨its, r, ⟨o, n, e, _, _, d⟩, _⟩ := I.list h
  obtain ⟨its', r', ⟨o', n', e', _, _, d'⟩, _⟩ := I.list h'
  rw [e] at e'; cases e'
  rw [d] at d'
  injection d' with d1 _
  have : its = its' := by simpa using congrArg Array.toList d1
  subst this
  exact r.inj r'
theorem Inv.tuple_inj (I : Inv X pins σ H s) (h : SqT X.K H a xs) (h' : SqT X.K H a ys) : xs = ys := by
  obtain ⟨its, r, ⟨o, e, _, n, d⟩, _⟩ := I.tuple h
  obtain ⟨its', r', ⟨o', e', _, n', d'⟩, _⟩ := I.tuple h'
  rw [e] at e'; cases e'
  rw [d] at d'
  injection d' with d1 _
  have : its = its' := by simpa using congrArg Array.toList d1
  subst this
  exact r.inj r'
end

noncomputable abbrev Cx.wish (X : Cx) (E : Value → Shared → Prop) : Cx := { X with xe := E }
noncomputable abbrev Cx.nox (X : Cx) : Cx := X.wish fun _ _ => False
theorem Cx.Ok.wish {X : Cx} (ok : X.Ok) (E : Value → Shared → Prop) : (X.wish E).Ok :=
  ⟨ok.mod, ok.kind, ok.glob, ok.blt, ok.above, ok.inj, ok.has, ok.cab, ok.hd, ok.frames, ok.stk, ok.exf, ok.bs, ok.bsz, ok.noex, ok.exfs, ok.funs, ok.frf⟩
theorem Cx.Ok.unwish {X : Cx} {E : Value → Shared → Prop} (ok : (X.wish E).Ok) : X.Ok :=
  ⟨ok.mod, ok.kind, ok.glob, ok.blt, ok.above, ok.inj, ok.has, ok.cab, ok.hd, ok.frames, ok.stk, ok.exf, ok.bs, ok.bsz, ok.noex, ok.exfs, ok.funs, ok.frf⟩
section
variable {X : Cx} {pins : List (Addr × Obj)} {σ : St} {H : Hp} {s : Shared} {E : Value → Shared → Prop}
theorem Inv.wish (I : Inv X pins σ H s) (E : Value → Shared → Prop) : Inv (X.wish E) pins σ H s := ⟨I.ok.wish E, I.os, I.bare, I.base, I.loc, I.cell, I.free, I.freeC, I.pin, I.hok, I.len⟩
theorem Inv.unwish (I : Inv (X.wish E) pins σ H s) : Inv X pins σ H s := ⟨I.ok.unwish, I.os, I.bare, I.base, I.loc, I.cell, I.free, I.freeC, I.pin, I.hok, I.len⟩
theorem SP.unwish {D : Ends} {f : Flow} {s' : Shared} (h : SP (X.wish E) pins D f s') : SP X pins D f s' := by
  cases f with
  | next => obtain ⟨σ', H', I, q⟩ := h; exact ⟨σ', H', I.unwish, q⟩
  | brk => obtain ⟨σ', H', I, q⟩ := h; exact ⟨σ', H', I.unwish, q⟩
  | cont => obtain ⟨σ', H', I, q⟩ := h; exact ⟨σ', H', I.unwish, q⟩
  | ret u => obtain ⟨v, σ', H', I, r, q⟩ := h; exact ⟨v, σ', H', I.unwish, r, q⟩
theorem PSs.nox {st : List Stmt} {t : TS} (h : PSs X.nox st t) : PSs X st t := fun pins s σ H D I hw =>
  wpAny_mono (h pins s σ H D (I.wish _) hw) (fun _ _ q => q.unwish) fun _ _ z => False.elim z
end

section
variable {X : Cx} {st : Stmt} {rest : List Stmt} {t u : TS} {e : Expr} {te : TE} {pos : Pos}
noncomputable def tNext : TS := fun D σ H => D.nx σ H
noncomputable def tSeq (t u : TS) : TS := fun D σ H => t { D with nx := u D } σ H
theorem pss_nil : PSs X [] tNext := fun _ _ σ H _ I h => wpAny_execs_nil ⟨σ, H, I, h⟩
theorem pss_cons (h1 : PS X st t) (h2 : PSs X rest u) : PSs X (st :: rest) (tSeq t u) := by
  intro pins s σ H D I h
  refine wpAny_execs_cons (thn (h1 pins s σ H { D with nx := u D } I h) fun f s1 q => ?_)
  cases f with
  | next =>
    obtain ⟨σ', H', I', q⟩ := q
    exact h2 pins s1 σ' H' D I' q
  | ret v => exact q
  | brk => exact q
  | cont => exact q
theorem pss_one (h1 : PS X st t) : PSs X [st] t := by
  intro pins s σ H D I h
  refine wpAny_execs_cons (thn (h1 pins s σ H D I h) fun f s1 q => ?_)
  cases f with
  | next => exact wpAny_execs_nil q
  | ret v => exact q
  | brk => exact q
  | cont => exact q
noncomputable def tBreak : TS := fun D σ H => D.bk σ H
theorem ps_break : PS X (.Break pos) tBreak := fun _ _ σ H _ I h => wpAny_Break ⟨σ, H, I, h⟩
theorem Inv.quiet {pins : List (Addr × Obj)} {σ : St} {H : Hp} {s : Shared} (I : Inv X pins σ H s) : interactive X.env = false := by simp [interactive, I.ok.kind]
noncomputable def tDrop (te : TE) : TS := fun D σ H => te σ H fun _ H1 => D.nx σ H1
theorem ps_expr (he : PE X e te) (hs : swapsWith e none pos.line X.env = pure false := by rfl) : PS X (.Expr e pos) (tDrop te) := by
  intro pins s σ H D I h
  exact wpAny_Expr_any (thn (he pins s σ H _ I h) fun v s1 ⟨x, H1, I1, r1, q1⟩ => ⟨σ, H1, I1, q1⟩) I.quiet hs
noncomputable def tRet (te : TE) : TS := fun D σ H => te σ H D.rt
theorem ps_ret (he : PE X e te) : PS X (.Return (some e) pos) (tRet te) := by
  intro pins s σ H D I h
  exact wpAny_Return_some (thn (he pins s σ H _ I h) fun v s1 ⟨x, H1, I1, r1, q1⟩ => ⟨x, σ, H1, I1, r1, q1⟩)
noncomputable def tIfS (c : TT) (t u : TS) : TS := fun D σ H => c σ H fun b H1 => if b = true then t D σ H1 else u D σ H1
theorem ps_if {c : Expr} {a b : List Stmt} {tc : TT} (hc : PT X c tc) (ha : PSs X a t) (hb : PSs X b u) : PS X (.If c a b pos) (tIfS tc t u) := by
  intro pins s σ H D I h
  refine wpAny_If (thn (hc pins s σ H _ I h) fun d s1 ⟨H1, I1, q1⟩ => ?_)
  cases d with
  | true => exact ha pins s1 σ H1 D I1 q1
  | false => exact hb pins s1 σ H1 D I1 q1
end

noncomputable abbrev TG := V → St → Hp → (St → Hp → Prop) → Prop
noncomputable abbrev TGs := List V → St → Hp → (St → Hp → Prop) → Prop
noncomputable def PG (X : Cx) (target : Expr) (t : TG) : Prop :=
  ∀ (pins : List (Addr × Obj)) (s : Shared) (σ : St) (H : Hp) (v : V) (u : Value) (Q : St → Hp → Prop), Inv X pins σ H s → RelV v u → t v σ H Q →
    wpAny (model X.prog X.w) X.A (assign target X.env u) (fun _ s' => ∃ σ' H', Inv X pins σ' H' s' ∧ Q σ' H') X.xe s
noncomputable def PGs (X : Cx) (ts : List Expr) (t : TGs) : Prop :=
  ∀ (pins : List (Addr × Obj)) (s : Shared) (σ : St) (H : Hp) (vs : List V) (us : List Value) (Q : St → Hp → Prop), Inv X pins σ H s → Vals vs us → t vs σ H Q →
    wpAny (model X.prog X.w) X.A (assignInOrder ((assignEach ts X.env).map (·.2)) us) (fun _ s' => ∃ σ' H', Inv X pins σ' H' s' ∧ Q σ' H') X.xe s
section
variable {X : Cx} {pos : Pos}
noncomputable def gName (i : Nat) : TG := fun v σ H Q => Q (σ.set i (some v)) H
theorem pg_name {i : Nat} {x : Str} (hN : X.N.Nodup) (hi : X.N[i]? = some x) (hx : Loc X.env.scope x) (hf : X.fn x = true ∨ X.env.scope.names.lookup x = some .local := by first | exact .inl rfl | exact .inr rfl | assumption) : PG X (.Name x pos) (gName i) := by
  intro pins s σ H v u Q I r h
  exact wpAny_assign_Name (store_ok I hN hi hx r (fun s' I' => ⟨_, H, I', h⟩) hf)
noncomputable def gNil : TGs := fun vs σ H Q => vs = [] ∧ Q σ H
noncomputable def gCons (t : TG) (u : TGs) : TGs := fun vs σ H Q => ∃ v r, vs = v :: r ∧ t v σ H fun σ' H' => u r σ' H' Q
theorem pgs_nil : PGs X [] gNil := by
  intro pins s σ H vs us Q I r h
  obtain ⟨e, h⟩ := h
  subst e
  cases r
  exact assignInOrder_nil ⟨σ, H, I, h⟩
theorem pgs_cons {e : Expr} {es : List Expr} {t : TG} {u : TGs} (h1 : PG X e t) (h2 : PGs X es u)
    (hs : (assignEach (e :: es) X.env).map (·.2) = assign e X.env :: (assignEach es X.env).map (·.2) := by rfl) : PGs X (e :: es) (gCons t u) := by
  intro pins s σ H vs us Q I r h
  obtain ⟨v, vr, e1, h⟩ := h
  subst e1
  cases r with
  | cons r rr =>
    rw [hs]
    refine assignInOrder_cons (thn (h1 pins s σ H _ _ _ I r h) fun _ s1 ⟨σ1, H1, I1, q1⟩ => ?_)
    exact h2 pins s1 σ1 H1 _ _ Q I1 rr q1
noncomputable def gTup (K : PySem.W.Frag) (n : Nat) (t : TGs) : TG := fun v σ H Q => ∃ a xs, v = .ref a ∧ SqT K H a xs ∧ xs.length = n ∧ t xs σ H Q
theorem pg_tup {es : List Expr} {k : Nat} {t : TGs} {n : Nat} (hc : X.calm = true) (h : PGs X es t)
    (hn : (assignEach es X.env).length = n := by rfl) (hst : (assignEach es X.env).findIdx? (·.1) = none := by rfl) : PG X (.Tuple es k pos) (gTup X.K n t) := by
  intro pins s σ H v u Q I r hw
  obtain ⟨a, xs, e1, hq, hl, hw⟩ := hw
  subst e1
  cases r
  obtain ⟨its, rv, ht, hz⟩ := I.tuple hq
  refine assign_Tuple_tuple (I.ok.hd hc) ht (by simp [hn, ← hl, rv.length]) hst fun h' hx => ?_
  have I1 : Inv X pins σ H { s with heap := h' } := I.kept (t' := s.toks) fun b o e => hx b o (Nat.ne_of_lt (Heap.lt_size e)) e
  exact h pins _ σ H xs _ Q I1 (by simpa using rv) hw
noncomputable def tAsg (te : TE) (g : TG) : TS := fun D σ H => te σ H fun x H1 => g x σ H1 D.nx
theorem ps_asg {tg e : Expr} {te : TE} {g : TG} (he : PE X e te) (hg : PG X tg g) (hs : swapsWithSole [tg] e pos.line X.env = pure false := by rfl) (hw : swappedStores [tg] e X.env = pure none := by rfl)
    (h1 : (assignEach [tg] X.env).map (·.2) = [assign tg X.env] := by rfl) : PS X (.Assign [tg] e pos) (tAsg te g) := by
  intro pins s σ H D I h
  refine wpAny_Assign_stores (thn (he pins s σ H _ I h) fun v s1 ⟨x, H1, I1, r1, q1⟩ => ?_) hs hw
  rw [h1]
  exact thn (hg pins s1 σ H1 x v _ I1 r1 q1) fun _ s2 q => q
theorem ps_set {i : Nat} {x : Str} {e : Expr} {te : TE} {pos' : Pos} (hN : X.N.Nodup) (hi : X.N[i]? = some x) (hx : Loc X.env.scope x) (he : PE X e te) (hs : swapsWith e (some (.Name x pos')) pos.line X.env = pure false := by rfl) (hf : X.fn x = true ∨ X.env.scope.names.lookup x = some .local := by first | exact .inl rfl | exact .inr rfl | assumption) :
    PS X (.Assign [.Name x pos'] e pos) (tAsg te (gName i)) := by
  intro pins s σ H D I h
  refine wpAny_Assign_Name (thn (he pins s σ H _ I h) fun v s1 ⟨y, H1, I1, r1, q1⟩ => ?_) hs
  exact store_ok I1 hN hi hx r1 (fun s2 I2 => ⟨_, H1, I2, q1⟩) hf
end

section
variable {X : Cx} {pos : Pos}
noncomputable def tWhile (c : TT) (tb : TS) : TS := fun D σ H => ∃ W : Nat → St → Hp → Prop, (∃ m, W m σ H) ∧ ∀ m σ H, W m σ H →
  c σ H fun b H1 => if b = true then ∃ N : St → Hp → Prop, (∀ σ' H', N σ' H' → ∃ m', m' < m ∧ W m' σ' H') ∧ tb { D with nx := N, ct := N, bk := D.nx } σ H1 else D.nx σ H1
theorem ps_while {c : Expr} {body : List Stmt} {tc : TT} {tb : TS} (hp : PassesOwn (model X.prog X.w) X.A X.env X.xe) (hc : PT X c tc) (hb : PSs X body tb) : PS X (.While c body [] pos) (tWhile tc tb) := by
  intro pins s σ H D I h
  obtain ⟨W, ⟨m0, w0⟩, turn⟩ := h
  refine wpAny_While (codeAny_whileLoop (fun n s' => ∃ σ' H', Inv X pins σ' H' s' ∧ W n σ' H') ?_ m0 ⟨σ, H, I, w0⟩)
  rintro n s1 ⟨σ1, H1, I1, w1⟩
  refine wpAny_passesOwn hp (thn (hc pins s1 σ1 H1 _ I1 (turn n σ1 H1 w1)) fun b s2 ⟨H2, I2, q2⟩ => ?_)
  cases b with
  | true =>
    obtain ⟨N, hN, q2⟩ := q2
    rw [if_pos rfl]
    refine wpAny_passesOwn hp (thn (hb pins s2 σ1 H2 _ I2 q2) fun f s3 q3 => ?_)
    cases f with
    | next =>
      obtain ⟨σ3, H3, I3, n3⟩ := q3
      obtain ⟨m', hm, w3⟩ := hN σ3 H3 n3
      exact ⟨m', hm, σ3, H3, I3, w3⟩
    | cont =>
      obtain ⟨σ3, H3, I3, n3⟩ := q3
      obtain ⟨m', hm, w3⟩ := hN σ3 H3 n3
      exact ⟨m', hm, σ3, H3, I3, w3⟩
    | brk => exact q3
    | ret v => exact q3
  | false =>
    rw [if_neg Bool.false_ne_true]
    exact wpAny_execs_nil ⟨σ1, H2, I2, q2⟩
end

structure It where
  go : Nat → Hp → Prop
  yld : Nat → Hp → V → Hp → Prop
  stop : Nat → Hp → Prop
noncomputable def FpOk (X : Cx) (pins : List (Addr × Obj)) (H : Hp) (b : Addr) : Prop :=
  H b = none ∧ b ≠ X.env.locals ∧ b ∉ X.fs ∧ (b ∈ X.ex ∨ X.s₀.heap.objs.size ≤ b) ∧ (∀ x c, X.env.cells.lookup x = some c → c ≠ b) ∧ ∀ p ∈ X.pn ++ pins, p.1 ≠ b
theorem Inv.fpOk {X : Cx} {pins : List (Addr × Obj)} {σ : St} {H H' : Hp} {s : Shared} {b : Addr} (I : Inv X pins σ H s) (hb : s.heap.objs.size ≤ b) (hn : H' b = none) : FpOk X pins H' b := by
  refine ⟨hn, Nat.ne_of_gt (Nat.lt_of_lt_of_le I.lt hb), I.nofs hb, .inr (Nat.le_trans I.sz hb), fun x c e z => ?_, fun p hp z => ?_⟩
  · obtain ⟨v, q⟩ := I.cell x c e
    exact absurd (Nat.lt_of_lt_of_le q.lt (by rw [z]; exact hb)) (Nat.lt_irrefl _)
  · exact absurd (Nat.lt_of_lt_of_le (Heap.lt_size (I.pin p hp).1) (by rw [z]; exact hb)) (Nat.lt_irrefl _)
structure Turn (P : Program) (w : World) (K : PySem.W.Frag) (tg : Expr) (J : It) (fp : List Addr) (it : Addr) (tn : Nat → Heap → Prop) : Prop where
  mem : it ∈ fp
  obj : ∀ i h, tn i h → ∀ b ∈ fp, ∃ o, h.get? b = some o ∧ ∀ v, o.data ≠ .cell v
  keep : ∀ i h h', tn i h → (∀ b ∈ fp, ∀ o, h.get? b = some o → h'.get? b = some o) → tn i h'
  item : ∀ (X : Cx), X.prog = P → X.w = w → X.K = K → X.calm = true → ∀ (i : Nat) (pins : List (Addr × Obj)) (s : Shared) (σ : St) (H : Hp) (E : Value → Shared → Prop), Inv X pins σ H s → (∀ b ∈ fp, FpOk X pins H b) → tn i s.heap → J.go i H →
    wpAny (model P w) X.A (pyNext (.ref it)) (fun r s1 => ∃ u, r = some u ∧
      wpAny (model P w) X.A (letOwnedTupleGo tg (.ref it) u) (fun _ s2 => ∃ x H', Inv X pins σ H' s2 ∧ RelV x u ∧ J.yld i H x H' ∧ tn (i + 1) s2.heap ∧ ∀ b ∈ fp, H' b = none) E s1) E s
  done : ∀ (X : Cx), X.prog = P → X.w = w → X.K = K → X.calm = true → ∀ (i : Nat) (pins : List (Addr × Obj)) (s : Shared) (σ : St) (H : Hp) (E : Value → Shared → Prop), Inv X pins σ H s → (∀ b ∈ fp, FpOk X pins H b) → tn i s.heap → J.stop i H →
    wpAny (model P w) X.A (pyNext (.ref it)) (fun r s1 => r = none ∧ Inv X pins σ H s1) E s
  self : ∀ (A : Around) (i : Nat) (s : Shared) (Q : Value → Shared → Prop) (E : Value → Shared → Prop), tn i s.heap → Q (.ref it) s → wpAny (model P w) A (pyIter (.ref it)) Q E s
noncomputable abbrev TI := St → Hp → (It → Hp → Prop) → Prop
noncomputable def PIE (X : Cx) (pins : List (Addr × Obj)) (σ : St) (tg : Expr) (R : It → Hp → Prop) (itv : Value) (s2 : Shared) : Prop :=
  ∃ (it : Addr) (fp : List Addr) (tn : Nat → Heap → Prop) (J : It) (H' : Hp), itv = .ref it ∧ Inv X pins σ H' s2 ∧ Turn X.prog X.w X.K tg J fp it tn ∧ tn 0 s2.heap ∧ (∀ b ∈ fp, FpOk X pins H' b) ∧ R J H'
noncomputable def PI (X : Cx) (tg iter : Expr) (wi : TI) : Prop :=
  ∀ (pins : List (Addr × Obj)) (s : Shared) (σ : St) (H : Hp) (R : It → Hp → Prop), Inv X pins σ H s → wi σ H R →
    wpAny (model X.prog X.w) X.A (eval iter X.env) (fun v s1 => wpAny (model X.prog X.w) X.A (pyIter v) (PIE X pins σ tg R) X.xe s1) X.xe s

theorem go_of {M : Model} {A : Around} {E : Value → Shared → Prop} {s : Shared} {tg : Expr} {it : Addr} {u : Value} {o : Obj} {n : String} {vs : Array Value} {Q : Unit → Shared → Prop} (ho : s.heap.get? it = some o) (hc : o.cls = .type n) (hd : o.data = .fields vs)
    (hn : ["enumerate", "zip", "dict_itemiterator", "dict_reverseitemiterator", "odict_iterator", "itertools.zip_longest", "itertools.pairwise"].contains n = false) (hQ : Q () s) : wpAny M A (letOwnedTupleGo tg (.ref it) u) Q E s := by
  unfold letOwnedTupleGo
  cases tg <;> first
    | exact wpAny_pure hQ
    | (cases u <;> first
        | exact wpAny_pure hQ
        | (refine wpAny_bind (wpAny_load ho ?_)
           rw [hc, hd]
           show wpAny M A (if (["enumerate", "zip", "dict_itemiterator", "dict_reverseitemiterator", "odict_iterator", "itertools.zip_longest", "itertools.pairwise"].contains n && vs[0]? == some (rawInt _)) = true then _ else _) Q E s
           rw [if_neg (by intro h; rw [hn, Bool.false_and] at h; cases h)]
           exact wpAny_pure hQ))

noncomputable def Itl (K : PySem.W.Frag) (a : Addr) : It :=
  ⟨fun i H => ∃ xs x, SqL K H a xs ∧ xs[i]? = some x, fun i H x H' => H' = H ∧ ∀ xs, SqL K H a xs → xs[i]? = some x, fun i H => ∃ xs, SqL K H a xs ∧ xs.length ≤ i⟩
noncomputable def Itt (K : PySem.W.Frag) (a : Addr) : It :=
  ⟨fun i H => ∃ xs x, SqT K H a xs ∧ xs[i]? = some x, fun i H x H' => H' = H ∧ ∀ xs, SqT K H a xs → xs[i]? = some x, fun i H => ∃ xs, SqT K H a xs ∧ xs.length ≤ i⟩
noncomputable def Itr (lo : Int) (n : Nat) : It := ⟨fun i _ => i < n, fun i H x H' => H' = H ∧ x = .int (lo + i), fun i _ => n ≤ i⟩
theorem turn_list {P : Program} {w : World} {K : PySem.W.Frag} {tg : Expr} (a it : Addr) : Turn P w K tg (Itl K a) [it] it (fun i h => h.IsListIter it a i) where
  mem := by simp
  obj := fun i h st b hb => by
    have e : b = it := by simpa using hb
    subst e
    obtain ⟨o, e, c, d⟩ := st
    exact ⟨o, e, fun v z => by rw [d] at z; cases z⟩
  keep := fun i h h' st k => st.at fun o e => k it (by simp) o e
  item := by
    intro X hP hw hK hc i pins s σ H E I hf st hg
    subst hP hw hK
    obtain ⟨xs, x, hq, hx⟩ := hg
    obtain ⟨its, rv, p, hz⟩ := I.list hq
    obtain ⟨u, hu, ru⟩ := rv.get hx
    obtain ⟨f0, f1, f2, f3, f4, f5⟩ := hf it (by simp)
    refine wpAny_pyNext_list_item st p.isList (x := u) (by simpa using hu) fun h' st' sb => ?_
    have I1 : Inv X pins σ H { s with heap := h' } := I.turned (t' := s.toks) (fun b o hb e => (sb.2 b hb).trans e) f0 f1 f3 f4 f5
    obtain ⟨o, e, c, d⟩ := id st'
    exact ⟨u, rfl, go_of (s := { s with heap := h' }) e c d (by decide) ⟨x, H, I1, ru, ⟨rfl, fun ys hy => by rw [I.list_inj hy hq]; exact hx⟩, st', fun b hb => (hf b hb).1⟩⟩
  done := by
    intro X hP hw hK hc i pins s σ H E I hf st hg
    subst hP hw hK
    obtain ⟨xs, hq, hx⟩ := hg
    obtain ⟨its, rv, p, hz⟩ := I.list hq
    obtain ⟨f0, f1, f2, f3, f4, f5⟩ := hf it (by simp)
    have hl := rv.length
    exact wpAny_pyNext_list_end (I.ok.hd hc) st p.isList (by simp; omega) fun h' eb => ⟨rfl, I.turned (t' := s.toks) (fun b o hb e => eb b o hb e) f0 f1 f3 f4 f5⟩
  self := fun _ _ _ _ _ st h => wpAny_pyIter_listiter st h
theorem turn_tuple {P : Program} {w : World} {K : PySem.W.Frag} {tg : Expr} (a it : Addr) : Turn P w K tg (Itt K a) [it] it (fun i h => h.IsTupleIter it a i) where
  mem := by simp
  obj := fun i h st b hb => by
    have e : b = it := by simpa using hb
    subst e
    obtain ⟨o, e, c, d⟩ := st
    exact ⟨o, e, fun v z => by rw [d] at z; cases z⟩
  keep := fun i h h' st k => st.at fun o e => k it (by simp) o e
  item := by
    intro X hP hw hK hc i pins s σ H E I hf st hg
    subst hP hw hK
    obtain ⟨xs, x, hq, hx⟩ := hg
    obtain ⟨its, rv, p, hz⟩ := I.tuple hq
    obtain ⟨u, hu, ru⟩ := rv.get hx
    obtain ⟨f0, f1, f2, f3, f4, f5⟩ := hf it (by simp)
    refine wpAny_pyNext_tuple_item st (show s.heap.IsTuple a its.toArray from p) (x := u) (by simpa using hu) fun h' st' sb => ?_
    have I1 : Inv X pins σ H { s with heap := h' } := I.turned (t' := s.toks) (fun b o hb e => (sb.2 b hb).trans e) f0 f1 f3 f4 f5
    obtain ⟨o, e, c, d⟩ := id st'
    exact ⟨u, rfl, go_of (s := { s with heap := h' }) e c d (by decide) ⟨x, H, I1, ru, ⟨rfl, fun ys hy => by rw [I.tuple_inj hy hq]; exact hx⟩, st', fun b hb => (hf b hb).1⟩⟩
  done := by
    intro X hP hw hK hc i pins s σ H E I hf st hg
    subst hP hw hK
    obtain ⟨xs, hq, hx⟩ := hg
    obtain ⟨its, rv, p, hz⟩ := I.tuple hq
    obtain ⟨f0, f1, f2, f3, f4, f5⟩ := hf it (by simp)
    have hl := rv.length
    exact wpAny_pyNext_tuple_end (I.ok.hd hc) st (show s.heap.IsTuple a its.toArray from p) (by simp; omega) fun h' eb => ⟨rfl, I.turned (t' := s.toks) (fun b o hb e => eb b o hb e) f0 f1 f3 f4 f5⟩
  self := fun _ _ _ _ _ st h => wpAny_pyIter_tupleiter st h
theorem turn_range {P : Program} {w : World} {K : PySem.W.Frag} {tg : Expr} (it : Addr) (lo : Int) (n : Nat) : Turn P w K tg (Itr lo n) [it] it (fun i h => IsRangeIter h it (lo + (i : Nat) * 1) ((n : Int) - (i : Nat)) 1) where
  mem := by simp
  obj := fun i h st b hb => by
    have e : b = it := by simpa using hb
    subst e
    exact ⟨_, st, fun v z => by
      have z' : Data.fields _ = Data.cell v := z
      cases z'⟩
  keep := fun i h h' st k => k it (by simp) _ st
  item := by
    intro X hP hw hK hc i pins s σ H E I hf st hg
    subst hP hw hK
    obtain ⟨f0, f1, f2, f3, f4, f5⟩ := hf it (by simp)
    have W := Walks.range (prog := X.prog) (w := X.w) (I.ok.hd hc) it lo 1 n
    refine W.item i s _ _ hg st fun v h' tk hv st' kk => ?_
    obtain ⟨t, rfl⟩ := hv
    have I1 : Inv X pins σ H { s with heap := h', toks := tk } := I.turned (fun b o hb e => kk b o (by simpa using hb) e) f0 f1 f3 f4 f5
    refine ⟨_, rfl, go_of (s := { s with heap := h', toks := tk }) (n := "range_iterator") st' rfl rfl (by decide) ⟨.int (lo + i), H, I1, ⟨t, ?_⟩, ⟨rfl, rfl⟩, st', fun b hb => (hf b hb).1⟩⟩
    rw [Int.mul_one]
  done := by
    intro X hP hw hK hc i pins s σ H E I hf st hg
    subst hP hw hK
    obtain ⟨f0, f1, f2, f3, f4, f5⟩ := hf it (by simp)
    exact wpAny_pyNext_range_end (I.ok.hd hc) st (by have : n ≤ i := hg; omega) fun h' eb => ⟨rfl, I.turned (t' := s.toks) (fun b o hb e => eb b o hb e) f0 f1 f3 f4 f5⟩
  self := fun _ _ _ _ _ st h => wpAny_pyIter_rangeiter st h
end L2

namespace L2
open PySem PySem.Spec PyProof.Rows
section
variable {X : Cx} {tg : Expr}
noncomputable def iList (K : PySem.W.Frag) (tl : TE) : TI := fun σ H R => tl σ H fun x H1 => ∃ a, x = .ref a ∧ (∃ xs, SqL K H1 a xs) ∧ R (Itl K a) H1
noncomputable def iTup (K : PySem.W.Frag) (tl : TE) : TI := fun σ H R => tl σ H fun x H1 => ∃ a, x = .ref a ∧ (∃ xs, SqT K H1 a xs) ∧ R (Itt K a) H1
theorem pi_list {l : Expr} {tl : TE} (hl : PE X l tl) : PI X tg l (iList X.K tl) := by
  intro pins s σ H R I h
  refine thn (hl pins s σ H _ I h) fun v s1 ⟨x, H1, I1, r1, q1⟩ => ?_
  obtain ⟨a, e, ⟨xs, hq⟩, q⟩ := q1
  subst e
  cases r1
  obtain ⟨its, rv, p, hz⟩ := I1.list hq
  refine wpAny_pyIter_list p.isList ?_
  refine ⟨s1.heap.objs.size, [s1.heap.objs.size], _, _, H1, rfl, I1.kept (t' := s1.toks) fun b o e => Heap.get?_push_of_some _ e, turn_list a _, ⟨_, Heap.get?_push_size _ rfl, rfl, rfl⟩, fun b hb => ?_, q⟩
  have e : b = s1.heap.objs.size := by simpa using hb
  subst e
  exact I1.fpOk (Nat.le_refl _) (I1.hok.fresh (Nat.le_refl _))
theorem pi_tup {l : Expr} {tl : TE} (hl : PE X l tl) : PI X tg l (iTup X.K tl) := by
  intro pins s σ H R I h
  refine thn (hl pins s σ H _ I h) fun v s1 ⟨x, H1, I1, r1, q1⟩ => ?_
  obtain ⟨a, e, ⟨xs, hq⟩, q⟩ := q1
  subst e
  cases r1
  obtain ⟨its, rv, p, hz⟩ := I1.tuple hq
  refine wpAny_pyIter_tuple (show s1.heap.IsTuple a its.toArray from p) ?_
  refine ⟨s1.heap.objs.size, [s1.heap.objs.size], _, _, H1, rfl, I1.kept (t' := s1.toks) fun b o e => Heap.get?_push_of_some _ e, turn_tuple a _, ⟨_, Heap.get?_push_size _ rfl, rfl, rfl⟩, fun b hb => ?_, q⟩
  have e : b = s1.heap.objs.size := by simpa using hb
  subst e
  exact I1.fpOk (Nat.le_refl _) (I1.hok.fresh (Nat.le_refl _))
theorem range_it {pins : List (Addr × Obj)} {σ : St} {H : Hp} {s : Shared} {R : It → Hp → Prop} {E : Value → Shared → Prop} {lo hi : Int} {t u v : Tok} {tk : Nat} (I : Inv X pins σ H s) (h1 : -(2 ^ 62) ≤ lo) (h2 : lo < 2 ^ 62) (h3 : -(2 ^ 62) ≤ hi) (h4 : hi < 2 ^ 62)
    (q : R (Itr lo (hi - lo).toNat) H) : wpAny (model X.prog X.w) X.A (pyIter (.ref s.heap.objs.size)) (PIE X pins σ tg R) E { s with heap := s.heap.push { cls := .type "range", data := .fields #[.int lo t, .int hi u, .int 1 v] }, toks := tk } := by
  refine wpAny_pyIter_range (IsRange.new ..) (small_one h1 h2 h3 h4) ?_
  have I1 : Inv X pins σ H { s with heap := s.heap.push { cls := .type "range", data := .fields #[.int lo t, .int hi u, .int 1 v] }, toks := tk } := I.kept fun b o e => Heap.get?_push_of_some _ e
  refine ⟨(s.heap.push { cls := .type "range", data := .fields #[.int lo t, .int hi u, .int 1 v] }).objs.size, [(s.heap.push { cls := .type "range", data := .fields #[.int lo t, .int hi u, .int 1 v] }).objs.size], _, _, H, rfl,
    I1.kept (t' := tk) fun b o e => Heap.get?_push_of_some _ e, turn_range _ lo (hi - lo).toNat, ?_, fun b hb => ?_, q⟩
  · have e1 : lo + ((0 : Nat) : Int) * 1 = lo := by simp
    have e2 : (((hi - lo).toNat : Nat) : Int) - ((0 : Nat) : Int) = Builtin.Range.rangeSize lo hi 1 := by rw [rangeSize_one]; split <;> omega
    show IsRangeIter _ _ (lo + ((0 : Nat) : Int) * 1) ((((hi - lo).toNat : Nat) : Int) - ((0 : Nat) : Int)) 1
    rw [e1, e2]
    exact Heap.get?_push_size _ rfl
  · have e : b = (s.heap.push { cls := .type "range", data := .fields #[.int lo t, .int hi u, .int 1 v] }).objs.size := by simpa using hb
    subst e
    exact I1.fpOk (Nat.le_refl _) (I1.hok.fresh (Nat.le_refl _))
noncomputable def iRng1 (ta : TA) : TI := fun σ H R => ta σ H fun vs H1 => ∃ j : Int, vs = [.int j] ∧ -(2 ^ 62) ≤ j ∧ j < 2 ^ 62 ∧ R (Itr 0 j.toNat) H1
theorem pi_range1 {a : Expr} {ta : TA} {p pos : Pos} (hg : Gl X "range") (hm : X.mg "range" = none) (ha : PA X [a] ta) (hs : starEach [a] X.env = [(false, eval a X.env)] := by rfl) : PI X tg (.Call (.Name "range" p) [a] [] pos) (iRng1 ta) := by
  intro pins s σ H R I h
  refine Call_ (ld_blt I hg hm boot_range (PyProof.Rows.callWith_type1 (thn (ha pos pins s σ H _ I h) fun us s1 ⟨vs, H1, I1, r1, q1⟩ => ?_) hs rfl))
  obtain ⟨j, e, q1, q2, q⟩ := q1
  subst e
  cases r1 with
  | cons r rr =>
    cases rr
    obtain ⟨t, rfl⟩ := r
    exact call_range_1 (range_it I1 (by omega) (by omega) q1 q2 (by simpa using q))
noncomputable def tFor (wi : TI) (g : TG) (tb : TS) : TS := fun D σ H => wi σ H fun J H1 => ∃ W : Nat → Nat → St → Hp → Prop, (∃ m, W 0 m σ H1) ∧ ∀ i m σ H, W i m σ H →
  (J.stop i H ∧ D.nx σ H) ∨ (J.go i H ∧ ∃ N : St → Hp → Prop, (∀ σ' H', N σ' H' → ∃ m', m' < m ∧ W (i + 1) m' σ' H') ∧ ∀ x H', J.yld i H x H' → g x σ H' fun σ2 H2 => tb { D with nx := N, ct := N, bk := D.nx } σ2 H2)
noncomputable def pinsAt (fp : List Addr) (h : Heap) : List (Addr × Obj) := fp.filterMap fun b => (h.get? b).map fun o => (b, o)
theorem mem_pinsAt {fp : List Addr} {h : Heap} {b : Addr} {o : Obj} (hb : b ∈ fp) (e : h.get? b = some o) : (b, o) ∈ pinsAt fp h := List.mem_filterMap.mpr ⟨b, hb, by rw [e]; rfl⟩
theorem of_pinsAt {fp : List Addr} {h : Heap} {p : Addr × Obj} (hp : p ∈ pinsAt fp h) : p.1 ∈ fp ∧ h.get? p.1 = some p.2 := by
  obtain ⟨b, hb, e⟩ := List.mem_filterMap.mp hp
  cases q : h.get? b with
  | none => rw [q] at e; cases e
  | some o =>
    rw [q] at e
    have e' : (b, o) = p := Option.some.inj e
    subst e'
    exact ⟨hb, q⟩
theorem Inv.pinned {pins : List (Addr × Obj)} {σ : St} {H : Hp} {s : Shared} {fp : List Addr} (I : Inv X pins σ H s) (hf : ∀ b ∈ fp, FpOk X pins H b) (ho : ∀ b ∈ fp, ∃ o, s.heap.get? b = some o ∧ ∀ v, o.data ≠ .cell v) : Inv X (pins ++ pinsAt fp s.heap) σ H s :=
  I.pins_of fun p hp => (List.mem_append.mp hp).elim (fun z => I.pin p (List.mem_append_right _ z)) fun z => by
    obtain ⟨hb, e⟩ := of_pinsAt z
    obtain ⟨f0, f1, f2, _⟩ := hf p.1 hb
    obtain ⟨o, e', d⟩ := ho p.1 hb
    rw [e] at e'; cases e'
    exact ⟨e, f0, f1, f2, d⟩
theorem Inv.unpinned {pins pl : List (Addr × Obj)} {σ : St} {H : Hp} {s : Shared} (I : Inv X (pins ++ pl) σ H s) : Inv X pins σ H s := I.pins_of fun p hp => I.pin p (List.mem_append_right _ (List.mem_append_left _ hp))
theorem ps_for {iter : Expr} {body : List Stmt} {wi : TI} {g : TG} {tb : TS} {pos : Pos} (hp : PassesOwn (model X.prog X.w) X.A X.env X.xe) (hc : X.calm = true) (hi : PI X tg iter wi) (hg : PG X tg g) (hb : PSs X body tb)
    (hs : ∀ x, foldedSetIterable iter X.env x = pure x := by intro _; rfl) : PS X (.For tg iter body [] pos) (tFor wi g tb) := by
  intro pins s σ H D I h
  refine wpAny_For (thn (hi pins s σ H _ I h) fun v s1 h1 => thn h1 fun itv s2 h2 => ?_) hs
  obtain ⟨it, fp, tn, J, H2, e, I2, T, st2, f2, W, ⟨m0, w0⟩, turn⟩ := h2
  subst e
  -- what stays true of the iterator's objects through the loop
  have stat : ∀ {H' : Hp}, (∀ b ∈ fp, H' b = none) → ∀ b ∈ fp, FpOk X pins H' b := fun hn b hb => ⟨hn b hb, (f2 b hb).2⟩
  refine codeAny_forLoop_any (fun n s' => ∃ i σ' H', Inv X pins σ' H' s' ∧ tn i s'.heap ∧ (∀ b ∈ fp, H' b = none) ∧ W i n σ' H') ?_ m0 ⟨0, σ, H2, I2, st2, fun b hb => (f2 b hb).1, w0⟩
  rintro n s3 ⟨i, σ3, H3, I3, st3, fr3, w3⟩
  rcases turn i n σ3 H3 w3 with ⟨stop, qn⟩ | ⟨go, N, hN, step⟩
  · refine wpAny_passesOwn hp (thn (T.done X rfl rfl rfl hc i pins s3 σ3 H3 X.xe I3 (stat fr3) st3 stop) fun r s4 ⟨hr, I4⟩ => ?_)
    subst hr
    exact wpAny_execs_nil ⟨σ3, H3, I4, qn⟩
  · refine wpAny_passesOwn hp (thn (T.item X rfl rfl rfl hc i pins s3 σ3 H3 X.xe I3 (stat fr3) st3 go) fun r s4 ⟨u, hr, h4⟩ => ?_)
    subst hr
    refine wpAny_passesOwn hp (thn h4 fun _ s5 ⟨x, H5, I5, r5, y5, st5, fr5⟩ => ?_)
    have I5' := I5.pinned (stat fr5) (T.obj _ _ st5)
    refine wpAny_passesOwn hp (thn (hg _ s5 σ3 H5 x u _ I5' r5 (step x H5 y5)) fun _ s6 ⟨σ6, H6, I6, q6⟩ => ?_)
    refine wpAny_passesOwn hp (thn (hb _ s6 σ6 H6 _ I6 q6) fun f s7 q7 => ?_)
    have again : ∀ {σ7 : St} {H7 : Hp}, Inv X (pins ++ pinsAt fp s5.heap) σ7 H7 s7 → N σ7 H7 → ∃ m, m < n ∧ ∃ i σ' H', Inv X pins σ' H' s7 ∧ tn i s7.heap ∧ (∀ b ∈ fp, H' b = none) ∧ W i m σ' H' := fun {σ7 H7} I7 n7 => by
      obtain ⟨m', hm, w7⟩ := hN σ7 H7 n7
      refine ⟨m', hm, i + 1, σ7, H7, I7.unpinned, T.keep _ _ _ st5 fun b hb o e => (I7.pin (b, o) (List.mem_append_right _ (List.mem_append_right _ (mem_pinsAt hb e)))).1, fun b hb => ?_, w7⟩
      obtain ⟨o, e, d⟩ := T.obj _ _ st5 b hb
      exact (I7.pin (b, o) (List.mem_append_right _ (List.mem_append_right _ (mem_pinsAt hb e)))).2.1
    cases f with
    | next => obtain ⟨σ7, H7, I7, n7⟩ := q7; exact again I7 n7
    | cont => obtain ⟨σ7, H7, I7, n7⟩ := q7; exact again I7 n7
    | brk => obtain ⟨σ7, H7, I7, q7⟩ := q7; exact ⟨σ7, H7, I7.unpinned, q7⟩
    | ret v => obtain ⟨x7, σ7, H7, I7, r7, q7⟩ := q7; exact ⟨x7, σ7, H7, I7.unpinned, r7, q7⟩
end

theorem for_list {K : PySem.W.Frag} {a : Addr} {xs : List V} {g : TG} {tb : TS} {D : Ends} {σ : St} {H : Hp} (Pv : Nat → St → Hp → Prop) (h0 : Pv 0 σ H) (hl : ∀ i σ H, i ≤ xs.length → Pv i σ H → SqL K H a xs)
    (hs : ∀ i x σ H, xs[i]? = some x → Pv i σ H → g x σ H fun σ2 H2 => tb { D with nx := Pv (i + 1), ct := Pv (i + 1), bk := D.nx } σ2 H2) (hd : ∀ σ H, Pv xs.length σ H → D.nx σ H) :
    ∃ W : Nat → Nat → St → Hp → Prop, (∃ m, W 0 m σ H) ∧ ∀ i m σ H, W i m σ H →
      ((Itl K a).stop i H ∧ D.nx σ H) ∨ ((Itl K a).go i H ∧ ∃ N : St → Hp → Prop, (∀ σ' H', N σ' H' → ∃ m', m' < m ∧ W (i + 1) m' σ' H') ∧ ∀ x H', (Itl K a).yld i H x H' → g x σ H' fun σ2 H2 => tb { D with nx := N, ct := N, bk := D.nx } σ2 H2) := by
  refine ⟨fun i m σ H => m = xs.length - i ∧ i ≤ xs.length ∧ Pv i σ H, ⟨xs.length, by simp, Nat.zero_le _, h0⟩, ?_⟩
  rintro i m σ H ⟨rfl, hi, p⟩
  have q := hl i σ H hi p
  by_cases hlt : i < xs.length
  · refine .inr ⟨⟨xs, xs[i], q, by simp [hlt]⟩, Pv (i + 1), fun σ' H' p' => ⟨xs.length - (i + 1), by omega, rfl, hlt, p'⟩, fun x H' y => ?_⟩
    obtain ⟨e, y⟩ := y
    subst e
    exact hs i x σ _ (y xs q) p
  · have e : i = xs.length := by omega
    subst e
    exact .inl ⟨⟨xs, q, Nat.le_refl _⟩, hd σ H p⟩
theorem for_range {lo : Int} {n : Nat} {g : TG} {tb : TS} {D : Ends} {σ : St} {H : Hp} (Pv : Nat → St → Hp → Prop) (h0 : Pv 0 σ H)
    (hs : ∀ i σ H, i < n → Pv i σ H → g (.int (lo + i)) σ H fun σ2 H2 => tb { D with nx := Pv (i + 1), ct := Pv (i + 1), bk := D.nx } σ2 H2) (hd : ∀ σ H, Pv n σ H → D.nx σ H) :
    ∃ W : Nat → Nat → St → Hp → Prop, (∃ m, W 0 m σ H) ∧ ∀ i m σ H, W i m σ H →
      ((Itr lo n).stop i H ∧ D.nx σ H) ∨ ((Itr lo n).go i H ∧ ∃ N : St → Hp → Prop, (∀ σ' H', N σ' H' → ∃ m', m' < m ∧ W (i + 1) m' σ' H') ∧ ∀ x H', (Itr lo n).yld i H x H' → g x σ H' fun σ2 H2 => tb { D with nx := N, ct := N, bk := D.nx } σ2 H2) := by
  refine ⟨fun i m σ H => m = n - i ∧ i ≤ n ∧ Pv i σ H, ⟨n, by simp, Nat.zero_le _, h0⟩, ?_⟩
  rintro i m σ H ⟨rfl, hi, p⟩
  by_cases hlt : i < n
  · refine .inr ⟨hlt, Pv (i + 1), fun σ' H' p' => ⟨n - (i + 1), by omega, rfl, hlt, p'⟩, fun x H' y => ?_⟩
    obtain ⟨e, y⟩ := y
    subst e y
    exact hs i σ _ hlt p
  · have e : i = n := by omega
    subst e
    exact .inl ⟨Nat.le_refl _, hd σ H p⟩
end L2

namespace L2
open PySem PySem.Spec PyProof.Rows

noncomputable abbrev R2 := V → V → Hp → VK → Prop
noncomputable def OpR (X : Cx) (f : Value → Value → Sem Value) (r : R2) : Prop :=
  ∀ (pins : List (Addr × Obj)) (s : Shared) (σ : St) (H : Hp) (x y : V) (v u : Value) (Q : VK), Inv X pins σ H s → RelV x v → RelV y u → r x y H Q →
    wpAny (model X.prog X.w) X.A (f v u) (EP X pins σ Q) X.xe s
noncomputable def UnR (X : Cx) (f : Value → Sem Value) (r : V → Hp → VK → Prop) : Prop :=
  ∀ (pins : List (Addr × Obj)) (s : Shared) (σ : St) (H : Hp) (x : V) (v : Value) (Q : VK), Inv X pins σ H s → RelV x v → r x H Q →
    wpAny (model X.prog X.w) X.A (f v) (EP X pins σ Q) X.xe s
noncomputable def CallR (X : Cx) (f : Value) (r : List V → Hp → VK → Prop) : Prop :=
  ∀ (pins : List (Addr × Obj)) (s : Shared) (σ : St) (H : Hp) (xs : List V) (us : List Value) (Q : VK), Inv X pins σ H s → Vals xs us → r xs H Q →
    wpAny (model X.prog X.w) X.A (call f us) (EP X pins σ Q) X.xe s
noncomputable def TruR (X : Cx) (r : V → Hp → (Bool → Hp → Prop) → Prop) : Prop :=
  ∀ (pins : List (Addr × Obj)) (s : Shared) (σ : St) (H : Hp) (x : V) (v : Value) (Q : Bool → Hp → Prop), Inv X pins σ H s → RelV x v → r x H Q →
    wpAny (model X.prog X.w) X.A (truthy v) (TP X pins σ Q) X.xe s

noncomputable def tOp (r : R2) (ta tb : TE) : TE := fun σ H Q => ta σ H fun x H1 => tb σ H1 fun y H2 => r x y H2 Q
noncomputable def tUn (r : V → Hp → VK → Prop) (ta : TE) : TE := fun σ H Q => ta σ H fun x H1 => r x H1 Q
noncomputable def rI (C : Int → Int → Prop) (g : Int → Int → V) : R2 := fun x y H Q => ∃ i j, x = .int i ∧ y = .int j ∧ C i j ∧ Q (g i j) H
noncomputable def rI0 (g : Int → Int → V) : R2 := fun x y H Q => ∃ i j, x = .int i ∧ y = .int j ∧ Q (g i j) H
noncomputable def rU (g : Int → V) : V → Hp → VK → Prop := fun x H Q => ∃ i, x = .int i ∧ Q (g i) H

section
variable {X : Cx} {a b c : Expr} {ta tb tc : TE} {pos : Pos}

theorem binT (ha : PE X a ta) (hb : PE X b tb) {pins : List (Addr × Obj)} {s : Shared} {σ : St} {H : Hp} {R : V → V → Hp → Prop} (I : Inv X pins σ H s)
    (h : ta σ H fun x H1 => tb σ H1 fun y H2 => R x y H2) {Q : Value → Shared → Prop} {f : Value → Value → Sem Value}
    (hf : ∀ v u s2 x y H2, Inv X pins σ H2 s2 → RelV x v → RelV y u → R x y H2 → wpAny (model X.prog X.w) X.A (f v u) Q X.xe s2) :
    wpAny (model X.prog X.w) X.A (eval a X.env) (fun v s₁ => wpAny (model X.prog X.w) X.A (eval b X.env) (fun u s₂ => wpAny (model X.prog X.w) X.A (f v u) Q X.xe s₂) X.xe s₁) X.xe s := by
  refine thn (ha pins s σ H _ I h) fun v s1 ⟨x, H1, I1, r1, q1⟩ => ?_
  refine thn (hb pins s1 σ H1 _ I1 q1) fun u s2 ⟨y, H2, I2, r2, q2⟩ => ?_
  exact hf v u s2 x y H2 I2 r1 r2 q2

theorem pe_op {op : Operator} {r : R2} (ho : OpR X (binaryOp op) r) (ha : PE X a ta) (hb : PE X b tb) : PE X (.BinOp a op b pos) (tOp r ta tb) := by
  intro pins s σ H Q I h
  exact wpAny_BinOp (binT ha hb I h fun v u s2 x y H2 I2 rx ry q => ho pins s2 σ H2 x y v u Q I2 rx ry q)
theorem pe_un {op : UnaryOp} {r : V → Hp → VK → Prop} (ho : UnR X (unaryOp op) r) (ha : PE X a ta) : PE X (.UnaryOp op a pos) (tUn r ta) := by
  intro pins s σ H Q I h
  exact UnaryOp_ (thn (ha pins s σ H _ I h) fun v s1 ⟨x, H1, I1, r1, q1⟩ => ho pins s1 σ H1 x v Q I1 r1 q1)
theorem opI {f : Value → Value → Sem Value} {C : Int → Int → Prop} {g : Int → Int → Int}
    (rule : ∀ (i j : Int) (t u : Tok) (s : Shared) (Q : Value → Shared → Prop) (E : Value → Shared → Prop), C i j → Q (.int (g i j) s.toks) { s with toks := s.toks + 1 } → wpAny (model X.prog X.w) X.A (f (.int i t) (.int j u)) Q E s) :
    OpR X f (rI C fun i j => .int (g i j)) := by
  intro pins s σ H x y v u Q I rx ry h
  obtain ⟨i, j, rfl, rfl, hc, q⟩ := h
  obtain ⟨t, rfl⟩ := rx
  obtain ⟨t', rfl⟩ := ry
  exact rule i j t t' s _ _ hc ⟨.int (g i j), H, I.tok _, ⟨_, rfl⟩, q⟩
theorem opI0 {f : Value → Value → Sem Value} {g : Int → Int → Int}
    (rule : ∀ (i j : Int) (t u : Tok) (s : Shared) (Q : Value → Shared → Prop) (E : Value → Shared → Prop), Q (.int (g i j) s.toks) { s with toks := s.toks + 1 } → wpAny (model X.prog X.w) X.A (f (.int i t) (.int j u)) Q E s) :
    OpR X f (rI0 fun i j => .int (g i j)) := by
  intro pins s σ H x y v u Q I rx ry h
  obtain ⟨i, j, rfl, rfl, q⟩ := h
  obtain ⟨t, rfl⟩ := rx
  obtain ⟨t', rfl⟩ := ry
  exact rule i j t t' s _ _ ⟨.int (g i j), H, I.tok _, ⟨_, rfl⟩, q⟩
theorem opB0 {f : Value → Value → Sem Value} {g : Int → Int → Bool}
    (rule : ∀ (i j : Int) (t u : Tok) (s : Shared) (Q : Value → Shared → Prop) (E : Value → Shared → Prop), Q (.bool (g i j)) s → wpAny (model X.prog X.w) X.A (f (.int i t) (.int j u)) Q E s) :
    OpR X f (rI0 fun i j => .bl (g i j)) := by
  intro pins s σ H x y v u Q I rx ry h
  obtain ⟨i, j, rfl, rfl, q⟩ := h
  obtain ⟨t, rfl⟩ := rx
  obtain ⟨t', rfl⟩ := ry
  exact rule i j t t' s _ _ ⟨.bl (g i j), H, I, rfl, q⟩

noncomputable def CDiv (i j : Int) : Prop := 0 < j ∧ j < 1073741824
noncomputable def CPow (i j : Int) : Prop := 0 ≤ j ∧ j ≤ 1000000 ∧ i.natAbs < 2 ^ 64
noncomputable def CMul (i j : Int) : Prop := (-(2 ^ 64) < i ∧ i < 2 ^ 64) ∨ (-(2 ^ 64) < j ∧ j < 2 ^ 64)
theorem CMul.ok {i j : Int} (h : CMul i j) : IntMulOk i j := by
  rcases h with ⟨h1, h2⟩ | ⟨h1, h2⟩
  · exact .of_left (intBits_le_64 h1 h2)
  · exact .of_right (intBits_le_64 h1 h2)
theorem op_add : OpR X (binaryOp .Add) (rI0 fun i j => .int (i + j)) := opI0 fun _ _ _ _ _ _ _ q => add_int q
theorem op_sub : OpR X (binaryOp .Sub) (rI0 fun i j => .int (i - j)) := opI0 fun _ _ _ _ _ _ _ q => sub_int q
theorem op_mul : OpR X (binaryOp .Mult) (rI CMul fun i j => .int (i * j)) := opI fun _ _ _ _ _ _ _ hc q => mul_int q hc.ok
theorem op_fdiv : OpR X (binaryOp .FloorDiv) (rI CDiv fun i j => .int (i / j)) := opI fun i j _ _ _ _ _ hc q => by
  have h1 : (0 : Int) < j := hc.1
  have h2 : j < 1073741824 := hc.2
  exact floordiv_int (by omega) (by rw [Int.fdiv_eq_ediv_of_nonneg i (by omega)]; exact q) (.inl (PyProof.noPylong_small (by omega)))
theorem op_mod : OpR X (binaryOp .Mod) (rI (fun _ j => 0 < j) fun i j => .int (i % j)) := opI fun i j _ _ _ _ _ hc q => by
  have h1 : (0 : Int) < j := hc
  exact mod_int' (by omega) (by rw [Int.fmod_eq_emod_of_nonneg i (by omega)]; exact q)
theorem op_pow : OpR X (binaryOp .Pow) (rI CPow fun i j => .int (i ^ j.toNat)) := opI fun _ _ _ _ _ _ _ hc q => pow_int_small hc.1 hc.2.1 hc.2.2 q
theorem unI {f : Value → Sem Value} {g : Int → Int}
    (rule : ∀ (i : Int) (t : Tok) (s : Shared) (Q : Value → Shared → Prop) (E : Value → Shared → Prop), Q (.int (g i) s.toks) { s with toks := s.toks + 1 } → wpAny (model X.prog X.w) X.A (f (.int i t)) Q E s) :
    UnR X f (rU fun i => .int (g i)) := by
  intro pins s σ H x v Q I rx h
  obtain ⟨i, rfl, q⟩ := h
  obtain ⟨t, rfl⟩ := rx
  exact rule i t s _ _ ⟨.int (g i), H, I.tok _, ⟨_, rfl⟩, q⟩
theorem un_neg : UnR X (unaryOp .USub) (rU fun i => .int (-i)) := unI fun _ _ _ _ _ q => neg_int q
end

noncomputable def scal : V → V → Bool
  | .non, .non => true | .non, .int _ => true | .int _, .non => true | .non, .bl _ => true | .bl _, .non => true | .non, .str _ => true | .str _, .non => true
  | .int _, .int _ => true | .bl _, .bl _ => true | .str _, .str _ => true | .byt _, .byt _ => true
  | .int _, .str _ => true | .str _, .int _ => true | .bl _, .str _ => true | .str _, .bl _ => true
  | _, _ => false
noncomputable def rEq : R2 := fun x y H Q => scal x y = true ∧ Q (.bl (decide (x = y))) H
noncomputable def rNe : R2 := fun x y H Q => scal x y = true ∧ Q (.bl (!decide (x = y))) H

theorem dec_int {i j : Int} : decide (V.int i = V.int j) = (i == j) := by
  rw [Bool.eq_iff_iff]
  simp
theorem dec_bl {i j : Bool} : decide (V.bl i = V.bl j) = (i == j) := by
  rw [Bool.eq_iff_iff]
  simp
theorem dec_str {i j : Str} : decide (V.str i = V.str j) = (i == j) := by
  rw [Bool.eq_iff_iff]
  simp
theorem dec_byt {i j : Array UInt8} : decide (V.byt i = V.byt j) = (i.toList == j.toList) := by
  rw [Bool.eq_iff_iff]
  cases i
  cases j
  simp

section
variable {X : Cx} {a b c : Expr} {ta tb tc : TE} {pos : Pos}
theorem fin_bl {pins : List (Addr × Obj)} {σ : St} {H : Hp} {s : Shared} {Q : VK} {k k' : Bool} (I : Inv X pins σ H s) (q : Q (.bl k) H) (e : k = k') : EP X pins σ Q (.bool k') s := by
  subst e
  exact ⟨.bl k, H, I, rfl, q⟩
theorem op_eq : OpR X (compareOp .Eq) rEq := by
  intro pins s σ H x y v u Q I rx ry h
  obtain ⟨hs, q⟩ := h
  cases x with
  | non =>
    cases rx
    cases y with
    | non => cases ry; exact PySem.EqNone.eq_none_none (fin_bl I q (by simp))
    | bl j => cases ry; exact PySem.EqNone.eq_none_bool (fin_bl I q (by simp))
    | int j => obtain ⟨t', rfl⟩ := ry; exact PySem.EqNone.eq_none_int (fin_bl I q (by simp))
    | str j => obtain ⟨t', rfl⟩ := ry; exact PySem.EqNone.eq_none_str (fin_bl I q (by simp))
    | _ => exact absurd (show false = true from hs) Bool.false_ne_true
  | bl i =>
    cases rx
    cases y with
    | non => cases ry; exact PySem.EqNone.eq_bool_none (fin_bl I q (by simp))
    | bl j => cases ry; exact eq_bool (fin_bl I q dec_bl)
    | str j => obtain ⟨t', rfl⟩ := ry; exact PySem.EqMixed.eq_bool_str (fin_bl I q (by simp))
    | _ => exact absurd (show false = true from hs) Bool.false_ne_true
  | int i =>
    obtain ⟨t, rfl⟩ := rx
    cases y with
    | non => cases ry; exact PySem.EqNone.eq_int_none (fin_bl I q (by simp))
    | int j => obtain ⟨t', rfl⟩ := ry; exact eq_int (fin_bl I q dec_int)
    | str j => obtain ⟨t', rfl⟩ := ry; exact PySem.EqMixed.eq_int_str (fin_bl I q (by simp))
    | _ => exact absurd (show false = true from hs) Bool.false_ne_true
  | str i =>
    obtain ⟨t, rfl⟩ := rx
    cases y with
    | non => cases ry; exact PySem.EqNone.eq_str_none (fin_bl I q (by simp))
    | bl j => cases ry; exact PySem.EqMixed.eq_str_bool (fin_bl I q (by simp))
    | int j => obtain ⟨t', rfl⟩ := ry; exact PySem.EqMixed.eq_str_int (fin_bl I q (by simp))
    | str j => obtain ⟨t', rfl⟩ := ry; exact eq_str (fin_bl I q dec_str)
    | _ => exact absurd (show false = true from hs) Bool.false_ne_true
  | byt i =>
    obtain ⟨t, rfl⟩ := rx
    cases y with
    | byt j => obtain ⟨t', rfl⟩ := ry; exact PySem.W.eq_bytes (fin_bl I q dec_byt)
    | _ => exact absurd (show false = true from hs) Bool.false_ne_true
  | _ => cases y <;> exact absurd (show false = true from hs) Bool.false_ne_true
theorem op_ne : OpR X (compareOp .NotEq) rNe := by
  intro pins s σ H x y v u Q I rx ry h
  obtain ⟨hs, q⟩ := h
  cases x with
  | non =>
    cases rx
    cases y with
    | non => cases ry; exact PySem.EqNone.ne_none_none (fin_bl I q (by simp))
    | bl j => cases ry; exact PySem.EqNone.ne_none_bool (fin_bl I q (by simp))
    | int j => obtain ⟨t', rfl⟩ := ry; exact PySem.EqNone.ne_none_int (fin_bl I q (by simp))
    | str j => obtain ⟨t', rfl⟩ := ry; exact PySem.EqNone.ne_none_str (fin_bl I q (by simp))
    | _ => exact absurd (show false = true from hs) Bool.false_ne_true
  | bl i =>
    cases rx
    cases y with
    | non => cases ry; exact PySem.EqNone.ne_bool_none (fin_bl I q (by simp))
    | bl j => cases ry; exact ne_bool (fin_bl I q (congrArg not dec_bl))
    | str j => obtain ⟨t', rfl⟩ := ry; exact PySem.EqMixed.ne_bool_str (fin_bl I q (by simp))
    | _ => exact absurd (show false = true from hs) Bool.false_ne_true
  | int i =>
    obtain ⟨t, rfl⟩ := rx
    cases y with
    | non => cases ry; exact PySem.EqNone.ne_int_none (fin_bl I q (by simp))
    | int j => obtain ⟨t', rfl⟩ := ry; exact ne_int (fin_bl I q (congrArg not dec_int))
    | str j => obtain ⟨t', rfl⟩ := ry; exact PySem.EqMixed.ne_int_str (fin_bl I q (by simp))
    | _ => exact absurd (show false = true from hs) Bool.false_ne_true
  | str i =>
    obtain ⟨t, rfl⟩ := rx
    cases y with
    | non => cases ry; exact PySem.EqNone.ne_str_none (fin_bl I q (by simp))
    | bl j => cases ry; exact PySem.EqMixed.ne_str_bool (fin_bl I q (by simp))
    | int j => obtain ⟨t', rfl⟩ := ry; exact PySem.EqMixed.ne_str_int (fin_bl I q (by simp))
    | str j => obtain ⟨t', rfl⟩ := ry; exact ne_str (fin_bl I q (congrArg not dec_str))
    | _ => exact absurd (show false = true from hs) Bool.false_ne_true
  | byt i =>
    obtain ⟨t, rfl⟩ := rx
    cases y with
    | byt j => obtain ⟨t', rfl⟩ := ry; exact PySem.W.ne_bytes (fin_bl I q (congrArg not dec_byt))
    | _ => exact absurd (show false = true from hs) Bool.false_ne_true
  | _ => cases y <;> exact absurd (show false = true from hs) Bool.false_ne_true

theorem op_lt : OpR X (compareOp .Lt) (rI0 fun i j => .bl (decide (i < j))) := opB0 fun _ _ _ _ _ _ _ q => lt_int q
theorem op_le : OpR X (compareOp .LtE) (rI0 fun i j => .bl (decide (i ≤ j))) := opB0 fun _ _ _ _ _ _ _ q => le_int q
theorem op_gt : OpR X (compareOp .Gt) (rI0 fun i j => .bl (decide (j < i))) := opB0 fun _ _ _ _ _ _ _ q => gt_int q
theorem op_isN : OpR X (compareOp .Is) (fun x y H Q => y = .non ∧ Q (.bl (decide (x = .non))) H) := by
  intro pins s σ H x y v u Q I rx ry h
  obtain ⟨rfl, q⟩ := h
  cases ry
  refine is_none_gen (fin_bl I q ?_)
  cases x <;> first
    | (cases rx; rfl)
    | (obtain ⟨t, rfl⟩ := rx; rfl)
theorem nomark (b : Expr) {op : CmpOp} (h : op ≠ .In := by decide) (h2 : op ≠ .NotIn := by decide) : behindInMarks op b = false := by
  have e1 : (op == CmpOp.In) = false := by cases op <;> first | rfl | exact absurd rfl h
  have e2 : (op == CmpOp.NotIn) = false := by cases op <;> first | rfl | exact absurd rfl h2
  cases b <;> simp [behindInMarks, e1, e2]
theorem pe_cmpR {op : CmpOp} {r : R2} (ho : OpR X (compareOp op) r) (ha : PE X a ta) (hb : PE X b tb) (hm : behindInMarks op b = false) : PE X (.Compare a [op] [b] pos) (tOp r ta tb) := by
  intro pins s σ H Q I h
  exact wpAny_Compare1 (binT ha hb I h fun v u s2 x y H2 I2 rx ry q => ho pins s2 σ H2 x y v u Q I2 rx ry q) hm
noncomputable def tTest (t : TE) : TT := fun σ H Q => t σ H fun x H' => ∃ k, x = .bl k ∧ Q k H'
theorem pt_cmpR {op : CmpOp} {r : R2} (ho : OpR X (compareOp op) r) (ha : PE X a ta) (hb : PE X b tb) (hm : behindInMarks op b = false) : PT X (.Compare a [op] [b] pos) (tTest (tOp r ta tb)) := by
  intro pins s σ H Q I h
  refine wpAny_isTrue_Compare1 (thn (ha pins s σ H _ I h) fun v s1 ⟨x, H1, I1, r1, q1⟩ => thn (hb pins s1 σ H1 _ I1 q1) fun u s2 ⟨y, H2, I2, r2, q2⟩ =>
    thn (ho pins s2 σ H2 x y v u _ I2 r1 r2 q2) fun c s3 ⟨z, H3, I3, r3, k, e, q3⟩ => ?_) hm
  subst e
  cases r3
  exact wpAny_truthy_bool ⟨H3, I3, q3⟩
noncomputable def TruV (K : PySem.W.Frag) (x : V) (H : Hp) (k : Bool) : Prop :=
  match x with
  | .non => k = false
  | .bl b => k = b
  | .int i => k = (i != 0)
  | .str y => y.length ≤ sizeLine ∧ k = ((y.length : Int) != 0)
  | .byt y => y.size ≤ sizeLine ∧ k = ((y.size : Int) != 0)
  | .ref p => (∃ xs, SqL K H p xs ∧ k = !xs.isEmpty) ∨ (∃ xs, SqT K H p xs ∧ k = !xs.isEmpty) ∨ ∃ kvs, H p = some (.dK kvs) ∧ k = !kvs.isEmpty
  | _ => False
theorem isEmpty_kv {κ : Type} {kvs : List (κ × V)} {vs : List (κ × Value)} (r : KV kvs vs) : (!vs.isEmpty) = !kvs.isEmpty := by
  cases r <;> rfl
theorem isEmpty_of {xs : List V} {its : List Value} (r : Vals xs its) : (!its.toArray.isEmpty) = !xs.isEmpty := by
  cases r <;> simp
theorem line63 : (sizeLine : Nat) < 2 ^ 63 := by rw [sizeLine_eq]; decide
theorem tru_ok : TruR X (fun x H Q => ∃ k, TruV X.K x H k ∧ Q k H) := by
  intro pins s σ H x v Q I rx h
  obtain ⟨k, e, q⟩ := h
  have hl := line63
  have hs : sizeLine = 16777216 := sizeLine_eq
  cases x with
  | non =>
    cases rx
    have e' : k = false := e
    subst e'
    exact truthy_none ⟨H, I, q⟩
  | bl b =>
    cases rx
    have e' : k = b := e
    subst e'
    exact wpAny_truthy_bool ⟨H, I, q⟩
  | int i =>
    obtain ⟨t, rfl⟩ := rx
    have e' : k = (i != 0) := e
    subst e'
    exact PySem.P.truthy_int ⟨H, I, q⟩
  | str y =>
    obtain ⟨t, rfl⟩ := rx
    obtain ⟨hy, e'⟩ : y.length ≤ sizeLine ∧ k = ((y.length : Int) != 0) := e
    subst e'
    exact PySem.P.truthy_str (by omega) ⟨H, I.tok _, q⟩
  | byt y =>
    obtain ⟨t, rfl⟩ := rx
    obtain ⟨hy, e'⟩ : y.size ≤ sizeLine ∧ k = ((y.size : Int) != 0) := e
    subst e'
    exact PySem.W.truthy_bytes (by omega) ⟨H, I.tok _, q⟩
  | ref p =>
    cases rx
    have e' : (∃ xs, SqL X.K H p xs ∧ k = !xs.isEmpty) ∨ (∃ xs, SqT X.K H p xs ∧ k = !xs.isEmpty) ∨ ∃ kvs, H p = some (.dK kvs) ∧ k = !kvs.isEmpty := e
    rcases e' with ⟨xs, hx, e'⟩ | ⟨xs, hx, e'⟩ | ⟨kvs, hx, e'⟩
    · subst e'
      obtain ⟨its, r, pl, hz⟩ := I.list hx
      have hlen := r.length
      exact wpAny_truthy_list pl.isList (by simp only [List.size_toArray]; omega) ⟨H, I.tok _, by rw [isEmpty_of r]; exact q⟩
    · subst e'
      obtain ⟨its, r, pl, hz⟩ := I.tuple hx
      have hlen := r.length
      exact truthy_tuple pl (by simp only [List.size_toArray]; omega) ⟨H, I.tok _, by rw [isEmpty_of r]; exact q⟩
    · subst e'
      obtain ⟨hz, hS, vs, r, m⟩ : kvs.length ≤ sizeLine ∧ (p == sysModules) = false ∧ ∃ vs, KV kvs vs ∧ s.heap.DictOf (mixKind X.prog X.w) p vs := I.hok p _ hx
      have hlen : kvs.length = vs.length := Paired.length r
      exact wpAny_truthy_dict hS m (by omega) ⟨H, I.tok _, by rw [isEmpty_kv r]; exact q⟩
  | _ => exact (show False from e).elim
theorem pt_truth (ha : PE X a ta) (he : ∀ whole, isTrue a X.env whole = (do let v ← whole; standAt a.pos; holding [v] (truthy v))) :
    PT X a (fun σ H Q => ta σ H fun x H' => ∃ k, TruV X.K x H' k ∧ Q k H') := by
  intro pins s σ H Q I h
  exact isTrue_plain (thn (ha pins s σ H _ I h) fun v s1 ⟨x, H1, I1, r1, q1⟩ => tru_ok pins s1 σ H1 x v Q I1 r1 q1) (he _)

theorem op_add_str : OpR X (binaryOp .Add) (fun x y H Q => ∃ i j, x = .str i ∧ y = .str j ∧ i.length + j.length ≤ sizeLine ∧ Q (.str (i ++ j)) H) := by
  intro pins s σ H x y v u Q I rx ry h
  obtain ⟨i, j, rfl, rfl, hz, q⟩ := h
  obtain ⟨t, rfl⟩ := rx
  obtain ⟨t', rfl⟩ := ry
  exact add_str (fun t' tk => ⟨.str (i ++ j), H, I.tok _, ⟨_, rfl⟩, q⟩) hz
theorem vals1 {x : V} {us : List Value} (r : Vals [x] us) : ∃ u, us = [u] ∧ RelV x u := by
  cases r with
  | cons r1 r2 => cases r2; exact ⟨_, rfl, r1⟩
theorem call_abs : CallR X (.builtin "abs") (fun xs H Q => ∃ i, xs = [.int i] ∧ Q (.int (if i < 0 then -i else i)) H) := by
  intro pins s σ H xs us Q I r h
  obtain ⟨i, rfl, q⟩ := h
  obtain ⟨u, rfl, t, rfl⟩ := vals1 r
  exact call_abs_int fun u tk => ⟨.int (if i < 0 then -i else i), H, I.tok _, ⟨_, rfl⟩, q⟩
theorem call_int1 : CallR X (.type "int") (fun xs H Q => (∃ i, xs = [.int i] ∧ Q (.int i) H) ∨ ∃ k, xs = [.bl k] ∧ Q (.int (if k then 1 else 0)) H) := by
  intro pins s σ H xs us Q I r h
  rcases h with ⟨i, rfl, q⟩ | ⟨k, rfl, q⟩
  · obtain ⟨u, rfl, t, rfl⟩ := vals1 r
    exact call_int_int ⟨.int i, H, I, ⟨_, rfl⟩, q⟩
  · obtain ⟨u, rfl, r1⟩ := vals1 r
    cases r1
    exact call_int_bool ⟨.int (if k then 1 else 0), H, I.tok _, ⟨_, rfl⟩, q⟩
theorem call_str_int : CallR X (.type "str") (fun xs H Q => ∃ i, xs = [.int i] ∧ i.natAbs.log2 < 1920 ∧ Q (.str (toString i)) H) := by
  intro pins s σ H xs us Q I r h
  obtain ⟨i, rfl, hz, q⟩ := h
  obtain ⟨u, rfl, t, rfl⟩ := vals1 r
  exact PySem.P.str_of_int hz ⟨.str _, H, I.tok _, ⟨_, rfl⟩, q⟩
end
end L2

namespace L2
open PySem PySem.Spec PyProof.Rows

structure ObjM (h : Heap) (x dx C : Addr) (mA : Str → Option Value) : Prop where
  obj : h.get? x = some (PySem.W.instObj C dx)
  ns : h.Ns1 dx mA
  ne : dx ≠ x

theorem lookIn_ns {h : Heap} {dx : Addr} {mA : Str → Option Value} (n : h.Ns1 dx mA) : ∃ od, h.get? dx = some od ∧ ∀ name, PySem.W.lookIn name od = some (mA name) := by
  obtain ⟨o, es, ep, ho, hd, hk, _, hm⟩ := n
  refine ⟨o, ho, fun name => ?_⟩
  have e := hm name
  unfold nsFind findBy at e
  rw [← Array.find?_toList] at e
  unfold PySem.W.lookIn
  rw [hd]
  dsimp only
  split
  · rename_i y q
    rw [q] at e
    exact congrArg some e
  · rename_i q
    rw [q] at e
    have a : es.toList.any (·.refKey) = false := by
      rw [List.any_eq_false]
      intro y hy
      obtain ⟨z, t, hkey⟩ := hk y (Array.mem_toList_iff.mp hy)
      simp [DictEntry.refKey, hkey]
    have a' : ¬ es.toList.any (·.refKey) = true := by rw [a]; exact Bool.false_ne_true
    rw [if_neg a']
    exact congrArg some e

theorem ObjM.look {h : Heap} {x dx C : Addr} {mA : Str → Option Value} (I : ObjM h x dx C mA) : ∃ od, PySem.W.InstAt h x (PySem.W.instObj C dx) C (some od) ∧ ∀ name, PySem.W.lookIn name od = some (mA name) :=
  let ⟨od, ho, hl⟩ := lookIn_ns I.ns
  ⟨od, ⟨I.obj, rfl, rfl, ho⟩, hl⟩

section
variable {prog : Program} {w : World} {A : Around} {E : Value → Shared → Prop} {s : Shared} {K : PySem.W.Frag} {x dx C f : Addr} {mA : Str → Option Value} {name : Str} {v : Value}

theorem get_map {expr : Bool} {Q : Value → Shared → Prop} (X : K.In s.heap) (I : ObjM s.heap x dx C mA) (hg : PySem.W.plainGet K C name = true) (hh : PySem.W.hasDictIn K C = true)
    (ha : PySem.W.findIn K (.ref C) name = some none) (hv : mA name = some v) (hv' : PySem.W.handedIn v = true) (h : Q v { s with toks := s.toks + 1 }) :
    wpAny (model prog w) A (getAttr (.ref x) name expr) Q E s := by
  obtain ⟨od, J, hl⟩ := I.look
  exact PySem.W.get_value X J (PySem.W.plainGet_of hg).1 (PySem.W.findObj_own hh ha rfl (by rw [hl, hv])) hv' h

theorem set_map {ns : List Str} {Q : Unit → Shared → Prop} (X : K.In s.heap) (I : ObjM s.heap x dx C mA)
    (hs : PySem.W.findIn K (.ref C) "__setattr__" = some (some (.builtin "object.__setattr__"))) (hp : PySem.W.plainOver K C = true) (ht : PySem.W.takerIn K C name = some none) (hh : PySem.W.hasDictIn K C = true)
    (hw : PySem.Within mA ns) (hsz : ns.length ≤ sizeLine)
    (h : ∀ h', ObjM h' x dx C (fun y => if y = name then some v else mA y) → Heap.SameBut dx s.heap h' → Q () { s with heap := h', toks := s.toks + 2 }) :
    wpAny (model prog w) A (setAttr (.ref x) name v) Q E s := by
  obtain ⟨od, J, hl⟩ := I.look
  refine PySem.W.set_plain X J hs (PySem.W.osa_open (s := { s with toks := s.toks + 1 }) (r := none) X J hp ht fun b => ?_)
  obtain ⟨cd, hc, hd'⟩ := PySem.W.any_some hh
  have hx : s.heap.get? x = some ⟨.ref C, some dx, .plain, #[]⟩ := I.obj
  refine wpAny_bind (wpAny_pure (wpAny_bind (wpAny_bind (wpAny_loadPart hx (wpAny_bind (PySem.W.Looks.here (s := { s with toks := s.toks + 1 }) (PySem.W.looks_clsIn X hc) ?_))))))
  rw [hd']
  refine wpAny_pure (a := some dx) (wpAny_bind (wpAny_pure (wpAny_bind ?_)))
  refine wpAny_nsSet1 (s := { s with toks := s.toks + 1 }) I.ns fun h' hn2 hs2 => ?_
  obtain ⟨oD, esD, epD, hoD, hdD, hcD⟩ := hn2.count (PySem.Within.cons name v hw)
  refine wpAny_bind (wpAny_lookBehind hoD (by rw [hdD]; exact pastItsLine_dict (Nat.le_trans hcD (by rw [List.length_cons]; omega))) ?_)
  exact wpAny_pure (h _ ⟨(hs2.2 _ (Ne.symm I.ne)).trans I.obj, hn2, I.ne⟩ hs2)

theorem make_map {R : Result → Shared → Prop} {vs : List Value} {kw : List (Str × Value)} (X : K.In s.heap) (hm : PySem.W.makesIn K C = true)
    (hi : PySem.W.findIn K (.ref C) "__init__" = some (some (.ref f))) (hf : PySem.W.typeIn K (.ref f) = some (.type "function"))
    (h : codeAny (model prog w) (A.under (.builtin "type.__call__" ⟨.ref C :: vs, kw⟩)) (.call (.ref f) ⟨.ref (s.heap.objs.size + 1) :: vs, kw⟩) (PySem.W.InitBack (s.heap.objs.size + 1) R)
      { s with heap := (s.heap.push PySem.W.emptyDict).push (PySem.W.instObj C s.heap.objs.size) }) :
    codeAny (model prog w) A (.call (.ref C) ⟨vs, kw⟩) R s := by
  obtain ⟨hh, g, d, t, os⟩ := s
  exact PySem.W.make_core (PySem.W.makes_of X hm) (PySem.W.looks_findIn X hi) (fun self => PySem.W.bind_fn X self hf) (.inl rfl) h
end

noncomputable def putF (f : Str) (v : V) : List (Str × V) → List (Str × V)
  | [] => [(f, v)]
  | (g, x) :: r => if g = f then (g, v) :: r else (g, x) :: putF f v r
theorem lookup_putF (f g : Str) (v : V) : ∀ fs : List (Str × V), (putF f v fs).lookup g = if g = f then some v else fs.lookup g
  | [] => by
    show List.lookup g [(f, v)] = _
    by_cases h : g = f
    · have hb : (g == f) = true := beq_iff_eq.mpr h
      simp only [List.lookup, hb, if_pos h]
    · have hb : (g == f) = false := beq_eq_false_iff_ne.mpr h
      simp only [List.lookup, hb, if_neg h]
  | (k, x) :: r => by
    have ih := lookup_putF f g v r
    rw [show putF f v ((k, x) :: r) = (if k = f then (k, v) :: r else (k, x) :: putF f v r) from rfl]
    by_cases hk : k = f
    · rw [if_pos hk]
      by_cases h : g = k
      · have hb : (g == k) = true := beq_iff_eq.mpr h
        simp only [List.lookup, hb, if_pos (h.trans hk)]
      · have hb : (g == k) = false := beq_eq_false_iff_ne.mpr h
        simp only [List.lookup, hb, if_neg (fun e : g = f => h (e.trans hk.symm))]
    · rw [if_neg hk]
      by_cases h : g = k
      · have hb : (g == k) = true := beq_iff_eq.mpr h
        simp only [List.lookup, hb, if_neg (fun e : g = f => hk (h.symm.trans e))]
      · have hb : (g == k) = false := beq_eq_false_iff_ne.mpr h
        simp only [List.lookup, hb]
        exact ih
theorem keys_putF (f : Str) (v : V) : ∀ fs : List (Str × V), f ∈ (putF f v fs).map (·.1) ∧ ∀ g, g ∈ fs.map (·.1) → g ∈ (putF f v fs).map (·.1)
  | [] => ⟨by simp [putF], fun g h => by simp at h⟩
  | (k, x) :: r => by
    obtain ⟨i1, i2⟩ := keys_putF f v r
    rw [show putF f v ((k, x) :: r) = (if k = f then (k, v) :: r else (k, x) :: putF f v r) from rfl]
    by_cases hk : k = f
    · rw [if_pos hk]
      subst hk
      exact ⟨by simp, fun g h => by simpa using h⟩
    · rw [if_neg hk]
      refine ⟨?_, fun g h => ?_⟩
      · rw [List.map_cons]
        exact List.mem_cons_of_mem _ i1
      · rw [List.map_cons] at h ⊢
        rcases List.mem_cons.mp h with e | e
        · exact List.mem_cons.mpr (.inl e)
        · exact List.mem_cons_of_mem _ (i2 g e)
theorem length_putF (f : Str) (v : V) : ∀ fs : List (Str × V), (putF f v fs).length ≤ fs.length + 1
  | [] => by simp [putF]
  | (k, x) :: r => by
    have ih := length_putF f v r
    rw [show putF f v ((k, x) :: r) = (if k = f then (k, v) :: r else (k, x) :: putF f v r) from rfl]
    by_cases hk : k = f
    · rw [if_pos hk, List.length_cons, List.length_cons]; omega
    · rw [if_neg hk, List.length_cons, List.length_cons]; omega

theorem RelO.some_of {v : V} {o : Option Value} (r : RelO (some v) o) : ∃ u, o = some u ∧ RelV v u := by
  cases o with
  | none => exact (show False from r).elim
  | some u => exact ⟨u, rfl, r⟩
theorem handed_of {v : V} {u : Value} (r : RelV v u) : PySem.W.handedIn u = true := by
  cases v with
  | non => cases (show u = Value.none from r); rfl
  | bl b => cases (show u = Value.bool b from r); rfl
  | int i => obtain ⟨t, e⟩ := (show ∃ t, u = Value.int i t from r); cases e; rfl
  | str x => obtain ⟨t, e⟩ := (show ∃ t, u = Value.str x t from r); cases e; rfl
  | byt b => obtain ⟨t, e⟩ := (show ∃ t, u = Value.bytes b t from r); cases e; rfl
  | flt b => obtain ⟨t, e⟩ := (show ∃ t, u = Value.float b t from r); cases e; rfl
  | ref a => cases (show u = Value.ref a from r); rfl
  | ty n => cases (show u = Value.type n from r); rfl

section
variable {P : Program} {w : World} {H H' : Hp} {h h' : Heap} {a C dx : Addr} {fs fs' : List (Str × V)}
theorem ins_get (hok : HOk P w H h) (e : H a = some (.ins C dx fs)) : ∃ mA, ObjM h a dx C mA ∧ (∀ f, RelO (fs.lookup f) (mA f)) ∧ PySem.Within mA (fs.map (·.1)) ∧ fs.length ≤ 1000 ∧ H dx = some (.own a) := by
  obtain ⟨d, z, ne, ob, mA, n, r, q⟩ := (show ObjOk P w H h a (.ins C dx fs) from hok a _ e)
  exact ⟨mA, ⟨ob, n, ne⟩, r, q, z, d⟩
end

structure Cls (K : PySem.W.Frag) (C : Addr) : Prop where
  pg : PySem.W.plainGet K C Str.empty = true
  hd : PySem.W.hasDictIn K C = true
  po : PySem.W.plainOver K C = true
  sa : PySem.W.findIn K (.ref C) "__setattr__" = some (some (.builtin "object.__setattr__"))
theorem Cls.get {K : PySem.W.Frag} {C : Addr} (c : Cls K C) (f : Str) : PySem.W.plainGet K C f = true := c.pg
noncomputable def NoAttr (K : PySem.W.Frag) (C : Addr) (f : Str) : Prop := PySem.W.findIn K (.ref C) f = some none
theorem NoAttr.taker {K : PySem.W.Frag} {C : Addr} {f : Str} (n : NoAttr K C f) : PySem.W.takerIn K C f = some none := by
  unfold PySem.W.takerIn
  rw [show PySem.W.findIn K (.ref C) f = some none from n]
  rfl
section
variable {X : Cx} {pins : List (Addr × Obj)} {σ : St} {H : Hp} {s : Shared} {a C dx : Addr} {fs : List (Str × V)} {f : Str} {v : V} {A : Around} {E : Value → Shared → Prop}

theorem getattr_ok {b : Bool} {Q : Value → Shared → Prop} (I : Inv X pins σ H s) (e : H a = some (.ins C dx fs)) (c : Cls X.K C) (n : NoAttr X.K C f) (l : fs.lookup f = some v)
    (h : ∀ u s', Inv X pins σ H s' → RelV v u → Q u s') : wpAny (model X.prog X.w) A (getAttr (.ref a) f b) Q E s := by
  obtain ⟨mA, O, r, _, _, _⟩ := ins_get I.hok e
  obtain ⟨u, hu, ru⟩ := RelO.some_of (v := v) (o := mA f) (by rw [← l]; exact r f)
  exact get_map I.kIn O (c.get f) c.hd n hu (handed_of ru) (h u _ (I.tok _) ru)

theorem setattr_ok {y : V} {u : Value} {Q : Unit → Shared → Prop} (I : Inv X pins σ H s) (e : H a = some (.ins C dx fs)) (c : Cls X.K C) (n : NoAttr X.K C f) (hl : fs.length < 1000) (ry : RelV y u)
    (h : ∀ s', Inv X pins σ (upd H a (.ins C dx (putF f y fs))) s' → Q () s') : wpAny (model X.prog X.w) A (setAttr (.ref a) f u) Q E s := by
  obtain ⟨mA, O, r, wi, _, ho⟩ := ins_get I.hok e
  have hz : (fs.map (·.1)).length ≤ sizeLine := by rw [List.length_map, sizeLine_eq]; omega
  refine set_map I.kIn O c.sa c.po n.taker c.hd wi hz fun h' O' sb => h _ ?_
  have hd : ∃ o, h'.get? dx = some o := let ⟨o, _, _, e', _⟩ := O'.ns; ⟨o, e'⟩
  refine I.write (x := a) (e := dx) (by rw [e]; exact True.intro) (.inr ho) (fun b q hb z => (sb.2 b hb).trans z) hd ?_
  refine ⟨by rw [upd_ne O.ne]; exact ho, ?_, O.ne, O'.obj, _, O'.ns, fun g => ?_, fun g hg => ?_⟩
  · have := length_putF f y fs; omega
  · show RelO ((putF f y fs).lookup g) (if g = f then some u else mA g)
    rw [lookup_putF]
    by_cases q : g = f
    · rw [if_pos q, if_pos q]; exact ry
    · rw [if_neg q, if_neg q]; exact r g
  · by_cases q : g = f
    · rw [q]; exact (keys_putF f y fs).1
    · refine (keys_putF f y fs).2 g (wi g fun z => hg ?_)
      show (if g = f then some u else mA g) = none
      rw [if_neg q]; exact z

theorem Inv.made (I : Inv X pins σ H s) : Inv X pins σ (upd (upd H s.heap.objs.size (.own (s.heap.objs.size + 1))) (s.heap.objs.size + 1) (.ins C s.heap.objs.size []))
    { s with heap := (s.heap.push PySem.W.emptyDict).push (PySem.W.instObj C s.heap.objs.size) } := by
  have e1 : (s.heap.push PySem.W.emptyDict).get? s.heap.objs.size = some PySem.W.emptyDict := Heap.get?_push_size s.heap rfl
  have e2 : ((s.heap.push PySem.W.emptyDict).push (PySem.W.instObj C s.heap.objs.size)).get? (s.heap.objs.size + 1) = some (PySem.W.instObj C s.heap.objs.size) := by
    have := Heap.get?_push_size (s.heap.push PySem.W.emptyDict) (o := PySem.W.instObj C s.heap.objs.size) rfl
    rwa [Heap.size_push] at this
  have e3 : (s.heap.push PySem.W.emptyDict).Ns s.heap.objs.size (fun _ => none) := ⟨PySem.W.emptyDict, #[], _, e1, rfl, (fun e he => absurd he (by simp)), fun _ => rfl⟩
  have I1 := I.laid (a := s.heap.objs.size) (o := .own (s.heap.objs.size + 1)) (h' := s.heap.push PySem.W.emptyDict) (t' := s.toks) (fun b u q => Heap.get?_push_of_some _ q) (Nat.le_refl _) ⟨_, e1⟩
  refine I1.laid (a := s.heap.objs.size + 1) (o := .ins C s.heap.objs.size []) (t' := s.toks) (fun b u q => Heap.get?_push_of_some _ q) (Nat.le_of_eq (Heap.size_push _ _)) ?_
  have ne : s.heap.objs.size ≠ s.heap.objs.size + 1 := Nat.ne_of_lt (Nat.lt_succ_self _)
  refine ⟨by rw [upd_ne ne, upd_same], Nat.zero_le _, ne, e2, fun _ => none, (Heap.Ns1.of_empty e3).at fun o q => Heap.get?_push_of_some _ q, fun _ => True.intro, fun y hy => absurd rfl hy⟩

theorem attr_of {prog : Program} {w : World} {env : Env} {e : Expr} {f : Str} {pos : Pos} {s : Shared} {Q : Value → Shared → Prop} (hb : attributeBase e f env (eval e env) = eval e env)
    (h : wpAny (model prog w) A (eval e env) (fun o s₁ => wpAny (model prog w) A (getAttr o f true) Q E s₁) E s) : wpAny (model prog w) A (eval (.Attribute e f pos) env) Q E s :=
  Attribute_any_ h (by rw [arm_eval_Attribute, hb])
end

noncomputable def tFld (K : PySem.W.Frag) (ta : TE) (f : Str) : TE := fun σ H Q => ta σ H fun x H1 => ∃ a C dx fs v, x = .ref a ∧ H1 a = some (.ins C dx fs) ∧ Cls K C ∧ NoAttr K C f ∧ fs.lookup f = some v ∧ Q v H1
noncomputable def sFld (K : PySem.W.Frag) (ta tv : TE) (f : Str) : TS := fun D σ H => tv σ H fun y H1 => ta σ H1 fun x H2 => ∃ a C dx fs, x = .ref a ∧ H2 a = some (.ins C dx fs) ∧ Cls K C ∧ NoAttr K C f ∧ fs.length < 1000 ∧
  D.nx σ (upd H2 a (.ins C dx (putF f y fs)))
section
variable {X : Cx} {o e value : Expr} {f : Str} {pos pos' tpos : Pos} {ta tv : TE}
theorem pe_fld (he : PE X e ta) (hb : attributeBase e f X.env (eval e X.env) = eval e X.env) : PE X (.Attribute e f pos) (tFld X.K ta f) := by
  intro pins s σ H Q I h
  refine attr_of hb (thn (he pins s σ H _ I h) fun u s1 ⟨x, H1, I1, rx, a, C, dx, fs, v, ex, ea, c, n, l, q⟩ => ?_)
  subst ex
  obtain rfl : u = Value.ref a := rx
  exact getattr_ok I1 ea c n l fun u' s2 I2 ru => ⟨v, H1, I2, ru, q⟩
theorem ps_fld (ha : PE X o ta) (hv : PE X value tv) (hs : swapsWith value (some (.Attribute o f pos')) pos.line X.env = pure false) : PS X (.Assign [.Attribute o f pos'] value pos) (sFld X.K ta tv f) := by
  intro pins s σ H D I h
  refine plainObj_wpAny_Assign_Attribute (thn (hv pins s σ H _ I h) fun u s1 ⟨y, H1, I1, ry, q⟩ => thn (ha pins s1 σ H1 _ I1 q) fun ov s2 ⟨x, H2, I2, rx, a, C, dx, fs, ex, ea, c, n, l, q2⟩ => ?_) hs
  subst ex
  obtain rfl : ov = Value.ref a := rx
  exact setattr_ok I2 ea c n l ry fun s3 I3 => ⟨σ, _, I3, q2⟩
end

section
variable {X : Cx} {pins : List (Addr × Obj)} {σ : St} {H : Hp} {s : Shared} {A : Around} {E : Value → Shared → Prop} {Q : Value → Shared → Prop} {c : Value} {b : Bool}
inductive TyOf (K : PySem.W.Frag) (H : Hp) : V → Value → Prop where
  | non : TyOf K H .non (.type "NoneType")
  | bl (x : Bool) : TyOf K H (.bl x) (.type "bool")
  | int (i : Int) : TyOf K H (.int i) (.type "int")
  | str (x : Str) : TyOf K H (.str x) (.type "str")
  | flt (x : UInt64) : TyOf K H (.flt x) (.type "float")
  | lst {a : Addr} {xs : List V} (e : H a = some (.lst xs)) : TyOf K H (.ref a) (.type "list")
  | frz {a : Addr} {o : Obj} {xs : List V} (e : H a = some (.frz o (.lst xs))) : TyOf K H (.ref a) (.type "list")
  | tup {a : Addr} {xs : List V} (e : H a = some (.tup xs)) : TyOf K H (.ref a) (.type "tuple")
  | dK {a : Addr} {kvs : List (Key × V)} (e : H a = some (.dK kvs)) : TyOf K H (.ref a) (.type "dict")
  | dT {a : Addr} {kvs : List (List Key × V)} (e : H a = some (.dT kvs)) : TyOf K H (.ref a) (.type "dict")
  | ins {a C dx : Addr} {fs : List (Str × V)} (e : H a = some (.ins C dx fs)) (cl : Cls K C) (ha : PySem.W.findIn K (.ref C) "__class__" = some (some (.builtin "object.__class__")))
      (hn : PySem.W.specialIn K (.builtin "object.__class__") "__get__" = some (some (.builtin "getset_descriptor.__get__"))) (htk : PySem.W.takesIn K (.builtin "object.__class__") = some true)
      (hm : PySem.W.mroIn K C (.type "object") = some true) : TyOf K H (.ref a) (.ref C)
theorem isinst_ok {x : V} {u t : Value} (I : Inv X pins σ H s) (rx : RelV x u) (ty : TyOf X.K H x t) (e : PySem.W.kitOne X.K t c = some b) (h : ∀ tk, Q (.bool b) { s with toks := tk }) :
    wpAny (model X.prog X.w) A (call (.builtin "isinstance") [u, c]) Q E s := by
  cases ty with
  | non => cases (show u = Value.none from rx); exact PySem.W.kia_one PySem.W.kitx_none I.kIn True.intro e (fun z => nomatch z) h
  | bl y => cases (show u = Value.bool y from rx); exact PySem.W.kia_one PySem.W.kitx_bool I.kIn True.intro e (fun z => nomatch z) h
  | int i => obtain ⟨t, q⟩ := (show ∃ t, u = Value.int i t from rx); cases q; exact PySem.W.kia_one PySem.W.kitx_int I.kIn True.intro e (fun z => nomatch z) h
  | str y => obtain ⟨t, q⟩ := (show ∃ t, u = Value.str y t from rx); cases q; exact PySem.W.kia_one PySem.W.kitx_str I.kIn True.intro e (fun z => nomatch z) h
  | flt y => obtain ⟨t, q⟩ := (show ∃ t, u = Value.float y t from rx); cases q; exact PySem.W.kia_one PySem.W.kitx_float I.kIn True.intro e (fun z => nomatch z) h
  | @lst a xs ea =>
    cases (show u = Value.ref a from rx)
    obtain ⟨_, _, n, _, h1⟩ := (show ObjOk X.prog X.w H s.heap a (.lst xs) from I.hok a _ ea)
    exact PySem.W.kia_one PySem.W.kitx_list I.kIn ⟨_, h1, rfl⟩ e (fun z => nomatch z) h
  | @frz a ob xs ea =>
    cases (show u = Value.ref a from rx)
    obtain ⟨_, _, _, n, _, h1⟩ := (show ObjOk X.prog X.w H s.heap a (.frz ob (.lst xs)) from I.hok a _ ea)
    exact PySem.W.kia_one PySem.W.kitx_list I.kIn ⟨_, h1, rfl⟩ e (fun z => nomatch z) h
  | @tup a xs ea =>
    cases (show u = Value.ref a from rx)
    obtain ⟨_, _, _, p⟩ := (show ObjOk X.prog X.w H s.heap a (.tup xs) from I.hok a _ ea)
    obtain ⟨o, h1, h2, _⟩ := p
    exact PySem.W.kia_one PySem.W.kitx_tuple I.kIn ⟨o, h1, h2⟩ e (fun z => nomatch z) h
  | @dK a kvs ea =>
    cases (show u = Value.ref a from rx)
    obtain ⟨_, _, vs, _, p⟩ := (show ObjOk X.prog X.w H s.heap a (.dK kvs) from I.hok a _ ea)
    obtain ⟨o, es, ep, h1, h2, _⟩ := p
    exact PySem.W.kia_one PySem.W.kitx_dict I.kIn ⟨o, h1, h2.1⟩ e (fun z => nomatch z) h
  | @dT a kvs ea =>
    cases (show u = Value.ref a from rx)
    obtain ⟨_, _, xs, _, o, es, ep, h1, h2, _⟩ := (show ObjOk X.prog X.w H s.heap a (.dT kvs) from I.hok a _ ea)
    exact PySem.W.kia_one PySem.W.kitx_dict I.kIn ⟨o, h1, h2.1⟩ e (fun z => nomatch z) h
  | @ins a C dx fs ea cl ha hn htk hm =>
    cases (show u = Value.ref a from rx)
    obtain ⟨mA, O, _⟩ := ins_get I.hok ea
    obtain ⟨od, J, _⟩ := O.look
    exact PySem.W.kia_one (PySem.W.kitx_own (cl.get _) cl.hd ha hn htk hm) I.kIn J e (fun z => nomatch z) h
end
end L2

namespace L2
open PySem PySem.Spec PyProof.Rows

structure Room (k : Nat) (A : Around) : Prop where
  hd : A.handled = none
  dp : A.depth + 3 * k + 5 < recursionLimit
  un : A.units + 16 * k + 200 < cLine
  gd : A.guards = some []
theorem Room.mono {j k : Nat} {A : Around} (r : Room k A) (h : j ≤ k) : Room j A := ⟨r.hd, by have := r.dp; omega, by have := r.un; omega, r.gd⟩
theorem Room.deeper {k : Nat} {A : Around} (r : Room (k + 1) A) (env : Env) : Room k (A.deeper env) :=
  ⟨r.hd, by have := r.dp; show A.depth + 1 + 3 * k + 5 < _; omega, by have := r.un; show A.units + 3 + 16 * k + 200 < _; omega, r.gd⟩
theorem make_depth {A : Around} {C : Addr} {us : List Value} {kw : List (Str × Value)} : (A.under (.builtin "type.__call__" ⟨.ref C :: us, kw⟩)).depth = A.depth + 1 := by
  first | rfl | simp [Around.under, Code.weight, Code.isCreation, Code.isGuard, Code.isCaller, Code.frames, Code.isFrame, guardIds]
theorem make_units {A : Around} {C : Addr} {us : List Value} {kw : List (Str × Value)} : (A.under (.builtin "type.__call__" ⟨.ref C :: us, kw⟩)).units = A.units + 1 := by
  first | rfl | simp [Around.under, Code.cUnits, Code.frames, Code.isFrame]
theorem make_guards {A : Around} {C : Addr} {us : List Value} {kw : List (Str × Value)} : (A.under (.builtin "type.__call__" ⟨.ref C :: us, kw⟩)).guards = A.guards := by
  have : Code.guards (.builtin "type.__call__" ⟨.ref C :: us, kw⟩) = [] := by first | rfl | simp [Code.guards, Code.isGuard, guardIds]
  show pushGuards (Code.guards (.builtin "type.__call__" ⟨.ref C :: us, kw⟩)) A.guards = A.guards
  rw [this]
  cases A.guards <;> rfl
theorem Room.make {k : Nat} {A : Around} (r : Room (k + 1) A) (C : Addr) (us : List Value) (kw : List (Str × Value)) : Room k (A.under (.builtin "type.__call__" ⟨.ref C :: us, kw⟩)) :=
  ⟨r.hd, by have := r.dp; rw [make_depth]; omega, by have := r.un; rw [make_units]; omega, by rw [make_guards]; exact r.gd⟩
theorem Room.depth {k : Nat} {A : Around} (r : Room k A) : A.depth < recursionLimit := by have := r.dp; omega
noncomputable def tNil : TA := fun _ H Q => Q [] H
noncomputable def tCons (ta : TE) (tr : TA) : TA := fun σ H Q => ta σ H fun x H1 => tr σ H1 fun xs H2 => Q (x :: xs) H2
section
variable {X : Cx} {e : Expr} {es : List Expr} {te : TE} {t : TA} {pos : Pos}
theorem pa_nil : PA X [] tNil := fun _ _ _ _ H Q I h => Calls.spliced_nil ⟨[], H, I, .nil, h⟩
theorem pa_cons (ha : PE X e te) (hr : PA X es t) (hs : starEach (e :: es) X.env = (false, eval e X.env) :: starEach es X.env := by rfl) : PA X (e :: es) (tCons te t) := by
  intro pos pins s σ H Q I h
  rw [hs]
  show wpAny _ _ (spliced ((false, eval e X.env) :: backTo pos (starEach es X.env))) _ _ s
  refine Calls.spliced_cons (thn (ha pins s σ H _ I h) fun u s1 ⟨x, H1, I1, r1, q1⟩ => ?_)
  exact thn (hr pos pins s1 σ H1 _ I1 q1) fun us s2 ⟨xs, H2, I2, r2, q2⟩ => ⟨x :: xs, H2, I2, .cons r1 r2, q2⟩

noncomputable def tTup (t : TA) : TE := fun σ H Q => t σ H fun xs H1 => xs.length ≤ sizeLine ∧ ∀ p, H1 p = none → Q (.ref p) (upd H1 p (.tup xs))
noncomputable def tLst (t : TA) : TE := fun σ H Q => t σ H fun xs H1 => xs.length ≤ sizeLine ∧ ∀ p, H1 p = none → Q (.ref p) (upd H1 p (.lst xs))
theorem pe_tup {x1} (h : PA X es t) : PE X (.Tuple es x1 pos) (tTup t) := by
  intro pins s σ H Q I hq
  refine wpAny_Tuple_spliced (thn (h pos pins s σ H _ I hq) fun us s1 ⟨xs, H1, I1, r, z, q⟩ => ⟨by rw [← r.length]; exact z, ?_⟩)
  have hf : H1 s1.heap.objs.size = none := I1.hok.fresh (Nat.le_refl _)
  refine ⟨.ref s1.heap.objs.size, upd H1 s1.heap.objs.size (.tup xs), I1.laid (t' := s1.toks) (fun b u e => Heap.get?_push_of_some _ e) (Nat.le_refl _) ?_, rfl, q _ hf⟩
  exact ⟨z, us, r, ⟨_, Heap.get?_push_size _ rfl, rfl, ⟨_, rfl⟩, rfl⟩⟩
theorem pe_lst (h : PA X es t) : PE X (.List es pos) (tLst t) := by
  intro pins s σ H Q I hq
  refine wpAny_List_spliced (thn (h pos pins s σ H _ I hq) fun us s1 ⟨xs, H1, I1, r, z, q⟩ => ⟨by rw [← r.length]; exact z, ?_⟩)
  have hf : H1 s1.heap.objs.size = none := I1.hok.fresh (Nat.le_refl _)
  refine ⟨.ref s1.heap.objs.size, upd H1 s1.heap.objs.size (.lst xs), I1.laid (t' := s1.toks) (fun b u e => Heap.get?_push_of_some _ e) (Nat.le_refl _) ?_, rfl, q _ hf⟩
  exact ⟨z, us, 0, r, Heap.get?_push_size _ rfl⟩
end

noncomputable abbrev Sp := List V → Hp → VK → XK → Prop
noncomputable abbrev CXT := List Env → Hp → Shared → XK → Value → Shared → Prop

structure Env0 (P : Program) (w : World) (K : PySem.W.Frag) (mg : Str → Option Value) (base : Heap) (A : Around) (outer : List Env) (s : Shared) (H : Hp) : Prop where
  frames : A.frames = some outer
  mod : Mod K mg base
  bs : ∀ b o, base.get? b = some o → s.heap.get? b = some o ∧ H b = none
  bsz : base.objs.size ≤ s.heap.objs.size
  funs : s.heap.FunFrames base outer
  frf : ∀ b ∈ frs outer, H b = none
  hok : HOk P w H s.heap
  bare : AllBare s.gens
noncomputable def CE (outer : List Env) (P : Program) (w : World) (H : Hp) (s : Shared) (Q : VK) (u : Value) (s' : Shared) : Prop :=
  ∃ v H', s'.os = s.os ∧ AllBare s'.gens ∧ Un (frs outer) [] H H' s.heap s'.heap ∧ HOk P w H' s'.heap ∧ RelV v u ∧ Q v H'
noncomputable def CR (CX : CXT) (outer : List Env) (P : Program) (w : World) (H : Hp) (s : Shared) (Q : VK) (E : XK) (r : Result) (s' : Shared) : Prop :=
  match r with
  | .ok (.ret u) => CE outer P w H s Q u s'
  | .ok _ => False
  | .error e => CX outer H s E e s'
structure FnOk (P : Program) (w : World) (K : PySem.W.Frag) (mg : Str → Option Value) (base : Heap) (CX : CXT) (k : Nat) (f : Addr) (fd : FuncData) (ps : List Str) (sp : Sp) : Prop where
  len : ∀ vs H Q E, sp vs H Q E → vs.length = ps.length
  run : ∀ (A : Around) (outer : List Env) (s : Shared) (H : Hp) (args : Args) (us : List Value) (vs : List V) (Q : VK) (E : XK), Room k A → Env0 P w K mg base A outer s H → BindsTo s fd args (ps.zip us) → Vals vs us → sp vs H Q E →
    codeAny (model P w) A (.call (.ref f) args) (CR CX outer P w H s Q E) s
theorem Env0.make {P : Program} {w : World} {K : PySem.W.Frag} {mg : Str → Option Value} {base : Heap} {A : Around} {outer : List Env} {s : Shared} {H : Hp} (e : Env0 P w K mg base A outer s H) (C : Addr) (us : List Value) (kw : List (Str × Value)) :
    Env0 P w K mg base (A.under (.builtin "type.__call__" ⟨.ref C :: us, kw⟩)) outer s H := ⟨by first | exact e.frames | (simpa [Around.under, Code.envs, Code.isFrame, pushEnvs] using e.frames), e.mod, e.bs, e.bsz, e.funs, e.frf, e.hok, e.bare⟩
section
variable {X : Cx} {pins : List (Addr × Obj)} {σ : St} {H : Hp} {s s' : Shared}
theorem Inv.env0 (I : Inv X pins σ H s) : Env0 X.prog X.w X.K X.mg X.base X.A X.stack s H :=
  ⟨I.ok.frames, I.ok.mod, I.bs, Nat.le_trans I.ok.bsz I.sz, I.stack, I.stkFree, I.hok, I.bare⟩
theorem Inv.after {Q : VK} {u : Value} (I : Inv X pins σ H s) (h : CE X.stack X.prog X.w H s Q u s') : EP X pins σ Q u s' := by
  obtain ⟨v, H', os, bare, un, hok, r, q⟩ := h
  obtain ⟨hh, g, d, t, os'⟩ := s'
  obtain rfl : os' = s.os := os
  exact ⟨v, H', I.call (h' := hh) (g' := g) (d' := d) (t' := t) (ch := []) un hok bare (fun b z => absurd z (by simp)), r, q⟩
end

noncomputable def tCall (sp : Sp) (dvs : List V) (E : XK) (t : TA) : TE := fun σ H Q => t σ H fun vs H1 => sp (vs ++ dvs) H1 Q E
noncomputable def tMake (C : Addr) (sp : Sp) (dvs : List V) (E : XK) (t : TA) : TE := fun σ H Q => t σ H fun vs H1 => ∀ x dx, H1 x = none → H1 dx = none → dx ≠ x →
  sp (.ref x :: (vs ++ dvs)) (upd (upd H1 dx (.own x)) x (.ins C dx [])) (fun v H2 => v = .non ∧ Q (.ref x) H2) E

noncomputable def Binds (K : PySem.W.Frag) (fd : FuncData) (ps : List Str) (ds : List Value) : Prop :=
  ∀ (s : Shared) (us : List Value), K.In s.heap → (us ++ ds).length = ps.length → BindsTo s fd ⟨us, []⟩ (ps.zip (us ++ ds))
theorem Binds.all {K : PySem.W.Frag} {fd : FuncData} {ps : List Str} (h : ∀ us : List Value, us.length = ps.length → bindArgs fd ⟨us, []⟩ = pure (ps.zip us)) : Binds K fd ps [] := fun s us _ hl => by
  rw [List.append_nil] at hl ⊢
  exact .of_eq (h us hl)

noncomputable def Passes (CX : CXT) (X : Cx) (E : XK) : Prop := ∀ (pins : List (Addr × Obj)) (σ : St) (H : Hp) (s : Shared) (e : Value) (s' : Shared), Inv X pins σ H s → CX X.stack H s E e s' → X.xe e s'

section
variable {X : Cx} {CX : CXT} {k : Nat} {f C : Addr} {fd : FuncData} {ps : List Str} {sp : Sp} {dvs : List V} {ds : List Value} {E : XK} {x m : Str} {p pos apos : Pos} {e o : Expr} {es : List Expr} {ta : TE} {t : TA}

theorem run_fn {pins : List (Addr × Obj)} {σ : St} {H : Hp} {s : Shared} {Q : VK} {us : List Value} {vs : List V} (F : FnOk X.prog X.w X.K X.mg X.base CX k f fd ps sp) (hr : Room k X.A) (hb : Binds X.K fd ps ds) (hd : Vals dvs ds) (hx : Passes CX X E)
    (I : Inv X pins σ H s) (r : Vals vs us) (h : sp (vs ++ dvs) H Q E) : wpAny (model X.prog X.w) X.A (call (.ref f) us) (EP X pins σ Q) X.xe s := by
  have r2 : Vals (vs ++ dvs) (us ++ ds) := r.append hd
  have hl : (us ++ ds).length = ps.length := by rw [← r2.length]; exact F.len _ _ _ _ h
  refine wpAny_call (codeAny_mono (F.run X.A X.stack s H ⟨us, []⟩ (us ++ ds) (vs ++ dvs) Q E hr I.env0 (hb s us I.kIn hl) r2 h) fun r s' hq => ?_)
  cases r with
  | error e => exact hx pins σ H s e s' I hq
  | ok fl =>
    cases fl with
    | ret u => exact I.after hq
    | next => exact False.elim hq
    | brk => exact False.elim hq
    | cont => exact False.elim hq

theorem pe_call (F : FnOk X.prog X.w X.K X.mg X.base CX k f fd ps sp) (hr : Room k X.A) (hg : Gl X x) (hm : X.mg x = some (.ref f)) (hk : PySem.W.keepIn X.K (.ref f) = true) (hb : Binds X.K fd ps ds) (hd : Vals dvs ds) (hx : Passes CX X E)
    (ha : PA X (e :: es) t) (hdb : (x == ("__debug__" : Str)) = false := by decide) (he : starEach (e :: es) X.env = (false, eval e X.env) :: starEach es X.env := by rfl) (hpl : (backTo pos (starEach es X.env)).any (·.1) = false := by rfl) :
    PE X (.Call (.Name x p) (e :: es) [] pos) (tCall sp dvs E t) := by
  intro pins s σ H Q I h
  refine wpAny_Call_Name_kw (ld_glob I hg hm ?_ hdb)
  refine PySem.W.callWith_K (h₀ := X.base) I.ok.mod.kin hk (thn (ha pos pins s σ H _ I h) fun us s1 ⟨vs, H1, I1, r, q⟩ => ⟨I1.kIn, ?_⟩) he hpl
  exact run_fn F hr hb hd hx I1 r q
structure Mk (K : PySem.W.Frag) (C f : Addr) : Prop where
  makes : PySem.W.makesIn K C = true
  init : PySem.W.findIn K (.ref C) "__init__" = some (some (.ref f))
  fn : PySem.W.isFn K (.ref f) = true
  kp : PySem.W.keepIn K (.ref C) = true

theorem run_make {pins : List (Addr × Obj)} {σ : St} {H : Hp} {s : Shared} {Q : VK} {us : List Value} {vs : List V} (M : Mk X.K C f) (F : FnOk X.prog X.w X.K X.mg X.base CX k f fd ps sp) (hr : Room (k + 1) X.A) (hb : Binds X.K fd ps ds) (hd : Vals dvs ds)
    (hx : Passes CX X E) (I : Inv X pins σ H s) (r : Vals vs us)
    (h : ∀ x dx, H x = none → H dx = none → dx ≠ x → sp (.ref x :: (vs ++ dvs)) (upd (upd H dx (.own x)) x (.ins C dx [])) (fun v H2 => v = .non ∧ Q (.ref x) H2) E) :
    wpAny (model X.prog X.w) X.A (call (.ref C) us) (EP X pins σ Q) X.xe s := by
  have hq := h (s.heap.objs.size + 1) s.heap.objs.size (I.hok.fresh (Nat.le_succ _)) (I.hok.fresh (Nat.le_refl _)) (Nat.ne_of_lt (Nat.lt_succ_self _))
  have I2 := Inv.made (C := C) I
  have r2 : Vals (V.ref (s.heap.objs.size + 1) :: (vs ++ dvs)) (Value.ref (s.heap.objs.size + 1) :: (us ++ ds)) := .cons rfl (r.append hd)
  have hl : (Value.ref (s.heap.objs.size + 1) :: us ++ ds).length = ps.length := by
    have e := r2.length
    rw [F.len _ _ _ _ hq] at e
    exact e.symm
  refine wpAny_call (make_map (f := f) I.kIn M.makes M.init (beq_iff_eq.mp M.fn) (codeAny_mono (F.run _ X.stack _ _ ⟨Value.ref (s.heap.objs.size + 1) :: us, []⟩ (Value.ref (s.heap.objs.size + 1) :: (us ++ ds)) _ _ E (hr.make C us [])
    (I2.env0.make C us []) (hb _ (Value.ref (s.heap.objs.size + 1) :: us) I2.kIn hl) r2 hq) fun r s' hq' => ?_))
  cases r with
  | error e => exact hx pins σ _ _ e s' I2 hq'
  | ok fl =>
    cases fl with
    | ret u =>
      obtain ⟨v, H', I3, rv, ev, q3⟩ := I2.after hq'
      subst ev
      exact ⟨rv, ⟨V.ref (s.heap.objs.size + 1), H', I3, rfl, q3⟩⟩
    | next => exact False.elim hq'
    | brk => exact False.elim hq'
    | cont => exact False.elim hq'
theorem pe_make (M : Mk X.K C f) (F : FnOk X.prog X.w X.K X.mg X.base CX k f fd ps sp) (hr : Room (k + 1) X.A) (hg : Gl X x) (hm : X.mg x = some (.ref C)) (hb : Binds X.K fd ps ds) (hd : Vals dvs ds) (hx : Passes CX X E)
    (ha : PA X (e :: es) t) (hdb : (x == ("__debug__" : Str)) = false := by decide) (he : starEach (e :: es) X.env = (false, eval e X.env) :: starEach es X.env := by rfl) (hpl : (backTo pos (starEach es X.env)).any (·.1) = false := by rfl) :
    PE X (.Call (.Name x p) (e :: es) [] pos) (tMake C sp dvs E t) := by
  intro pins s σ H Q I h
  refine wpAny_Call_Name_kw (ld_glob I hg hm ?_ hdb)
  refine PySem.W.callWith_K (h₀ := X.base) I.ok.mod.kin M.kp (thn (ha pos pins s σ H _ I h) fun us s1 ⟨vs, H1, I1, r, q⟩ => ⟨I1.kIn, ?_⟩) he hpl
  exact run_make M F hr hb hd hx I1 r q
end

section
variable {X : Cx} {CX : CXT} {k : Nat} {f C : Addr} {fd : FuncData} {ps ks : List Str} {sp : Sp} {E : XK} {x m : Str} {p pos apos kpos : Pos} {e o : Expr} {es : List Expr} {kws : List Keyword} {te ta : TE} {t tk : TA} {nm : Option Str}
variable {g : List Value → List Value → List Value} {gV : List V → List V → List V}
end

structure FnScope (N P : List Str) (sc : Scope) : Prop where
  kind : sc.kind = .function
  co : sc.isCoroutine = false
  gen : sc.isGenerator = false
  nd : N.Nodup
  pre : N.take P.length = P
  par : ∀ x ∈ P, sc.names.lookup x = some .local ∨ sc.names.lookup x = some .cell
  nofree : ∀ y ∈ sc.names, y.2 ≠ .free

theorem bindL_out {kindOf : Str → Option NameKind} {x : Str} : ∀ {binds : List (Str × Value)} {m : Str → Option Value}, (∀ v, (x, v) ∉ binds) → bindL kindOf binds m x = m x
  | [], _, _ => rfl
  | (n, v) :: r, m, h => by
    unfold bindL
    rw [bindL_out fun w hw => h w (List.mem_cons_of_mem _ hw)]
    split
    · have : x ≠ n := by rintro rfl; exact h v List.mem_cons_self
      simp [this]
    · rfl
theorem bindC_out {kindOf : Str → Option NameKind} {x : Str} : ∀ {binds : List (Str × Value)} {m : Str → Option Value}, (∀ v, (x, v) ∉ binds) → bindC kindOf binds m x = m x
  | [], _, _ => rfl
  | (n, v) :: r, m, h => by
    unfold bindC
    rw [bindC_out fun w hw => h w (List.mem_cons_of_mem _ hw)]
    split
    · rfl
    · have : x ≠ n := by rintro rfl; exact h v List.mem_cons_self
      simp [this]
theorem bindL_get {kindOf : Str → Option NameKind} {x : Str} {v : Value} : ∀ {P : List Str} {vs : List Value} {i : Nat} {m : Str → Option Value}, P.Nodup → P[i]? = some x → vs[i]? = some v → kindOf x = some .local →
    bindL kindOf (P.zip vs) m x = some v
  | [], _, _, _, _, h, _, _ => by simp at h
  | _ :: _, [], _, _, _, _, h, _ => by simp at h
  | p :: P, w :: vs, 0, m, nd, h1, h2, hk => by
    simp at h1 h2; subst h1; subst h2
    show bindL kindOf ((p, w) :: P.zip vs) m p = _
    unfold bindL
    rw [bindL_out fun v hv => (List.nodup_cons.mp nd).1 (List.of_mem_zip hv).1, if_pos hk]
    simp
  | p :: P, w :: vs, i + 1, m, nd, h1, h2, hk => by
    show bindL kindOf ((p, w) :: P.zip vs) m x = _
    unfold bindL
    exact bindL_get (i := i) (List.nodup_cons.mp nd).2 (by simpa using h1) (by simpa using h2) hk
theorem bindC_get {kindOf : Str → Option NameKind} {x : Str} {v : Value} : ∀ {P : List Str} {vs : List Value} {i : Nat} {m : Str → Option Value}, P.Nodup → P[i]? = some x → vs[i]? = some v → kindOf x ≠ some .local →
    bindC kindOf (P.zip vs) m x = some v
  | [], _, _, _, _, h, _, _ => by simp at h
  | _ :: _, [], _, _, _, _, h, _ => by simp at h
  | p :: P, w :: vs, 0, m, nd, h1, h2, hk => by
    simp at h1 h2; subst h1; subst h2
    show bindC kindOf ((p, w) :: P.zip vs) m p = _
    unfold bindC
    rw [bindC_out fun v hv => (List.nodup_cons.mp nd).1 (List.of_mem_zip hv).1, if_neg hk]
    simp
  | p :: P, w :: vs, i + 1, m, nd, h1, h2, hk => by
    show bindC kindOf ((p, w) :: P.zip vs) m x = _
    unfold bindC
    exact bindC_get (i := i) (List.nodup_cons.mp nd).2 (by simpa using h1) (by simpa using h2) hk

noncomputable def start (N : List Str) (vs : List V) : St := vs.map some ++ List.replicate (N.length - vs.length) none

noncomputable def cxOf (CX : CXT) (P : Program) (w : World) (K : PySem.W.Frag) (mg : Str → Option Value) (base : Heap) (N : List Str) (qual : Str) (scope : Scope) (f : Addr) (cd : Value) (A : Around) (outer : List Env) (s : Shared) (H : Hp) (E : XK) : Cx where
  prog := P
  w := w
  K := K
  mg := mg
  base := base
  A := A.deeper (envOfC qual scope s.heap.objs.size f cd)
  N := N
  s₀ := s
  H₀ := H
  env := envOfC qual scope s.heap.objs.size f cd
  outer := outer
  stack := envOfC qual scope s.heap.objs.size f cd :: outer
  ex := []
  calm := true
  fn := fun _ => true
  pn := []
  xe := fun e s' => wpAny (model P w) (A.deeper (envOfC qual scope s.heap.objs.size f cd)) (leaving (envOfC qual scope s.heap.objs.size f cd) e) (fun _ s'' => CX outer H s E e s'') (fun e' s'' => CX outer H s E e' s'') s'

theorem cell_has {sc : Scope} {n : Nat} {x : Str} (h : sc.names.lookup x = some .cell) : ∃ c, (cellsFrom n sc.names []).lookup x = some c := by
  have q := PySem.W.cellsFrom_some sc.names n [] (.inl h)
  exact Option.isSome_iff_exists.mp q

theorem inv_start {CX : CXT} {P : Program} {w : World} {K : PySem.W.Frag} {mg : Str → Option Value} {base : Heap} {N ps : List Str} {qual : Str} {scope : Scope} {f : Addr} {cd : Value} {A : Around} {outer : List Env} {s s1 : Shared} {H : Hp} {E : XK} {us : List Value} {vs : List V}
    (S : FnScope N ps scope) (hd : A.handled = none) (e0 : Env0 P w K mg base A outer s H) (hl : vs.length = ps.length) (r : Vals vs us)
    (x : InCallC s s.heap.objs.size (bindL (envOfC qual scope s.heap.objs.size f cd).kindOf (ps.zip us) fun _ => none) (cellsFrom (s.heap.objs.size + 1) scope.names []) (bindC (envOfC qual scope s.heap.objs.size f cd).kindOf (ps.zip us) fun _ => none) s1) :
    Inv (cxOf CX P w K mg base N qual scope f cd A outer s H E) [] (start N vs) H s1 := by
  have hpl : ps.length ≤ N.length := by have := congrArg List.length S.pre; rw [List.length_take] at this; omega
  obtain ⟨h1, tk, rfl, hk⟩ := x.done
  have noA : ∀ b : Addr, b ∉ (cxOf CX P w K mg base N qual scope f cd A outer s H E).ex := fun b z => absurd (show b ∈ ([] : List Addr) from z) (by simp)
  refine ⟨⟨e0.mod, S.kind, rfl, rfl, Nat.le_refl _, fun y z c h1 h2 => ?_, fun y hy => ?_, fun y c _ h => ?_, fun _ => hd, Around.frames_deeper e0.frames, .inr ⟨rfl, rfl⟩, fun b z => absurd z (noA b), e0.bs, e0.bsz, fun b _ _ => noA b, fun b z => absurd z (noA b), e0.funs, e0.frf⟩,
    rfl, e0.bare, Un.kept hk, ⟨_, x.toInCall.ns, fun i y v h1 h2 h3 => ?_⟩, fun y c h => ⟨_, x.cell y c h⟩, e0.hok.fresh (Nat.le_refl _), fun y c h => ?_, fun p hp => absurd (show p ∈ ([] : List (Addr × Obj)) from hp) (by simp), e0.hok.kept hk, ?_⟩
  · exact name_of_addr x.apart (PySem.mem_of_lookup h1) (PySem.mem_of_lookup h2)
  · have hy : scope.names.lookup y = some .cell ∨ scope.names.lookup y = some .free := hy
    rcases hy with hy | hy
    · exact cell_has hy
    · exact absurd rfl (S.nofree _ (PySem.mem_of_lookup hy))
  · exact Nat.le_of_lt (x.above y c (PySem.mem_of_lookup h))
  · have hi : i < vs.length := by
      unfold start at h2
      by_cases hi : i < vs.length
      · exact hi
      · rw [List.getElem?_append_right (by simpa using hi)] at h2
        rw [List.getElem?_replicate] at h2
        split at h2 <;> cases h2
    have ha : vs[i]? = some v := by
      unfold start at h2
      rw [List.getElem?_append_left (by simpa using hi), List.getElem?_map] at h2
      cases e : vs[i]? with
      | none => rw [e] at h2; cases h2
      | some a => rw [e] at h2; cases h2; rfl
    obtain ⟨u, hu, rv⟩ := r.get ha
    have hp : ps[i]? = some y := by
      rw [← S.pre, List.getElem?_take_of_lt (by omega)]; exact h1
    have ndP : ps.Nodup := by rw [← S.pre]; exact S.nd.sublist (List.take_sublist _ _)
    refine ⟨u, rv, ?_⟩
    rcases S.par y (List.mem_of_getElem? hp) with k | k
    · exact .inl ⟨k, bindL_get ndP hp hu k⟩
    · obtain ⟨c, e⟩ := cell_has (n := s.heap.objs.size + 1) k
      refine .inr ⟨.inl k, c, e, ?_⟩
      have q := x.cell y c e
      rw [bindC_get ndP hp hu (by show scope.names.lookup y ≠ _; rw [k]; decide)] at q
      exact q
  · exact e0.hok.fresh (Nat.le_of_lt (x.above y c (PySem.mem_of_lookup h)))
  · unfold start
    show _ = N.length
    rw [List.length_append, List.length_map, List.length_replicate]
    omega

theorem fn_of {CX : CXT} {P : Program} {w : World} {K : PySem.W.Frag} {mg : Str → Option Value} {base : Heap} {k : Nat} {f : Addr} {name qual : Str} {params : Arguments} {body : List Stmt} {scope : Scope} {dV kV doc pm cdv ct oc : Value} {an od : Option Addr}
    {osl : Array (Option Value)} {N ps : List Str} {sp : Sp} (lk : K.lookup f = some ⟨oc, od, .func (PySem.W.fnOf name qual params body scope dV kV doc pm an cdv ct), osl⟩) (hcd : PySem.W.codeIn K cdv qual = true) (S : FnScope N ps scope)
    (len : ∀ vs H Q E, sp vs H Q E → vs.length = ps.length)
    (hbody : ∀ (A : Around) (outer : List Env) (s : Shared) (H : Hp) (vs : List V) (Q : VK) (E : XK), Room k (A.deeper (envOfC qual scope s.heap.objs.size f cdv)) → sp vs H Q E →
      ∃ t, PSs (cxOf CX P w K mg base N qual scope f cdv A outer s H E) body t ∧ t { nx := fun _ H' => Q .non H', rt := Q } (start N vs) H) :
    FnOk P w K mg base CX (k + 1) f (PySem.W.fnOf name qual params body scope dV kV doc pm an cdv ct) ps sp := by
  refine ⟨len, fun A outer s H args us vs Q E hr e0 hb r hsp => ?_⟩
  have hl := len _ _ _ _ hsp
  have KX : K.In s.heap := e0.mod.kin.keeps fun b o e => (e0.bs b o e).1
  have lim : s.heap.NoLimit := e0.mod.nolimit.keeps fun b o e => (e0.bs b o e).1
  have hkind : ∀ y ∈ ps.zip us, scope.names.lookup y.1 = some .local ∨ (scope.names.lookup y.1 = some .cell ∧ ((cellsFrom (s.heap.objs.size + 1) scope.names []).lookup y.1).isSome = true) := fun ⟨n, v⟩ hy => by
    rcases S.par n (List.of_mem_zip hy).1 with q | q
    · exact .inl q
    · exact .inr ⟨q, PySem.W.cellsFrom_some _ _ _ (.inl q)⟩
  refine codeAny_call_function hr.depth (KX _ _ lk) rfl S.co S.gen rfl (PySem.W.codeRec_of KX hcd) (hb _ _ _ _ ?_)
  refine wpAny_newFunctionEnv_cells S.kind hkind fun env he s1 x => ?_
  subst he
  refine ⟨lim.keeps x.toInCall.keep, codeAny_func ?_⟩
  obtain ⟨t, ht, hq⟩ := hbody A outer s H vs Q E (hr.deeper _) hsp
  have I : Inv (cxOf CX P w K mg base N qual scope f cdv A outer s H E) [] (start N vs) H s1 := inv_start S hr.hd e0 hl r x
  refine wpAny_mono (ht [] s1 (start N vs) H _ I hq) (fun fl s' hs => ?_) fun e s' hs => hs
  have fin : ∀ {σ' : St} {H' : Hp} {v : V} {u : Value}, Inv (cxOf CX P w K mg base N qual scope f cdv A outer s H E) [] σ' H' s' → RelV v u → Q v H' → CE outer P w H s Q u s' :=
    fun {σ' H' v u} J rv q => ⟨v, H', J.os, J.bare, J.base, J.hok, rv, q⟩
  cases fl with
  | ret u =>
    obtain ⟨v, σ', H', J, rv, q⟩ := hs
    exact fin J rv q
  | next =>
    obtain ⟨σ', H', J, q⟩ := hs
    exact fin (v := V.non) (u := Value.none) J rfl q
  | brk =>
    obtain ⟨_, _, _, q⟩ := hs
    exact False.elim q
  | cont =>
    obtain ⟨_, _, _, q⟩ := hs
    exact False.elim q
end L2

namespace L2
open PySem PySem.Spec PyProof.Rows
section
variable {X : Cx} {x : Str} {p pos : Pos} {e : Expr} {es : List Expr} {t : TA} {id T : String} {r : List V → Hp → VK → Prop}

noncomputable def tCB (r : List V → Hp → VK → Prop) (t : TA) : TE := fun σ H Q => t σ H fun vs H1 => r vs H1 Q
theorem pe_callB (hc : CallR X (.builtin id) r) (hg : Gl X x) (hm : X.mg x = none) (hv : bootBuiltins x = some (.builtin id)) (ha : PA X (e :: es) t) (hn : x ≠ "__name__" := by decide) (hdb : (x == ("__debug__" : Str)) = false := by decide)
    (he : starEach (e :: es) X.env = (false, eval e X.env) :: starEach es X.env := by rfl) (hpl : (backTo pos (starEach es X.env)).any (·.1) = false := by rfl) : PE X (.Call (.Name x p) (e :: es) [] pos) (tCB r t) := by
  intro pins s σ H Q I h
  refine wpAny_Call_Name_kw (ld_blt I hg hm hv ?_ hn hdb)
  exact PyProof.Rows.callWith_builtin1 (thn (ha pos pins s σ H _ I h) fun us s1 ⟨vs, H1, I1, r1, q1⟩ => hc pins s1 σ H1 vs us Q I1 r1 q1) he hpl
theorem pe_callTy (hc : CallR X (.type T) r) (hg : Gl X x) (hm : X.mg x = none) (hv : bootBuiltins x = some (.type T)) (ha : PA X (e :: es) t) (hn : x ≠ "__name__" := by decide) (hdb : (x == ("__debug__" : Str)) = false := by decide)
    (he : starEach (e :: es) X.env = (false, eval e X.env) :: starEach es X.env := by rfl) (hpl : (backTo pos (starEach es X.env)).any (·.1) = false := by rfl) : PE X (.Call (.Name x p) (e :: es) [] pos) (tCB r t) := by
  intro pins s σ H Q I h
  refine wpAny_Call_Name_kw (ld_blt I hg hm hv ?_ hn hdb)
  exact PyProof.Rows.callWith_type1 (thn (ha pos pins s σ H _ I h) fun us s1 ⟨vs, H1, I1, r1, q1⟩ => hc pins s1 σ H1 vs us Q I1 r1 q1) he hpl
end
end L2

namespace HT
open PySem PyProof.Rows

section
open PySem.SeqAt
open PySem.AutoSeq1 (wpAny_loadPart')
open PySem.MeetsSeq PySem.MeetsSeq2 PySem.MeetsSeq3

end

section
variable {prog : Program} {w : World} {A : Around} {E : Value → Shared → Prop} {s : Shared}

noncomputable def sIx (n d : Nat) : Option Int → Nat
  | none => d
  | some v => if v < 0 then (v + (n : Int)).toNat else min v.toNat n
theorem sIx_none (n d : Nat) : sIx n d none = d := rfl
theorem sIx_nat (n d k : Nat) : sIx n d (some (k : Int)) = min k n := by
  show (if (k : Int) < 0 then ((k : Int) + (n : Int)).toNat else min (k : Int).toNat n) = min k n
  rw [if_neg (by omega), Int.toNat_natCast]
theorem sIx_le (n d : Nat) (hd : d ≤ n) (o : Option Int) : sIx n d o ≤ n := by
  cases o with
  | none => exact hd
  | some v =>
    show (if v < 0 then (v + (n : Int)).toNat else min v.toNat n) ≤ n
    by_cases hv : v < 0
    · rw [if_pos hv]; omega
    · rw [if_neg hv]; exact Nat.min_le_right _ _
end
end HT

namespace L2
open PySem PySem.Spec PyProof.Rows

noncomputable abbrev TO := St → Hp → (Option Int → Hp → Prop) → Prop
noncomputable def PO (X : Cx) (e : Option Expr) (t : TO) : Prop :=
  ∀ (pins : List (Addr × Obj)) (s : Shared) (σ : St) (H : Hp) (Q : Option Int → Hp → Prop), Inv X pins σ H s → t σ H Q →
    wpAny (model X.prog X.w) X.A (evalPart e X.env) (fun u s' => ∃ o H', Inv X pins σ H' s' ∧ IsPart u o ∧ Q o H') X.xe s
noncomputable def tNoPart : TO := fun _ H Q => Q none H
noncomputable def tPart (t : TE) : TO := fun σ H Q => t σ H fun x H1 => ∃ i, x = .int i ∧ Q (some i) H1

section
variable {X : Cx} {e : Expr} {te : TE} {lo hi : Option Expr} {tl th : TO} {pos p2 : Pos}

theorem po_none : PO X none tNoPart := by
  intro pins s σ H Q I h
  rw [evalPart_none]
  exact wpAny_pure ⟨none, H, I, .none, h⟩
theorem po_some (h : PE X e te) : PO X (some e) (tPart te) := by
  intro pins s σ H Q I hw
  rw [evalPart_some]
  refine thn (h pins s σ H _ I hw) fun u s1 ⟨x, H1, I1, r1, q1⟩ => ?_
  obtain ⟨i, rfl, q⟩ := q1
  obtain ⟨t, rfl⟩ := r1
  exact ⟨some i, H1, I1, .int i t, q⟩

noncomputable def SlR (X : Cx) (r : V → Option Int → Option Int → Hp → VK → Prop) : Prop :=
  ∀ (pins : List (Addr × Obj)) (s : Shared) (σ : St) (H : Hp) (x : V) (v vl vu : Value) (lo hi : Option Int) (sl : Addr) (Q : VK), Inv X pins σ H s → RelV x v → s.heap.IsSliceOf sl vl vu .none → IsPart vl lo → IsPart vu hi → r x lo hi H Q →
    ∃ T id, typeLookup (.type T) "__getitem__" = pure (some (.builtin id)) ∧ s.TypeIs v T ∧ wpAny (model X.prog X.w) X.A (getItem v (.ref sl)) (EP X pins σ Q) X.xe s
noncomputable def tSl (r : V → Option Int → Option Int → Hp → VK → Prop) (te : TE) (tl th : TO) : TE := fun σ H Q => te σ H fun x H1 => tl σ H1 fun l H2 => th σ H2 fun u H3 => r x l u H3 Q
theorem pe_slice {r : V → Option Int → Option Int → Hp → VK → Prop} (hr : SlR X r) (he : PE X e te) (hl : PO X lo tl) (hu : PO X hi th) : PE X (.Subscript e (.Slice lo hi none p2) pos) (tSl r te tl th) := by
  intro pins s σ H Q I h
  refine Subscript_ (thn (he pins s σ H _ I h) fun v s1 ⟨x, H1, I1, r1, q1⟩ => ?_)
  refine wpAny_Slice (thn (hl pins s1 σ H1 _ I1 q1) fun vl s2 ⟨l, H2, I2, pl, q2⟩ => thn (hu pins s2 σ H2 _ I2 q2) fun vu s3 ⟨u, H3, I3, pu, q3⟩ => ?_)
  rw [evalPart_none]
  refine wpAny_pure ?_
  have I4 : Inv X pins σ H3 { s3 with heap := s3.heap.push { cls := .type "slice", data := .fields #[vl, vu, .none] } } := I3.kept (t' := s3.toks) fun b ob q => Heap.get?_push_of_some _ q
  obtain ⟨T, id, hT, ht, hg⟩ := hr pins { s3 with heap := s3.heap.push { cls := .type "slice", data := .fields #[vl, vu, .none] } } σ H3 x v vl vu l u s3.heap.objs.size Q I4 r1 (Heap.IsSliceOf.new ..) pl pu q3
  show wpAny (model X.prog X.w) X.A (subscriptTail e (.Slice lo hi none p2) v (.ref s3.heap.objs.size)) (EP X pins σ Q) X.xe { s3 with heap := s3.heap.push { cls := .type "slice", data := .fields #[vl, vu, .none] } }
  exact tail_any (ops := [.ref s3.heap.objs.size, v]) ht hT hg (by with_unfolding_all rfl)

noncomputable def cutV (xs : List V) (lo hi : Option Int) : List V := (xs.drop (HT.sIx xs.length 0 lo)).take (HT.sIx xs.length xs.length hi - HT.sIx xs.length 0 lo)
theorem cutV_length (xs : List V) (lo hi : Option Int) : (cutV xs lo hi).length ≤ xs.length := by
  unfold cutV
  rw [List.length_take, List.length_drop]
  omega
end
end L2

namespace L2
open PySem PySem.Spec PyProof.Rows

noncomputable def ixN (n : Nat) (i : Int) : Option Nat := if 0 ≤ i then (if i < n then some i.toNat else none) else if -(n : Int) ≤ i then some (i + n).toNat else none
noncomputable def atI {α : Type} (xs : List α) (i : Int) : Option α := (ixN xs.length i).bind fun j => xs[j]?
theorem ixN_seq {n : Nat} {i : Int} {j : Nat} (h : ixN n i = some j) : seqIndex? i n = some j ∧ j < n ∧ -(n : Int) ≤ i ∧ i < n := by
  unfold ixN at h
  by_cases h0 : 0 ≤ i
  · rw [if_pos h0] at h
    by_cases h1 : i < n
    · rw [if_pos h1] at h
      have e : i.toNat = j := Option.some.inj h
      exact ⟨by rw [seqIndex_of h0 h1, e], by omega, by omega, h1⟩
    · rw [if_neg h1] at h; cases h
  · rw [if_neg h0] at h
    by_cases h1 : -(n : Int) ≤ i
    · rw [if_pos h1] at h
      have e : (i + n).toNat = j := Option.some.inj h
      exact ⟨by rw [seqIndex_neg (by omega) h1, e], by omega, h1, by omega⟩
    · rw [if_neg h1] at h; cases h
theorem atI_get {α : Type} {xs : List α} {i : Int} {v : α} (h : atI xs i = some v) : ∃ j, seqIndex? i xs.length = some j ∧ xs[j]? = some v ∧ j < xs.length ∧ -(xs.length : Int) ≤ i ∧ i < xs.length := by
  unfold atI at h
  cases e : ixN xs.length i with
  | none => rw [e] at h; cases h
  | some j =>
    rw [e] at h
    obtain ⟨h1, h2, h3, h4⟩ := ixN_seq e
    exact ⟨j, h1, h, h2, h3, h4⟩
theorem atI_nat {α : Type} {xs : List α} {j : Nat} {v : α} (h : xs[j]? = some v) : atI xs (j : Int) = some v := by
  have hj : j < xs.length := (List.getElem?_eq_some_iff.mp h).1
  have e : ixN xs.length (j : Int) = some j := by
    unfold ixN
    rw [if_pos (by omega), if_pos (by omega)]; simp
  unfold atI; rw [e]; exact h
noncomputable def PlainIx (b : Expr) : Prop := ∀ o i, subscripted b false o i = operate [o, i] (getItem o i)
noncomputable def IxR (X : Cx) (r : R2) : Prop :=
  ∀ (value slice : Expr) (pins : List (Addr × Obj)) (s : Shared) (σ : St) (H : Hp) (x y : V) (v u : Value) (Q : VK), Inv X pins σ H s → RelV x v → RelV y u → r x y H Q →
    subscripted slice false v u = operate [v, u] (getItem v u) → wpAny (model X.prog X.w) X.A (subscriptTail value slice v u) (EP X pins σ Q) X.xe s
noncomputable def MtR (X : Cx) (id : String) (r : V → List V → Hp → VK → Prop) : Prop :=
  ∀ (pins : List (Addr × Obj)) (s : Shared) (σ : St) (H : Hp) (x : V) (xs : List V) (v : Value) (us : List Value) (Q : VK), Inv X pins σ H s → RelV x v → Vals xs us → r x xs H Q →
    wpAny (model X.prog X.w) X.A (call (.builtin id) (v :: us)) (EP X pins σ Q) X.xe s
section
variable {X : Cx} {a b : Expr} {ta tb : TE} {pos : Pos}
theorem pe_ix {r : R2} (hr : IxR X r) (ha : PE X a ta) (hb : PE X b tb) (hs : PlainIx b) : PE X (.Subscript a b pos) (tOp r ta tb) := by
  intro pins s σ H Q I h
  exact Subscript_ (binT ha hb I h fun v u s2 x y H2 I2 rx ry q => hr a b pins s2 σ H2 x y v u Q I2 rx ry q (hs _ _))

noncomputable def rIxL (K : PySem.W.Frag) : R2 := fun x y H Q => ∃ p xs i v, x = .ref p ∧ y = .int i ∧ SqL K H p xs ∧ atI xs i = some v ∧ Q v H
noncomputable def rIxT (K : PySem.W.Frag) : R2 := fun x y H Q => ∃ p xs i v, x = .ref p ∧ y = .int i ∧ SqT K H p xs ∧ atI xs i = some v ∧ Q v H
noncomputable def rIxS : R2 := fun x y H Q => ∃ z i c, x = .str z ∧ y = .int i ∧ z.length ≤ sizeLine ∧ atI z.cps.toList i = some c ∧ Q (.str ⟨#[c]⟩) H
theorem ix_list : IxR X (rIxL X.K) := by
  intro value slice pins s σ H x y v u Q I rx ry h hs
  obtain ⟨p, xs, i, z, rfl, rfl, hq, he, q⟩ := h
  cases rx
  obtain ⟨t, rfl⟩ := ry
  obtain ⟨its, r, pl, hz⟩ := I.list hq
  obtain ⟨j, h1, h2, h3, h4, h5⟩ := atI_get he
  obtain ⟨w, ew, rw'⟩ := r.get h2
  have hl := r.length
  have hn := line63
  have fin : EP X pins σ Q w s := ⟨z, H, I, rw', q⟩
  by_cases h0 : 0 ≤ i
  · have hj : i.toNat = j := by
      rw [seqIndex_of h0 h5] at h1
      exact Option.some.inj h1
    exact item_listR pl.isList h0 (by omega) (by rw [hj]; simpa using ew) fin hs
  · have hj : (i + (its.toArray.size : Int)).toNat = j := by
      rw [seqIndex_neg (by omega) h4] at h1
      rw [List.size_toArray, ← hl]
      exact Option.some.inj h1
    exact subscriptTail_builtinR (x := w) pl.isList.typeIs slot_list_getitem.lookup
      (wpAny_getItem_list_neg (Q := fun r s' => r = w ∧ EP X pins σ Q r s') pl.isList (by omega) (by rw [List.size_toArray] <;> omega) (by omega) (by rw [hj]; simpa using ew) ⟨rfl, fin⟩) hs
theorem ix_tup : IxR X (rIxT X.K) := by
  intro value slice pins s σ H x y v u Q I rx ry h hs
  obtain ⟨p, xs, i, z, rfl, rfl, hq, he, q⟩ := h
  cases rx
  obtain ⟨t, rfl⟩ := ry
  obtain ⟨its, r, pl, hz⟩ := I.tuple hq
  obtain ⟨j, h1, h2, h3, h4, h5⟩ := atI_get he
  obtain ⟨w, ew, rw'⟩ := r.get h2
  have hl := r.length
  have hn := line63
  have fin : EP X pins σ Q w s := ⟨z, H, I, rw', q⟩
  exact subscriptTail_builtinR (x := w) pl.typeIs slot_tuple_getitem.lookup
    (getItem_tuple (j := j) (Q := fun r s' => r = w ∧ EP X pins σ Q r s') pl (by omega) (by omega) (by rw [List.size_toArray, ← hl]; exact h1) (by simpa using ew) ⟨rfl, fin⟩) hs
theorem ix_str : IxR X rIxS := by
  intro value slice pins s σ H x y v u Q I rx ry h hs
  obtain ⟨z, i, c, rfl, rfl, hz, he, q⟩ := h
  obtain ⟨t, rfl⟩ := rx
  obtain ⟨t', rfl⟩ := ry
  obtain ⟨j, h1, h2, h3, h4, h5⟩ := atI_get he
  have hl : z.cps.toList.length = z.length := by simp [Str.length]
  rw [hl] at h1 h4 h5
  have hn := line63
  exact tail_any (typeIs_str s z t) slot_str_getitem.lookup (getItem_str (c := c) (by
    have e1 : decide (i < -(2 ^ 63 : Int)) = false := decide_eq_false (by omega)
    have e2 : decide (i ≥ 2 ^ 63) = false := decide_eq_false (by omega)
    rw [e1, e2, Bool.or_false]) (by rw [h1]; simpa using h2) ⟨.str ⟨#[c]⟩, H, I.tok _, ⟨_, rfl⟩, q⟩) hs
theorem slice_bounds (lo hi : Option Int) (n : Nat) : (sliceBounds lo hi none n).1 = ((HT.sIx n 0 lo : Nat) : Int) ∧ (sliceBounds lo hi none n).2.1 = ((HT.sIx n n hi : Nat) : Int) ∧ (sliceBounds lo hi none n).2.2 = 1 := by
  refine ⟨?_, ?_, rfl⟩
  · cases lo with
    | none => simp [sliceBounds, HT.sIx]
    | some i =>
      simp only [sliceBounds, HT.sIx, Option.getD_none, show (1 : Int) > 0 by decide, if_true]
      by_cases h : i < 0
      · simp only [h, if_true] <;> omega
      · simp only [h, if_false] <;> omega
  · cases hi with
    | none => simp [sliceBounds, HT.sIx]
    | some i =>
      simp only [sliceBounds, HT.sIx, Option.getD_none, show (1 : Int) > 0 by decide, if_true]
      by_cases h : i < 0
      · simp only [h, if_true] <;> omega
      · simp only [h, if_false] <;> omega
theorem slicePick_cut (its : List Value) (lo hi : Option Int) : slicePick its.toArray lo hi none = ((its.drop (HT.sIx its.length 0 lo)).take (HT.sIx its.length its.length hi - HT.sIx its.length 0 lo)).toArray := by
  obtain ⟨h1, h2, h3⟩ := slice_bounds lo hi its.toArray.size
  unfold slicePick
  rw [h1, h2, h3]
  simp only [sliceRange_one, pick_run, List.size_toArray] <;> rfl
noncomputable def rSlL (K : PySem.W.Frag) : V → Option Int → Option Int → Hp → VK → Prop := fun x lo hi H Q => ∃ a xs, x = .ref a ∧ SqL K H a xs ∧ ∀ p, H p = none → Q (.ref p) (upd H p (.lst (cutV xs lo hi)))
theorem sl_list : SlR X (rSlL X.K) := by
  intro pins s σ H x v vl vu lo hi sl Q I rx hs pl pu h
  obtain ⟨a, xs, rfl, hx, q⟩ := h
  cases rx
  obtain ⟨its, r, ht, hz⟩ := I.list hx
  have hlen := r.length
  refine ⟨"list", _, slot_list_getitem.lookup, ht.isList.typeIs, ?_⟩
  refine wpAny_getItem_list_slice ht.isList hs pl pu .none (by simp) ?_ (by rw [List.size_toArray] <;> omega)
  rw [slicePick_cut, ← hlen]
  refine ⟨.ref s.heap.objs.size, _, I.laid (t' := s.toks) (o := .lst (cutV xs lo hi)) (fun b ob q => Heap.get?_push_of_some _ q) (Nat.le_refl _) ?_, rfl, q _ (I.hok.fresh (Nat.le_refl _))⟩
  exact ⟨Nat.le_trans (cutV_length xs lo hi) hz, _, 0, (r.drop (HT.sIx xs.length 0 lo)).take (HT.sIx xs.length xs.length hi - HT.sIx xs.length 0 lo), Heap.get?_push_size _ rfl⟩

noncomputable def flatV : V → Bool
  | .non => true
  | .bl _ => true
  | .int _ => true
  | .str _ => true
  | _ => false
noncomputable def eqV : V → V → Bool
  | .non, .non => true
  | .bl a, .bl b => a == b
  | .bl a, .int b => (if a then 1 else 0) == b
  | .int a, .bl b => a == (if b then 1 else 0)
  | .int a, .int b => a == b
  | .str a, .str b => a == b
  | _, _ => false
theorem eqAt_V {A : Around} {s : Shared} {y x : V} {u v : Value} (ry : RelV y u) (rx : RelV x v) (fy : flatV y = true) (fx : flatV x = true) : SeqAt.EqAt A s u v (eqV y x) := by
  cases y with
  | non =>
    cases ry
    cases x with
    | non => cases rx; exact SeqAt.EqAt.same _
    | bl b => cases rx; exact SeqAt.EqAt.none_bool b
    | int b => obtain ⟨t, rfl⟩ := rx; exact SeqAt.EqAt.none_int b t
    | str b => obtain ⟨t, rfl⟩ := rx; exact SeqAt.EqAt.none_str b t
    | _ => exact absurd (show false = true from fx) Bool.false_ne_true
  | bl a =>
    cases ry
    cases x with
    | non => cases rx; exact SeqAt.EqAt.bool_none a
    | bl b => cases rx; exact SeqAt.EqAt.bool_bool a b
    | int b => obtain ⟨t, rfl⟩ := rx; exact SeqAt.EqAt.bool_int a b t
    | str b => obtain ⟨t, rfl⟩ := rx; exact SeqAt.EqAt.bool_str a b t
    | _ => exact absurd (show false = true from fx) Bool.false_ne_true
  | int a =>
    obtain ⟨t', rfl⟩ := ry
    cases x with
    | non => cases rx; exact SeqAt.EqAt.int_none a t'
    | bl b => cases rx; exact SeqAt.EqAt.int_bool a t' b
    | int b => obtain ⟨t, rfl⟩ := rx; exact SeqAt.EqAt.int_int a t' b t
    | str b => obtain ⟨t, rfl⟩ := rx; exact SeqAt.EqAt.int_str a t' b t
    | _ => exact absurd (show false = true from fx) Bool.false_ne_true
  | str a =>
    obtain ⟨t', rfl⟩ := ry
    cases x with
    | non => cases rx; exact SeqAt.EqAt.str_none a t'
    | bl b => cases rx; exact SeqAt.EqAt.str_bool a t' b
    | int b => obtain ⟨t, rfl⟩ := rx; exact SeqAt.EqAt.str_int a t' b t
    | str b => obtain ⟨t, rfl⟩ := rx; exact SeqAt.EqAt.str_str a t' b t
    | _ => exact absurd (show false = true from fx) Bool.false_ne_true
  | _ => exact absurd (show false = true from fy) Bool.false_ne_true
noncomputable def eqU (x : V) (u : Value) : Bool := match u with
  | .none => eqV .non x
  | .bool b => eqV (.bl b) x
  | .int i _ => eqV (.int i) x
  | .str z _ => eqV (.str z) x
  | _ => false
theorem eqU_of {x y : V} {u : Value} (r : RelV y u) (f : flatV y = true) : eqU x u = eqV y x := by
  cases y with
  | non => cases r; rfl
  | bl b => cases r; rfl
  | int i => obtain ⟨t, rfl⟩ := r; rfl
  | str z => obtain ⟨t, rfl⟩ := r; rfl
  | _ => exact absurd (show false = true from f) Bool.false_ne_true
theorem any_eqU {x : V} : ∀ {xs : List V} {us : List Value}, Vals xs us → xs.all flatV = true → us.any (eqU x) = xs.any fun y => eqV y x
  | _, _, .nil, _ => rfl
  | y :: xs, u :: us, .cons r t, f => by
    rw [List.all_cons, Bool.and_eq_true] at f
    rw [List.any_cons, List.any_cons, eqU_of r f.1, any_eqU t f.2]
theorem mem_eqAt {A : Around} {s : Shared} {x : V} {v : Value} (rx : RelV x v) (fx : flatV x = true) : ∀ {xs : List V} {us : List Value}, Vals xs us → xs.all flatV = true → ∀ u ∈ us, SeqAt.EqAt A s u v (eqU x u)
  | _, _, .nil, _ => fun u hu => by cases hu
  | y :: xs, u :: us, .cons r t, f => fun u' hu => by
    rw [List.all_cons, Bool.and_eq_true] at f
    rcases List.mem_cons.mp hu with rfl | hu
    · rw [eqU_of r f.1]; exact eqAt_V r rx f.1 fx
    · exact mem_eqAt rx fx t f.2 u' hu
noncomputable def inV (x : V) (xs : List V) : Bool := xs.any fun y => eqV y x
noncomputable def rIn (K : PySem.W.Frag) (neg : Bool) : R2 := fun x y H Q => ∃ p xs, y = .ref p ∧ (SqL K H p xs ∨ SqT K H p xs) ∧ flatV x = true ∧ xs.all flatV = true ∧ Q (.bl (if neg then !inV x xs else inV x xs)) H
theorem op_in_seq : OpR X (compareOp .In) (rIn X.K false) := by
  intro pins s σ H x y v u Q I rx ry h
  obtain ⟨p, xs, rfl, hq, fx, fs, q⟩ := h
  cases ry
  rcases hq with hq | hq
  · obtain ⟨its, r, pl, hz⟩ := I.list hq
    refine SeqAt.in_listAt (eqU x) pl.isList (fun w hw => mem_eqAt rx fx r fs w (by simpa using hw)) ⟨.bl _, H, I, rfl, ?_⟩
    rw [show its.toArray.any (eqU x) = its.any (eqU x) by simp, any_eqU r fs]
    exact q
  · obtain ⟨its, r, pl, hz⟩ := I.tuple hq
    refine SeqAt.in_tupleAt (eqU x) pl (fun w hw => mem_eqAt rx fx r fs w (by simpa using hw)) ⟨.bl _, H, I, rfl, ?_⟩
    rw [show its.toArray.any (eqU x) = its.any (eqU x) by simp, any_eqU r fs]
    exact q
theorem op_notIn_seq : OpR X (compareOp .NotIn) (rIn X.K true) := by
  intro pins s σ H x y v u Q I rx ry h
  obtain ⟨p, xs, rfl, hq, fx, fs, q⟩ := h
  cases ry
  rcases hq with hq | hq
  · obtain ⟨its, r, pl, hz⟩ := I.list hq
    refine SeqAt.notIn_listAt (eqU x) pl.isList (fun w hw => mem_eqAt rx fx r fs w (by simpa using hw)) ⟨.bl _, H, I, rfl, ?_⟩
    rw [show its.toArray.any (eqU x) = its.any (eqU x) by simp, any_eqU r fs]
    exact q
  · obtain ⟨its, r, pl, hz⟩ := I.tuple hq
    refine SeqAt.notIn_tupleAt (eqU x) pl (fun w hw => mem_eqAt rx fx r fs w (by simpa using hw)) ⟨.bl _, H, I, rfl, ?_⟩
    rw [show its.toArray.any (eqU x) = its.any (eqU x) by simp, any_eqU r fs]
    exact q
theorem call_len_seq : CallR X (.builtin "len") (fun xs H Q => ∃ p ys, xs = [.ref p] ∧ (SqL X.K H p ys ∨ SqT X.K H p ys) ∧ Q (.int ys.length) H) := by
  intro pins s σ H xs us Q I r h
  obtain ⟨p, ys, rfl, hq, q⟩ := h
  obtain ⟨u, rfl, rx⟩ := vals1 r
  cases rx
  have hn := line63
  rcases hq with hq | hq
  · obtain ⟨its, r', pl, hz⟩ := I.list hq
    have hlen := r'.length
    exact Calls.call_len_list pl.isList (by simp only [List.size_toArray] <;> omega) ⟨.int ys.length, H, I.tok _, ⟨s.toks + 1, by rw [List.size_toArray, hlen]⟩, q⟩
  · obtain ⟨its, r', pl, hz⟩ := I.tuple hq
    have hlen := r'.length
    exact len_tuple pl (by simp only [List.size_toArray] <;> omega) ⟨.int ys.length, H, I.tok _, ⟨s.toks + 1, by rw [List.size_toArray, hlen]⟩, q⟩
theorem call_list_of : CallR X (.type "list") (fun xs H Q => ∃ p ys, xs = [.ref p] ∧ (SqL X.K H p ys ∨ SqT X.K H p ys) ∧ ∀ l, H l = none → Q (.ref l) (upd H l (.lst ys))) := by
  intro pins s σ H xs us Q I r h
  obtain ⟨p, ys, rfl, hq, q⟩ := h
  obtain ⟨u, rfl, rx⟩ := vals1 r
  cases rx
  have fin : ∀ (its : List Value), Vals ys its → ys.length ≤ sizeLine → ∀ (h' : Heap) (c' : Nat), (∀ b o', s.heap.get? b = some o' → h'.get? b = some o') →
      h'.get? s.heap.objs.size = some { cls := .type "list", dict := none, data := .seq its.toArray c', slots := #[] } → EP X pins σ Q (.ref s.heap.objs.size) { s with heap := h' } := fun its r' hz h' c' kp e =>
    ⟨.ref s.heap.objs.size, _, I.laid (t' := s.toks) kp (Nat.le_refl _) (show ObjOk X.prog X.w _ h' _ (.lst ys) from ⟨hz, its, c', r', e⟩), rfl, q _ (I.hok.fresh (Nat.le_refl _))⟩
  rcases hq with hq | hq
  · obtain ⟨its, r', pl, hz⟩ := I.list hq
    have hlen := r'.length
    obtain ⟨o, ho, hc, n, hd⟩ := pl.isList
    exact call_list_seq p (.inl rfl) ho hc hd (fun h' c' kp e => fin its r' hz h' c' kp e) (by simp only [List.size_toArray] <;> omega)
  · obtain ⟨its, r', pl, hz⟩ := I.tuple hq
    have hlen := r'.length
    obtain ⟨o, ho, hc, n, hd⟩ := pl
    exact call_list_seq p (.inr rfl) ho hc hd (fun h' c' kp e => fin its r' hz h' c' kp e) (by simp only [List.size_toArray] <;> omega)
theorem call_tuple_of : CallR X (.type "tuple") (fun xs H Q => ∃ p ys, xs = [.ref p] ∧ ((SqL X.K H p ys ∧ ∀ l, H l = none → Q (.ref l) (upd H l (.tup ys))) ∨ (SqT X.K H p ys ∧ Q (.ref p) H))) := by
  intro pins s σ H xs us Q I r h
  obtain ⟨p, ys, rfl, h⟩ := h
  obtain ⟨u, rfl, rx⟩ := vals1 r
  cases rx
  rcases h with ⟨hq, q⟩ | ⟨hq, q⟩
  · obtain ⟨its, r', pl, hz⟩ := I.list hq
    have hlen := r'.length
    refine call_tuple_list pl.isList (fun h' kp => ?_) (by simp only [List.size_toArray] <;> omega)
    have I1 : Inv X pins σ H { s with heap := h' } := I.kept (t' := s.toks) kp
    have I2 : Inv X pins σ (upd H h'.objs.size (.tup ys)) { s with heap := h'.push { cls := .type "tuple", data := .seq its.toArray } } :=
      I1.laid (t' := s.toks) (fun b o e => Heap.get?_push_of_some _ e) (Nat.le_refl _) (show ObjOk X.prog X.w _ _ _ (.tup ys) from ⟨hz, its, r', IsTupN.new _ _⟩)
    exact ⟨.ref h'.objs.size, _, I2, rfl, q _ (I1.hok.fresh (Nat.le_refl _))⟩
  · obtain ⟨its, r', pl, hz⟩ := I.tuple hq
    exact call_tuple_same pl ⟨.ref p, H, I, rfl, q⟩

noncomputable def tyV (K : PySem.W.Frag) (T : String) (x : V) (H : Hp) : Prop := match x with
  | .str _ => T = "str"
  | .int _ => T = "int"
  | .ref p => (T = "list" ∧ ∃ xs, SqL K H p xs) ∨ (T = "tuple" ∧ ∃ o, K.lookup p = some o ∧ o.cls = .type "tuple" ∧ o.dict = none) ∨
      (T = "dict" ∧ ((∃ kvs, H p = some (.dK kvs)) ∨ ∃ kvs, H p = some (.dT kvs))) ∨ (T = "set" ∧ ∃ S n, H p = some (.set S n))
  | _ => False
theorem tyV_is {pins : List (Addr × Obj)} {σ : St} {H : Hp} {s : Shared} {T : String} {x : V} {v : Value} (I : Inv X pins σ H s) (r : RelV x v) (ty : tyV X.K T x H) :
    s.TypeIs v T ∧ ∀ a, v = .ref a → ∃ ob, s.heap.get? a = some ob ∧ ob.dict = none := by
  cases x with
  | str z =>
    obtain ⟨t, rfl⟩ := r
    cases (show T = "str" from ty)
    exact ⟨typeIs_str s z t, fun _ e => nomatch e⟩
  | int i =>
    obtain ⟨t, rfl⟩ := r
    cases (show T = "int" from ty)
    exact ⟨typeIs_int s i t, fun _ e => nomatch e⟩
  | ref p =>
    cases r
    rcases ty with ⟨rfl, xs, hq⟩ | ⟨rfl, o, hk, hc, hd⟩ | ⟨rfl, hk⟩ | ⟨rfl, S, n, hk⟩
    · obtain ⟨its, _, pl, _⟩ := I.list hq
      refine ⟨pl.isList.typeIs, fun a e => ?_⟩
      cases e
      obtain ⟨o, n, e, c, hd, _⟩ := pl
      exact ⟨o, e, hd⟩
    · refine ⟨⟨o, I.kIn p o hk, hc⟩, fun a e => ?_⟩
      cases e
      exact ⟨o, I.kIn _ o hk, hd⟩
    · have z : ∃ o, s.heap.get? p = some o ∧ o.ExactDict := by
        rcases hk with ⟨kvs, hk⟩ | ⟨kvs, hk⟩
        · obtain ⟨_, _, _, _, o, _, _, e, ex, _⟩ := I.hok p _ hk
          exact ⟨o, e, ex⟩
        · obtain ⟨_, _, _, _, o, _, _, e, ex, _⟩ := I.hok p _ hk
          exact ⟨o, e, ex⟩
      obtain ⟨o, e, ex⟩ := z
      refine ⟨⟨o, e, ex.1⟩, fun a e2 => ?_⟩
      cases e2
      exact ⟨o, e, ex.2.1⟩
    · obtain ⟨o, _, _, _, e, ex, _⟩ := I.hok p _ hk
      refine ⟨⟨o, e, ex.1⟩, fun a e2 => ?_⟩
      cases e2
      exact ⟨o, e, ex.2.1⟩
  | _ => exact False.elim ty
noncomputable def tBM0 (K : PySem.W.Frag) (T : String) (r : V → List V → Hp → VK → Prop) (to : TE) : TE := fun σ H Q => to σ H fun x H1 => tyV K T x H1 ∧ r x [] H1 Q
noncomputable def tBM (K : PySem.W.Frag) (T : String) (r : V → List V → Hp → VK → Prop) (to : TE) (t : TA) : TE := fun σ H Q => to σ H fun x H1 => tyV K T x H1 ∧ t σ H1 fun xs H2 => r x xs H2 Q
variable {o e : Expr} {es : List Expr} {to : TE} {t : TA} {name : Str} {apos cpos : Pos} {T id : String} {r : V → List V → Hp → VK → Prop}
theorem pe_bm0 (pa : PlainAttrs T) (slot : Slot T name id) (hty : typeOf (.builtin id) = pure (.type "method_descriptor")) (hm : MtR X id r) (ho : PE X o to)
    (hbase : attributeBase o name X.env (eval o X.env) = eval o X.env := by rfl) (hline : (apos.endLine == cpos.line) = true := by rfl) : PE X (.Call (.Attribute o name apos) [] [] cpos) (tBM0 X.K T r to) := by
  intro pins s σ H Q I h
  refine wpAny_Call_method0_late hbase hline (thn (ho pins s σ H _ I h) fun v s1 ⟨x, H1, I1, r1, ty, q1⟩ => ?_)
  obtain ⟨h1, h2⟩ := tyV_is I1 r1 ty
  exact ⟨T, id, pa, slot, hty, h1, h2, Calls.callWith_builtin rfl (PySem.evalArgs_none (hm pins s1 σ H1 x [] v [] Q I1 r1 .nil q1))⟩
theorem pe_bm (pa : PlainAttrs T) (slot : Slot T name id) (hty : typeOf (.builtin id) = pure (.type "method_descriptor")) (hm : MtR X id r) (ho : PE X o to) (ha : PA X (e :: es) t)
    (hbase : attributeBase o name X.env (eval o X.env) = eval o X.env := by rfl)
    (hfew : ((backTo cpos (starEach (e :: es) X.env)).all (fun x => !x.1) && (backToKw cpos (keywordEach [] X.env)).all (fun x => x.1.isSome)
      && decide ((e :: es).length + ([] : List Keyword).length + (if ([] : List Keyword).isEmpty then 0 else 1) < 30)) = true := by rfl)
    (hline : (apos.endLine == cpos.line) = true := by rfl) (hs : starEach (e :: es) X.env = (false, eval e X.env) :: starEach es X.env := by rfl) (hplain : (backTo cpos (starEach es X.env)).any (·.1) = false := by rfl) :
    PE X (.Call (.Attribute o name apos) (e :: es) [] cpos) (tBM X.K T r to t) := by
  intro pins s σ H Q I h
  refine wpAny_Call_method_late hbase hfew hline rfl (thn (ho pins s σ H _ I h) fun v s1 ⟨x, H1, I1, r1, ty, q1⟩ => ?_)
  obtain ⟨h1, h2⟩ := tyV_is I1 r1 ty
  refine ⟨T, id, pa, slot, hty, h1, h2, ?_⟩
  have hA := ha cpos pins s1 σ H1 _ I1 q1
  rw [hs] at hA ⊢
  refine Calls.callWith_builtin (by show (false || (backTo cpos (starEach es X.env)).any (·.1)) = false; rw [hplain] <;> rfl) (Calls.evalArgs_plain ?_)
  exact thn hA fun us s2 ⟨vs, H2, I2, r2, q2⟩ => hm pins s2 σ H2 x vs v us Q I2 r1 r2 q2
end
end L2

namespace L2
open PySem PySem.Spec PyProof.Rows

noncomputable def MtM (X : Cx) (id : String) (r : V → List V → Hp → VK → Prop) : Prop :=
  ∀ (pins : List (Addr × Obj)) (s : Shared) (σ : St) (H : Hp) (x : V) (xs : List V) (v : Value) (us : List Value) (Q : VK), Inv X pins σ H s → RelV x v → Vals xs us → r x xs H Q →
    wpAny (model X.prog X.w) X.A (call (.builtin id) (v :: us)) (EP X pins σ Q) X.xe s

theorem Vals.one : ∀ {x : V} {us : List Value}, Vals [x] us → ∃ u, us = [u] ∧ RelV x u
  | _, _, .cons r .nil => ⟨_, rfl, r⟩
theorem Vals.two : ∀ {x y : V} {us : List Value}, Vals [x, y] us → ∃ u v, us = [u, v] ∧ RelV x u ∧ RelV y v
  | _, _, _, .cons r (.cons q .nil) => ⟨_, _, rfl, r, q⟩
theorem Vals.zero : ∀ {us : List Value}, Vals [] us → us = []
  | _, .nil => rfl
theorem Vals.dropLast {xs : List V} {us : List Value} (h : Vals xs us) : Vals xs.dropLast us.dropLast := by
  induction h with
  | nil => exact .nil
  | cons r t ih =>
    cases t with
    | nil => exact .nil
    | cons q t' => exact .cons r ih
theorem erase_last {α : Type} (l : List α) : l.eraseIdx (l.length - 1) = l.dropLast := by
  induction l with
  | nil => rfl
  | cons a r ih =>
    cases r with
    | nil => rfl
    | cons b r =>
      have e : (a :: b :: r).length - 1 = ((b :: r).length - 1) + 1 := by
        have h1 : (a :: b :: r).length = r.length + 2 := rfl
        have h2 : (b :: r).length = r.length + 1 := rfl
        omega
      rw [e, List.eraseIdx_cons_succ, ih]
      all_goals rfl
section
variable {X : Cx} {pins : List (Addr × Obj)} {σ : St} {H : Hp} {s : Shared} {l b : Addr} {xs ys zs : List V}

theorem Inv.lset {its its' : List Value} {n : Nat} {f : Array Value → Array Value} {t' : Nat} (I : Inv X pins σ H s) (hH : H l = some (.lst xs))
    (e : s.heap.get? l = some { cls := .type "list", data := .seq its.toArray n }) (hf : f its.toArray = its'.toArray) (hv : Vals ys its') (hz : ys.length ≤ sizeLine) :
    Inv X pins σ (upd H l (.lst ys)) { s with heap := s.heap.update l (Obj.mapSeq f), toks := t' } := by
  have q := PySem.IsL.update e f
  rw [hf] at q
  refine I.write (x := l) (e := l) (by rw [hH]; exact trivial) (.inl rfl) (fun b' u hb hu => (Heap.get?_update_other s.heap (Obj.mapSeq f) (Ne.symm hb)).trans hu) ⟨_, q⟩ ?_
  exact ⟨hz, its', _, hv, q⟩
theorem Inv.lnew {its : List Value} {t' : Nat} (I : Inv X pins σ H s) (hv : Vals ys its) (hz : ys.length ≤ sizeLine) :
    Inv X pins σ (upd H s.heap.objs.size (.lst ys)) { s with heap := s.heap.push { cls := .type "list", data := .seq its.toArray }, toks := t' } :=
  I.laid (fun _ _ q => Heap.get?_push_of_some _ q) (Nat.le_refl _) ⟨hz, its, 0, hv, Heap.get?_push_size _ rfl⟩
theorem Inv.fresh (I : Inv X pins σ H s) : H s.heap.objs.size = none := I.hok.fresh (Nat.le_refl _)
theorem Inv.lstM (I : Inv X pins σ H s) (hH : H l = some (.lst xs)) : xs.length ≤ sizeLine ∧ ∃ (its : List Value) (n : Nat), Vals xs its ∧ xs.length = its.length ∧ s.heap.get? l = some { cls := .type "list", data := .seq its.toArray n } := by
  obtain ⟨z, its, n, r, e⟩ := I.hok l _ hH
  exact ⟨z, its, n, r, r.length, e⟩

theorem notLongL {n : Nat} (h : n ≤ sizeLine) : Builtin.List.listTooLong n = false := by
  unfold Builtin.List.listTooLong
  exact decide_eq_false (by omega)
end

section
variable {X : Cx}

noncomputable def rAppend : V → List V → Hp → VK → Prop := fun x vs H Q => ∃ l xs y, x = .ref l ∧ vs = [y] ∧ H l = some (.lst xs) ∧ xs.length < sizeLine ∧ Q .non (upd H l (.lst (xs ++ [y])))
theorem mt_append : MtM X "list.append" rAppend := by
  intro pins s σ H x vs v us Q I rx rv h
  obtain ⟨l, xs, y, rfl, rfl, hH, hz, q⟩ := h
  cases rx
  obtain ⟨u, rfl, ru⟩ := rv.one
  obtain ⟨z, its, n, r, hl, e⟩ := I.lstM hH
  refine call_meets F.slot_list_append ⟨_, e, rfl⟩ F.entry_list_append (F.args_list_append_2 _ _) (PySem.list_append l its.toArray n u (by rw [List.size_toArray]; omega)) ⟨e, ?_⟩
  refine ⟨.non, _, I.lset (its' := its ++ [u]) hH e (by simp) (r.append (.cons ru .nil)) ?_, rfl, q⟩
  rw [List.length_append, List.length_singleton]
  omega

noncomputable def rExtend : V → List V → Hp → VK → Prop := fun x vs H Q => ∃ l b xs zs, x = .ref l ∧ vs = [.ref b] ∧ H l = some (.lst xs) ∧ H b = some (.lst zs) ∧ xs.length + zs.length ≤ sizeLine ∧ Q .non (upd H l (.lst (xs ++ zs)))
theorem mt_extend : MtM X "list.extend" rExtend := by
  intro pins s σ H x vs v us Q I rx rv h
  obtain ⟨l, b, xs, zs, rfl, rfl, hH, hB, hz, q⟩ := h
  cases rx
  obtain ⟨u, rfl, ru⟩ := rv.one
  cases ru
  obtain ⟨z, its, n, r, hl, e⟩ := I.lstM hH
  obtain ⟨z2, its2, n2, r2, hl2, e2⟩ := I.lstM hB
  have hsz : its.toArray.size + its2.toArray.size ≤ sizeLine := by rw [List.size_toArray, List.size_toArray]; omega
  have hlong : ¬ (!its.toArray.isEmpty && Builtin.List.listTooLong (its.toArray.size + its2.toArray.size)) = true := by
    rw [notLongL hsz, Bool.and_false]
    exact Bool.false_ne_true
  refine call_meets F.slot_list_extend ⟨_, e, rfl⟩ F.entry_list_extend (F.args_list_extend_2 _ _)
    (AutoSeq1.list_extend_list_list_0 l its.toArray n b its2.toArray n2 hlong (by rw [List.size_toArray]; omega) (by omega)) ⟨e, e2, ?_⟩
  refine ⟨.non, _, I.lset (its' := its ++ its2) hH e (by simp) (r.append r2) ?_, rfl, q⟩
  rw [List.length_append]
  omega

noncomputable def rPop : V → List V → Hp → VK → Prop := fun x vs H Q => ∃ l xs y, x = .ref l ∧ vs = [] ∧ H l = some (.lst xs) ∧ xs[xs.length - 1]? = some y ∧ Q y (upd H l (.lst xs.dropLast))
theorem mt_pop : MtM X "list.pop" rPop := by
  intro pins s σ H x vs v us Q I rx rv h
  obtain ⟨l, xs, y, rfl, rfl, hH, hy, q⟩ := h
  cases rx
  have hus := rv.zero
  subst hus
  obtain ⟨z, its, n, r, hl, e⟩ := I.lstM hH
  obtain ⟨u, hu, ru⟩ := r.get hy
  have hy' : its.toArray[its.toArray.size - 1]? = some u := by
    show its.toArray[its.length - 1]? = some u
    rw [← Array.getElem?_toList, ← hl]
    exact hu
  refine call_meets F.slot_list_pop ⟨_, e, rfl⟩ F.entry_list_pop (F.args_list_pop_1 _) (MeetsSeq.list_pop_last l its.toArray n u hy' (by rw [List.size_toArray]; omega)) ⟨e, ?_⟩
  refine ⟨y, _, I.lset (its' := its.dropLast) hH e ?_ r.dropLast ?_, ru, q⟩
  · show its.toArray.eraseIdxIfInBounds (its.toArray.size - 1) = its.dropLast.toArray
    rw [List.size_toArray, List.eraseIdxIfInBounds_toArray, erase_last]
  · rw [List.length_dropLast]
    omega

noncomputable def rCat : R2 := fun x y H Q => ∃ l b xs zs, x = .ref l ∧ y = .ref b ∧ H l = some (.lst xs) ∧ H b = some (.lst zs) ∧ xs.length + zs.length ≤ sizeLine ∧ ∀ p, H p = none → Q (.ref p) (upd H p (.lst (xs ++ zs)))
theorem op_cat : OpR X (binaryOp .Add) rCat := by
  intro pins s σ H x y v u Q I rx ry h
  obtain ⟨l, b, xs, zs, rfl, rfl, hH, hB, hz, q⟩ := h
  cases rx
  cases ry
  obtain ⟨z, its, n, r, hl, e⟩ := I.lstM hH
  obtain ⟨z2, its2, n2, r2, hl2, e2⟩ := I.lstM hB
  refine PySem.P.add_list e e2 ?_ (by rw [List.size_toArray, List.size_toArray]; omega)
  have ea : its.toArray ++ its2.toArray = (its ++ its2).toArray := by simp
  rw [ea]
  exact ⟨.ref _, _, I.lnew (t' := s.toks) (r.append r2) (by rw [List.length_append]; omega), rfl, q _ I.fresh⟩
end

section
variable {prog : Program} {w : World} {A : Around} {E : Value → Shared → Prop} {s : Shared}
set_option maxRecDepth 100000 in
end

section
variable {X : Cx}
end
end L2

namespace L2
open PySem PySem.Spec PyProof.Rows

section
variable {κ : Type} [DecidableEq κ]
end


section
variable {P : Program} {w : World} {H : Hp} {h : Heap} {a : Addr}
end

section
variable {X : Cx} {pins : List (Addr × Obj)} {σ : St} {H : Hp} {s : Shared} {a : Addr} {y v : V} {u r : Value} {o : Option V} {A : Around} {E : Value → Shared → Prop}

end

section
variable {X : Cx} {pins : List (Addr × Obj)} {σ : St} {H : Hp} {s : Shared} {a : Addr} {kvs : List (Key × V)} {k : Key} {u : Value} {A : Around} {E : Value → Shared → Prop}
end


section
variable {X : Cx} {o i e value : Expr} {pos pos' tpos : Pos} {td ty tv : TE}
end


section
variable {X : Cx} {pos : Pos}
end

section
variable {X : Cx} {pins : List (Addr × Obj)} {σ : St} {H : Hp} {s : Shared} {a : Addr} {y d : V} {u r : Value} {o : Option V} {A : Around} {E : Value → Shared → Prop}
end

section
variable {X : Cx} {o e f : Expr} {apos cpos : Pos} {td ty tx : TE}
end

section
variable {X : Cx} {pins : List (Addr × Obj)} {σ : St} {H : Hp} {s : Shared} {a : Addr} {kvs : List (Key × V)} {A : Around} {E : Value → Shared → Prop}
end


section
variable {X : Cx} {pins : List (Addr × Obj)} {σ : St} {H : Hp} {s : Shared} {a : Addr} {y : V} {u : Value} {A : Around} {E : Value → Shared → Prop}
end
end L2

namespace Att
open PySem PySem.W PySem.Calls PyProof.Rows

theorem ints_of_wellAll {P : Params} {h : Heap} : ∀ (ns : List Int) (vs : List Value), WellAll P h vs (ns.map WData.int) → IntsAre vs ns := by
  intro ns
  induction ns with
  | nil =>
    intro vs w
    rw [List.map_nil] at w
    cases w
    exact .nil
  | cons n ns ih =>
    intro vs w
    rw [List.map_cons] at w
    cases w with
    | cons a b =>
      cases a
      exact .cons _ _ (ih _ b)

theorem script_of {l : OpenLaw} {n : Nat} (hn : l.most = some n) {P : Params} {h : Heap} {args : List WData} {vals : List Value}
    (hpre : l.row.toRowW.claim.pre args = true) (hwl : WellAll P h vals args) :
    ∃ a vs ns, vals = [Value.ref a] ∧ args = [WData.list (ns.map WData.int)] ∧ h.get? a = some { cls := .type "list", data := .seq vs.toArray } ∧ IntsAre vs ns ∧ ns.length ≤ n := by
  have hsh : WShape.hasAll [] args [.list .int] = true := (pre_splitW hpre).1
  have hc : l.pre.holds [] { args := args } = true := (pre_splitW hpre).2
  obtain ⟨d, r, rfl, h1, h2⟩ := hasAllW_cons hsh
  obtain rfl := hasAllW_nil h2
  obtain ⟨xs, rfl, h3⟩ := hasW_list h1
  obtain ⟨ns, rfl⟩ := items_int h3
  have hlen : ns.length ≤ n := by
    unfold OpenLaw.pre at hc
    have h4 : (WTm.not (.lt (.lit (.int (n : Int))) (.len (.arg 0)))).holds [] { args := [.list (ns.map .int)] } = true := by
      have h4 := (holds_andW hc).1
      rw [hn] at h4
      exact h4
    have h5 := condW_of h4 (w_not (w_lt w_lit (w_len_list (w_arg rfl))))
    rw [List.length_map] at h5
    refine Nat.le_of_not_lt fun q => ?_
    have q' : (n : Int) < ((ns.length : Nat) : Int) := by omega
    first
      | (rw [decide_eq_true q'] at h5; exact absurd h5 (by decide))
      | (simp at h5; omega)
  cases hwl with
  | cons w1 w2 =>
    cases w2
    cases w1 with
    | list ho hall => exact ⟨_, _, ns, rfl, rfl, ho, ints_of_wellAll ns _ hall, hlen⟩

theorem post_true (l : OpenLaw) (args : List WData) : l.row.toRowW.claim.post args (.bool true) args = true :=
  postW_of (r := l.row.toRowW) (X := (true == true))
    (show WShape.has [] (.bool true) .bool = true by first | rfl | decide | simp [WShape.has, WShape.arms, WShape.armsAll])
    (show (WTm.eq .res (.lit (.bool true))).value [] { args := args, res := some (.bool true), after := args } = some (.bool (true == true)) from w_eq_bool (w_res rfl) w_lit) rfl

theorem attach_call {l : OpenLaw} {n : Nat} {q : Program} {loose : List Str} {XP : (Str → Option Value) → Heap → Prop} {YP : World → Heap → Prop} {d : DefRec}
    (hn : l.most = some n) (hdf : d.params.defaults = [])
    (call : ∀ (w : World) (s₀ s₁ : Shared) (mg mb : Str → Option Value) (fa : Addr) (o : Obj) (pm cd doc : Value) (a : Addr) (vs : List Value) (ns : List Int),
      Ground q loose [] XP w s₀ mg mb s₁.heap → YP w s₁.heap →
      s₁.heap.get? fa = some o → o.data = .func (docDef d.name d.params d.body d.scope pm cd doc) → s₁.heap.CodeRec cd d.name → mg d.name = some (.ref fa) →
      s₁.heap.get? a = some { cls := .type "list", data := .seq vs.toArray } → IntsAre vs ns → ns.length ≤ n → s₁.gens = #[] →
      codeAny (model l.prog w) callerA (.call (.ref fa) ⟨[.ref a], []⟩) (fun r s' => r = .ok (.ret (.bool true)) ∧ OldK s₁.heap s'.heap ∧ s'.os = s₁.os ∧ AllBare s'.gens) s₁) :
    WalkO q loose XP YP l.row.toRowW d [] (fun f vs => PySem.call f vs) := by
  intro w s₀ s₁ mg mb G Y fa o pm cd doc dV kV ho hd hcd hD hmg hg args vals as hpre hlay hrd hwl hlo
  obtain rfl : dV = .none := Dflts.none hD hdf
  obtain rfl : kV = .none := Dflts.noKw hD
  obtain ⟨a, vs, ns, rfl, rfl, hobj, hints, hlen⟩ := script_of hn hpre hwl
  refine enter_call (codeAny_mono (call w s₀ s₁ mg mb fa o pm cd doc a vs ns G Y ho (fd_plain hd) hcd hmg hobj hints hlen hg) fun r s' hq => ?_)
  obtain ⟨rfl, h2, h3, h4⟩ := hq
  exact ⟨.inl ⟨.bool true, .bool true, [], rfl, fun _ => rfl, .bool true, post_true l _, fun _ => ⟨List.Pairwise.nil, fun _ hm => (nomatch hm)⟩⟩, h2, h3, h4⟩

section
variable {prog : Program} {w : World} {A : Around} {E : Value → Shared → Prop} {s : Shared} {K : Frag}

end
end Att

namespace L2
open PySem PySem.Spec PyProof.Rows

theorem vals_ints : ∀ {vs : List Value} {ns : List Int}, IntsAre vs ns → Vals (ns.map V.int) vs
  | _, _, .nil => .nil
  | _, _, .cons n t h => .cons ⟨t, rfl⟩ (vals_ints h)

noncomputable def Only (H : Hp) : Prop := ∀ b, H b = none ∨ ∃ o xs, H b = some (.frz o (.lst xs))

theorem law_call {P : Program} {w : World} {K : PySem.W.Frag} {mg mb : Str → Option Value} {CX : CXT} {k : Nat} {fa a : Addr} {fd : FuncData} {x : Str} {sp : Sp} {s₁ : Shared} {vs : List Value} {ns : List Int}
    (KX : K.In s₁.heap) (hns : s₁.heap.Ns mainGlobals mg) (hb : s₁.heap.Ns builtinsNs mb) (hbb : ∀ x : Str, x ≠ "__name__" → mb x = bootBuiltins x) (hlim : s₁.heap.NoLimit) (hg : s₁.gens = #[])
    (ha : s₁.heap.get? a = some { cls := .type "list", data := .seq vs.toArray }) (hi : IntsAre vs ns) (hl : ns.length ≤ sizeLine) (hr : Room k callerA)
    (F : ∀ base : Heap, K.In base → base.Ns mainGlobals mg → FnOk P w K mg base CX k fa fd [x] sp) (hbind : ∀ (s : Shared) (u : Value), BindsTo s fd ⟨[u], []⟩ [(x, u)])
    (hsp : ∀ H : Hp, Only H → SqL K H a (ns.map V.int) → sp [.ref a] H (fun v _ => v = .bl true) fun _ _ _ => False)
    (hCX : ∀ H e s', CX [] H s₁ (fun _ _ _ => False) e s' → False) :
    codeAny (model P w) callerA (.call (.ref fa) ⟨[.ref a], []⟩) (fun r s' => r = .ok (.ret (.bool true)) ∧ OldK s₁.heap s'.heap ∧ s'.os = s₁.os ∧ AllBare s'.gens) s₁ := by
  have rv := vals_ints hi
  have lenV := hi.length
  -- from an abstract heap in which nothing but the script may be tracked
  have core : ∀ H : Hp, Only H → SqL K H a (ns.map V.int) → HOk P w H s₁.heap → (∀ b, H b ≠ none → b = a) → (H a ≠ none → K.lookup a = none) →
      codeAny (model P w) callerA (.call (.ref fa) ⟨[.ref a], []⟩) (fun r s' => r = .ok (.ret (.bool true)) ∧ OldK s₁.heap s'.heap ∧ s'.os = s₁.os ∧ AllBare s'.gens) s₁ := by
    intro H hO hS hok hA hK
    have base_of : ∀ {b : Addr} {o : Obj}, s₁.heap.get? b = some o → H b = none → (hidT s₁.heap H).get? b = some o := fun e n => hidT_get e n
    have noA : ∀ {b : Addr} {o : Obj} {es : Array DictEntry} {ep : Nat}, s₁.heap.get? b = some o → o.data = .dict es ep → H b = none := fun {b o es ep} e d => by
      cases q : H b with
      | none => rfl
      | some u =>
        have e' : b = a := hA b (by rw [q]; simp)
        subst e'
        rw [ha] at e; cases e
        have d' : Data.seq vs.toArray _ = Data.dict es ep := d
        cases d'
    have nsK : ∀ {b : Addr} {m : Str → Option Value}, s₁.heap.Ns b m → (hidT s₁.heap H).Ns b m := fun {b m} ⟨o, es, ep, e, d, r⟩ => ⟨o, es, ep, base_of e (noA e d), d, r⟩
    have hKb : K.In (hidT s₁.heap H) := fun b o e => base_of (KX b o e) (by
      cases q : H b with
      | none => rfl
      | some u =>
        have e' : b = a := hA b (by rw [q]; simp)
        subst e'
        rw [hK (by rw [q]; simp)] at e; cases e)
    have hM : Mod K mg (hidT s₁.heap H) := ⟨hKb, nsK hns, ⟨mb, nsK hb, hbb⟩, let ⟨mc, h1, h2⟩ := hlim; ⟨mc, nsK h1, h2⟩⟩
    have e0 : Env0 P w K mg (hidT s₁.heap H) callerA [] s₁ H := ⟨rfl, hM, fun b o e => of_hidT e, Nat.le_of_eq (hidT_size _ _), trivial, fun b hb => absurd (show b ∈ ([] : List Addr) from hb) (by simp), hok, .of_eq hg⟩
    refine codeAny_mono ((F _ hKb (nsK hns)).run callerA [] s₁ H ⟨[.ref a], []⟩ [.ref a] [.ref a] _ _ hr e0 (hbind s₁ (.ref a)) (.cons rfl .nil) (hsp H hO hS)) fun r s' h => ?_
    cases r with
    | error e => exact (hCX H e s' h).elim
    | ok fl =>
      cases fl with
      | next => exact False.elim h
      | brk => exact False.elim h
      | cont => exact False.elim h
      | ret u =>
        obtain ⟨v, H', os, bare, un, hok', r', q⟩ := h
        have q' : v = .bl true := q
        subst q'
        obtain rfl : u = Value.bool true := r'
        refine ⟨rfl, OldK.of_keep fun b o e => ?_, os, bare⟩
        cases q : H b with
        | none => exact un.keep b o e q (by intro z; exact absurd (show b ∈ ([] : List Addr) from z) (by simp)) (by simp)
        | some u =>
          rcases hO b with z | ⟨ob, xs, z⟩
          · rw [q] at z; cases z
          · have z2 := un.frzs b ob _ z
            obtain ⟨e1, _⟩ := hok b _ z
            obtain ⟨e2, _⟩ := hok' b _ z2
            rw [e] at e1; cases e1
            exact e2
  cases hk : K.lookup a with
  | some o =>
    -- the script is one of the module's own objects
    have e := KX a o hk
    rw [ha] at e
    cases e
    refine core (fun _ => none) (fun _ => .inl rfl) (.inr ⟨_, vs.toArray, _, hk, rfl, rfl, rfl, by rw [List.size_toArray, lenV]; exact hl, by simpa using rv⟩) (fun b u z => by have z' : (none : Option HO) = some u := z; cases z') (fun b z => absurd rfl z) fun z => absurd rfl z
  | none =>
    refine core (fun b => if b = a then some (.frz { cls := .type "list", data := .seq vs.toArray } (.lst (ns.map V.int))) else none) (fun b => ?_) (.inl (.inr ⟨{ cls := .type "list", data := .seq vs.toArray }, if_pos rfl⟩)) (fun b u z => ?_) (fun b z => ?_) fun _ => hk
    · by_cases hb : b = a
      · exact .inr ⟨_, _, if_pos hb⟩
      · exact .inl (if_neg hb)
    · by_cases hb : b = a
      · have z' := (if_pos hb).symm.trans z
        cases z'
        subst hb
        exact ⟨ha, by rw [List.length_map]; exact hl, vs, _, rv, ha⟩
      · have z' := (if_neg hb).symm.trans z
        cases z'
    · by_cases hb : b = a
      · exact hb
      · exact absurd (if_neg hb) z
end L2

namespace L2
open PySem PySem.Spec PyProof.Rows

theorem walk_of {l : PySem.W.OpenLaw} {n k : Nat} {q : Program} {loose : List Str} {XP : (Str → Option Value) → Heap → Prop} {YP : World → Heap → Prop} {d : DefRec} {K : Params → PySem.W.Frag} {CX : World → CXT} {sp : World → Sp} {x : Str}
    (hn : l.most = some n) (hn2 : n ≤ sizeLine) (hdf : d.params.defaults = []) (hr : Room k callerA)
    (hY : ∀ (w : World) (h : Heap), YP w h → (K w.params).In h)
    (F : ∀ (w : World) (mg : Str → Option Value) (fa : Addr) (h : Heap), (K w.params).In h → h.Ns mainGlobals mg → mg d.name = some (.ref fa) →
      ∃ fd : FuncData, (∀ (s : Shared) (u : Value), BindsTo s fd ⟨[u], []⟩ [(x, u)]) ∧
        ∀ base : Heap, (K w.params).In base → base.Ns mainGlobals mg → FnOk l.prog w (K w.params) mg base (CX w) k fa fd [x] (sp w))
    (hsp : ∀ (w : World) (H : Hp) (a : Addr) (ns : List Int), ns.length ≤ n → Only H → SqL (K w.params) H a (ns.map V.int) → sp w [.ref a] H (fun v _ => v = .bl true) fun _ _ _ => False)
    (hCX : ∀ (w : World) (H : Hp) (s : Shared) (e : Value) (s' : Shared), CX w [] H s (fun _ _ _ => False) e s' → False) :
    PySem.W.WalkO q loose XP YP l.row.toRowW d [] (fun f vs => PySem.call f vs) := by
  refine Att.attach_call hn hdf fun w s₀ s₁ mg mb fa o pm cd doc a vs ns G Y ho hd hcd hmg hobj hints hlen hg => ?_
  have KX := hY w _ Y
  obtain ⟨fd, hb, hF⟩ := F w mg fa _ KX G.T.g hmg
  exact law_call KX G.T.g G.T.b G.T.builtins G.T.nolimit hg hobj hints (Nat.le_trans hlen hn2) hr hF hb (fun H hO hS => hsp w H a ns hlen hO hS) fun H e s' => hCX w H s₁ e s'
end L2


namespace L2
open PySem PySem.Spec PyProof.Rows

noncomputable def inClass (s : Stmt) (j : Nat) : Stmt := match s with
  | .ClassDef _ _ _ body _ _ _ _ _ _ _ => body.getD j (.Pass ⟨0, 0, 0, 0⟩)
  | _ => .Pass ⟨0, 0, 0, 0⟩
noncomputable def defArgs (s : Stmt) : Arguments := match s with
  | .FunctionDef _ a _ _ _ _ _ _ _ _ => a
  | _ => { posonlyargs := [], args := [], vararg := none, kwonlyargs := [], kw_defaults := [], kwarg := none, defaults := [] }
noncomputable def defBody (s : Stmt) : List Stmt := match s with
  | .FunctionDef _ _ b _ _ _ _ _ _ _ => b
  | _ => []
noncomputable def defScope (s : Stmt) : Scope := match s with
  | .FunctionDef _ _ _ _ _ _ sc _ _ _ => sc
  | _ => { kind := .function, names := [], isGenerator := false, isCoroutine := false }

noncomputable abbrev CX0 : CXT := fun _ _ _ _ _ _ => False
noncomputable abbrev E0 : XK := fun _ _ _ => False
theorem pass0 {X : Cx} : Passes CX0 X E0 := fun _ _ _ _ _ _ _ h => h.elim

structure Fun (K : PySem.W.Frag) (x qual : Str) (st : Stmt) (f : Addr) (fd : FuncData) : Prop where
  ex : ∃ (oc : Value) (od : Option Addr) (kV doc pm : Value) (an : Option Addr) (cdv ct : Value) (osl : Array (Option Value)),
    fd = PySem.W.fnOf x qual (defArgs st) (defBody st) (defScope st) .none kV doc pm an cdv ct ∧ K.lookup f = some ⟨oc, od, .func fd, osl⟩ ∧ PySem.W.codeIn K cdv qual = true
  kp : PySem.W.keepIn K (.ref f) = true
section
variable {P : Program} {w : World} {K : PySem.W.Frag} {mg : Str → Option Value} {base : Heap}
theorem Fun.ok {x qual : Str} {st : Stmt} {f : Addr} {fd : FuncData} {N ps : List Str} {k : Nat} {sp : Sp} (F : Fun K x qual st f fd) (S : FnScope N ps (defScope st)) (len : ∀ vs H Q E, sp vs H Q E → vs.length = ps.length)
    (hbody : ∀ (cdv : Value) (A : Around) (outer : List Env) (s : Shared) (H : Hp) (vs : List V) (Q : VK) (E : XK), Room k (A.deeper (envOfC qual (defScope st) s.heap.objs.size f cdv)) → sp vs H Q E →
      ∃ t, PSs (cxOf CX0 P w K mg base N qual (defScope st) f cdv A outer s H E).nox (defBody st) t ∧ t { nx := fun _ H' => Q .non H', rt := Q } (start N vs) H) : FnOk P w K mg base CX0 (k + 1) f fd ps sp := by
  obtain ⟨oc, od, kV, doc, pm, an, cdv, ct, osl, rfl, lk, hcd⟩ := F.ex
  refine fn_of lk hcd S len fun A outer s H vs Q E hr hsp => ?_
  obtain ⟨t, h, q⟩ := hbody cdv A outer s H vs Q E hr hsp
  exact ⟨t, h.nox, q⟩
theorem Fun.binds {x qual : Str} {st : Stmt} {f : Addr} {fd : FuncData} {ps : List Str} (F : Fun K x qual st f fd)
    (h : ∀ (kV doc pm : Value) (an : Option Addr) (cdv ct : Value) (us : List Value), us.length = ps.length → bindArgs (PySem.W.fnOf x qual (defArgs st) (defBody st) (defScope st) .none kV doc pm an cdv ct) ⟨us, []⟩ = pure (ps.zip us)) : Binds K fd ps [] := by
  obtain ⟨oc, od, kV, doc, pm, an, cdv, ct, osl, rfl, lk, hcd⟩ := F.ex
  exact .all (h kV doc pm an cdv ct)
theorem fun_mk {x qual : Str} {st : Stmt} {f : Addr} {oc : Value} {od an : Option Addr} {osl : Array (Option Value)} {kV doc pm cdv ct : Value} (l : K.lookup f = some ⟨oc, od, .func (PySem.W.fnOf x qual (defArgs st) (defBody st) (defScope st) .none kV doc pm an cdv ct), osl⟩)
    (c : PySem.W.codeIn K cdv qual = true) (k : PySem.W.keepIn K (.ref f) = true) : Fun K x qual st f (PySem.W.fnOf x qual (defArgs st) (defBody st) (defScope st) .none kV doc pm an cdv ct) := ⟨⟨oc, od, kV, doc, pm, an, cdv, ct, osl, rfl, l, c⟩, k⟩
end
section
variable {X : Cx}
theorem pv (i : Nat) {x : Str} {pos : Pos} (hN : X.N[i]? = some x := by rfl) (hv : Vis X.env.scope x := by first | exact Or.inl rfl | exact Or.inr (Or.inl rfl) | exact Or.inr (Or.inr rfl)) (hd : (x == ("__debug__" : Str)) = false := by decide)
    (hcd : (x == ("__classdict__" : Str)) = false := by decide) : PE X (.Name x pos) (tVar i) := pe_var hN hv hd hcd
end

theorem iteF {A B : Prop} (h : B) : if false = true then A else B := by
  rw [if_neg Bool.false_ne_true]
  exact h
theorem iteT {A B : Prop} (h : A) : if true = true then A else B := by
  rw [if_pos rfl]
  exact h
theorem ite2 {c A B : Prop} [Decidable c] (h1 : c → A) (h2 : ¬ c → B) : if c then A else B := by
  by_cases h : c
  · rw [if_pos h]
    exact h1 h
  · rw [if_neg h]
    exact h2 h
noncomputable def Same (H H' : Hp) : Prop := ∀ b o, H b = some o → H' b = some o
theorem Same.refl (H : Hp) : Same H H := fun _ _ h => h
theorem Same.trans {H H1 H2 : Hp} (a : Same H H1) (b : Same H1 H2) : Same H H2 := fun c o h => b c o (a c o h)
theorem Same.free {H H' : Hp} (e : Same H H') {l : Addr} (h : H' l = Option.none) : H l = Option.none := by
  cases q : H l with
  | none => rfl
  | some o =>
    rw [e l o q] at h
    cases h
theorem Same.seq {K : PySem.W.Frag} {H H' : Hp} {a : Addr} {xs : List V} (e : Same H H') (h : SqL K H a xs) : SqL K H' a xs := by
  rcases h with (h | ⟨o, h⟩) | h
  · exact .inl (.inl (e _ _ h))
  · exact .inl (.inr ⟨o, e _ _ h⟩)
  · exact .inr h

section
variable {κ : Type} [DecidableEq κ]
end
end L2


set_option Elab.async false
set_option linter.all false
set_option maxRecDepth 100000
set_option maxHeartbeats 4000000
namespace L2
open PySem PySem.Spec PyProof.Rows

theorem clos_aux (env : Env) : ∀ (l : List (Str × NameKind)) (cs : List (Str × Addr)), (∀ n, (n, NameKind.free) ∈ l → ∃ c, env.cells.lookup n = some c) → (∀ x c, cs.lookup x = some c → env.cells.lookup x = some c) →
    ∃ cl, (forIn l cs fun x s => if (x.snd == NameKind.free) = true then do let c ← cellOf env x.fst; pure (ForInStep.yield ((x.fst, c) :: s)) else pure (ForInStep.yield s)) = (pure cl : Sem (List (Str × Addr))) ∧
      (∀ x c, cl.lookup x = some c → env.cells.lookup x = some c) ∧ (∀ n, (n, NameKind.free) ∈ l → ∃ c, cl.lookup n = some c) ∧ ∀ n c, cs.lookup n = some c → ∃ c', cl.lookup n = some c'
  | [], cs, _, h => ⟨cs, rfl, h, (fun _ z => nomatch z), (fun n c e => ⟨c, e⟩)⟩
  | (n, k) :: r, cs, hf, h => by
    by_cases hk : k = .free
    · subst hk
      obtain ⟨c, hc⟩ := hf n List.mem_cons_self
      have e : cellOf env n = pure c := by unfold cellOf; rw [hc]
      obtain ⟨cl, e1, h1, h2, h3⟩ := clos_aux env r ((n, c) :: cs) (fun m hm => hf m (List.mem_cons_of_mem _ hm)) (fun x c' q => by
        rw [List.lookup_cons] at q
        by_cases hx : x = n
        · subst hx; simp at q; subst q; exact hc
        · have : (x == n) = false := by simpa using hx
          rw [this] at q; exact h x c' q)
      refine ⟨cl, ?_, h1, fun m hm => ?_, fun m c' q => ?_⟩
      · rw [List.forIn_cons]
        show ((do let c ← cellOf env n; pure (ForInStep.yield ((n, c) :: cs))) >>= _) = _
        rw [e]
        exact e1
      · rcases List.mem_cons.mp hm with z | z
        · cases z; exact h3 n c (by simp)
        · exact h2 m z
      · by_cases hx : m = n
        · subst hx; exact h3 m c (by simp)
        · have : (m == n) = false := by simpa using hx
          exact h3 m c' (by rw [List.lookup_cons, this]; exact q)
    · have hb : (k == NameKind.free) = false := by simpa using hk
      obtain ⟨cl, e1, h1, h2, h3⟩ := clos_aux env r cs (fun m hm => hf m (List.mem_cons_of_mem _ hm)) h
      refine ⟨cl, ?_, h1, fun m hm => ?_, h3⟩
      · rw [List.forIn_cons]
        dsimp only
        rw [hb]
        exact e1
      · rcases List.mem_cons.mp hm with z | z
        · cases z; exact absurd rfl hk
        · exact h2 m z

theorem closureFor_of {scope : Scope} {env : Env} (h : ∀ n, (n, NameKind.free) ∈ scope.names → ∃ c, env.cells.lookup n = some c) :
    ∃ cl, closureFor scope env = pure cl ∧ (∀ x c, cl.lookup x = some c → env.cells.lookup x = some c) ∧ ∀ n, (n, NameKind.free) ∈ scope.names → ∃ c, cl.lookup n = some c := by
  obtain ⟨cl, e, h1, h2, _⟩ := clos_aux env scope.names [] h (fun _ _ z => by simp at z)
  refine ⟨cl, ?_, h1, h2⟩
  simp only [closureFor]
  rw [e]
  rfl

noncomputable def compCx (X : Cx) (scope : Scope) (N' : List Str) (cl : List (Str × Addr)) (C : Addr) (s : Shared) (H : Hp) (fp : List Addr) (pins : List (Addr × Obj)) : Cx where
  prog := X.prog
  w := X.w
  K := X.K
  mg := X.mg
  base := X.base
  A := X.A
  N := N'
  s₀ := s
  H₀ := H
  env := compEnvC scope cl C X.env
  outer := X.stack
  stack := X.stack
  ex := fp
  calm := X.calm
  fn := fun _ => false
  pn := X.pn ++ pins
  xe := fun _ _ => False

structure CompScope (sc : Scope) (out : Scope) : Prop where
  kind : sc.kind = .function
  cell : ∀ y ∈ sc.names, y.2 ≠ .cell
  loc : ∀ y ∈ sc.names, y.2 = .local → sc.names.lookup y.1 = some .local
  free : ∀ y ∈ sc.names, y.2 = .free → out.names.lookup y.1 = some .cell ∨ out.names.lookup y.1 = some .free

noncomputable def inSt (ρ : List (Option Nat)) (σ : St) : St := ρ.map fun o => match o with | some i => (σ[i]?).getD none | none => none
noncomputable def SlotOk (sc : Scope) (env : Env) (N N' : List Str) (ρ : List (Option Nat)) : Prop :=
  ρ.length = N'.length ∧ ∀ (j i : Nat) (x : Str), ρ[j]? = some (some i) → N'[j]? = some x → N[i]? = some x ∧ Vis env.scope x ∧ (x, NameKind.free) ∈ sc.names

theorem lookup_relabel {names : List (Str × NameKind)} {env : Env} {x : Str} {k : NameKind} (h : (names.map fun (n, k) => if (k == NameKind.free && env.scope.kind == .function && env.kindOf n == some .cell) then (n, NameKind.cell) else (n, k)).lookup x = some k)
    (hk : k = .cell ∨ k = .free) (hc : ∀ y ∈ names, y.2 ≠ .cell) : (x, NameKind.free) ∈ names := by
  induction names with
  | nil => simp at h
  | cons p r ih =>
    obtain ⟨n, k'⟩ := p
    by_cases hx : x = n
    · subst hx
      have hk' : k' = .free := by
        by_cases hc' : (k' == NameKind.free && env.scope.kind == .function && env.kindOf x == some .cell) = true
        · simp only [Bool.and_eq_true, beq_iff_eq] at hc'
          exact hc'.1.1
        · simp only [List.map_cons] at h
          rw [if_neg hc'] at h
          simp at h
          subst h
          rcases hk with z | z
          · exact absurd z (hc (x, k') List.mem_cons_self)
          · exact z
      rw [hk']; exact List.mem_cons_self
    · have hb : (x == n) = false := by simpa using hx
      refine List.mem_cons_of_mem _ (ih ?_ fun y hy => hc y (List.mem_cons_of_mem _ hy))
      simp only [List.map_cons] at h
      by_cases hc' : (k' == NameKind.free && env.scope.kind == .function && env.kindOf n == some .cell) = true
      · rw [if_pos hc', List.lookup_cons, hb] at h; exact h
      · rw [if_neg hc', List.lookup_cons, hb] at h; exact h

theorem lookup_relabel_free : ∀ {names : List (Str × NameKind)} {env : Env} {x : Str}, (x, NameKind.free) ∈ names → (names.map fun (n, k) => if (k == NameKind.free && env.scope.kind == .function && env.kindOf n == some .cell) then (n, NameKind.cell) else (n, k)).lookup x = some .cell ∨
    (names.map fun (n, k) => if (k == NameKind.free && env.scope.kind == .function && env.kindOf n == some .cell) then (n, NameKind.cell) else (n, k)).lookup x = some .free ∨ names.lookup x ≠ some .free := by
  intro names env x hm
  by_cases hl : names.lookup x = some .free
  · induction names with
    | nil => simp at hl
    | cons p r ih =>
      obtain ⟨n, k'⟩ := p
      by_cases hx : x = n
      · subst hx
        simp at hl
        subst hl
        by_cases hc' : (NameKind.free == NameKind.free && env.scope.kind == .function && env.kindOf x == some .cell) = true
        · left; simp only [List.map_cons]; rw [if_pos hc']; simp
        · right; left; simp only [List.map_cons]; rw [if_neg hc']; simp
      · have hb : (x == n) = false := by simpa using hx
        rw [List.lookup_cons, hb] at hl
        have hm' : (x, NameKind.free) ∈ r := by
          rcases List.mem_cons.mp hm with z | z
          · cases z; exact absurd rfl hx
          · exact z
        have q := ih hm' hl
        simp only [List.map_cons]
        by_cases hc' : (k' == NameKind.free && env.scope.kind == .function && env.kindOf n == some .cell) = true
        · rw [if_pos hc', List.lookup_cons, hb, List.lookup_cons, hb]; exact q
        · rw [if_neg hc', List.lookup_cons, hb, List.lookup_cons, hb]; exact q
  · exact .inr (.inr hl)

section
variable {X : Cx} {pins : List (Addr × Obj)} {σ : St} {H : Hp} {s : Shared} {scope : Scope} {N' : List Str} {ρ : List (Option Nat)} {cl : List (Str × Addr)} {fp : List Addr} {C D : Addr}

theorem comp_ok (I : Inv X pins σ H s) (S : CompScope scope X.env.scope) (hf : ∀ b ∈ fp, FpOk X pins H b) (h1 : ∀ x c, cl.lookup x = some c → X.env.cells.lookup x = some c) (h2 : ∀ n, (n, NameKind.free) ∈ scope.names → ∃ c, cl.lookup n = some c)
    (hC : s.heap.objs.size ≤ C) (hfs : ∀ b ∈ fp, b < s.heap.objs.size) : (compCx X scope N' cl C s H fp pins).Ok where
  mod := I.ok.mod
  kind := S.kind
  glob := I.ok.glob
  blt := I.ok.blt
  above := hC
  inj := fun x y c e1 e2 => I.ok.inj x y c (h1 x c e1) (h1 y c e2)
  has := fun x hk => h2 x (by
    rcases hk with hk | hk
    · exact lookup_relabel (env := X.env) hk (.inl rfl) S.cell
    · exact lookup_relabel (env := X.env) hk (.inr rfl) S.cell)
  cab := fun _ _ z => nomatch z
  hd := I.ok.hd
  frames := I.ok.frames
  stk := .inl rfl
  exf := fun b hb => ⟨Nat.ne_of_lt (Nat.lt_of_lt_of_le (hfs b hb) hC), fun x c e => (hf b hb).2.2.2.2.1 x c (h1 x c e)⟩
  bs := I.bs
  bsz := Nat.le_trans I.ok.bsz I.sz
  noex := fun b o e hb => by
    rcases (hf b hb).2.2.2.1 with z | z
    · exact I.ok.noex b o e z
    · exact absurd (Nat.lt_of_lt_of_le (Nat.lt_of_lt_of_le (Heap.lt_size e) I.ok.bsz) z) (Nat.lt_irrefl _)
  exfs := fun b hb z => by
    rcases List.mem_cons.mp (I.stkSub b z) with q | q
    · exact (hf b hb).2.1 q
    · exact (hf b hb).2.2.1 q
  funs := I.stack
  frf := I.stkFree

theorem comp_start {h₁ : Heap} {tk : Nat} (I : Inv X pins σ H s) (S : CompScope scope X.env.scope) (hρ : SlotOk scope X.env X.N N' ρ) (hf : ∀ b ∈ fp, FpOk X pins H b) (h1 : ∀ x c, cl.lookup x = some c → X.env.cells.lookup x = some c)
    (h2 : ∀ n, (n, NameKind.free) ∈ scope.names → ∃ c, cl.lookup n = some c) (hC : s.heap.objs.size ≤ C) (hfs : ∀ b ∈ fp, b < s.heap.objs.size) (hn : h₁.Ns C (fun _ => none)) (hk : ∀ b o, s.heap.get? b = some o → h₁.get? b = some o)
    (hl : ∀ x, (x, NameKind.free) ∈ scope.names → scope.names.lookup x = some .free) :
    Inv (compCx X scope N' cl C s H fp pins) [] (inSt ρ σ) H { s with heap := h₁, toks := tk } where
  ok := comp_ok I S hf h1 h2 hC hfs
  os := rfl
  bare := I.bare
  base := Un.kept hk
  loc := by
    refine ⟨_, hn, fun j x v e1 e2 hv => ?_⟩
    obtain ⟨m, hm, hl'⟩ := I.loc
    unfold inSt at e2
    rw [List.getElem?_map] at e2
    cases hr : ρ[j]? with
    | none => rw [hr] at e2; simp at e2
    | some o =>
      cases o with
      | none => rw [hr] at e2; simp at e2
      | some i =>
        rw [hr] at e2
        obtain ⟨q1, q2, q3⟩ := hρ.2 j i x hr e1
        have e3 : σ[i]? = some (some v) := by
          cases hσ : σ[i]? with
          | none => simp [hσ] at e2
          | some z => simp [hσ] at e2; rw [e2]
        obtain ⟨u, r, lk⟩ := hl' i x v q1 e3 q2
        refine ⟨u, r, ?_⟩
        obtain ⟨c, hc⟩ := h2 x q3
        have hkind : (relabel scope X.env).names.lookup x = some .cell ∨ (relabel scope X.env).names.lookup x = some .free := by
          rcases lookup_relabel_free (env := X.env) q3 with z | z | z
          · exact .inl z
          · exact .inr z
          · exact absurd (hl x q3) z
        refine .inr ⟨hkind, c, hc, ?_⟩
        rcases lk with ⟨k, _⟩ | ⟨_, c', e', z⟩
        · rcases S.free (x, .free) q3 rfl with z | z
          · have k' : X.env.scope.names.lookup x = some .local := k
            rw [z] at k'; cases k'
          · have k' : X.env.scope.names.lookup x = some .local := k
            rw [z] at k'; cases k'
        · have := h1 x c hc
          rw [e'] at this; cases this
          obtain ⟨o, ho, hd⟩ := z
          exact ⟨o, hk _ _ ho, hd⟩
  cell := fun x c e => by
    obtain ⟨v, o, ho, hd⟩ := I.cell x c (h1 x c e)
    exact ⟨v, o, hk _ _ ho, hd⟩
  free := I.hok.fresh hC
  freeC := fun x c e => I.freeC x c (h1 x c e)
  pin := fun p hp => by
    have hp' : p ∈ X.pn ++ pins := by simpa [compCx] using hp
    obtain ⟨e, n, ne, nf, d⟩ := I.pin p hp'
    refine ⟨hk _ _ e, n, Nat.ne_of_lt (Nat.lt_of_lt_of_le (Heap.lt_size e) hC), fun z => ?_, d⟩
    rcases List.mem_cons.mp (I.stkSub p.1 z) with q | q
    · exact ne q
    · exact nf q
  hok := I.hok.kept hk
  len := by
    show (inSt ρ σ).length = N'.length
    unfold inSt
    rw [List.length_map]; exact hρ.1
end

theorem HOk.track {P : Program} {w : World} {H : Hp} {h : Heap} {D : Addr} {o : HO} (x : HOk P w H h) (n : H D = none) (new : ObjOk P w (upd H D o) h D o) : HOk P w (upd H D o) h := fun b u e => by
  by_cases hb : b = D
  · subst hb; rw [upd_same] at e; cases e; exact new
  · rw [upd_ne hb] at e
    exact (x b u e).stay (fun c v _ q => q) (fun c q => by rw [upd_ne (ne_of_none q n)]; exact q) fun c xs q => by rw [upd_ne (ne_of_none q n)]; exact q

section
variable {prog : Program} {w : World} {A : Around} {R : Result → Shared → Prop} {s : Shared}
theorem compLoop_gen {elt target iter : Expr} {ifs : List Expr} {scope : Scope} {pos : Pos} {it acc : Value} {env : Env} (I : Nat → Shared → Prop)
    (turn : ∀ n s, I n s → wpAny (model prog w) A (pyNext it) (fun r s₁ => match r with
      | none => R (.ok .next) s₁
      | some v => wpAny (model prog w) A (letOwnedTupleGo target it v) (fun _ s₁' => wpAny (model prog w) A (assign target env v) (fun _ s₂ =>
          wpAny (model prog w) A (forIn ifs true fun c r => if r = true then do let ok ← isTrue c env (eval c env); pure (ForInStep.yield ok) else pure (ForInStep.yield r)) (fun ok s₃ =>
            if ok = true then wpAny (model prog w) A (eval elt env) (fun x s₄ =>
              wpAny (model prog w) A (call (.builtin "list.append") [acc, x]) (fun _ s₅ => ∃ m, m < n ∧ I m s₅) (fun _ _ => False) s₄) (fun _ _ => False) s₃
            else ∃ m, m < n ∧ I m s₃) (fun _ _ => False) s₂) (fun _ _ => False) s₁') (fun _ _ => False) s₁) (fun _ _ => False) s)
    (n : Nat) (h : I n s) :
    codeAny (model prog w) A (.compLoop (.ListComp elt [⟨target, iter, ifs, 0⟩] scope pos) 0 it acc env) R s := by
  refine codeAny_loop rfl I (fun n s hI => ?_) n h
  show wpAny _ A ((compTurn (.ListComp elt [⟨target, iter, ifs, 0⟩] scope pos) 0 it acc env).onRaise (fun x => do noteFrame x env; theTreesLotGoes x)) _ _ s
  refine wpAny_noted ?_
  rw [compTurn_list]
  refine wpAny_bind (wpAny_standAt (wpAny_bind (wpAny_mono (turn n s hI) (fun r s₁ h₁ => ?_) fun _ _ h' => h'.elim)))
  cases r with
  | none => exact wpAny_pure h₁
  | some v =>
    refine wpAny_bind (wpAny_mono h₁ (fun _ s₁' h₁ => ?_) fun _ _ h' => h'.elim)
    refine wpAny_bind (wpAny_mono h₁ (fun _ s₂ h₂ => wpAny_bind (wpAny_mono h₂ (fun ok s₃ h₃ => ?_) fun _ _ h' => h'.elim)) fun _ _ h' => h'.elim)
    cases ok with
    | false => exact wpAny_pure ⟨rfl, h₃⟩
    | true =>
      exact wpAny_bind (wpAny_bind (wpAny_mono h₃ (fun x s₄ h₄ => wpAny_bind (wpAny_mono h₄ (fun _ s₅ h₅ => wpAny_pure (wpAny_pure ⟨rfl, h₅⟩)) fun _ _ h' => h'.elim)) fun _ _ h' => h'.elim))
end

noncomputable def PTs (X : Cx) (ifs : List Expr) (t : TT) : Prop :=
  ∀ (pins : List (Addr × Obj)) (s : Shared) (σ : St) (H : Hp) (Q : Bool → Hp → Prop), Inv X pins σ H s → t σ H Q →
    wpAny (model X.prog X.w) X.A (forIn ifs true fun c r => if r = true then do let ok ← isTrue c X.env (eval c X.env); pure (ForInStep.yield ok) else pure (ForInStep.yield r)) (TP X pins σ Q) X.xe s
noncomputable def tYes : TT := fun _ H Q => Q true H
theorem pts_nil {X : Cx} : PTs X [] tYes := fun _ _ _ H _ I h => wpAny_tests_nil ⟨H, I, h⟩
theorem pts_one {X : Cx} {c : Expr} {t : TT} (h : PT X c t) : PTs X [c] t := fun pins s σ H Q I hw => wpAny_tests_one (h pins s σ H Q I hw)

noncomputable def Outs (ρ : List (Option Nat)) (σ σ2 : St) : Prop := σ2.length = ρ.length ∧ ∀ (j : Nat) v, (inSt ρ σ)[j]? = some (some v) → σ2[j]? = some (some v)
noncomputable def CompW (ρ : List (Option Nat)) (g : TG) (tt : TT) (te : TE) (σ : St) (Q : VK) (J : It) (H1 : Hp) : Prop := ∃ W : Nat → Nat → List V → Hp → Prop, (∃ m, W 0 m [] H1) ∧ ∀ i m ys H', W i m ys H' →
  (J.stop i H' ∧ ys.length ≤ sizeLine ∧ ∀ p, H' p = none → Q (.ref p) (upd H' p (.lst ys))) ∨
  (J.go i H' ∧ ys.length < sizeLine ∧ ∃ N : List V → Hp → Prop, (∀ ys' H'', N ys' H'' → ∃ m', m' < m ∧ W (i + 1) m' ys' H'') ∧ ∀ x H2, J.yld i H' x H2 → g x (inSt ρ σ) H2 fun σ2 H3 => Outs ρ σ σ2 ∧ tt σ2 H3 fun ok H4 => if ok = true then te σ2 H4 fun v H5 => N (ys ++ [v]) H5 else N ys H4)
noncomputable def tComp (ρ : List (Option Nat)) (wi : TI) (g : TG) (tt : TT) (te : TE) : TE := fun σ H Q => wi σ H fun J H1 => CompW ρ g tt te σ Q J H1

theorem comp_run {X : Cx} {elt iter tg : Expr} {ifs : List Expr} {scope : Scope} {pos : Pos} {N' : List Str} {ρ : List (Option Nat)} {wi : TI} {g : TG} {tt : TT} {te : TE} {cl : List (Str × Addr)} {RR : Value → Addr → Result → Shared → Prop} (hc : X.calm = true) (hi : PI X tg iter wi) (S : CompScope scope X.env.scope) (hρ : SlotOk scope X.env X.N N' ρ)
    (hl : ∀ x, (x, NameKind.free) ∈ scope.names → scope.names.lookup x = some .free)
    (inner : ∀ (cl : List (Str × Addr)) (C : Addr) (s : Shared) (H : Hp) (fp : List Addr) (pins : List (Addr × Obj)), PG (compCx X scope N' cl C s H fp pins) tg g ∧ PTs (compCx X scope N' cl C s H fp pins) ifs tt ∧ PE (compCx X scope N' cl C s H fp pins) elt te)
    {pins : List (Addr × Obj)} {s : Shared} {σ : St} {H : Hp} {Q : VK} (I : Inv X pins σ H s) (h : tComp ρ wi g tt te σ H Q)
    (h1 : ∀ x c, cl.lookup x = some c → X.env.cells.lookup x = some c) (h2 : ∀ n, (n, NameKind.free) ∈ scope.names → ∃ c, cl.lookup n = some c)
    (fin : ∀ D C s' H' m, Inv X pins σ H' s' → Q (.ref D) H' → s'.heap.Ns C m → FpOk X pins H' C → RR (.ref D) C (.ok .next) s') :
    wpAny (model X.prog X.w) X.A (eval iter X.env) (fun x s₁ => wpAny (model X.prog X.w) X.A (pyIter x) (fun it s₂ => wpAny (model X.prog X.w) X.A (newList []) (fun acc s₃ =>
      wpAny (model X.prog X.w) X.A (newFunctionEnv scope X.env.globals cl [] X.env.qual none .none (some X.env)) (fun cenv s₄ =>
        codeAny (model X.prog X.w) X.A (.compStart (.ListComp elt [⟨tg, iter, ifs, 0⟩] scope pos) 0 it acc { cenv with scope := relabel scope X.env }) (RR acc cenv.locals) s₄) X.xe s₃) X.xe s₂) X.xe s₁) X.xe s := by
  refine thn (hi pins s σ H _ I h) fun v s1 h1' => thn h1' fun itv s2 hx => ?_
  obtain ⟨it, fp, tn, J, H2, e, I2, T, st2, f2, W, ⟨m0, w0⟩, turn⟩ := hx
  subst e
  have hfs : ∀ b ∈ fp, b < s2.heap.objs.size := fun b hb => by
    obtain ⟨o, e, _⟩ := T.obj _ _ st2 b hb
    exact Heap.lt_size e
  refine wpAny_newObj_type (wpAny_newFunctionEnv S.cell (by intro y hy; simp at hy) (fun h₁ hns₁ hsb₁ => ?_) S.kind)
  dsimp only at hns₁ hsb₁ ⊢
  generalize hH2 : s2.heap.push { cls := .type "list", dict := none, data := .seq ([] : List Value).toArray } = G at hns₁ hsb₁ ⊢
  have hC : G.objs.size = s2.heap.objs.size + 1 := by rw [← hH2, Heap.size_push]
  have hDC : s2.heap.objs.size ≠ G.objs.size := by rw [hC]; exact Nat.ne_of_lt (Nat.lt_succ_self _)
  have hCle : s2.heap.objs.size ≤ G.objs.size := by rw [hC]; exact Nat.le_succ _
  have old : ∀ b o, s2.heap.get? b = some o → h₁.get? b = some o := fun b o e => hsb₁.extBut b o (Nat.ne_of_lt (Nat.lt_of_lt_of_le (Heap.lt_size e) hCle)) (Heap.get?_push_of_some _ (hH2 ▸ Heap.get?_push_of_some _ e))
  have hacc : h₁.get? s2.heap.objs.size = some { cls := .type "list", dict := none, data := .seq ([] : List Value).toArray } := hsb₁.extBut _ _ hDC (Heap.get?_push_of_some _ (hH2 ▸ Heap.get?_push_size _ rfl))
  have hns₂ : h₁.Ns G.objs.size (fun _ => none) := hns₁
  generalize hXX : compCx X scope N' cl G.objs.size s2 H2 fp pins = XX at *
  have IN : ∀ (tk : Nat), Inv XX [] (inSt ρ σ) H2 { s2 with heap := h₁, toks := tk } := fun tk => hXX ▸ comp_start (N' := N') I2 S hρ f2 h1 h2 hCle hfs hns₂ old hl
  obtain ⟨pg, pt, pe⟩ := inner cl G.objs.size s2 H2 fp pins
  rw [hXX] at pg pt pe
  have eP : XX.prog = X.prog := by rw [← hXX]; rfl
  have eW : XX.w = X.w := by rw [← hXX]; rfl
  have eK : XX.K = X.K := by rw [← hXX]; rfl
  have eA : XX.A = X.A := by rw [← hXX]; rfl
  have eE : XX.env = compEnvC scope cl G.objs.size X.env := by rw [← hXX]; rfl
  have eL : XX.env.locals = G.objs.size := by rw [eE]; rfl
  have ec : XX.calm = true := by rw [← hXX]; exact hc
  have ex : XX.xe = fun _ _ => False := by rw [← hXX]; rfl
  have es0 : XX.s₀ = s2 := by rw [← hXX]; rfl
  have eex : XX.ex = fp := by rw [← hXX]; rfl
  have efs : XX.fs = frs X.stack := by rw [← hXX]; rfl
  have eH0 : XX.H₀ = H2 := by rw [← hXX]; rfl
  have epn : XX.pn = X.pn ++ pins := by rw [← hXX]; rfl
  have ecl : XX.env.cells = cl := by rw [eE]; rfl
  -- what stays true of the iterator's records
  have stat : ∀ {H' : Hp} {ps : List (Addr × Obj)}, (∀ b ∈ fp, H' b = none) → (∀ p ∈ ps, p.1 = s2.heap.objs.size) → ∀ b ∈ fp, FpOk XX ps H' b := fun {H' ps} hn hp b hb => by
    refine ⟨hn b hb, ?_, ?_, ?_, ?_, ?_⟩
    · rw [eL]; exact Nat.ne_of_lt (Nat.lt_of_lt_of_le (hfs b hb) hCle)
    · rw [efs]
      intro z
      rcases List.mem_cons.mp (I2.stkSub b z) with q | q
      · exact (f2 b hb).2.1 q
      · exact (f2 b hb).2.2.1 q
    · rw [eex]; exact .inl hb
    · rw [ecl]; exact fun x c e => (f2 b hb).2.2.2.2.1 x c (h1 x c e)
    · intro p hp' z
      rw [epn] at hp'
      rcases List.mem_append.mp hp' with q | q
      · exact (f2 b hb).2.2.2.2.2 p q z
      · rw [hp p q] at z
        exact absurd (hfs b hb) (by rw [z]; exact Nat.lt_irrefl _)
  have nofsD : s2.heap.objs.size ∉ XX.fs := by
    rw [efs]; intro z
    rcases List.mem_cons.mp (I2.stkSub _ z) with q | q
    · exact absurd I2.lt (by rw [← q]; exact Nat.lt_irrefl _)
    · exact I2.nofs (Nat.le_refl _) q
  have pinD : ∀ {σ' : St} {H' : Hp} {s' : Shared} {its : List Value} {n : Nat}, Inv XX [] σ' H' s' → H' s2.heap.objs.size = none → s'.heap.get? s2.heap.objs.size = some { cls := .type "list", data := .seq its.toArray n } →
      Inv XX [(s2.heap.objs.size, { cls := .type "list", data := .seq its.toArray n })] σ' H' s' := fun {σ' H' s' its n} I' hn ho => I'.pins_of fun p hp => by
    have e : p = (s2.heap.objs.size, { cls := .type "list", data := .seq its.toArray n }) := by simpa using hp
    subst e
    refine ⟨ho, hn, by rw [eL]; exact hDC, nofsD, fun v z => ?_⟩
    have z' : Data.seq its.toArray n = Data.cell v := z
    cases z'
  have loop : ∀ s₃ : Shared, (∃ tk, s₃ = { s2 with heap := h₁, toks := tk }) →
      codeAny (model X.prog X.w) X.A (.compLoop (.ListComp elt [⟨tg, iter, ifs, 0⟩] scope pos) 0 (.ref it) (.ref s2.heap.objs.size) (compEnvC scope cl G.objs.size X.env)) (RR (.ref s2.heap.objs.size) G.objs.size) s₃ := by
    rintro s₃ ⟨tk, rfl⟩
    refine compLoop_gen (fun n s' => ∃ i ys its k H', Inv XX [] (inSt ρ σ) H' s' ∧ tn i s'.heap ∧ (∀ b ∈ fp, H' b = none) ∧ H' s2.heap.objs.size = none ∧ Vals ys its ∧
      s'.heap.get? s2.heap.objs.size = some { cls := .type "list", data := .seq its.toArray k } ∧ W i n ys H') ?_ m0
      ⟨0, [], [], 0, H2, IN tk, T.keep _ _ _ st2 fun b _ o e => old b o e, fun b hb => (f2 b hb).1, I2.hok.fresh (Nat.le_refl _), .nil, hacc, w0⟩
    rintro n s3 ⟨i, ys, its, k, H3, I3, st3, fr3, hD3, rv, ho3, w3⟩
    rcases turn i n ys H3 w3 with ⟨stop, hz, qn⟩ | ⟨go, hz, N, hN, step⟩
    · have I3p := pinD I3 hD3 ho3
      have q := T.done XX eP eW eK ec i _ s3 (inSt ρ σ) H3 (fun _ _ => False) I3p (stat fr3 (by simp)) st3 stop
      rw [eA] at q
      refine thn q fun r s4 ⟨hr, I4⟩ => ?_
      subst hr
      have ho4 := (I4.pin (s2.heap.objs.size, { cls := .type "list", data := .seq its.toArray k }) (by simp)).1
      obtain ⟨m, hm, _⟩ := I4.loc
      rw [eL] at hm
      have hun : Un (frs X.stack) fp H2 (upd H3 s2.heap.objs.size (.lst ys)) s2.heap s4.heap := by
        have u := I4.base
        rw [efs, eex, eH0, es0] at u
        refine ⟨u.keep, u.slot, fun b o e n hx => ?_, u.there, fun b xs e => ?_, fun b o xs e => ?_, fun b ps e => ?_⟩
        · rw [upd_ne (Nat.ne_of_lt (Heap.lt_size e))]; exact u.free b o e n hx
        · have q := u.tups b xs e
          rw [upd_ne (ne_of_none q hD3)]; exact q
        · have q := u.frzs b o xs e
          rw [upd_ne (ne_of_none q hD3)]; exact q
        · obtain ⟨more, q⟩ := u.tbls b ps e
          exact ⟨more, by rw [upd_ne (ne_of_none q hD3)]; exact q⟩
      have hok : HOk X.prog X.w (upd H3 s2.heap.objs.size (.lst ys)) s4.heap := by
        have q := I4.hok
        rw [eP, eW] at q
        exact q.track hD3 ⟨hz, its, k, rv, ho4⟩
      have hfr : ∀ b ∈ fp, (b ∈ X.ex ∨ X.s₀.heap.objs.size ≤ b) ∧ b ≠ X.env.locals ∧ (∀ x c, X.env.cells.lookup x = some c → c ≠ b) ∧ ∀ p ∈ X.pn ++ pins, p.1 ≠ b := fun b hb => ⟨(f2 b hb).2.2.2.1, (f2 b hb).2.1, (f2 b hb).2.2.2.2.1, (f2 b hb).2.2.2.2.2⟩
      have IO : Inv X pins σ (upd H3 s2.heap.objs.size (.lst ys)) s4 := I2.call' (by have := I4.os; rw [es0] at this; exact this) hun hok I4.bare hfr
      refine fin _ _ s4 _ m IO (qn _ hD3) hm (I2.fpOk hCle ?_)
      rw [upd_ne (Ne.symm hDC)]
      have := I4.free
      rw [eL] at this
      exact this
    · have I3p := pinD I3 hD3 ho3
      have q := T.item XX eP eW eK ec i _ s3 (inSt ρ σ) H3 (fun _ _ => False) I3p (stat fr3 (by simp)) st3 go
      rw [eA] at q
      refine thn q fun r s4 ⟨u, hr, h4⟩ => ?_
      subst hr
      refine thn h4 fun _ s5 ⟨x, H5, I5, r5, y5, st5, fr5⟩ => ?_
      have I5' := I5.pinned (stat fr5 (by simp)) (T.obj _ _ st5)
      have qa := pg _ s5 (inSt ρ σ) H5 x u _ I5' r5 (step x H5 y5)
      rw [eP, eW, eA, eE, ex] at qa
      refine thn qa fun _ s6 ⟨σ6, H6, I6, ⟨ou1, ou2⟩, q6⟩ => ?_
      have hw6 : (inSt ρ σ).length = σ6.length := by rw [ou1]; unfold inSt; rw [List.length_map]
      have qt := pt _ s6 σ6 H6 _ I6 q6
      rw [eP, eW, eA, eE, ex] at qt
      refine thn qt fun ok s7 ⟨H7, I7, q7⟩ => ?_
      have back : ∀ {s8 : Shared} {H8 : Hp}, Inv XX ([(s2.heap.objs.size, { cls := .type "list", data := .seq its.toArray k })] ++ pinsAt fp s5.heap) σ6 H8 s8 → tn (i + 1) s8.heap ∧ (∀ b ∈ fp, H8 b = none) ∧ H8 s2.heap.objs.size = none ∧
          s8.heap.get? s2.heap.objs.size = some { cls := .type "list", data := .seq its.toArray k } := fun {s8 H8} I8 => by
        refine ⟨T.keep _ _ _ st5 fun b hb o e => (I8.pin (b, o) (List.mem_append_right _ (List.mem_append_right _ (mem_pinsAt hb e)))).1, fun b hb => ?_, ?_, ?_⟩
        · obtain ⟨o, e, d⟩ := T.obj _ _ st5 b hb
          exact (I8.pin (b, o) (List.mem_append_right _ (List.mem_append_right _ (mem_pinsAt hb e)))).2.1
        · exact (I8.pin (s2.heap.objs.size, { cls := .type "list", data := .seq its.toArray k }) (by simp)).2.1
        · exact (I8.pin (s2.heap.objs.size, { cls := .type "list", data := .seq its.toArray k }) (by simp)).1
      cases ok with
      | false =>
        obtain ⟨m', hm, w7⟩ := hN _ _ q7
        obtain ⟨b1, b2, b3, b4⟩ := back I7
        exact ⟨m', hm, i + 1, ys, its, k, H7, (I7.pins_of (pins' := []) (fun _ z => nomatch z)).weak hw6 ou2, b1, b2, b3, rv, b4, w7⟩
      | true =>
        have qe := pe _ s7 σ6 H7 _ I7 q7
        rw [eP, eW, eA, eE, ex] at qe
        refine thn qe fun y s8 ⟨v8, H8, I8, r8, n8⟩ => ?_
        obtain ⟨m', hm, w8⟩ := hN _ _ n8
        obtain ⟨b1, b2, b3, b4⟩ := back I8
        have hlen := rv.length
        refine call_meets F.slot_list_append ⟨_, b4, rfl⟩ F.entry_list_append (F.args_list_append_2 _ _) (PySem.list_append s2.heap.objs.size its.toArray k y (by rw [List.size_toArray]; omega)) ⟨b4, ?_⟩
        have qL := PySem.IsL.update b4 (fun xs => xs.push y)
        have I8' : Inv XX [] σ6 H8 s8 := I8.pins_of (fun _ z => nomatch z)
        have I9 : Inv XX [] σ6 H8 { s8 with heap := s8.heap.update s2.heap.objs.size (Obj.mapSeq fun xs => xs.push y), toks := s8.toks } := I8'.turned (it := s2.heap.objs.size) (fun b o hb e => (Heap.get?_update_other s8.heap _ (Ne.symm hb)).trans e) b3
          (by rw [eL]; exact hDC) (.inr (by rw [es0]; exact Nat.le_refl _)) (by
            rw [ecl]; intro x c e z
            obtain ⟨v, qc⟩ := I2.cell x c (h1 x c e)
            exact absurd qc.lt (by rw [z]; exact Nat.lt_irrefl _)) (by
            intro p hp z
            have hp' : p ∈ X.pn ++ pins := by rw [epn] at hp; simpa using hp
            exact absurd (Heap.lt_size (I2.pin p hp').1) (by rw [z]; exact Nat.lt_irrefl _))
        have hnd : s2.heap.objs.size ∉ fp := fun z => Nat.lt_irrefl _ (hfs _ z)
        rw [show its.toArray.push y = (its ++ [y]).toArray by simp] at qL
        refine ⟨m', hm, i + 1, ys ++ [v8], its ++ [y], _, H8, I9.weak hw6 ou2, T.keep _ _ _ b1 fun b hb o e => (Heap.get?_update_other s8.heap _ (by rintro rfl; exact hnd hb)).trans e, b2, b3, rv.append (.cons r8 .nil), qL, w8⟩
  refine codeAny_compStart_list (loop _ ⟨_, rfl⟩) (T.self X.A 0 _ _ _ (T.keep _ _ _ st2 fun b _ o e => old b o e) (loop _ ⟨_, rfl⟩))
theorem pe_comp {X : Cx} {elt iter tg : Expr} {ifs : List Expr} {scope : Scope} {pos : Pos} (N' : List Str) (ρ : List (Option Nat)) {wi : TI} {g : TG} {tt : TT} {te : TE} (hc : X.calm = true) (hi : PI X tg iter wi) (S : CompScope scope X.env.scope) (hρ : SlotOk scope X.env X.N N' ρ)
    (hl : ∀ x, (x, NameKind.free) ∈ scope.names → scope.names.lookup x = some .free)
    (inner : ∀ (cl : List (Str × Addr)) (C : Addr) (s : Shared) (H : Hp) (fp : List Addr) (pins : List (Addr × Obj)), PG (compCx X scope N' cl C s H fp pins) tg g ∧ PTs (compCx X scope N' cl C s H fp pins) ifs tt ∧ PE (compCx X scope N' cl C s H fp pins) elt te)
    (hs : ∀ x, foldedSetIterable iter X.env x = pure x := by intro _; rfl) : PE X (.ListComp elt [⟨tg, iter, ifs, 0⟩] scope pos) (tComp ρ wi g tt te) := by
  intro pins s σ H Q I h
  obtain ⟨cl, hcl, h1, h2⟩ := closureFor_of (scope := scope) (env := X.env) (fun n hn => I.ok.has n (S.free (n, .free) hn rfl))
  rw [eval_ListComp]
  refine wpAny_comprehension_free (use := none) rfl hs hcl S.kind S.loc ?_
  refine comp_run (RR := fun acc C => compPost (model X.prog X.w) X.A X.xe none (EP X pins σ Q) acc C) hc hi S hρ hl inner I h h1 h2 ?_
  intro D C s' H' m I' q hm hf
  refine ⟨m, hm, fun h' sb => ⟨.ref D, H', ?_, rfl, q⟩⟩
  exact I'.turned (t' := s'.toks) (fun b o hb e => (sb.2 b hb).trans e) hf.1 hf.2.1 hf.2.2.2.1 hf.2.2.2.2.1 hf.2.2.2.2.2

theorem ps_setcomp {X : Cx} {elt iter tg : Expr} {ifs : List Expr} {scope : Scope} {pos pos' spos : Pos} {i : Nat} {x : Str} (N' : List Str) (ρ : List (Option Nat)) {wi : TI} {g : TG} {tt : TT} {te : TE} (hN : X.N.Nodup) (hix : X.N[i]? = some x) (hx : Loc X.env.scope x)
    (hc : X.calm = true) (hi : PI X tg iter wi) (S : CompScope scope X.env.scope) (hρ : SlotOk scope X.env X.N N' ρ)
    (hl : ∀ x, (x, NameKind.free) ∈ scope.names → scope.names.lookup x = some .free)
    (inner : ∀ (cl : List (Str × Addr)) (C : Addr) (s : Shared) (H : Hp) (fp : List Addr) (pins : List (Addr × Obj)), PG (compCx X scope N' cl C s H fp pins) tg g ∧ PTs (compCx X scope N' cl C s H fp pins) ifs tt ∧ PE (compCx X scope N' cl C s H fp pins) elt te)
    (hsw : swapsWith (.ListComp elt [⟨tg, iter, ifs, 0⟩] scope pos) (some (.Name x pos')) spos.line X.env = pure true := by rfl)
    (hs : ∀ x, foldedSetIterable iter X.env x = pure x := by intro _; rfl) (hf : X.fn x = true ∨ X.env.scope.names.lookup x = some .local := by first | exact .inl rfl | exact .inr rfl | assumption) :
    PS X (.Assign [.Name x pos'] (.ListComp elt [⟨tg, iter, ifs, 0⟩] scope pos) spos) (tAsg (tComp ρ wi g tt te) (gName i)) := by
  intro pins s σ H Dn I h
  obtain ⟨cl, hcl, h1, h2⟩ := closureFor_of (scope := scope) (env := X.env) (fun n hn => I.ok.has n (S.free (n, .free) hn rfl))
  rw [exec_Assign_Name_used _ _ _ _ hsw]
  refine wpAny_bind (wpAny_standAt (wpAny_bind ?_))
  show wpAny _ X.A (do let _ ← comprehension (.ListComp elt [⟨tg, iter, ifs, 0⟩] scope pos) scope X.env _ (newList []) false (eval iter X.env) (some (assign (.Name x pos') X.env))) _ _ s
  refine wpAny_bind (wpAny_mono (wpAny_comprehension_free (use := some (assign (.Name x pos') X.env)) (Q := fun _ s' => SP X pins Dn .next s') rfl hs hcl S.kind S.loc ?_) (fun _ s' hq => wpAny_pure (wpAny_pure hq)) fun _ _ e => e)
  refine comp_run (RR := fun acc C => compPost (model X.prog X.w) X.A X.xe (some (assign (.Name x pos') X.env)) (fun _ s' => SP X pins Dn .next s') acc C) hc hi S hρ hl inner I h h1 h2 ?_
  intro D C s' H' m I' q hm hfC
  obtain ⟨oC, es, ep, hoC, hr⟩ := id hm
  have pin : Inv X (pins ++ pinsAt [C] s'.heap) σ H' s' := I'.pinned (fun b hb => by
    have e : b = C := by simpa using hb
    subst e
    exact hfC) (fun b hb => by
    have e : b = C := by simpa using hb
    subst e
    exact ⟨oC, hoC, fun v z => by rw [hr.1] at z; cases z⟩)
  show wpAny _ X.A (assign (.Name x pos') X.env (.ref D)) _ _ _
  refine wpAny_assign_Name ?_
  refine store_ok (M := model X.prog X.w) (A := X.A) (E := X.xe) pin hN hix hx (v := .ref D) (u := .ref D) rfl (fun s'' I'' => ?_) hf
  have pC := (I''.pin (C, oC) (List.mem_append_right _ (List.mem_append_right _ (mem_pinsAt (by simp) hoC))))
  refine ⟨m, ⟨oC, es, ep, pC.1, hr⟩, fun h' sb => ⟨_, H', ?_, q⟩⟩
  have I2 : Inv X pins (σ.set i (some (.ref D))) H' s'' := I''.unpinned
  exact I2.turned (t' := s''.toks) (fun b o hb e => (sb.2 b hb).trans e) hfC.1 hfC.2.1 hfC.2.2.2.1 hfC.2.2.2.2.1 hfC.2.2.2.2.2

theorem inSt_cons (σ : St) (o : Option Nat) (ρ : List (Option Nat)) : inSt (o :: ρ) σ = (match o with | some i => (σ[i]?).getD none | none => none) :: inSt ρ σ := rfl
theorem outs1 {ρ : List (Option Nat)} {σ : St} (o : Option V) : Outs (none :: ρ) σ (o :: inSt ρ σ) := by
  refine ⟨by unfold inSt; simp, fun j v e => ?_⟩
  cases j with
  | zero => rw [inSt_cons] at e; simp at e
  | succ j => rw [inSt_cons] at e; simpa using e
theorem outs2 {ρ : List (Option Nat)} {σ : St} (o o' : Option V) : Outs (none :: none :: ρ) σ (o :: o' :: inSt ρ σ) := by
  refine ⟨by unfold inSt; simp, fun j v e => ?_⟩
  cases j with
  | zero => rw [inSt_cons] at e; simp at e
  | succ j =>
    rw [inSt_cons, inSt_cons] at e
    cases j with
    | zero => simp at e
    | succ j => simpa using e
theorem comp_by {J : It} {n : Nat} {X : Nat → V → Prop} {ρ : List (Option Nat)} {tt : TT} {te : TE} {σ : St} {H : Hp} {Q : VK} (Pv : Nat → List V → Hp → Prop) (h0 : Pv 0 [] H) (hlen : n ≤ sizeLine)
    (hy : ∀ i ys H, i ≤ n → Pv i ys H → ys.length ≤ i) (hgo : ∀ i ys H, i < n → Pv i ys H → J.go i H) (hyl : ∀ i ys H x H', i < n → Pv i ys H → J.yld i H x H' → H' = H ∧ X i x) (hst : ∀ ys H, Pv n ys H → J.stop n H)
    (hs : ∀ i x ys H, i < n → X i x → Pv i ys H → tt (some x :: inSt ρ σ) H fun ok H4 => if ok = true then te (some x :: inSt ρ σ) H4 fun v H5 => Pv (i + 1) (ys ++ [v]) H5 else Pv (i + 1) ys H4)
    (hd : ∀ ys H, Pv n ys H → ∀ p, H p = none → Q (.ref p) (upd H p (.lst ys))) :
    CompW (none :: ρ) (gName 0) tt te σ Q J H := by
  refine ⟨fun i m ys H => m = n - i ∧ i ≤ n ∧ Pv i ys H, ⟨n, by simp, Nat.zero_le _, h0⟩, ?_⟩
  rintro i m ys H ⟨rfl, hi, p⟩
  have hl := hy i ys H hi p
  by_cases hlt : i < n
  · refine .inr ⟨hgo i ys H hlt p, by omega, Pv (i + 1), fun ys' H'' p' => ⟨n - (i + 1), by omega, rfl, hlt, p'⟩, fun x H' y => ?_⟩
    obtain ⟨e, y2⟩ := hyl i ys H x H' hlt p y
    subst e
    exact ⟨outs1 _, hs i x ys _ hlt y2 p⟩
  · have e : i = n := by omega
    subst e
    exact .inl ⟨hst ys H p, by omega, hd ys H p⟩
theorem comp_tup {K : PySem.W.Frag} {a : Addr} {xs : List V} {ρ : List (Option Nat)} {tt : TT} {te : TE} {σ : St} {H : Hp} {Q : VK} (Pv : Nat → List V → Hp → Prop) (h0 : Pv 0 [] H) (hlen : xs.length ≤ sizeLine) (hl : ∀ i ys H, i ≤ xs.length → Pv i ys H → SqT K H a xs ∧ ys.length ≤ i)
    (hs : ∀ i x ys H, xs[i]? = some x → Pv i ys H → tt (some x :: inSt ρ σ) H fun ok H4 => if ok = true then te (some x :: inSt ρ σ) H4 fun v H5 => Pv (i + 1) (ys ++ [v]) H5 else Pv (i + 1) ys H4)
    (hd : ∀ ys H, Pv xs.length ys H → ∀ p, H p = none → Q (.ref p) (upd H p (.lst ys))) :
    CompW (none :: ρ) (gName 0) tt te σ Q (Itt K a) H :=
  comp_by (n := xs.length) (X := fun i x => xs[i]? = some x) Pv h0 hlen (fun i ys H hi p => (hl i ys H hi p).2) (fun i ys H hi p => ⟨xs, xs[i], (hl i ys H (Nat.le_of_lt hi) p).1, by simp [hi]⟩) (fun i ys H x H' hi p y => ⟨y.1, y.2 xs (hl i ys H (Nat.le_of_lt hi) p).1⟩)
    (fun ys H p => ⟨xs, (hl _ ys H (Nat.le_refl _) p).1, Nat.le_refl _⟩) (fun i x ys H _ e p => hs i x ys H e p) hd
theorem comp_list {K : PySem.W.Frag} {a : Addr} {xs : List V} {ρ : List (Option Nat)} {tt : TT} {te : TE} {σ : St} {H : Hp} {Q : VK} (Pv : Nat → List V → Hp → Prop) (h0 : Pv 0 [] H) (hlen : xs.length ≤ sizeLine) (hl : ∀ i ys H, i ≤ xs.length → Pv i ys H → SqL K H a xs ∧ ys.length ≤ i)
    (hs : ∀ i x ys H, xs[i]? = some x → Pv i ys H → tt (some x :: inSt ρ σ) H fun ok H4 => if ok = true then te (some x :: inSt ρ σ) H4 fun v H5 => Pv (i + 1) (ys ++ [v]) H5 else Pv (i + 1) ys H4)
    (hd : ∀ ys H, Pv xs.length ys H → ∀ p, H p = none → Q (.ref p) (upd H p (.lst ys))) :
    CompW (none :: ρ) (gName 0) tt te σ Q (Itl K a) H :=
  comp_by (n := xs.length) (X := fun i x => xs[i]? = some x) Pv h0 hlen (fun i ys H hi p => (hl i ys H hi p).2) (fun i ys H hi p => ⟨xs, xs[i], (hl i ys H (Nat.le_of_lt hi) p).1, by simp [hi]⟩) (fun i ys H x H' hi p y => ⟨y.1, y.2 xs (hl i ys H (Nat.le_of_lt hi) p).1⟩)
    (fun ys H p => ⟨xs, (hl _ ys H (Nat.le_refl _) p).1, Nat.le_refl _⟩) (fun i x ys H _ e p => hs i x ys H e p) hd
theorem comp_range {lo : Int} {n : Nat} {ρ : List (Option Nat)} {tt : TT} {te : TE} {σ : St} {H : Hp} {Q : VK} (Pv : Nat → List V → Hp → Prop) (h0 : Pv 0 [] H) (hlen : n ≤ sizeLine) (hl : ∀ i ys H, i ≤ n → Pv i ys H → ys.length ≤ i)
    (hs : ∀ i ys H, i < n → Pv i ys H → tt (some (.int (lo + i)) :: inSt ρ σ) H fun ok H4 => if ok = true then te (some (.int (lo + i)) :: inSt ρ σ) H4 fun v H5 => Pv (i + 1) (ys ++ [v]) H5 else Pv (i + 1) ys H4)
    (hd : ∀ ys H, Pv n ys H → ∀ p, H p = none → Q (.ref p) (upd H p (.lst ys))) :
    CompW (none :: ρ) (gName 0) tt te σ Q (Itr lo n) H :=
  comp_by (n := n) (X := fun i x => x = .int (lo + i)) Pv h0 hlen hl (fun i ys H hi p => hi) (fun i ys H x H' hi p y => y) (fun ys H p => Nat.le_refl _) (fun i x ys H hi e p => by subst e; exact hs i ys H hi p) hd
end L2

set_option Elab.async false
set_option linter.all false
set_option maxRecDepth 100000
set_option maxHeartbeats 4000000
namespace L2
open PySem PySem.Spec PyProof.Rows

noncomputable abbrev cds (x : Str) : List Nat := x.cps.toList
theorem cds_len (x : Str) : (cds x).length = x.length := by simp [cds, Str.length]
theorem cds_ext {x y : Str} (h : cds x = cds y) : x = y := StrLaws.mk_of_toList (x := x) h ▸ (StrLaws.mk_of_toList (x := y) rfl).symm
theorem cds_app (x y : Str) : cds (x ++ y) = cds x ++ cds y := by simp [cds, Str.cps_append]
theorem cds_mk (l : List Nat) : cds ⟨l.toArray⟩ = l := by simp [cds]
noncomputable def sOf (l : List Nat) : Str := ⟨l.toArray⟩
theorem cds_sOf (l : List Nat) : cds (sOf l) = l := by simp [cds, sOf]
theorem sOf_cds (x : Str) : sOf (cds x) = x := cds_ext (cds_sOf _)

noncomputable def cutC {α : Type} (xs : List α) (lo hi : Option Int) : List α := (xs.drop (HT.sIx xs.length 0 lo)).take (HT.sIx xs.length xs.length hi - HT.sIx xs.length 0 lo)
theorem clip_str (n : Nat) (i : Int) (k : Nat) : max 0 (min (if i < 0 then i + (n : Int) else i) (n : Int)) = ((HT.sIx n k (some i) : Nat) : Int) := by
  unfold HT.sIx
  dsimp only
  split <;> omega
theorem slice_ix (lo hi : Option Int) (n : Nat) : Builtin.Str.strSliceIndices lo hi 1 n = (List.range (HT.sIx n n hi - HT.sIx n 0 lo)).map (fun k => HT.sIx n 0 lo + k) := by
  have e : Builtin.Str.strSliceIndices lo hi 1 n = sliceRange ((HT.sIx n 0 lo : Nat) : Int) ((HT.sIx n n hi : Nat) : Int) 1 := by
    unfold Builtin.Str.strSliceIndices
    simp only [show ((1 : Int) > 0) = True by simp, if_true]
    congr 1
    · cases lo with
      | none => rfl
      | some i => exact clip_str n i 0
    · cases hi with
      | none => rfl
      | some i => exact clip_str n i n
  rw [e]
  unfold sliceRange
  simp only [show ((1 : Int) > 0) = True by simp, if_true]
  generalize HT.sIx n 0 lo = a
  generalize HT.sIx n n hi = b
  by_cases h : (a : Int) < b
  · rw [if_pos h, show (((b : Int) - a + 1 - 1) / 1).toNat = b - a by simp <;> omega]
    refine List.map_congr_left fun k _ => ?_
    omega
  · rw [if_neg h, show b - a = 0 by omega]
    rfl
theorem cds_slice (x : Str) (lo hi : Option Int) : cds (Txt.slice x lo hi) = cutC (cds x) lo hi := by
  unfold Txt.slice cutC
  have hl := cds_len x
  rw [hl, slice_ix]
  have b1 := HT.sIx_le x.length 0 (Nat.zero_le _) lo
  have b2 := HT.sIx_le x.length x.length (Nat.le_refl _) hi
  generalize HT.sIx x.length 0 lo = a at *
  generalize HT.sIx x.length x.length hi = b at *
  split
  · rename_i h
    have hb : b - a = x.length := by simpa using h
    have ha : a = 0 := by omega
    subst ha
    rw [List.drop_zero, hb, ← hl, List.take_length]
  · by_cases hab : a ≤ b
    · have q := StrLaws.picks (cds x) (b - a) a (by omega)
      have q2 : (List.filterMap (fun x_1 => x.cps[x_1]?) (List.map (fun k => a + k) (List.range (b - a)))) = List.filterMap (fun x_1 => (cds x)[x_1]?) (List.map (fun k => a + k) (List.range (b - a))) := by
        simp [cds]
      rw [cds_mk, q2, q]
    · rw [show b - a = 0 by omega]
      simp [cds]
section
variable {X : Cx}
noncomputable def rSlS : V → Option Int → Option Int → Hp → VK → Prop := fun x lo hi H Q => ∃ z, x = .str z ∧ z.length ≤ sizeLine ∧ Q (.str (sOf (cutC (cds z) lo hi))) H
theorem sl_str : SlR X rSlS := by
  intro pins s σ H x v vl vu lo hi sl Q I rx hs pl pu h
  obtain ⟨z, rfl, hz, q⟩ := h
  obtain ⟨t, rfl⟩ := rx
  rw [← cds_slice, sOf_cds] at q
  refine ⟨"str", _, F.slot_str_getitem.lookup, typeIs_str _ _ _, ?_⟩
  have go : ∀ (l u : Option (Int × Tok)), l.map (·.1) = lo → u.map (·.1) = hi → s.heap.IsSlice sl l u none → wpAny (model X.prog X.w) X.A (getItem (.str z t) (.ref sl)) (EP X pins σ Q) X.xe s := fun l u e1 e2 hS => by
    subst e1 e2
    exact wpAny_getItem_str_slice hS rfl (post_val_or_str ⟨Nat.le_trans (Txt.slice_le z _ _) hz, fun t' k => ⟨.str _, H, I.tok _, ⟨_, rfl⟩, q⟩⟩)
  cases pl with
  | none =>
    cases pu with
    | none => exact go none none rfl rfl hs
    | int j u => exact go none (some (j, u)) rfl rfl hs
  | int i t' =>
    cases pu with
    | none => exact go (some (i, t')) none rfl rfl hs
    | int j u => exact go (some (i, t')) (some (j, u)) rfl rfl hs

noncomputable def rMulS : R2 := fun x y H Q => ∃ z n, x = .str z ∧ y = .int n ∧ -(2 ^ 63 : Int) ≤ n ∧ n ≤ 4096 ∧ z.length ≤ 4096 ∧ Q (.str (Txt.mul z n)) H
theorem op_mulS : OpR X (binaryOp .Mult) rMulS := by
  intro pins s σ H x y v u Q I rx ry h
  obtain ⟨z, n, rfl, rfl, h1, h2, h3, q⟩ := h
  obtain ⟨t, rfl⟩ := rx
  obtain ⟨t', rfl⟩ := ry
  exact SB.mul (mulOk_of 4096 4096 h3 h2 h1 (by decide) (by decide)) fun t' k => ⟨.str _, H, I.tok _, ⟨_, rfl⟩, q⟩
theorem cds_mul_one (c : Nat) (n : Int) : cds (Txt.mul ⟨#[c]⟩ n) = List.replicate n.toNat c := mul_one_list c n
noncomputable def rJoin (K : PySem.W.Frag) : V → List V → Hp → VK → Prop := fun x xs H Q => ∃ z p ys, x = .str z ∧ xs = [.ref p] ∧ (SqL K H p (ys.map V.str) ∨ SqT K H p (ys.map V.str)) ∧ (ys.map (·.length)).sum + ys.length * z.length ≤ 16777216 ∧ Q (.str (Txt.join z ys)) H
theorem strsAre_of : ∀ {ys : List Str} {us : List Value}, Vals (ys.map V.str) us → StrsAre us ys
  | [], _, .nil => .nil
  | y :: ys, _, .cons r t => by
    obtain ⟨k, rfl⟩ := r
    exact .cons y k (strsAre_of t)
theorem mt_join : MtR X "str.join" (rJoin X.K) := by
  intro pins s σ H x xs v us Q I rx rv h
  obtain ⟨z, p, ys, rfl, rfl, hq, hz, q⟩ := h
  obtain ⟨t, rfl⟩ := rx
  obtain ⟨u, rfl, ru⟩ := rv.one
  cases ru
  rcases hq with hq | hq
  · obtain ⟨its, r, pl, _⟩ := I.list hq
    exact join_list pl.isList (by simpa using strsAre_of r) hz fun t' k => ⟨.str _, H, I.tok _, ⟨_, rfl⟩, q⟩
  · obtain ⟨its, r, pl, _⟩ := I.tuple hq
    exact join_tuple pl (by simpa using strsAre_of r) hz fun t' k => ⟨.str _, H, I.tok _, ⟨_, rfl⟩, q⟩
end

section
variable {X : Cx}
noncomputable def clsV : V → Option Value
  | .ty n => some (.type n)
  | .ref a => some (.ref a)
  | _ => none
theorem call_isi : CallR X (.builtin "isinstance") (fun xs H Q => ∃ x c t cv b, xs = [x, c] ∧ clsV c = some cv ∧ TyOf X.K H x t ∧ PySem.W.kitOne X.K t cv = some b ∧ Q (.bl b) H) := by
  intro pins s σ H xs us Q I r h
  obtain ⟨x, c, t, cv, b, rfl, rc, ty, e, q⟩ := h
  obtain ⟨u, w', rfl, rx, rw'⟩ := r.two
  have : w' = cv := by
    cases c with
    | ref a => cases rc; exact rw'
    | ty a => cases rc; exact rw'
    | _ => cases rc
  subst this
  exact isinst_ok I rx ty e fun tk => ⟨.bl b, H, I.tok _, rfl, q⟩
end
end L2

set_option Elab.async false
set_option linter.all false
set_option maxRecDepth 100000
set_option maxHeartbeats 4000000
namespace L2
open PySem PySem.Spec PyProof.Rows

noncomputable def compB (sc out : Scope) (N N' : List Str) (ρ : List (Option Nat)) : Bool :=
  decide (sc.kind = .function) && sc.names.all (fun y => decide (y.2 ≠ .cell)) && sc.names.all (fun y => decide (y.2 = .local → sc.names.lookup y.1 = some .local)) &&
  sc.names.all (fun y => decide (y.2 = .free → sc.names.lookup y.1 = some .free ∧ (out.names.lookup y.1 = some .cell ∨ out.names.lookup y.1 = some .free))) &&
  decide (ρ.length = N'.length) && decide N'.Nodup &&
  (ρ.zip N').all (fun p => match p.1 with | none => true | some i => decide (N[i]? = some p.2) && decide (out.names.lookup p.2 = some .local ∨ out.names.lookup p.2 = some .cell ∨ out.names.lookup p.2 = some .free) && sc.names.any (fun y => decide (y = (p.2, NameKind.free))))
structure CompF (sc : Scope) (env : Env) (N N' : List Str) (ρ : List (Option Nat)) : Prop where
  S : CompScope sc env.scope
  sl : SlotOk sc env N N' ρ
  hl : ∀ x, (x, NameKind.free) ∈ sc.names → sc.names.lookup x = some .free
  nd : N'.Nodup
theorem compF_of {sc : Scope} {env : Env} {N N' : List Str} {ρ : List (Option Nat)} (h : compB sc env.scope N N' ρ = true) : CompF sc env N N' ρ := by
  unfold compB at h
  simp only [Bool.and_eq_true, decide_eq_true_eq, List.all_eq_true] at h
  obtain ⟨⟨⟨⟨⟨⟨h1, h2⟩, h3⟩, h4⟩, h5⟩, h6⟩, h7⟩ := h
  refine ⟨⟨h1, h2, h3, fun y hy e => (h4 y hy e).2⟩, ⟨h5, fun j i x e1 e2 => ?_⟩, fun x hx => (h4 _ hx rfl).1, h6⟩
  have hm : (some i, x) ∈ ρ.zip N' := by
    refine List.mem_of_getElem? (i := j) ?_
    rw [List.getElem?_zip_eq_some]
    exact ⟨e1, e2⟩
  have q := h7 _ hm
  simp only [Bool.and_eq_true, decide_eq_true_eq, List.any_eq_true] at q
  obtain ⟨⟨q1, q2⟩, y, hy, e⟩ := q
  exact ⟨q1, q2, e ▸ hy⟩

theorem pe_compB {X : Cx} {elt iter tg : Expr} {ifs : List Expr} {scope : Scope} {pos : Pos} (N' : List Str) (ρ : List (Option Nat)) {wi : TI} {g : TG} {tt : TT} {te : TE} (hc : X.calm = true) (hi : PI X tg iter wi) (h : compB scope X.env.scope X.N N' ρ = true)
    (inner : ∀ (cl : List (Str × Addr)) (C : Addr) (s : Shared) (H : Hp) (fp : List Addr) (pins : List (Addr × Obj)), PG (compCx X scope N' cl C s H fp pins) tg g ∧ PTs (compCx X scope N' cl C s H fp pins) ifs tt ∧ PE (compCx X scope N' cl C s H fp pins) elt te)
    (hs : ∀ x, foldedSetIterable iter X.env x = pure x := by intro _; rfl) : PE X (.ListComp elt [⟨tg, iter, ifs, 0⟩] scope pos) (tComp ρ wi g tt te) :=
  have F := compF_of h
  pe_comp N' ρ hc hi F.S F.sl F.hl inner hs
theorem ps_setcompB {X : Cx} {elt iter tg : Expr} {ifs : List Expr} {scope : Scope} {pos pos' spos : Pos} {i : Nat} {x : Str} (N' : List Str) (ρ : List (Option Nat)) {wi : TI} {g : TG} {tt : TT} {te : TE} (hN : X.N.Nodup) (hix : X.N[i]? = some x) (hx : Loc X.env.scope x)
    (hc : X.calm = true) (hi : PI X tg iter wi) (h : compB scope X.env.scope X.N N' ρ = true)
    (inner : ∀ (cl : List (Str × Addr)) (C : Addr) (s : Shared) (H : Hp) (fp : List Addr) (pins : List (Addr × Obj)), PG (compCx X scope N' cl C s H fp pins) tg g ∧ PTs (compCx X scope N' cl C s H fp pins) ifs tt ∧ PE (compCx X scope N' cl C s H fp pins) elt te)
    (hsw : swapsWith (.ListComp elt [⟨tg, iter, ifs, 0⟩] scope pos) (some (.Name x pos')) spos.line X.env = pure true := by rfl)
    (hs : ∀ x, foldedSetIterable iter X.env x = pure x := by intro _; rfl) (hf : X.fn x = true ∨ X.env.scope.names.lookup x = some .local := by first | exact .inl rfl | exact .inr rfl | assumption) :
    PS X (.Assign [.Name x pos'] (.ListComp elt [⟨tg, iter, ifs, 0⟩] scope pos) spos) (tAsg (tComp ρ wi g tt te) (gName i)) :=
  have F := compF_of h
  ps_setcomp N' ρ hN hix hx hc hi F.S F.sl F.hl inner hsw hs hf

noncomputable def spLaw (K : PySem.W.Frag) : Sp := fun vs H Q _ => ∃ (a : Addr) (ns : List Int), vs = [.ref a] ∧ SqL K H a (ns.map V.int) ∧ ns.length ≤ 63 ∧ Only H ∧ ∀ H', Q (.bl true) H'
theorem law_walk {l : PySem.W.OpenLaw} {q : Program} {loose : List Str} {XP : (Str → Option Value) → Heap → Prop} {YP : World → Heap → Prop} {d : DefRec} {K : Params → PySem.W.Frag} {x : Str} (k : Nat) (hk : k ≤ 200) (hn : l.most = some 63) (hdf : d.params.defaults = [])
    (hY : ∀ (w : World) (h : Heap), YP w h → (K w.params).In h)
    (F : ∀ (w : World) (mg : Str → Option Value) (fa : Addr) (h : Heap), (K w.params).In h → h.Ns mainGlobals mg → mg d.name = some (.ref fa) →
      ∃ fd : FuncData, (∀ (s : Shared) (u : Value), BindsTo s fd ⟨[u], []⟩ [(x, u)]) ∧ ∀ base : Heap, (K w.params).In base → base.Ns mainGlobals mg → FnOk l.prog w (K w.params) mg base CX0 k fa fd [x] (spLaw (K w.params))) :
    PySem.W.WalkO q loose XP YP l.row.toRowW d [] (fun f vs => PySem.call f vs) :=
  L2.walk_of (n := 63) (k := k) (x := x) (CX := fun _ => CX0) (sp := fun w => spLaw (K w.params)) hn (by decide) hdf
    ⟨rfl, by have : callerA.depth + 605 < recursionLimit := by decide
             omega, by have : callerA.units + 3400 < cLine := by decide
                       omega, rfl⟩ hY F (fun _ H a ns hl hO hS => ⟨a, ns, rfl, hS, hl, hO, fun _ => rfl⟩) fun _ _ _ _ _ z => z
end L2
namespace L2
open PySem
noncomputable def mkSc (l : List (Str × NameKind)) : Scope := { kind := .function, names := l, isGenerator := false, isCoroutine := false, more := [] }
end L2

namespace L2
open PySem
theorem bt_len : bootBuiltins "len" = some (.builtin "len") := by decide +kernel
theorem bt_isinstance : bootBuiltins "isinstance" = some (.builtin "isinstance") := by decide +kernel
theorem bt_abs : bootBuiltins "abs" = some (.builtin "abs") := by decide +kernel
theorem bt_int : bootBuiltins "int" = some (.type "int") := by decide +kernel
theorem bt_str : bootBuiltins "str" = some (.type "str") := by decide +kernel
theorem bt_list : bootBuiltins "list" = some (.type "list") := by decide +kernel
theorem bt_tuple : bootBuiltins "tuple" = some (.type "tuple") := by decide +kernel
end L2

set_option Elab.async false
set_option linter.all false
set_option maxRecDepth 100000
set_option maxHeartbeats 4000000
namespace L2
open PySem PySem.Spec PyProof.Rows

theorem szl {n : Nat} (h : n ≤ 1000000) : n ≤ sizeLine := by rw [sizeLine_eq]; omega
theorem szlt {n : Nat} (h : n < 1000000) : n < sizeLine := by rw [sizeLine_eq]; omega
theorem same_new {H : Hp} {p : Addr} (h : H p = none) (o : HO) : Same H (upd H p o) := fun b u q => by rw [upd_ne (ne_of_none q h)]; exact q
theorem dT {p : Prop} [Decidable p] (h : decide p = true) : p := of_decide_eq_true h
theorem dF {p : Prop} [Decidable p] (h : ¬ decide p = true) : ¬ p := fun z => h (decide_eq_true z)

noncomputable def spCell (K : PySem.W.Frag) : Sp := fun vs H Q _ => ∃ (a : Addr) (ns : List Int) (k : Int), vs = [.ref a, .int k] ∧ SqL K H a (ns.map V.int) ∧ 0 ≤ k ∧ Q (.int (ns.getD k.toNat 0)) H
theorem cell_in {ns : List Int} {k : Int} (h0 : 0 ≤ k) (h : k < (ns.length : Int)) : atI (ns.map V.int) k = some (.int (ns.getD k.toNat 0)) := by
  have hk : k.toNat < ns.length := by omega
  have ek : k = ((k.toNat : Nat) : Int) := by omega
  have q : atI (ns.map V.int) ((k.toNat : Nat) : Int) = some (.int (ns.getD k.toNat 0)) := atI_nat (by rw [List.getElem?_map, List.getElem?_eq_getElem hk]; simp [List.getD_eq_getElem?_getD, hk])
  rw [← ek] at q
  exact q
theorem cell_out {ns : List Int} {k : Int} (h : ¬ k < (ns.length : Int)) : ns.getD k.toNat 0 = 0 := by rw [List.getD_eq_getElem?_getD, List.getElem?_eq_none (by omega)]; rfl
theorem take_snoc {α : Type} {l : List α} {i : Nat} {c : α} (h : l[i]? = some c) : l.take (i + 1) = l.take i ++ [c] := by
  rw [List.take_succ, h]; rfl
end L2
namespace L2
open PySem
end L2
namespace L2
open PySem
theorem seq_any {t u : TS} {D : Ends} {σ : St} {H : Hp} (M : St → Hp → Prop) (hu : ∀ σ' H', M σ' H' → u D σ' H') (ht : (∀ σ' H', M σ' H' → u D σ' H') → t { D with nx := u D } σ H) : tSeq t u D σ H := ht hu
theorem ndF {p : Prop} [Decidable p] (h : p) : (!decide p) = false := by rw [decide_eq_true h]; rfl
theorem iteE {b : Bool} {A B : Prop} {v : Bool} (e : b = v) (h : if v = true then A else B) : if b = true then A else B := by rw [e]; exact h
end L2
namespace L2
open PySem
theorem cutC_le {α : Type} (xs : List α) (lo hi : Option Int) : (cutC xs lo hi).length ≤ xs.length := by
  unfold cutC
  rw [List.length_take, List.length_drop]
  omega
theorem len_sOf (l : List Nat) : (sOf l).length = l.length := by rw [← cds_len, cds_sOf]
theorem len_app (x y : Str) : (x ++ y).length = x.length + y.length := Str.length_append x y
end L2

set_option Elab.async false
set_option linter.all false
set_option maxRecDepth 100000
set_option maxHeartbeats 4000000
namespace L2
open PySem PySem.Spec PyProof.Rows

inductive Tr where
  | v (x : V)
  | lst (l : List Tr)
  | tup (l : List Tr)
mutual
inductive TrIs (K : PySem.W.Frag) (H : Hp) : V → Tr → Prop
  | flat {x : V} : flatV x = true → TrIs K H x (.v x)
  | lst {p : Addr} {xs : List V} {l : List Tr} : SqL K H p xs → TrsIs K H xs l → TrIs K H (.ref p) (.lst l)
  | tup {p : Addr} {xs : List V} {l : List Tr} : SqT K H p xs → TrsIs K H xs l → TrIs K H (.ref p) (.tup l)
inductive TrsIs (K : PySem.W.Frag) (H : Hp) : List V → List Tr → Prop
  | nil : TrsIs K H [] []
  | cons {x : V} {t : Tr} {xs : List V} {l : List Tr} : TrIs K H x t → TrsIs K H xs l → TrsIs K H (x :: xs) (t :: l)
end
mutual
noncomputable def eqT : Tr → Tr → Bool
  | .v x, .v y => eqV x y
  | .lst l, .lst m => eqTs l m
  | .tup l, .tup m => eqTs l m
  | _, _ => false
noncomputable def eqTs : List Tr → List Tr → Bool
  | [], [] => true
  | x :: l, y :: m => eqT x y && eqTs l m
  | _, _ => false
end
mutual
noncomputable def simT : Tr → Tr → Bool
  | .v _, .v _ => true
  | .lst l, .lst m => simTs l m
  | .tup l, .tup m => simTs l m
  | _, _ => false
noncomputable def simTs : List Tr → List Tr → Bool
  | x :: l, y :: m => simT x y && simTs l m
  | _, _ => true
end
mutual
noncomputable def depT : Tr → Nat
  | .v _ => 0
  | .lst l => depTs l + 1
  | .tup l => depTs l + 1
noncomputable def depTs : List Tr → Nat
  | [] => 0
  | x :: l => max (depT x) (depTs l)
end
theorem eqV_refl {x : V} (h : flatV x = true) : eqV x x = true := by
  cases x <;> first | rfl | (simp [eqV]; done) | (simp [flatV] at h)
mutual
/-- a tree of flat values -/
noncomputable def okT : Tr → Bool
  | .v x => flatV x
  | .lst l => okTs l
  | .tup l => okTs l
noncomputable def okTs : List Tr → Bool
  | [] => true
  | x :: l => okT x && okTs l
end
mutual
theorem eqT_refl : ∀ t : Tr, okT t = true → eqT t t = true
  | .v x, h => by rw [eqT]; exact eqV_refl (by simpa [okT] using h)
  | .lst l, h => by rw [eqT]; exact eqTs_refl l (by simpa [okT] using h)
  | .tup l, h => by rw [eqT]; exact eqTs_refl l (by simpa [okT] using h)
theorem eqTs_refl : ∀ l : List Tr, okTs l = true → eqTs l l = true
  | [], _ => by rw [eqTs]
  | x :: l, h => by
    rw [okTs, Bool.and_eq_true] at h
    rw [eqTs, eqT_refl x h.1, eqTs_refl l h.2]; rfl
end
mutual
theorem TrIs.ok {K : PySem.W.Frag} {H : Hp} : ∀ {x : V} {t : Tr}, TrIs K H x t → okT t = true
  | _, _, .flat h => by rw [okT]; exact h
  | _, _, .lst _ h => by rw [okT]; exact h.ok
  | _, _, .tup _ h => by rw [okT]; exact h.ok
theorem TrsIs.ok {K : PySem.W.Frag} {H : Hp} : ∀ {xs : List V} {l : List Tr}, TrsIs K H xs l → okTs l = true
  | _, _, .nil => by rw [okTs]
  | _, _, .cons h r => by rw [okTs, h.ok, r.ok]; rfl
end
theorem TrsIs.length {K : PySem.W.Frag} {H : Hp} : ∀ {xs : List V} {l : List Tr}, TrsIs K H xs l → xs.length = l.length
  | _, _, .nil => rfl
  | _, _, .cons _ r => by simp [r.length]
theorem eqTs_len : ∀ {l m : List Tr}, l.length ≠ m.length → eqTs l m = false
  | [], [], h => absurd rfl h
  | [], _ :: _, _ => by rw [eqTs] <;> simp
  | _ :: _, [], _ => by rw [eqTs] <;> simp
  | x :: l, y :: m, h => by
    rw [eqTs, eqTs_len (l := l) (m := m) (fun e => h (by simp [e])), Bool.and_false]
section
variable {X : Cx} {pins : List (Addr × Obj)} {σ : St} {H : Hp} {s : Shared}
mutual
theorem TrIs.inj (I : Inv X pins σ H s) : ∀ {t t' : Tr} {x : V}, TrIs X.K H x t → TrIs X.K H x t' → t = t'
  | .v x, t', _, .flat h, h' => by
    cases h' with
    | flat _ => rfl
    | lst _ _ => cases h
    | tup _ _ => cases h
  | .lst l, t', _, .lst (p := p) (xs := xs) hq hr, h' => by
    cases h' with
    | flat h => cases h
    | lst hq' hr' =>
      have e := I.list_inj hq hq'
      subst e
      rw [TrsIs.inj I hr hr']
    | tup hq' hr' =>
      obtain ⟨_, _, ⟨o, n, e1, c1, _⟩, _⟩ := I.list hq
      obtain ⟨_, _, ⟨o', e2, c2, _⟩, _⟩ := I.tuple hq'
      rw [e1] at e2; cases e2
      rw [c1] at c2; simp at c2
  | .tup l, t', _, .tup (p := p) (xs := xs) hq hr, h' => by
    cases h' with
    | flat h => cases h
    | tup hq' hr' =>
      have e := I.tuple_inj hq hq'
      subst e
      rw [TrsIs.inj I hr hr']
    | lst hq' hr' =>
      obtain ⟨_, _, ⟨o, n, e1, c1, _⟩, _⟩ := I.list hq'
      obtain ⟨_, _, ⟨o', e2, c2, _⟩, _⟩ := I.tuple hq
      rw [e1] at e2; cases e2
      rw [c1] at c2; simp at c2
theorem TrsIs.inj (I : Inv X pins σ H s) : ∀ {l l' : List Tr} {xs : List V}, TrsIs X.K H xs l → TrsIs X.K H xs l' → l = l'
  | [], _, _, .nil, h' => by cases h'; rfl
  | t :: l, _, _, .cons h r, h' => by
    cases h' with
    | cons h2 r2 => rw [TrIs.inj I h h2, TrsIs.inj I r r2]
end
theorem range_all_eq {α : Type} {e : Nat → Bool} {f : α → Bool} : ∀ {l : List α}, (∀ j x, l[j]? = some x → e j = f x) → (List.range l.length).all e = l.all f := by
  intro l h
  rw [Bool.eq_iff_iff]
  simp only [List.all_eq_true, List.mem_range]
  constructor
  · intro q x hx
    obtain ⟨i, hi, hx⟩ := List.mem_iff_getElem.mp hx
    rw [← h i x (by rw [List.getElem?_eq_getElem hi, hx])]
    exact q i hi
  · intro q i hi
    rw [h i l[i] (List.getElem?_eq_getElem hi)]
    exact q _ (List.getElem_mem hi)
theorem eqTs_zip : ∀ {l m : List Tr}, l.length = m.length → eqTs l m = (l.zip m).all fun p => eqT p.1 p.2
  | [], [], _ => by rw [eqTs]; rfl
  | [], _ :: _, h => by simp at h
  | _ :: _, [], h => by simp at h
  | x :: l, y :: m, h => by
    rw [eqTs, eqTs_zip (l := l) (m := m) (by simpa using h)]
    rfl
theorem TrsIs.at {K : PySem.W.Frag} {H : Hp} : ∀ {xs : List V} {l : List Tr} {j : Nat} {t : Tr}, TrsIs K H xs l → l[j]? = some t → ∃ x, xs[j]? = some x ∧ TrIs K H x t
  | _, _, _, _, .nil, h => by simp at h
  | _, _, 0, _, .cons h _, e => by simp at e; subst e; exact ⟨_, rfl, h⟩
  | _, _, j + 1, _, .cons _ r, e => by
    obtain ⟨x, h1, h2⟩ := r.at (j := j) (by simpa using e)
    exact ⟨x, by simpa using h1, h2⟩
theorem simTs_at : ∀ {l m : List Tr} {j : Nat} {t t' : Tr}, simTs l m = true → l[j]? = some t → m[j]? = some t' → simT t t' = true
  | [], _, _, _, _, _, h, _ => by simp at h
  | _ :: _, [], _, _, _, _, _, h => by simp at h
  | x :: l, y :: m, 0, t, t', h, e1, e2 => by
    simp at e1 e2; subst e1 e2
    rw [simTs, Bool.and_eq_true] at h; exact h.1
  | x :: l, y :: m, j + 1, t, t', h, e1, e2 => by
    rw [simTs, Bool.and_eq_true] at h
    exact simTs_at (j := j) h.2 (by simpa using e1) (by simpa using e2)
theorem depTs_at : ∀ {l : List Tr} {j : Nat} {t : Tr}, l[j]? = some t → depT t ≤ depTs l
  | [], _, _, h => by simp at h
  | x :: l, 0, t, h => by simp at h; subst h; rw [depTs]; omega
  | x :: l, j + 1, t, h => by
    have := depTs_at (l := l) (j := j) (t := t) (by simpa using h)
    rw [depTs]; omega
theorem items_eq {A : Around} {l m : List Tr} {xs ys : List V} {its jts : List Value} (hr : TrsIs X.K H xs l) (hr' : TrsIs X.K H ys m) (rv : Vals xs its) (rv' : Vals ys jts)
    (ih : ∀ (j : Nat) (t t' : Tr) (x y : V) (u v : Value), l[j]? = some t → m[j]? = some t' → TrIs X.K H x t → RelV x u → TrIs X.K H y t' → RelV y v → SeqAt.EqAt A.in1 s u v (eqT t t')) :
    ∀ j (h1 : j < its.toArray.size) (h2 : j < jts.toArray.size), SeqAt.EqAt A.in1 s its.toArray[j] jts.toArray[j] (match l[j]?, m[j]? with | some t, some t' => eqT t t' | _, _ => true) := by
  intro j h1 h2
  have l1 := hr.length; have l2 := hr'.length; have l3 := rv.length; have l4 := rv'.length
  rw [List.size_toArray] at h1 h2
  obtain ⟨t, ht⟩ : ∃ t, l[j]? = some t := ⟨l[j]'(by omega), List.getElem?_eq_getElem (by omega)⟩
  obtain ⟨t', ht'⟩ : ∃ t', m[j]? = some t' := ⟨m[j]'(by omega), List.getElem?_eq_getElem (by omega)⟩
  obtain ⟨x, hx, hxt⟩ := hr.at ht
  obtain ⟨y, hy, hyt⟩ := hr'.at ht'
  obtain ⟨u, hu, ru⟩ := rv.get hx
  obtain ⟨v, hv, rw'⟩ := rv'.get hy
  rw [ht, ht']
  have e1 : its.toArray[j] = u := by
    have := List.getElem?_eq_getElem (l := its) (i := j) h1
    rw [hu] at this
    simpa using (Option.some.inj this).symm
  have e2 : jts.toArray[j] = v := by
    have := List.getElem?_eq_getElem (l := jts) (i := j) h2
    rw [hv] at this
    simpa using (Option.some.inj this).symm
  rw [e1, e2]
  exact ih j t t' x y u v ht ht' hxt ru hyt rw'
theorem all_items {l m : List Tr} (h : l.length = m.length) : (List.range l.length).all (fun j => match l[j]?, m[j]? with | some t, some t' => eqT t t' | _, _ => true) = eqTs l m := by
  rw [eqTs_zip h]
  have e : l.length = (l.zip m).length := by rw [List.length_zip]; omega
  rw [e]
  refine range_all_eq fun j p hp => ?_
  obtain ⟨h1, h2⟩ := List.getElem?_zip_eq_some.mp hp
  rw [h1, h2]
theorem RcAt_lists {A : Around} {p q : Addr} {xs ys : List V} {l m : List Tr} (I : Inv X pins σ H s) (hu : A.units < cLine) (hq : SqL X.K H p xs) (hr : TrsIs X.K H xs l) (hq' : SqL X.K H q ys) (hr' : TrsIs X.K H ys m)
    (ih : ∀ (j : Nat) (t t' : Tr) (x y : V) (u v : Value), l[j]? = some t → m[j]? = some t' → TrIs X.K H x t → RelV x u → TrIs X.K H y t' → RelV y v → SeqAt.EqAt A.in1 s u v (eqT t t')) :
    SeqAt.RcAt A s (.ref p) (.ref q) (eqTs l m) ∧ SeqAt.RcNeAt A s (.ref p) (.ref q) (!eqTs l m) := by
  obtain ⟨its, rv, pl, _⟩ := I.list hq
  obtain ⟨jts, rv', pl', _⟩ := I.list hq'
  have l1 := hr.length; have l2 := hr'.length; have l3 := rv.length; have l4 := rv'.length
  by_cases hl : l.length = m.length
  · have e : its.toArray.size = l.length := by rw [List.size_toArray]; omega
    have a := SeqAt.RcAt.lists (A := A) pl.isList pl'.isList (by rw [List.size_toArray, List.size_toArray]; omega) hu (items_eq hr hr' rv rv' ih)
    have b := SeqAt.RcNeAt.lists (A := A) pl.isList pl'.isList (by rw [List.size_toArray, List.size_toArray]; omega) hu (items_eq hr hr' rv rv' ih)
    rw [e, all_items hl] at a b
    exact ⟨a, b⟩
  · rw [eqTs_len hl]
    have hne : (its.toArray.size != jts.toArray.size) = true := by
      rw [List.size_toArray, List.size_toArray]
      simp only [bne_iff_ne, ne_eq]; omega
    exact ⟨SeqAt.RcAt.lists_lengths pl.isList pl'.isList hne hu, SeqAt.RcNeAt.lists_lengths pl.isList pl'.isList hne hu⟩
theorem RcAt_tuples {A : Around} {p q : Addr} {xs ys : List V} {l m : List Tr} (I : Inv X pins σ H s) (hu : A.units < cLine) (hq : SqT X.K H p xs) (hr : TrsIs X.K H xs l) (hq' : SqT X.K H q ys) (hr' : TrsIs X.K H ys m)
    (ih : ∀ (j : Nat) (t t' : Tr) (x y : V) (u v : Value), l[j]? = some t → m[j]? = some t' → TrIs X.K H x t → RelV x u → TrIs X.K H y t' → RelV y v → SeqAt.EqAt A.in1 s u v (eqT t t')) :
    SeqAt.RcAt A s (.ref p) (.ref q) (eqTs l m) ∧ SeqAt.RcNeAt A s (.ref p) (.ref q) (!eqTs l m) := by
  obtain ⟨its, rv, pl, _⟩ := I.tuple hq
  obtain ⟨jts, rv', pl', _⟩ := I.tuple hq'
  have l1 := hr.length; have l2 := hr'.length; have l3 := rv.length; have l4 := rv'.length
  have a := SeqAt.RcAt.tuples (A := A) (show s.heap.IsTuple p its.toArray from pl) (show s.heap.IsTuple q jts.toArray from pl') hu (items_eq hr hr' rv rv' ih)
  have b := SeqAt.RcNeAt.tuples (A := A) (show s.heap.IsTuple p its.toArray from pl) (show s.heap.IsTuple q jts.toArray from pl') hu (items_eq hr hr' rv rv' ih)
  have e : ((List.range (min its.toArray.size jts.toArray.size)).all (fun j => match l[j]?, m[j]? with | some t, some t' => eqT t t' | _, _ => true) && its.toArray.size == jts.toArray.size) = eqTs l m := by
    by_cases hl : l.length = m.length
    · have e1 : min its.toArray.size jts.toArray.size = l.length := by rw [List.size_toArray, List.size_toArray]; omega
      have e2 : (its.toArray.size == jts.toArray.size) = true := by rw [List.size_toArray, List.size_toArray]; simp; omega
      rw [e1, e2, all_items hl, Bool.and_true]
    · have e2 : (its.toArray.size == jts.toArray.size) = false := by rw [List.size_toArray, List.size_toArray]; simp; omega
      rw [e2, eqTs_len hl, Bool.and_false]
  rw [e] at a b
  exact ⟨a, b⟩
theorem eqAt_T (I : Inv X pins σ H s) (n : Nat) : ∀ (A : Around) (t t' : Tr) (x y : V) (u v : Value), depT t ≤ n → A.units + n < cLine → simT t t' = true → TrIs X.K H x t → RelV x u → TrIs X.K H y t' → RelV y v → SeqAt.EqAt A s u v (eqT t t') := by
  induction n with
  | zero =>
    intro A t t' x y u v hd hu hs hx rx hy ry
    cases hx with
    | flat fx =>
      cases hy with
      | flat fy => rw [eqT]; exact eqAt_V rx ry fx fy
      | lst _ _ => simp [simT] at hs
      | tup _ _ => simp [simT] at hs
    | lst _ _ => simp [depT] at hd
    | tup _ _ => simp [depT] at hd
  | succ n ih =>
    intro A t t' x y u v hd hu hs hx rx hy ry
    cases hx with
    | flat fx =>
      cases hy with
      | flat fy => rw [eqT]; exact eqAt_V rx ry fx fy
      | lst _ _ => simp [simT] at hs
      | tup _ _ => simp [simT] at hs
    | @lst p xs l hq hr =>
      cases hy with
      | flat fy => simp [simT] at hs
      | tup _ _ => simp [simT] at hs
      | @lst q ys m hq' hr' =>
        cases rx; cases ry
        rw [depT] at hd
        rw [simT] at hs
        by_cases e : p = q
        · subst e
          have e1 := TrIs.inj I (TrIs.lst hq hr) (TrIs.lst hq' hr')
          rw [← e1, eqT_refl _ (TrIs.lst hq hr).ok]
          exact SeqAt.EqAt.same _
        · rw [eqT]
          refine SeqAt.EqAt.of_refs e (RcAt_lists I (by omega) hq hr hq' hr' fun j t t' x y u v h1 h2 h3 h4 h5 h6 => ?_).1
          exact ih A.in1 t t' x y u v (by have := depTs_at h1; omega) (by show A.units + 1 + n < cLine; omega) (simTs_at hs h1 h2) h3 h4 h5 h6
    | @tup p xs l hq hr =>
      cases hy with
      | flat fy => simp [simT] at hs
      | lst _ _ => simp [simT] at hs
      | @tup q ys m hq' hr' =>
        cases rx; cases ry
        rw [depT] at hd
        rw [simT] at hs
        by_cases e : p = q
        · subst e
          have e1 := TrIs.inj I (TrIs.tup hq hr) (TrIs.tup hq' hr')
          rw [← e1, eqT_refl _ (TrIs.tup hq hr).ok]
          exact SeqAt.EqAt.same _
        · rw [eqT]
          refine SeqAt.EqAt.of_refs e (RcAt_tuples I (by omega) hq hr hq' hr' fun j t t' x y u v h1 h2 h3 h4 h5 h6 => ?_).1
          exact ih A.in1 t t' x y u v (by have := depTs_at h1; omega) (by show A.units + 1 + n < cLine; omega) (simTs_at hs h1 h2) h3 h4 h5 h6
end

section
variable {X : Cx}
noncomputable def rEqX (K : PySem.W.Frag) (neg : Bool) : R2 := fun x y H Q => ∃ t t', TrIs K H x t ∧ TrIs K H y t' ∧ (∃ p, x = .ref p) ∧ (∃ p, y = .ref p) ∧ simT t t' = true ∧ depT t ≤ 60 ∧ Q (.bl (if neg then !eqT t t' else eqT t t')) H
theorem eqX_aux {neg : Bool} (hu : X.A.units + 64 < cLine) : OpR X (compareOp (if neg then .NotEq else .Eq)) (rEqX X.K neg) := by
  intro pins s σ H x y v u Q I rx ry h
  obtain ⟨t, t', hx, hy, ⟨p, rfl⟩, ⟨q, rfl⟩, hs, hd, q'⟩ := h
  cases rx; cases ry
  have done : ∀ l m, SeqAt.RcAt X.A s (.ref p) (.ref q) (eqTs l m) ∧ SeqAt.RcNeAt X.A s (.ref p) (.ref q) (!eqTs l m) → Q (.bl (if neg then !eqTs l m else eqTs l m)) H →
      wpAny (model X.prog X.w) X.A (compareOp (if neg then .NotEq else .Eq) (.ref p) (.ref q)) (EP X pins σ Q) X.xe s := fun l m hb hq => by
    cases neg with
    | false => exact hb.1 X.prog X.w X.xe _ ⟨.bl _, H, I, rfl, hq⟩
    | true => exact hb.2 X.prog X.w X.xe _ ⟨.bl _, H, I, rfl, hq⟩
  cases hx with
  | flat fx => cases fx
  | @lst _ xs l hq hr =>
    cases hy with
    | flat fy => cases fy
    | tup _ _ => simp [simT] at hs
    | @lst _ ys m hq' hr' =>
      rw [depT] at hd
      rw [simT] at hs
      rw [eqT] at q'
      refine done l m (RcAt_lists I (by omega) hq hr hq' hr' fun j t t' x y u v h1 h2 h3 h4 h5 h6 => ?_) q'
      exact eqAt_T I 60 X.A.in1 t t' x y u v (by have := depTs_at h1; omega) (by show X.A.units + 1 + 60 < cLine; omega) (simTs_at hs h1 h2) h3 h4 h5 h6
  | @tup _ xs l hq hr =>
    cases hy with
    | flat fy => cases fy
    | lst _ _ => simp [simT] at hs
    | @tup _ ys m hq' hr' =>
      rw [depT] at hd
      rw [simT] at hs
      rw [eqT] at q'
      refine done l m (RcAt_tuples I (by omega) hq hr hq' hr' fun j t t' x y u v h1 h2 h3 h4 h5 h6 => ?_) q'
      exact eqAt_T I 60 X.A.in1 t t' x y u v (by have := depTs_at h1; omega) (by show X.A.units + 1 + 60 < cLine; omega) (simTs_at hs h1 h2) h3 h4 h5 h6
theorem op_neS (hu : X.A.units + 64 < cLine) : OpR X (compareOp .NotEq) (rEqX X.K true) := eqX_aux (neg := true) hu
theorem hu64 {A : Around} {k : Nat} (hr : Room k A) : A.units + 64 < cLine := by have := hr.un; omega
end
end L2

set_option Elab.async false
set_option linter.all false
set_option maxRecDepth 100000
set_option maxHeartbeats 4000000
namespace L2
open PySem PySem.Spec PyProof.Rows

section
variable {X : Cx}
end

end L2

set_option Elab.async false
set_option linter.all false
set_option maxRecDepth 100000
set_option maxHeartbeats 4000000
namespace L2
open PySem PySem.Spec PyProof.Rows

noncomputable def stepS (x : Int) (k : Int) : Int := (x * x + 48271 * x + k) % 2147483647
noncomputable def seqS (x k : Int) : Nat → List Int
  | 0 => []
  | n + 1 => stepS x k :: seqS (stepS x k) (k + 1) n
theorem seqS_len (x k : Int) (n : Nat) : (seqS x k n).length = n := by
  induction n generalizing x k with
  | zero => rfl
  | succ n ih => simp [seqS, ih]
theorem seqS_mem {x k y : Int} {n : Nat} (h : y ∈ seqS x k n) : 0 ≤ y ∧ y < 2147483647 := by
  induction n generalizing x k with
  | zero => cases h
  | succ n ih =>
    rcases List.mem_cons.mp h with rfl | h
    · exact ⟨Int.emod_nonneg _ (by decide), Int.emod_lt_of_pos _ (by decide)⟩
    · exact ih h
noncomputable def lastS (x k : Int) : Nat → Int
  | 0 => x
  | n + 1 => lastS (stepS x k) (k + 1) n
theorem lastS_succ (x k : Int) (n : Nat) : lastS x k (n + 1) = stepS (lastS x k n) (k + n) := by
  induction n generalizing x k with
  | zero => simp [lastS]
  | succ n ih =>
    rw [lastS, ih, lastS]
    congr 1
    omega
theorem seqS_snoc (x k : Int) (n : Nat) : seqS x k (n + 1) = seqS x k n ++ [lastS x k (n + 1)] := by
  induction n generalizing x k with
  | zero => simp [seqS, lastS]
  | succ n ih =>
    rw [seqS, ih, seqS, List.cons_append]
    rfl
noncomputable def seedS (c : Int) : Int := c % 2147483647 + 48271
noncomputable def strm (c : Int) (n : Nat) : List Int := (seqS (seedS c) 0 (n + 1)).drop 1
theorem strm_len (c : Int) (n : Nat) : (strm c n).length = n := by unfold strm; rw [List.length_drop, seqS_len]; omega
theorem strm_mem {c y : Int} {n : Nat} (h : y ∈ strm c n) : 0 ≤ y ∧ y < 2147483647 := seqS_mem (List.mem_of_mem_drop h)
noncomputable def spStream : Sp := fun vs H Q _ => ∃ (c n : Int), vs = [.int c, .int n] ∧ 0 ≤ n ∧ n ≤ 1000 ∧ ∀ (r : Addr) (H' : Hp), Same H H' → H' r = some (.lst ((strm c n.toNat).map V.int)) → Q (.ref r) H'
theorem step_bound {x : Int} (h0 : 0 ≤ x) (h1 : x < 2147531918) : -(2 ^ 64 : Int) < x ∧ x < 2 ^ 64 := by
  have : (2 : Int) ^ 64 = 18446744073709551616 := by decide
  omega
theorem seed_bound (c : Int) : 0 ≤ seedS c ∧ seedS c < 2147531918 := by
  have h0 := Int.emod_nonneg c (show (2147483647 : Int) ≠ 0 by decide)
  have h1 := Int.emod_lt_of_pos c (show (0 : Int) < 2147483647 by decide)
  unfold seedS; omega
theorem last_bound (c : Int) (n : Nat) : 0 ≤ lastS (seedS c) 0 n ∧ lastS (seedS c) 0 n < 2147531918 := by
  cases n with
  | zero => exact seed_bound c
  | succ n =>
    rw [lastS_succ]
    unfold stepS
    have h0 := Int.emod_nonneg (lastS (seedS c) 0 n * lastS (seedS c) 0 n + 48271 * lastS (seedS c) 0 n + (0 + (n : Int))) (show (2147483647 : Int) ≠ 0 by decide)
    have h1 := Int.emod_lt_of_pos (lastS (seedS c) 0 n * lastS (seedS c) 0 n + 48271 * lastS (seedS c) 0 n + (0 + (n : Int))) (show (0 : Int) < 2147483647 by decide)
    omega
theorem cut1 {α : Type} (l : List α) : (l.drop (HT.sIx l.length 0 (some 1))).take (HT.sIx l.length l.length none - HT.sIx l.length 0 (some 1)) = l.drop 1 := by
  rw [show HT.sIx l.length 0 (some (1 : Int)) = min 1 l.length from HT.sIx_nat _ _ 1, HT.sIx_none]
  cases l with
  | nil => rfl
  | cons a r =>
    have e : min 1 (a :: r).length = 1 := by simp
    rw [e]
    simp
theorem cutV_1 (xs : List Int) : cutV (xs.map V.int) (some 1) none = (xs.drop 1).map V.int := by
  unfold cutV
  rw [cut1, List.map_drop]

theorem cds_join0 : ∀ ys : List Str, cds (Txt.join "" ys) = (ys.map cds).flatten := by
  intro ys
  show cds (Builtin.Str.glued "" ys) = _
  rw [StrLaws.glued_eq_join]
  induction ys with
  | nil => rfl
  | cons y r ih =>
    cases r with
    | nil => simp [Str.join]
    | cons z r =>
      show cds (y ++ "" ++ Str.join "" (z :: r)) = _
      rw [cds_app, cds_app, ih]
      have : cds ("" : Str) = [] := by decide +kernel
      rw [this, List.append_nil]
      rfl
noncomputable abbrev abc : Str := "abcdefghijklmnopqrstuvwxyz"
theorem cds_abc : cds abc = (List.range 26).map (97 + ·) := by decide +kernel
noncomputable def letC (x : Int) : Nat := 97 + (x % 26).toNat
theorem abc_at (x : Int) : atI (cds abc) (x % 26) = some (letC x) := by
  have h0 := Int.emod_nonneg x (show (26 : Int) ≠ 0 by decide)
  have h1 := Int.emod_lt_of_pos x (show (0 : Int) < 26 by decide)
  have e : x % 26 = (((x % 26).toNat : Nat) : Int) := by omega
  rw [e]
  refine atI_nat ?_
  rw [cds_abc, List.getElem?_map, List.getElem?_range (by omega)]
  rfl
theorem abc_len : abc.length ≤ sizeLine := szl (by decide +kernel)
noncomputable def nameW (xs : List Int) : List Nat := (xs.drop 2).map letC
noncomputable def nameLong (xs : List Int) : Int := 1 + xs.getD 1 0 % 8
noncomputable def nameAt (xs : List Int) : Int := xs.getD 1 0 / 8 % nameLong xs
noncomputable def nameA (xs : List Int) (w : List Nat) (k : Int) : List Nat := w.take (nameAt xs).toNat ++ [letC (xs.getD (2 + nameAt xs).toNat 0 + k)] ++ (w.drop (nameAt xs + 1).toNat).take ((nameLong xs).toNat - (nameAt xs + 1).toNat)
noncomputable def nameB (xs : List Int) (w : List Nat) (k : Int) : List Nat := w.take (1 + (nameLong xs + 3 * k) % 8).toNat
noncomputable def nameRaw (xs : List Int) (w : List Nat) (k : Int) : List Nat := if xs.getD 0 0 % 2 = 0 then nameB xs w k else nameA xs w k
noncomputable def resv : List (List Nat) := [cds "for", cds "end", cds "size"]
noncomputable def nameC (xs : List Int) (w : List Nat) (k : Int) : List Nat := if nameRaw xs w k ∈ resv then [122, 122] ++ nameRaw xs w k else nameRaw xs w k
theorem long_b (xs : List Int) : 1 ≤ nameLong xs ∧ nameLong xs ≤ 8 := by
  have h0 := Int.emod_nonneg (xs.getD 1 0) (show (8 : Int) ≠ 0 by decide)
  have h1 := Int.emod_lt_of_pos (xs.getD 1 0) (show (0 : Int) < 8 by decide)
  unfold nameLong; omega
theorem at_b (xs : List Int) : 0 ≤ nameAt xs ∧ nameAt xs < nameLong xs := by
  have := long_b xs
  exact ⟨Int.emod_nonneg _ (by omega), Int.emod_lt_of_pos _ (by omega)⟩
theorem nameW_len {xs : List Int} (h : xs.length = 10) : (nameW xs).length = 8 := by unfold nameW; rw [List.length_map, List.length_drop, h]
theorem in_resv (z : List Nat) : inV (.str (sOf z)) [.str "for", .str "end", .str "size"] = decide (z ∈ resv) := by
  have key : ∀ y : Str, eqV (.str y) (.str (sOf z)) = decide (z = cds y) := fun y => by
    show (y == sOf z) = _
    rw [Bool.eq_iff_iff]
    simp only [beq_iff_eq, decide_eq_true_eq]
    exact ⟨fun e => by rw [e, cds_sOf], fun e => by rw [e, sOf_cds]⟩
  unfold inV resv
  simp only [List.any_cons, List.any_nil, key, Bool.or_false]
  rw [Bool.eq_iff_iff]
  simp
theorem cut_to {α : Type} (l : List α) {k : Int} (h : 0 ≤ k) : cutC l none (some k) = l.take k.toNat := by
  unfold cutC
  have e : k = ((k.toNat : Nat) : Int) := by omega
  rw [HT.sIx_none, e, HT.sIx_nat, List.drop_zero, Nat.sub_zero]
  rw [show (((k.toNat : Nat) : Int)).toNat = k.toNat by omega]
  by_cases h : k.toNat ≤ l.length
  · rw [Nat.min_eq_left h]
  · rw [Nat.min_eq_right (by omega), List.take_of_length_le (by omega), List.take_of_length_le (by omega)]
theorem cut_mid {α : Type} (l : List α) {i j : Int} (hi : 0 ≤ i) (hj : 0 ≤ j) (hl : j ≤ (l.length : Int)) (hij : i ≤ j) : cutC l (some i) (some j) = (l.drop i.toNat).take (j.toNat - i.toNat) := by
  unfold cutC
  have e1 : i = ((i.toNat : Nat) : Int) := by omega
  have e2 : j = ((j.toNat : Nat) : Int) := by omega
  rw [e1, e2, HT.sIx_nat, HT.sIx_nat]
  rw [show (((i.toNat : Nat) : Int)).toNat = i.toNat by omega, show (((j.toNat : Nat) : Int)).toNat = j.toNat by omega, Nat.min_eq_left (by omega), Nat.min_eq_left (by omega)]
theorem cut_from {α : Type} (l : List α) {i : Int} (hi : 0 ≤ i) : cutC l (some i) none = l.drop i.toNat := by
  unfold cutC
  have e1 : i = ((i.toNat : Nat) : Int) := by omega
  rw [e1, HT.sIx_nat, HT.sIx_none, show (((i.toNat : Nat) : Int)).toNat = i.toNat by omega]
  by_cases h : i.toNat ≤ l.length
  · rw [Nat.min_eq_left h, List.take_of_length_le (by rw [List.length_drop]; omega)]
  · rw [Nat.min_eq_right (by omega), Nat.sub_self, List.take_zero, List.drop_eq_nil_of_le (by omega)]
theorem len_nameC {xs : List Int} {w : List Nat} (hw : w.length = 8) (k : Int) : (nameC xs w k).length ≤ 10 := by
  have hr : (nameRaw xs w k).length ≤ 8 := by
    unfold nameRaw
    split
    · unfold nameB; rw [List.length_take]; omega
    · have := long_b xs; have := at_b xs
      unfold nameA
      rw [List.length_append, List.length_append, List.length_take, List.length_take, List.length_drop, List.length_singleton]
      omega
  unfold nameC
  split
  · rw [List.length_append]; simp; omega
  · omega
noncomputable def numZ (c far : Int) : Int := if c % 3 = 0 then c / 3 % 7 - 3 else c / 3 % (2 * far + 1) - far
noncomputable def spNumber : Sp := fun vs H Q _ => ∃ (c far : Int), vs = [.int c, .int far] ∧ 0 ≤ far ∧ far < 2 ^ 63 ∧ Q (.int (numZ c far)) H
end L2
namespace L2
open PySem
end L2
namespace L2
open PySem
end L2
namespace L2
open PySem
end L2

set_option Elab.async false
set_option linter.all false
set_option maxRecDepth 100000
set_option maxHeartbeats 4000000
namespace L2
open PySem PySem.Spec PyProof.Rows

end L2

set_option Elab.async false
set_option linter.all false
set_option maxRecDepth 100000
set_option maxHeartbeats 4000000
namespace L2
open PySem PySem.Spec PyProof.Rows
noncomputable def spDInit (C : Addr) : Sp := fun vs H Q _ => ∃ (x dx : Addr) (v1 v2 v3 v4 v5 v6 v7 : V), vs = [.ref x, v1, v2, v3, v4, v5, v6, v7] ∧ H x = some (.ins C dx []) ∧ ∀ H', (∀ b o, H b = some o → b ≠ x → H' b = some o) → (∃ dx, H' x = some (.ins C dx [("names", v1), ("lows", v2), ("highs", v3), ("table", v4), ("spots", v5), ("term", v6), ("path", v7)])) → Q .non H'
theorem resv_head {l : List Nat} (h : l ∈ resv) : l.head? ≠ some 122 := by
  have e1 : (cds "for").head? ≠ some 122 := by decide +kernel
  have e2 : (cds "end").head? ≠ some 122 := by decide +kernel
  have e3 : (cds "size").head? ≠ some 122 := by decide +kernel
  unfold resv at h
  rcases List.mem_cons.mp h with rfl | h
  · exact e1
  rcases List.mem_cons.mp h with rfl | h
  · exact e2
  rcases List.mem_cons.mp h with rfl | h
  · exact e3
  · cases h
theorem nodup_le {α : Type} [DecidableEq α] : ∀ {l k : List α}, l.Nodup → (∀ x ∈ l, x ∈ k) → l.length ≤ k.length
  | [], _, _, _ => Nat.zero_le _
  | a :: l, k, hn, hs => by
    have ha := hs a List.mem_cons_self
    have h2 := List.nodup_cons.mp hn
    have := nodup_le (l := l) (k := k.erase a) h2.2 fun x hx => (List.mem_erase_of_ne (show x ≠ a from fun e => h2.1 (by rw [← e]; exact hx))).mpr (hs x (List.mem_cons_of_mem _ hx))
    rw [List.length_erase_of_mem ha] at this
    have : 0 < k.length := List.length_pos_of_mem ha
    simp only [List.length_cons]
    omega
theorem atI_neg {α : Type} (l : List α) (x : α) (m : List α) {n : Int} (hn : n = -((m.length : Int) + 1)) : atI (l ++ x :: m) n = some x := by
  unfold atI ixN
  have hl : (l ++ x :: m).length = l.length + (m.length + 1) := by rw [List.length_append]; rfl
  rw [hl, if_neg (by omega), if_pos (by omega)]
  show (l ++ x :: m)[(n + ((l.length + (m.length + 1) : Nat) : Int)).toNat]? = some x
  rw [show (n + ((l.length + (m.length + 1) : Nat) : Int)).toNat = l.length by omega, List.getElem?_append_right (Nat.le_refl _), Nat.sub_self]
  rfl
theorem cutV_neg (l m : List V) (hm : 0 < m.length) {n : Int} (hn : n = -(m.length : Int)) : cutV (l ++ m) none (some n) = l := by
  unfold cutV
  have hl : (l ++ m).length = l.length + m.length := List.length_append
  have e1 : HT.sIx (l ++ m).length 0 none = 0 := rfl
  have e2 : HT.sIx (l ++ m).length (l ++ m).length (some n) = l.length := by
    show (if n < 0 then (n + ((l ++ m).length : Int)).toNat else min n.toNat (l ++ m).length) = l.length
    rw [hl, if_pos (by omega)]
    omega
  rw [e1, e2, List.drop_zero, Nat.sub_zero, List.take_left']
  rfl
theorem eq_nil (ts : List Tr) : eqT (.lst ts) (.lst []) = decide (ts = []) := by
  rw [eqT]
  cases ts with
  | nil => rfl
  | cons _ _ => rfl
theorem if_any {tt : TT} {ta tb : TS} {D : Ends} {σ : St} {H : Hp} (M : Hp → Prop) (hb : ∀ H', M H' → tb D σ H') (h : (∀ H', M H' → tb D σ H') → tIfS tt ta tb D σ H) : tIfS tt ta tb D σ H := h hb
theorem snoc_of {α : Type} {l : List α} {n : Nat} (h : l.length = n + 1) : ∃ p x, l = p ++ [x] ∧ p.length = n := by
  have hne : l ≠ [] := fun e => by rw [e] at h; cases h
  exact ⟨l.dropLast, l.getLast hne, (List.dropLast_concat_getLast hne).symm, by rw [List.length_dropLast]; omega⟩
theorem made_same {H H2 : Hp} {x dx C : Addr} (hx : H x = none) (hdx : H dx = none) (k : ∀ b o, (upd (upd H dx (.own x)) x (.ins C dx [])) b = some o → b ≠ x → H2 b = some o) : Same H H2 := fun b o e => by
  have n1 := ne_of_none e hx
  have n2 := ne_of_none e hdx
  exact k b o (by rw [upd_ne n1, upd_ne n2]; exact e) n1
theorem cutV_map (ns : List Int) (lo hi : Option Int) : cutV (ns.map V.int) lo hi = (cutC ns lo hi).map V.int := by
  unfold cutV cutC
  rw [List.length_map, List.map_take, List.map_drop]
end L2

set_option Elab.async false
set_option linter.all false
set_option maxRecDepth 100000
set_option maxHeartbeats 4000000
namespace L2
open PySem PySem.Spec PyProof.Rows
section
variable {X : Cx} {pins : List (Addr × Obj)} {σ : St} {H : Hp} {s : Shared} {h' : Heap}
end
end L2

set_option Elab.async false
set_option linter.all false
set_option maxRecDepth 100000
set_option maxHeartbeats 4000000
namespace Bd
end Bd
namespace L2
open PySem PySem.Spec PyProof.Rows Bd
section
variable {es : List Expr} {env : Env} {p : Pos}
theorem star_C {c : Const} {n : Nat} : starEach (.Constant c n p :: es) env = (false, eval (.Constant c n p) env) :: starEach es env := rfl
theorem star_N {x : Str} : starEach (.Name x p :: es) env = (false, eval (.Name x p) env) :: starEach es env := rfl
theorem star_B {a b : Expr} {o : Operator} : starEach (.BinOp a o b p :: es) env = (false, eval (.BinOp a o b p) env) :: starEach es env := rfl
theorem star_K {f : Expr} {as : List Expr} {ks : List Keyword} : starEach (.Call f as ks p :: es) env = (false, eval (.Call f as ks p) env) :: starEach es env := rfl
theorem star_S {a b : Expr} : starEach (.Subscript a b p :: es) env = (false, eval (.Subscript a b p) env) :: starEach es env := rfl
theorem star_T {as : List Expr} {n : Nat} : starEach (.Tuple as n p :: es) env = (false, eval (.Tuple as n p) env) :: starEach es env := rfl
end
@[irreducible] def PAq (X : Cx) (es : List Expr) (t : TA) : Prop := PA X es t
section
variable {X : Cx} {e : Expr} {es : List Expr} {te : TE} {t : TA} {pos : Pos}
theorem paq_nil : PAq X [] tNil := by unfold PAq; exact pa_nil
theorem paq_cons (ha : PE X e te) (hr : PAq X es t) (hs : starEach (e :: es) X.env = (false, eval e X.env) :: starEach es X.env) : PAq X (e :: es) (tCons te t) := by unfold PAq at *; exact pa_cons ha hr hs
theorem pe_lstq (h : PAq X es t) : PE X (.List es pos) (tLst t) := by unfold PAq at h; exact pe_lst h
theorem pe_tupq {x1 : Nat} (h : PAq X es t) : PE X (.Tuple es x1 pos) (tTup t) := by unfold PAq at h; exact pe_tup h
end
theorem while_ix {c : TT} {tb : TS} {D : Ends} {σ : St} {H : Hp} (k : Nat) (Pv : Nat → St → Hp → Prop) (h0 : Pv 0 σ H)
    (hs : ∀ i σ H, i ≤ k → Pv i σ H → c σ H fun b H1 => if b = true then i < k ∧ tb { D with nx := Pv (i + 1), ct := Pv (i + 1), bk := D.nx } σ H1 else D.nx σ H1)
    (mono : ∀ σ H Q Q', (∀ b H1, Q b H1 → Q' b H1) → c σ H Q → c σ H Q') : tWhile c tb D σ H := by
  refine ⟨fun m σ H => ∃ i, i ≤ k ∧ m = k - i ∧ Pv i σ H, ⟨_, 0, Nat.zero_le _, rfl, h0⟩, ?_⟩
  rintro m σ H ⟨i, hi, rfl, p⟩
  refine mono σ H _ _ (fun b H1 q => ?_) (hs i σ H hi p)
  cases b with
  | true => exact ⟨Pv (i + 1), fun σ' H' p' => ⟨k - (i + 1), by have := q.1; omega, i + 1, by have := q.1; omega, rfl, p'⟩, q.2⟩
  | false => exact q
end L2

set_option Elab.async false
set_option linter.all false
set_option maxRecDepth 100000
set_option maxHeartbeats 4000000
namespace Bd
end Bd
namespace L2
open PySem PySem.Spec PyProof.Rows Bd
end L2

set_option Elab.async false
set_option linter.all false
set_option maxRecDepth 100000
set_option maxHeartbeats 4000000
namespace L2
open PySem PySem.Spec PyProof.Rows
open Bd
end L2

set_option Elab.async false
set_option linter.all false
set_option maxRecDepth 100000
set_option maxHeartbeats 4000000
namespace L2
open PySem PySem.Spec PyProof.Rows
noncomputable def spIni (C : Addr) (fs : List Str) : Sp := fun as H Q _ => ∃ (x dx : Addr) (vs : List V), as = .ref x :: vs ∧ vs.length = fs.length ∧ H x = some (.ins C dx []) ∧ ∀ H', (∀ b o, H b = some o → b ≠ x → H' b = some o) → (∃ dx, H' x = some (.ins C dx (fs.zip vs))) → Q .non H'
structure Cs where
  n : Addr
  v : Addr
  c : Addr
  j : Addr
theorem SqL.updI {K : PySem.W.Frag} {H : Hp} {p x C dx : Addr} {fs : List (Str × V)} {ys : List V} {o : HO} (h : SqL K H p ys) (hx : H x = some (.ins C dx fs)) : SqL K (upd H x o) p ys := by
  rcases h with (h | ⟨ob, h⟩) | h
  · refine .inl (.inl ?_)
    rw [upd_ne (fun e => by rw [e, hx] at h; cases h)]
    exact h
  · refine .inl (.inr ⟨ob, ?_⟩)
    rw [upd_ne (fun e => by rw [e, hx] at h; cases h)]
    exact h
  · exact .inr h
noncomputable def spPIni (K : PySem.W.Frag) (C : Addr) : Sp := fun vs H Q _ => ∃ (x dx : Addr) (sz : V) (p : Addr) (ys : List V), vs = [.ref x, sz, .ref p] ∧ H x = some (.ins C dx []) ∧ SqL K H p ys ∧ ∀ (l : Addr) (H' : Hp), H l = none → (∀ b o, H b = some o → b ≠ x → H' b = some o) → H' l = some (.lst ys) → (∃ dx, H' x = some (.ins C dx [("size", sz), ("deeds", .ref l)])) → Q .non H'
end L2

set_option Elab.async false
set_option linter.all false
set_option maxRecDepth 100000
set_option maxHeartbeats 4000000
namespace PySem
open Builtin
open AutoSeq1 (wpAny_loadPart')
end PySem
namespace L2
open PySem PySem.Spec PyProof.Rows
section
variable {X : Cx}
end
end L2

set_option Elab.async false
set_option linter.all false
set_option maxRecDepth 100000
set_option maxHeartbeats 4000000
namespace L2
open PySem PySem.Spec PyProof.Rows Bd
theorem dS {x y : Str} (h : x ≠ y) : decide (V.str x = V.str y) = false := decide_eq_false fun e => h (V.str.inj e)
theorem comp_listG {K : PySem.W.Frag} {a : Addr} {xs : List V} {ρ : List (Option Nat)} {g : TG} {tt : TT} {te : TE} {σ : St} {H : Hp} {Q : VK} (Pv : Nat → List V → Hp → Prop) (h0 : Pv 0 [] H) (hlen : xs.length ≤ sizeLine) (hl : ∀ i ys H, i ≤ xs.length → Pv i ys H → SqL K H a xs ∧ ys.length ≤ i)
    (hs : ∀ i x ys H, xs[i]? = some x → Pv i ys H → g x (inSt ρ σ) H fun σ2 H3 => Outs ρ σ σ2 ∧ tt σ2 H3 fun ok H4 => if ok = true then te σ2 H4 fun v H5 => Pv (i + 1) (ys ++ [v]) H5 else Pv (i + 1) ys H4)
    (hd : ∀ ys H, Pv xs.length ys H → ∀ p, H p = none → Q (.ref p) (upd H p (.lst ys))) : CompW ρ g tt te σ Q (Itl K a) H := by
  refine ⟨fun i m ys H => m = xs.length - i ∧ i ≤ xs.length ∧ Pv i ys H, ⟨_, rfl, Nat.zero_le _, h0⟩, ?_⟩
  rintro i m ys H ⟨rfl, hi, p⟩
  obtain ⟨hq, hy⟩ := hl i ys H hi p
  by_cases hlt : i < xs.length
  · refine .inr ⟨⟨xs, xs[i], hq, by simp [hlt]⟩, by omega, Pv (i + 1), fun ys' H'' p' => ⟨xs.length - (i + 1), by omega, rfl, hlt, p'⟩, fun x H' y => ?_⟩
    obtain ⟨e, y2⟩ := y
    subst e
    exact hs i x ys _ (y2 xs hq) p
  · have e : i = xs.length := by omega
    subst e
    exact .inl ⟨⟨xs, hq, Nat.le_refl _⟩, by omega, hd ys H p⟩
end L2

set_option Elab.async false
set_option linter.all false
set_option maxRecDepth 100000
set_option maxHeartbeats 4000000
namespace L2
open PySem PySem.Spec PyProof.Rows
section
open PySem.SeqAt
open PySem.AutoSeq1 (wpAny_loadPart')
open PySem.MeetsSeq PySem.MeetsSeq2 PySem.MeetsSeq3
end
noncomputable def upto (n : Nat) : List V := (List.range n).map fun i : Nat => V.int (i : Int)
noncomputable def tLRange (ta : TA) : TE := fun σ H Q => ta σ H fun vs H1 => ∃ n : Nat, vs = [.int (n : Int)] ∧ n ≤ 1000000 ∧ ∀ l, H1 l = none → Q (.ref l) (upd H1 l (.lst (upto n)))
theorem vals_upto {n : Nat} {acc : Array Value} (h : ItemsOf (fun i v => ∃ t, v = .int (0 + (i : Int) * 1) t) acc n) : Vals (upto n) acc.toList := by
  have key : ∀ (k : Nat) (l : List Value), (∀ (j : Nat) (v : Value), l[j]? = some v → ∃ t, v = Value.int ((k + j : Nat) : Int) t) → Vals ((List.range' k l.length).map fun i : Nat => V.int (i : Int)) l := by
    intro k l
    induction l generalizing k with
    | nil => intro _; exact .nil
    | cons x l ih =>
      intro hl
      rw [List.length_cons, List.range'_succ, List.map_cons]
      obtain ⟨t, ht⟩ := hl 0 x rfl
      refine .cons ⟨t, by rw [ht]; rfl⟩ (ih (k + 1) fun j v hj => ?_)
      obtain ⟨t', ht'⟩ := hl (j + 1) v (by simpa using hj)
      exact ⟨t', by rw [ht']; congr 1; omega⟩
  have hl : acc.toList.length = n := by simpa using h.1
  have := key 0 acc.toList fun j v hj => by
    obtain ⟨t, ht⟩ := h.2 j v (by simpa using hj)
    exact ⟨t, by rw [ht]; congr 1; omega⟩
  rw [hl] at this
  unfold upto
  rw [List.range_eq_range']
  exact this
theorem pe_lrange {X : Cx} {a : Expr} {ta : TA} {p p2 pos pos2 : Pos} (hc : X.calm = true) (hgl : Gl X "list") (hml : X.mg "list" = none) (hg : Gl X "range") (hm : X.mg "range" = none) (ha : PA X [a] ta)
    (hs : starEach [a] X.env = [(false, eval a X.env)] := by rfl) : PE X (.Call (.Name "list" p) [.Call (.Name "range" p2) [a] [] pos2] [] pos) (tLRange ta) := by
  intro pins s σ H Q I h
  refine wpAny_Call_Name_kw (ld_blt I hgl hml bt_list ?_ (by decide) (by decide))
  refine PyProof.Rows.callWith_type1 ?_ rfl rfl
  show wpAny _ _ (spliced ((false, eval (.Call (.Name "range" p2) [a] [] pos2) X.env) :: backTo pos (starEach [] X.env))) _ _ s
  refine Calls.spliced_cons ?_
  refine Call_ (ld_blt I hg hm boot_range (PyProof.Rows.callWith_type1 (thn (ha pos2 pins s σ H _ I h) fun us s1 hx => ?_) hs rfl))
  obtain ⟨vs, H1, I1, r1, n, e, hn, q⟩ := hx
  subst e
  obtain ⟨u, rfl, ru⟩ := vals1 r1
  obtain ⟨t, rfl⟩ := (show ∃ t, u = Value.int (n : Int) t from ru)
  refine call_range_1 ?_
  refine Calls.spliced_nil ?_
  have p62 : (2 : Int) ^ 62 = 4611686018427387904 := by decide
  refine call_list_range (n := n) (I1.ok.hd hc) (IsRange.new ..) (small_one (by decide) (by decide) (by omega) (by omega)) (by rw [rangeSize_one]; split <;> omega) (by omega) fun h' tk acc c' hk hl hi => ?_
  have hsz : (s1.heap.push { cls := .type "range", data := .fields #[.int 0 s1.toks, .int (n : Int) t, .int 1 (s1.toks + 1)] }).objs.size = s1.heap.objs.size + 1 := Heap.size_push ..
  have hf : H1 (s1.heap.objs.size + 1) = none := I1.hok.fresh (Nat.le_succ _)
  have hul : (upto n).length ≤ sizeLine := by unfold upto; rw [List.length_map, List.length_range]; exact szl hn
  change h'.get? (s1.heap.push { cls := .type "range", data := .fields #[.int 0 s1.toks, .int (n : Int) t, .int 1 (s1.toks + 1)] }).objs.size = _ at hl
  rw [hsz] at hl
  refine ⟨.ref (s1.heap.objs.size + 1), upd H1 (s1.heap.objs.size + 1) (.lst (upto n)), I1.laid (t' := tk) (o := .lst (upto n)) (fun b o e => hk b o (Heap.get?_push_of_some _ e)) (Nat.le_succ _) ⟨hul, acc.toList, c', vals_upto hi, by simpa using hl⟩, ?_, q _ hf⟩
  show Value.ref _ = Value.ref _
  rw [← hsz]
end L2

set_option Elab.async false
set_option linter.all false
set_option maxRecDepth 100000
set_option maxHeartbeats 4000000
namespace L2
open PySem PySem.Spec PyProof.Rows
section
variable {prog : Program} {w : World} {A : Around} {E : Value → Shared → Prop} {s : Shared}
end
section
variable {prog : Program} {w : World} {A : Around} {E : Value → Shared → Prop} {s : Shared}
end
end L2

set_option Elab.async false
set_option linter.all false
set_option maxRecDepth 100000
set_option maxHeartbeats 4000000
namespace L2
open PySem PySem.Spec PyProof.Rows
end L2
namespace L2
open PySem PySem.Spec PyProof.Rows
end L2
namespace L2
open PySem PySem.Spec PyProof.Rows
end L2

set_option linter.all false
namespace Fo
variable {W L : Type}
section
variable (hdr : Nat → Bool → W → L) (dl : Nat → Int → List (Int × Int) → L)
end
end Fo
namespace Fo
variable {W L : Type}
end Fo

set_option Elab.async false
set_option linter.all false
set_option maxRecDepth 100000
set_option maxHeartbeats 4000000
namespace L2
open PySem PySem.Spec PyProof.Rows
noncomputable def tFmtI (t : TE) : TE := fun σ H Q => t σ H fun v H1 => ∃ i : Int, v = .int i ∧ i.natAbs.log2 < 1920 ∧ Q (.str (toString i)) H1
theorem pe_fmtI {X : Cx} {e : Expr} {t : TE} {pos : Pos} (h : PE X e t) : PE X (.FormattedValue e (-1) none pos) (tFmtI t) := by
  intro pins s σ H Q I hq
  refine FormattedValue_plain (thn (h pins s σ H _ I hq) fun v s1 hx => ?_)
  obtain ⟨x, H1, I1, r1, i, rfl, hi, q⟩ := hx
  obtain ⟨t1, rfl⟩ := (show ∃ t, v = Value.int i t from r1)
  exact formatField_int_small hi ⟨.str _, H1, I1.tok _, ⟨_, rfl⟩, q⟩
noncomputable def tJoin1 (acc : Str) (t : TE) (k : Str → TE) : TE := fun σ H Q => t σ H fun v H1 => ∃ y : Str, v = .str y ∧ (acc ++ y).length ≤ sizeLine ∧ k (acc ++ y) σ H1 Q
noncomputable def tJoin2 (a b : TE) : TE := tJoin1 Str.empty a fun x => tJoin1 x b fun y => tC (.str y)
noncomputable def tJoin3 (a b c : TE) : TE := tJoin1 Str.empty a fun x => tJoin1 x b fun y => tJoin1 y c fun z => tC (.str z)
theorem pe_joined2 {X : Cx} {e1 e2 : Expr} {a b : TE} {pos : Pos} (h1 : PE X e1 a) (h2 : PE X e2 b) : PE X (.JoinedStr [e1, e2] pos) (tJoin2 a b) := by
  intro pins s σ H Q I hq
  refine JoinedStr_many (joinParts_cons (thn (h1 pins s σ H _ I hq) fun v s1 hx => ?_))
  obtain ⟨x, H1, I1, r1, y, rfl, hy, q1⟩ := hx
  obtain ⟨t1, rfl⟩ := (show ∃ t, v = Value.str y t from r1)
  refine ⟨hy, joinParts_cons (thn (h2 pins s1 σ H1 _ I1 q1) fun v2 s2 hx2 => ?_)⟩
  obtain ⟨x2, H2, I2, r2, y2, rfl, hy2, q2⟩ := hx2
  obtain ⟨t2, rfl⟩ := (show ∃ t, v2 = Value.str y2 t from r2)
  exact ⟨hy2, joinParts_nil ⟨.str _, H2, I2.tok _, ⟨_, rfl⟩, q2⟩ hy2⟩
theorem pe_joined3 {X : Cx} {e1 e2 e3 : Expr} {a b c : TE} {pos : Pos} (h1 : PE X e1 a) (h2 : PE X e2 b) (h3 : PE X e3 c) : PE X (.JoinedStr [e1, e2, e3] pos) (tJoin3 a b c) := by
  intro pins s σ H Q I hq
  refine JoinedStr_many (joinParts_cons (thn (h1 pins s σ H _ I hq) fun v s1 hx => ?_))
  obtain ⟨x, H1, I1, r1, y, rfl, hy, q1⟩ := hx
  obtain ⟨t1, rfl⟩ := (show ∃ t, v = Value.str y t from r1)
  refine ⟨hy, joinParts_cons (thn (h2 pins s1 σ H1 _ I1 q1) fun v2 s2 hx2 => ?_)⟩
  obtain ⟨x2, H2, I2, r2, y2, rfl, hy2, q2⟩ := hx2
  obtain ⟨t2, rfl⟩ := (show ∃ t, v2 = Value.str y2 t from r2)
  refine ⟨hy2, joinParts_cons (thn (h3 pins s2 σ H2 _ I2 q2) fun v3 s3 hx3 => ?_)⟩
  obtain ⟨x3, H3, I3, r3, y3, rfl, hy3, q3⟩ := hx3
  obtain ⟨t3, rfl⟩ := (show ∃ t, v3 = Value.str y3 t from r3)
  exact ⟨hy3, joinParts_nil ⟨.str _, H3, I3.tok _, ⟨_, rfl⟩, q3⟩ hy3⟩
noncomputable def All2 {α : Type} (R : V → α → Prop) (xs : List V) (as : List α) : Prop := xs.length = as.length ∧ ∀ (i : Nat) (x : V) (a : α), xs[i]? = some x → as[i]? = some a → R x a
theorem All2.nil {α : Type} {R : V → α → Prop} : All2 R [] [] := ⟨rfl, fun i x a h => by simp at h⟩
theorem All2.mono {α : Type} {R S : V → α → Prop} {xs : List V} {as : List α} (h : All2 R xs as) (m : ∀ x a, R x a → S x a) : All2 S xs as := ⟨h.1, fun i x a p q => m _ _ (h.2 i x a p q)⟩
theorem All2.get {α : Type} {R : V → α → Prop} {xs : List V} {as : List α} {i : Nat} {a : α} (h : All2 R xs as) (ha : as[i]? = some a) : ∃ x, xs[i]? = some x ∧ R x a := by
  have hi : i < xs.length := by rw [h.1]; exact (List.getElem?_eq_some_iff.mp ha).1
  exact ⟨_, List.getElem?_eq_getElem hi, h.2 i _ a (List.getElem?_eq_getElem hi) ha⟩
theorem All2.get' {α : Type} {R : V → α → Prop} {xs : List V} {as : List α} {i : Nat} {x : V} (h : All2 R xs as) (hx : xs[i]? = some x) : ∃ a, as[i]? = some a ∧ R x a := by
  have hi : i < as.length := by rw [← h.1]; exact (List.getElem?_eq_some_iff.mp hx).1
  exact ⟨_, List.getElem?_eq_getElem hi, h.2 i x _ hx (List.getElem?_eq_getElem hi)⟩
theorem All2.app {α : Type} {R : V → α → Prop} {xs ys : List V} {as bs : List α} (h : All2 R xs as) (g : All2 R ys bs) : All2 R (xs ++ ys) (as ++ bs) := by
  refine ⟨by rw [List.length_append, List.length_append, h.1, g.1], fun i x a p q => ?_⟩
  by_cases l : i < xs.length
  · rw [List.getElem?_append_left l] at p
    rw [List.getElem?_append_left (by rw [← h.1]; exact l)] at q
    exact h.2 i x a p q
  · rw [List.getElem?_append_right (by omega)] at p
    rw [List.getElem?_append_right (by have := h.1; omega)] at q
    rw [h.1] at p
    exact g.2 _ x a p q
theorem All2.one {α : Type} {R : V → α → Prop} {x : V} {a : α} (h : R x a) : All2 R [x] [a] := ⟨rfl, fun i y b p q => by
  cases i with
  | zero => cases p; cases q; exact h
  | succ i => simp at p⟩
theorem All2.snoc {α : Type} {R : V → α → Prop} {xs : List V} {as : List α} {x : V} {a : α} (h : All2 R xs as) (g : R x a) : All2 R (xs ++ [x]) (as ++ [a]) := h.app (.one g)
end L2

set_option Elab.async false
set_option linter.all false
set_option maxRecDepth 100000
set_option maxHeartbeats 4000000
namespace L2
open PySem PySem.Spec PyProof.Rows
noncomputable def TK (H H' : Hp) : Prop := ∀ (b : Addr) (xs : List V), H b = some (.tup xs) → H' b = some (.tup xs)
theorem TK.trans {H H' H'' : Hp} (a : TK H H') (b : TK H' H'') : TK H H'' := fun x xs h => b x xs (a x xs h)
theorem Same.tk {H H' : Hp} (e : Same H H') : TK H H' := fun b xs h => e b _ h
theorem TK.upd {H : Hp} {l : Addr} {xs : List V} {o : HO} (hl : H l = some (.lst xs)) : TK H (upd H l o) := fun b ys hb => by
  rw [upd_ne (ne_of hb hl (by intro z; cases z))]
  exact hb
noncomputable def blk (d : Nat) : Str := sOf (List.replicate d 32)
theorem blk_len (d : Nat) : (blk d).length = d := by rw [← cds_len, blk, cds_sOf, List.length_replicate]
theorem mul_blk (d : Nat) : Txt.mul " " (d : Int) = blk d := cds_ext (by
  have : (" " : Str) = ⟨#[32]⟩ := by decide +kernel
  rw [this, cds_mul_one, blk, cds_sOf]
  rfl)
theorem neg_text {i : Int} (h : i < 0) : Str.ofString (toString i) = "-" ++ Str.ofString (toString (0 - i)) := by
  cases i with
  | ofNat n => exact absurd h (by simp)
  | negSucc n =>
    have e : (0 - Int.negSucc n) = ((n + 1 : Nat) : Int) := by omega
    rw [e]
    refine cds_ext ?_
    rw [cds_app]
    show ((Str.ofString ("-" ++ Nat.repr (n + 1))).cps).toList = _
    have ap : ∀ a b : String, cds (Str.ofString (a ++ b)) = cds (Str.ofString a) ++ cds (Str.ofString b) := fun a b => by
      simp [cds, Str.ofString_eq_toList]
    exact ap "-" (Nat.repr (n + 1))
theorem text_len {i : Int} (h0 : -999999999999999999 ≤ i) (h1 : i ≤ 999999999999999999) : (Str.ofString (toString i)).length ≤ 19 := by
  by_cases c : i < 0
  · rw [neg_text c, ← cds_len, cds_app, List.length_append, cds_len, cds_len]
    have := PyProof.Rows.toString_length_le (v := 0 - i) (by omega) (k := 18) (by decide) (by show 0 - i < 10 ^ 18; omega)
    have e : ("-" : Str).length = 1 := by decide +kernel
    omega
  · have := PyProof.Rows.toString_length_le (v := i) (by omega) (k := 18) (by decide) (by show i < 10 ^ 18; omega)
    omega

theorem sLen (x y : Str) : (x ++ y).length = x.length + y.length := by rw [← cds_len, cds_app, List.length_append, cds_len, cds_len]
theorem log_small {i : Int} (h0 : -999999999999999999 ≤ i) (h1 : i ≤ 999999999999999999) : i.natAbs.log2 < 1920 := by
  by_cases z : i.natAbs = 0
  · rw [z]; decide
  · have : i.natAbs < 2 ^ 64 := by omega
    have := (Nat.log2_lt z).mpr this
    omega
theorem sum_lens {ys : List Str} {c : Nat} (h : ∀ y ∈ ys, y.length ≤ c) : (ys.map (·.length)).sum ≤ c * ys.length := by
  induction ys with
  | nil => exact Nat.zero_le _
  | cons y ys ih =>
    have h1 := ih fun z hz => h z (List.mem_cons_of_mem _ hz)
    have h2 := h y List.mem_cons_self
    rw [List.map_cons, List.sum_cons, List.length_cons, Nat.mul_succ]
    omega
theorem join_len (z : Str) (ys : List Str) : (Txt.join z ys).length ≤ (ys.map (·.length)).sum + ys.length * z.length := by
  show (Builtin.Str.glued z ys).length ≤ _
  rw [StrLaws.glued_eq_join]
  exact StrLaws.join_length_le z ys
noncomputable def ME (t : TE) : Prop := ∀ (σ : St) (H : Hp) (Q Q' : VK), (∀ v H1, Q v H1 → Q' v H1) → t σ H Q → t σ H Q'
noncomputable def MT (t : TT) : Prop := ∀ σ H Q Q', (∀ b H1, Q b H1 → Q' b H1) → t σ H Q → t σ H Q'
noncomputable def MA (t : TA) : Prop := ∀ σ H Q Q', (∀ b H1, Q b H1 → Q' b H1) → t σ H Q → t σ H Q'
noncomputable def MR (r : R2) : Prop := ∀ (x y : V) (H : Hp) (Q Q' : VK), (∀ v H1, Q v H1 → Q' v H1) → r x y H Q → r x y H Q'
noncomputable def MB (r : List V → Hp → VK → Prop) : Prop := ∀ (vs : List V) (H : Hp) (Q Q' : VK), (∀ v H1, Q v H1 → Q' v H1) → r vs H Q → r vs H Q'
theorem ME.var (i : Nat) : ME (tVar i) := fun σ H Q Q' hq ⟨v, h, k⟩ => ⟨v, h, hq _ _ k⟩
theorem ME.c (v : V) : ME (tC v) := fun σ H Q Q' hq h => hq _ _ h
theorem ME.op {r : R2} {a b : TE} (hr : MR r) (ha : ME a) (hb : ME b) : ME (tOp r a b) := fun σ H Q Q' hq h => ha _ _ _ _ (fun x H1 k => hb _ _ _ _ (fun y H2 k => hr _ _ _ _ _ hq k) k) h
theorem ME.lst {t : TA} (h : MA t) : ME (tLst t) := fun σ H Q Q' hq k => h _ _ _ _ (fun xs H1 m => ⟨m.1, fun p hp => hq _ _ (m.2 p hp)⟩) k
theorem ME.cb {r : List V → Hp → VK → Prop} {t : TA} (hr : MB r) (h : MA t) : ME (tCB r t) := fun σ H Q Q' hq k => h _ _ _ _ (fun xs H1 m => hr _ _ _ _ hq m) k
theorem MA.nil : MA tNil := fun σ H Q Q' hq h => hq _ _ h
theorem MA.cons {t : TE} {u : TA} (ht : ME t) (hu : MA u) : MA (tCons t u) := fun σ H Q Q' hq h => ht _ _ _ _ (fun x H1 k => hu _ _ _ _ (fun xs H2 m => hq _ _ m) k) h
theorem MT.test {t : TE} (h : ME t) : MT (tTest t) := fun σ H Q Q' hq k => h _ _ _ _ (fun x H1 ⟨b, e, m⟩ => ⟨b, e, hq _ _ m⟩) k
theorem MR.i0 (g : Int → Int → V) : MR (rI0 g) := fun x y H Q Q' hq ⟨i, j, a, b, d⟩ => ⟨i, j, a, b, hq _ _ d⟩
theorem MR.eqX (K : PySem.W.Frag) (n : Bool) : MR (rEqX K n) := fun x y H Q Q' hq ⟨t, u, a, b, c, d, e, f, g⟩ => ⟨t, u, a, b, c, d, e, f, hq _ _ g⟩
theorem MB.len {P R : Hp → Addr → List V → Prop} : MB (fun xs H Q => ∃ p ys, xs = [V.ref p] ∧ (P H p ys ∨ R H p ys) ∧ Q (V.int (ys.length : Int)) H) := fun vs H Q Q' hq ⟨p, ys, a, b, c⟩ => ⟨p, ys, a, b, hq _ _ c⟩
end L2

set_option Elab.async false
set_option linter.all false
set_option maxRecDepth 100000
set_option maxHeartbeats 4000000
namespace L2
open PySem PySem.Spec PyProof.Rows
end L2
namespace HT
open PySem PySem.Spec PyProof.Rows L2
section
variable {prog : Program} {w : World} {A : Around} {E : Value → Shared → Prop} {s : Shared}
end
end HT
namespace L2
open PySem PySem.Spec PyProof.Rows
end L2

set_option Elab.async false
set_option linter.all false
set_option maxRecDepth 100000
set_option maxHeartbeats 4000000
namespace L2
open PySem PySem.Spec PyProof.Rows

end L2

set_option Elab.async false
set_option linter.all false
set_option maxRecDepth 100000
set_option maxHeartbeats 4000000
namespace L2
open PySem PySem.Spec PyProof.Rows
end L2

set_option Elab.async false
set_option linter.all false
set_option maxRecDepth 100000
set_option maxHeartbeats 4000000
namespace L2
open PySem PySem.Spec PyProof.Rows
noncomputable def tFmtS (t : TE) : TE := fun σ H Q => t σ H fun v H1 => ∃ x : Str, v = .str x ∧ x.length ≤ sizeLine ∧ Q (.str x) H1
theorem pe_fmtS {X : Cx} {e : Expr} {t : TE} {pos : Pos} (h : PE X e t) : PE X (.FormattedValue e (-1) none pos) (tFmtS t) := by
  intro pins s σ H Q I hq
  refine FormattedValue_plain (thn (h pins s σ H _ I hq) fun v s1 hx => ?_)
  obtain ⟨x, H1, I1, r1, y, rfl, hy, q⟩ := hx
  obtain ⟨t1, rfl⟩ := (show ∃ t, v = Value.str y t from r1)
  exact formatField_str (fun t' tk => ⟨.str _, H1, I1.tok _, ⟨_, rfl⟩, q⟩) hy
inductive Tw where
  | n (i : Int)
  | v (z : Str)
  | c (z : Str) (sp : List (Str × Int))
  | j (z : Str) (l r : Tw)
noncomputable def nS (i : Int) : Str := Str.ofString (toString i)
noncomputable def spS (s : Str × Int) : Str := if s.1 = "" then nS s.2 else if s.2 = 0 then s.1 else if 0 < s.2 then s.1 ++ "+" ++ nS s.2 else s.1 ++ nS s.2
noncomputable def boxS (s : Str × Int) : Str := "[" ++ spS s ++ "]"
noncomputable def celS (z : Str) (sp : List (Str × Int)) : Str := z ++ Txt.join "" (sp.map boxS)
noncomputable def brkS (b : Bool) (x : Str) : Str := if b = true then "(" ++ x ++ ")" else x
noncomputable def hz (z : Str) : Nat := if z = "*" then 2 else 1
namespace Tw
noncomputable def hld : Tw → Nat
  | .j z _ _ => hz z
  | _ => 3
noncomputable def wr : Tw → Str
  | .n i => nS i
  | .v z => z
  | .c z sp => celS z sp
  | .j z l r => brkS (decide (hld l < hz z)) (wr l) ++ z ++ brkS (decide (hld r ≤ hz z)) (wr r)
noncomputable def sz : Tw → Nat
  | .j _ l r => sz l + sz r
  | _ => 1
end Tw
noncomputable def sgn3 : List Str := ["+", "-", "*"]
noncomputable def SpB (s : Str × Int) : Prop := s.1.length ≤ 20 ∧ -999999999999999999 ≤ s.2 ∧ s.2 ≤ 999999999999999999
noncomputable def Tw.Ok : Tw → Prop
  | .n i => 0 ≤ i ∧ i ≤ 999999999999999999
  | .v z => z.length ≤ 20
  | .c z sp => z.length ≤ 20 ∧ sp.length ≤ 3 ∧ ∀ s ∈ sp, SpB s
  | .j z l r => z ∈ sgn3 ∧ Tw.Ok l ∧ Tw.Ok r
theorem hz_pos (z : Str) : 1 ≤ hz z ∧ hz z ≤ 2 := by unfold hz; split <;> exact ⟨by decide, by decide⟩
theorem Tw.hld_pos (t : Tw) : 1 ≤ t.hld ∧ t.hld ≤ 3 := by
  cases t with
  | j z l r => have := hz_pos z; exact ⟨this.1, Nat.le_trans this.2 (by decide)⟩
  | n i => exact ⟨show 1 ≤ 3 by decide, show 3 ≤ 3 by decide⟩
  | v z => exact ⟨show 1 ≤ 3 by decide, show 3 ≤ 3 by decide⟩
  | c z sp => exact ⟨show 1 ≤ 3 by decide, show 3 ≤ 3 by decide⟩
theorem Tw.sz_pos : ∀ t : Tw, 1 ≤ t.sz
  | .n _ => Nat.le_refl _
  | .v _ => Nat.le_refl _
  | .c _ _ => Nat.le_refl _
  | .j _ l r => Nat.le_trans (Tw.sz_pos l) (Nat.le_add_right _ _)
theorem nS_len {i : Int} (h0 : -999999999999999999 ≤ i) (h1 : i ≤ 999999999999999999) : (nS i).length ≤ 19 := text_len h0 h1
theorem plus_len : ("+" : Str).length = 1 := by decide +kernel
theorem spS_len {s : Str × Int} (h : SpB s) : (spS s).length ≤ 40 := by
  obtain ⟨a, b, c⟩ := h
  have h1 := nS_len b c
  have h2 := plus_len
  unfold spS
  split
  · omega
  · split
    · omega
    · split
      · rw [sLen, sLen]; omega
      · rw [sLen]; omega
theorem boxS_len {s : Str × Int} (h : SpB s) : (boxS s).length ≤ 42 := by
  have h1 := spS_len h
  have h2 : ("[" : Str).length = 1 := by decide +kernel
  have h3 : ("]" : Str).length = 1 := by decide +kernel
  unfold boxS
  rw [sLen, sLen]
  omega
theorem empty_len : ("" : Str).length = 0 := by decide +kernel
theorem boxes_sum {sp : List (Str × Int)} (hl : sp.length ≤ 3) (h : ∀ s ∈ sp, SpB s) : ((sp.map boxS).map (·.length)).sum + (sp.map boxS).length * ("" : Str).length ≤ 126 := by
  have h1 := sum_lens (ys := sp.map boxS) (c := 42) fun y hy => by
    obtain ⟨s, hs, rfl⟩ := List.mem_map.mp hy
    exact boxS_len (h s hs)
  rw [empty_len, Nat.mul_zero]
  rw [List.length_map] at h1
  omega
theorem celS_len {z : Str} {sp : List (Str × Int)} (hz : z.length ≤ 20) (hl : sp.length ≤ 3) (h : ∀ s ∈ sp, SpB s) : (celS z sp).length ≤ 146 := by
  have h1 := join_len "" (sp.map boxS)
  have h2 := boxes_sum hl h
  unfold celS
  rw [sLen]
  omega
theorem brkS_len (b : Bool) (x : Str) : (brkS b x).length ≤ x.length + 2 := by
  have h2 : ("(" : Str).length = 1 := by decide +kernel
  have h3 : (")" : Str).length = 1 := by decide +kernel
  unfold brkS
  split
  · rw [sLen, sLen]; omega
  · omega
theorem sgn_len {z : Str} (h : z ∈ sgn3) : z.length ≤ 1 := by
  have : ∀ w ∈ sgn3, w.length ≤ 1 := by decide +kernel
  exact this z h
theorem Tw.wr_len : ∀ {t : Tw}, t.Ok → t.wr.length + 5 ≤ 200 * t.sz
  | .n i, h => by
    have := nS_len (i := i) (by have := h.1; omega) h.2
    show (nS i).length + 5 ≤ 200 * 1
    omega
  | .v z, h => by
    have h : z.length ≤ 20 := h
    show z.length + 5 ≤ 200 * 1
    omega
  | .c z sp, h => by
    have := celS_len h.1 h.2.1 h.2.2
    show (celS z sp).length + 5 ≤ 200 * 1
    omega
  | .j z l r, h => by
    obtain ⟨h0, h1, h2⟩ := h
    have a1 := Tw.wr_len h1
    have a2 := Tw.wr_len h2
    have a0 := sgn_len h0
    have b1 := brkS_len (decide (hld l < hz z)) (wr l)
    have b2 := brkS_len (decide (hld r ≤ hz z)) (wr r)
    show (brkS (decide (hld l < hz z)) (wr l) ++ z ++ brkS (decide (hld r ≤ hz z)) (wr r)).length + 5 ≤ 200 * (sz l + sz r)
    rw [sLen, sLen]
    omega
theorem spS_law {s : Str × Int} (h1 : ¬ s.1 = "") (h2 : ¬ s.2 = 0) : spS s = s.1 ++ (if s.2 < 0 then ("-" : Str) else "+") ++ nS (if s.2 < 0 then -s.2 else s.2) := by
  unfold spS
  rw [if_neg h1, if_neg h2]
  by_cases c : s.2 < 0
  · rw [if_neg (by omega), if_pos c, if_pos c]
    unfold nS
    rw [neg_text c, show (0 - s.2) = -s.2 by omega]
    exact cds_ext (by rw [cds_app, cds_app, cds_app, cds_app, List.append_assoc])
  · rw [if_pos (by omega), if_neg c, if_neg c]
noncomputable def SpoAt (H : Hp) (x : V) (s : Str × Int) : Prop := ∃ t, x = .ref t ∧ H t = some (.tup [.str s.1, .int s.2])
noncomputable def SpsAt (H : Hp) (p : Addr) (sp : List (Str × Int)) : Prop := ∃ xs, H p = some (.tup xs) ∧ All2 (SpoAt H) xs sp
theorem SpoAt.tk {H H' : Hp} {x : V} {s : Str × Int} (k : TK H H') (h : SpoAt H x s) : SpoAt H' x s := let ⟨t, e, h⟩ := h; ⟨t, e, k _ _ h⟩
theorem SpsAt.tk {H H' : Hp} {p : Addr} {sp : List (Str × Int)} (k : TK H H') (h : SpsAt H p sp) : SpsAt H' p sp := let ⟨xs, e, h⟩ := h; ⟨xs, k _ _ e, h.mono fun _ _ z => z.tk k⟩
noncomputable def ShAt (H : Hp) : Tw → V → Prop
  | .n i, x => ∃ t, x = .ref t ∧ H t = some (.tup [.str "n", .int i])
  | .v z, x => ∃ t, x = .ref t ∧ H t = some (.tup [.str "v", .str z])
  | .c z sp, x => ∃ t p, x = .ref t ∧ H t = some (.tup [.str "c", .str z, .ref p]) ∧ SpsAt H p sp
  | .j z l r, x => ∃ t a b, x = .ref t ∧ H t = some (.tup [.str z, a, b]) ∧ ShAt H l a ∧ ShAt H r b
theorem ShAt.tk {H H' : Hp} (k : TK H H') : ∀ {t : Tw} {x : V}, ShAt H t x → ShAt H' t x
  | .n i, x, h => let ⟨t, e, h⟩ := h; ⟨t, e, k _ _ h⟩
  | .v z, x, h => let ⟨t, e, h⟩ := h; ⟨t, e, k _ _ h⟩
  | .c z sp, x, h => let ⟨t, p, e, h, g⟩ := h; ⟨t, p, e, k _ _ h, g.tk k⟩
  | .j z l r, x, h => let ⟨t, a, b, e, h, g1, g2⟩ := h; ⟨t, a, b, e, k _ _ h, ShAt.tk k g1, ShAt.tk k g2⟩
noncomputable def TbAt (c : Cs) (H : Hp) : Tw → V → Prop
  | .n i, x => ∃ t dx, x = .ref t ∧ H t = some (.ins c.n dx [("n", .int i)])
  | .v z, x => ∃ t dx, x = .ref t ∧ H t = some (.ins c.v dx [("name", .str z)])
  | .c z sp, x => ∃ t dx p, x = .ref t ∧ H t = some (.ins c.c dx [("table", .str z), ("spots", .ref p)]) ∧ SpsAt H p sp
  | .j z l r, x => ∃ t dx a b, x = .ref t ∧ H t = some (.ins c.j dx [("sign", .str z), ("left", a), ("right", b)]) ∧ TbAt c H l a ∧ TbAt c H r b
theorem TbAt.over {c : Cs} {H H' : Hp} (e : Same H H') : ∀ {t : Tw} {x : V}, TbAt c H t x → TbAt c H' t x
  | .n i, x, h => let ⟨t, dx, r, h⟩ := h; ⟨t, dx, r, e _ _ h⟩
  | .v z, x, h => let ⟨t, dx, r, h⟩ := h; ⟨t, dx, r, e _ _ h⟩
  | .c z sp, x, h => let ⟨t, dx, p, r, h, g⟩ := h; ⟨t, dx, p, r, e _ _ h, g.tk (Same.tk e)⟩
  | .j z l r, x, h => let ⟨t, dx, a, b, r, h, g1, g2⟩ := h; ⟨t, dx, a, b, r, e _ _ h, TbAt.over e g1, TbAt.over e g2⟩
noncomputable def TpAt (H : Hp) (x : V) (t : Tw) : Prop := ∃ p y, x = .ref p ∧ H p = some (.tup [.str t.wr, .int (t.hld : Int), y]) ∧ ShAt H t y
theorem TpAt.tk {H H' : Hp} {x : V} {t : Tw} (k : TK H H') (h : TpAt H x t) : TpAt H' x t := let ⟨p, y, e, h, g⟩ := h; ⟨p, y, e, k _ _ h, g.tk k⟩
noncomputable def StrsAt (H : Hp) (l : Addr) (zs : List Str) (n : Nat) : Prop := H l = some (.lst (zs.map V.str)) ∧ zs.length = n ∧ ∀ z ∈ zs, z.length ≤ 20
theorem StrsAt.over {H H' : Hp} {l : Addr} {zs : List Str} {n : Nat} (e : Same H H') (h : StrsAt H l zs n) : StrsAt H' l zs n := ⟨e _ _ h.1, h.2⟩
theorem StrsAt.at {H : Hp} {l : Addr} {zs : List Str} {n : Nat} (h : StrsAt H l zs n) {i : Int} (h0 : 0 ≤ i) (h1 : i < (n : Int)) : ∃ z : Str, atI (zs.map V.str) i = some (.str z) ∧ z.length ≤ 20 := by
  obtain ⟨_, hl, hz⟩ := h
  obtain ⟨k, rfl⟩ : ∃ k : Nat, i = (k : Int) := ⟨i.toNat, by omega⟩
  have hk : k < zs.length := by omega
  exact ⟨zs[k], atI_nat (by rw [List.getElem?_map, List.getElem?_eq_getElem hk]; rfl), hz _ (List.getElem_mem hk)⟩
noncomputable def spNames24 : Sp := fun vs H Q _ => ∃ (c : Int), vs = [.int c, .int 8] ∧ ∀ (l : Addr) (H' : Hp) (zs : List Str), Same H H' → StrsAt H' l zs 8 → zs.Nodup → Q (.ref l) H'
noncomputable def spSpotT : Sp := fun vs H Q _ => ∃ (x : V) (s : Str × Int), vs = [x] ∧ SpoAt H x s ∧ SpB s ∧ Q (.str (spS s)) H
noncomputable def spCellW : Sp := fun vs H Q _ => ∃ (z : Str) (p : Addr) (sp : List (Str × Int)), vs = [.str z, .ref p] ∧ SpsAt H p sp ∧ z.length ≤ 20 ∧ sp.length ≤ 3 ∧ (∀ s ∈ sp, SpB s) ∧ ∀ H', Same H H' → Q (.str (celS z sp)) H'
noncomputable def spSpot24 : Sp := fun vs H Q _ => ∃ (x y : Int) (kl : Addr) (zs : List Str) (m : Nat), vs = [.int x, .int y, .ref kl] ∧ 1 ≤ m ∧ 0 ≤ x ∧ x < 2147483647 ∧ 0 ≤ y ∧ y < 2147483647 ∧ StrsAt H kl zs m ∧ ∀ (r : V) (H' : Hp) (s : Str × Int), Same H H' → SpoAt H' r s → SpB s → Q r H'
noncomputable def spCell24 : Sp := fun vs H Q _ => ∃ (rx kl nl : Addr) (xs : List Int) (zs ns : List Str) (m : Nat), vs = [.ref rx, .ref kl, .ref nl] ∧ 1 ≤ m ∧ H rx = some (.lst (xs.map V.int)) ∧ xs.length = 5 ∧ (∀ x ∈ xs, 0 ≤ x ∧ x < 2147483647) ∧ StrsAt H kl zs m ∧ StrsAt H nl ns 8 ∧ ∀ (r p : Addr) (H' : Hp) (z : Str) (sp : List (Str × Int)), Same H H' → H' r = some (.tup [.str z, .ref p, .str (celS z sp)]) → SpsAt H' p sp → Tw.Ok (.c z sp) → Q (.ref r) H'
noncomputable def spLeaf24 : Sp := fun vs H Q _ => ∃ (c : Int) (kl nl : Addr) (zs ns : List Str) (m : Nat), vs = [.int c, .ref kl, .ref nl] ∧ 1 ≤ m ∧ StrsAt H kl zs m ∧ StrsAt H nl ns 8 ∧ ∀ (x : V) (H' : Hp) (t : Tw), Same H H' → TpAt H' x t → t.Ok → t.sz = 1 → Q x H'
noncomputable def spBoth24 : Sp := fun vs H Q _ => ∃ (z : Str) (x y : V) (l r : Tw), vs = [.str z, x, y] ∧ z ∈ sgn3 ∧ TpAt H x l ∧ TpAt H y r ∧ l.Ok ∧ r.Ok ∧ l.sz + r.sz ≤ 100 ∧ ∀ (v : V) (H' : Hp), Same H H' → TpAt H' v (.j z l r) → Q v H'
noncomputable def spMade24 (c : Cs) (n : Nat) : Sp := fun vs H Q _ => ∃ (x : V) (t : Tw), vs = [x] ∧ ShAt H t x ∧ t.Ok ∧ t.sz ≤ n ∧ ∀ (y : V) (H' : Hp), Same H H' → TbAt c H' t y → Q y H'
noncomputable def spWr (c : Cs) (n : Nat) : Sp := fun vs H Q _ => ∃ (x : V) (t : Tw), vs = [x] ∧ TbAt c H t x ∧ t.Ok ∧ t.sz ≤ n ∧ n ≤ 100 ∧ ∀ H', Same H H' → Q (.str t.wr) H'
noncomputable def spBrk (c : Cs) (n : Nat) : Sp := fun vs H Q _ => ∃ (x : V) (b : Bool) (t : Tw), vs = [x, .bl b] ∧ TbAt c H t x ∧ t.Ok ∧ t.sz ≤ n ∧ n ≤ 100 ∧ ∀ H', Same H H' → Q (.str (brkS b t.wr)) H'
noncomputable def spIsSum (c : Cs) : Sp := fun vs H Q _ => ∃ (x : V) (t : Tw), vs = [x] ∧ TbAt c H t x ∧ Q (.bl (decide (t.hld ≤ 1))) H
noncomputable def spLeftN (c : Cs) : Sp := fun vs H Q _ => ∃ (x : V) (z : Str) (l r : Tw), vs = [x] ∧ TbAt c H (.j z l r) x ∧ Q (.bl (decide (l.hld < hz z))) H
noncomputable def spRightN (c : Cs) : Sp := fun vs H Q _ => ∃ (x : V) (z : Str) (l r : Tw), vs = [x] ∧ TbAt c H (.j z l r) x ∧ Q (.bl (decide (r.hld ≤ hz z))) H
structure StkAt (H : Hp) (xs : List V) (ts : List Tw) (N : Nat) : Prop where
  at' : All2 (TpAt H) xs ts
  ok : ∀ t ∈ ts, t.Ok
  sum : (ts.map Tw.sz).sum ≤ N
theorem StkAt.tk {H H' : Hp} {xs : List V} {ts : List Tw} {N : Nat} (k : TK H H') (h : StkAt H xs ts N) : StkAt H' xs ts N := ⟨h.at'.mono fun _ _ z => z.tk k, h.ok, h.sum⟩
theorem StkAt.len {H : Hp} {xs : List V} {ts : List Tw} {N : Nat} (h : StkAt H xs ts N) : xs.length ≤ N := by
  rw [h.at'.1]
  have : ∀ l : List Tw, l.length ≤ (l.map Tw.sz).sum := fun l => by
    induction l with
    | nil => exact Nat.le_refl _
    | cons t l ih => have := t.sz_pos; rw [List.map_cons, List.sum_cons, List.length_cons]; omega
  exact Nat.le_trans (this ts) h.sum
theorem StkAt.push {H : Hp} {xs : List V} {ts : List Tw} {N : Nat} {x : V} {t : Tw} (h : StkAt H xs ts N) (hx : TpAt H x t) (ht : t.Ok) {M : Nat} (hM : N + t.sz ≤ M) : StkAt H (xs ++ [x]) (ts ++ [t]) M := ⟨h.at'.snoc hx, fun u hu => by
  rcases List.mem_append.mp hu with z | z
  · exact h.ok u z
  · rw [List.mem_singleton.mp z]; exact ht, by
  have := h.sum
  rw [List.map_append, List.sum_append]
  show _ + (t.sz + 0) ≤ M
  omega⟩
theorem StkAt.pop {H : Hp} {xs : List V} {ts : List Tw} {N : Nat} (h : StkAt H xs ts N) (hl : 0 < xs.length) : ∃ ys x us t M, xs = ys ++ [x] ∧ ts = us ++ [t] ∧ StkAt H ys us M ∧ TpAt H x t ∧ t.Ok ∧ M + t.sz ≤ N := by
  obtain ⟨n, hn⟩ : ∃ n, xs.length = n + 1 := ⟨xs.length - 1, by omega⟩
  obtain ⟨ys, x, rfl, yl⟩ := snoc_of hn
  obtain ⟨us, t, rfl, ul⟩ := snoc_of (h.at'.1.symm.trans hn)
  have hs := h.sum
  rw [List.map_append, List.sum_append] at hs
  have hs : (us.map Tw.sz).sum + (t.sz + 0) ≤ N := hs
  refine ⟨ys, x, us, t, (us.map Tw.sz).sum, rfl, rfl, ⟨⟨by omega, fun i x' t' a b => ?_⟩, fun u hu => h.ok u (List.mem_append_left _ hu), Nat.le_refl _⟩, ?_, h.ok t (by simp), by omega⟩
  · exact h.at'.2 i x' t' (by rw [List.getElem?_append_left (List.getElem?_eq_some_iff.mp a).1]; exact a) (by rw [List.getElem?_append_left (List.getElem?_eq_some_iff.mp b).1]; exact b)
  · exact h.at'.2 ys.length x t (by rw [List.getElem?_append_right (Nat.le_refl _), Nat.sub_self]; rfl) (by rw [yl, ← ul, List.getElem?_append_right (Nat.le_refl _), Nat.sub_self]; rfl)
theorem pop_last {ys : List V} {x : V} : (ys ++ [x])[(ys ++ [x]).length - 1]? = some x ∧ (ys ++ [x]).dropLast = ys := by
  refine ⟨?_, List.dropLast_concat⟩
  rw [List.length_append, List.length_singleton, Nat.add_sub_cancel, List.getElem?_append_right (Nat.le_refl _), Nat.sub_self]
  rfl
end L2
namespace L2
open PySem
theorem numZ_b (c : Int) {far : Int} (h : far = 999999999999999999) : -999999999999999999 ≤ numZ c far ∧ numZ c far ≤ 999999999999999999 := by
  subst h
  unfold numZ
  split
  · have := Int.emod_nonneg (c / 3) (show (7 : Int) ≠ 0 by decide)
    have := Int.emod_lt_of_pos (c / 3) (show (0 : Int) < 7 by decide)
    omega
  · have := Int.emod_nonneg (c / 3) (show (2 * 999999999999999999 + 1 : Int) ≠ 0 by decide)
    have := Int.emod_lt_of_pos (c / 3) (show (0 : Int) < 2 * 999999999999999999 + 1 by decide)
    omega
end L2
namespace L2
open PySem
theorem sgn_ne {z : Str} (h : z ∈ sgn3) : z ≠ "n" ∧ z ≠ "v" ∧ z ≠ "c" := by
  have : ∀ w ∈ sgn3, w ≠ "n" ∧ w ≠ "v" ∧ w ≠ "c" := by decide +kernel
  exact this z h
theorem sgn_at {i : Int} (h0 : 0 ≤ i) (h1 : i < 3) : ∃ c : Nat, atI (cds (Str.ofString "+-*")) i = some c ∧ (⟨#[c]⟩ : Str) ∈ sgn3 := by
  have : i = 0 ∨ i = 1 ∨ i = 2 := by omega
  rcases this with rfl | rfl | rfl
  · exact ⟨43, by decide +kernel, by decide +kernel⟩
  · exact ⟨45, by decide +kernel, by decide +kernel⟩
  · exact ⟨42, by decide +kernel, by decide +kernel⟩
end L2
namespace L2
open PySem
end L2
namespace L2
open PySem
theorem rawB_head' {xs : List Int} {w : List Nat} (he : xs.getD 0 0 % 2 = 0) (k : Int) : (nameRaw xs w k).head? = w.head? := by
  unfold nameRaw nameB
  rw [if_pos he]
  have h0 := Int.emod_nonneg (nameLong xs + 3 * k) (show (8 : Int) ≠ 0 by decide)
  obtain ⟨m, hm⟩ : ∃ m, (1 + (nameLong xs + 3 * k) % 8).toNat = m + 1 := ⟨((nameLong xs + 3 * k) % 8).toNat, by omega⟩
  rw [hm]
  cases w with
  | nil => rfl
  | cons _ _ => rfl
theorem rawB_len' {xs : List Int} {w : List Nat} (wl : w.length = 8) (he : xs.getD 0 0 % 2 = 0) (k : Int) : (nameRaw xs w k).length = (1 + (nameLong xs + 3 * k) % 8).toNat := by
  unfold nameRaw nameB
  rw [if_pos he, List.length_take, wl]
  have h0 := Int.emod_nonneg (nameLong xs + 3 * k) (show (8 : Int) ≠ 0 by decide)
  have h1 := Int.emod_lt_of_pos (nameLong xs + 3 * k) (show (0 : Int) < 8 by decide)
  omega
theorem rawA_len' {xs : List Int} {w : List Nat} (he : ¬ xs.getD 0 0 % 2 = 0) (j k : Int) : (nameRaw xs w j).length = (nameRaw xs w k).length := by
  unfold nameRaw nameA
  rw [if_neg he, if_neg he]
  simp only [List.length_append, List.length_singleton]
theorem rawA_at' {xs : List Int} {w : List Nat} (wl : w.length = 8) (he : ¬ xs.getD 0 0 % 2 = 0) (k : Int) : (nameRaw xs w k)[(nameAt xs).toNat]? = some (letC (xs.getD (2 + nameAt xs).toNat 0 + k)) := by
  unfold nameRaw nameA
  have hl := wl
  obtain ⟨a0, a1⟩ := at_b xs
  obtain ⟨_, l1⟩ := long_b xs
  rw [if_neg he, List.append_assoc, List.getElem?_append_right (by rw [List.length_take]; omega), List.length_take, hl]
  rw [show (nameAt xs).toNat - min (nameAt xs).toNat 8 = 0 by omega]
  rfl
theorem raw_ne' {xs : List Int} {w : List Nat} (wl : w.length = 8) {j k : Nat} (hj : j < 8) (hk : k < 8) (h : j ≠ k) : nameRaw xs w (j : Int) ≠ nameRaw xs w (k : Int) := fun e => by
  by_cases he : xs.getD 0 0 % 2 = 0
  · have := congrArg List.length e
    rw [rawB_len' wl he, rawB_len' wl he] at this
    omega
  · have := congrArg (fun l : List Nat => l[(nameAt xs).toNat]?) e
    rw [rawA_at' wl he, rawA_at' wl he] at this
    have := Option.some.inj this
    unfold letC at this
    omega
theorem zz_ne' {xs : List Int} {w : List Nat} (wl : w.length = 8) {j k : Int} (hr : nameRaw xs w j ∈ resv) : [122, 122] ++ nameRaw xs w j ≠ nameRaw xs w k := fun e => by
  by_cases he : xs.getD 0 0 % 2 = 0
  · have := congrArg List.head? e
    rw [rawB_head' he] at this
    have h2 := rawB_head' (w := w) he j
    rw [← this] at h2
    exact resv_head hr h2
  · have := congrArg List.length e
    rw [List.length_append, rawA_len' he j k] at this
    simp at this
theorem nameC_ne' {xs : List Int} {w : List Nat} (wl : w.length = 8) {j k : Nat} (hj : j < 8) (hk : k < 8) (h : j ≠ k) : nameC xs w (j : Int) ≠ nameC xs w (k : Int) := fun e => by
  unfold nameC at e
  by_cases c1 : nameRaw xs w (j : Int) ∈ resv <;> by_cases c2 : nameRaw xs w (k : Int) ∈ resv
  · rw [if_pos c1, if_pos c2] at e
    exact raw_ne' wl hj hk h (List.append_cancel_left e)
  · rw [if_pos c1, if_neg c2] at e
    exact zz_ne' wl c1 e
  · rw [if_neg c1, if_pos c2] at e
    exact zz_ne' wl c2 e.symm
  · rw [if_neg c1, if_neg c2] at e
    exact raw_ne' wl hj hk h e
theorem namesZ_nd {xs : List Int} {w : List Nat} (wl : w.length = 8) : ((List.range 8).map fun k : Nat => sOf (nameC xs w (k : Int))).Nodup := by
  rw [List.nodup_iff_pairwise_ne, List.pairwise_map]
  refine (List.pairwise_lt_range (n := 8)).imp_of_mem fun {i j} hi hj h => ?_
  have hi := List.mem_range.mp hi
  have hj := List.mem_range.mp hj
  intro e
  have := congrArg cds e
  rw [cds_sOf, cds_sOf] at this
  exact nameC_ne' wl (by omega) (by omega) (by omega) this
end L2

set_option linter.all false
namespace Pw
structure Dd (T S : Type) where
  loops : List T
  path : List Int
  txt : S
variable {T S : Type}
inductive Rr (T S : Type) where
  | opn (t : T) : Rr T S
  | row (s : S) : Rr T S
  | fin : Rr T S
noncomputable abbrev Rw (T S : Type) := List (Nat × Rr T S)
noncomputable def heads : Nat → List T → Rw T S
  | _, [] => []
  | d, t :: ts => (d, .opn t) :: heads (d + 1) ts
noncomputable def ends (d : Nat) : Nat → Rw T S
  | 0 => []
  | n + 1 => (d + n, .fin) :: ends d n
noncomputable def Sh (a b : Dd T S) (c : Nat) : Prop := c ≤ a.loops.length ∧ c ≤ b.loops.length ∧ a.loops.take c = b.loops.take c ∧ a.path.take c = b.path.take c ∧ a.path.getD c 0 ≠ b.path.getD c 0
inductive Lin (d : Nat) : Dd T S → List (Dd T S) → Rw T S → Prop
  | nil {a : Dd T S} : Lin d a [] (ends d (a.loops.length - d))
  | cons {a b : Dd T S} {ds : List (Dd T S)} {c : Nat} {R : Rw T S} : Sh a b c → d ≤ c → Lin d b ds R → Lin d a (b :: ds) (ends c (a.loops.length - c) ++ heads c (b.loops.drop c) ++ (b.loops.length, .row b.txt) :: R)
inductive LinA (d : Nat) : List (Dd T S) → Rw T S → Prop
  | nil : LinA d [] []
  | cons {a : Dd T S} {ds : List (Dd T S)} {R : Rw T S} : d ≤ a.loops.length → Lin d a ds R → LinA d (a :: ds) (heads d (a.loops.drop d) ++ (a.loops.length, .row a.txt) :: R)
theorem ends_split (d c n : Nat) (h : d ≤ c) (hn : c ≤ n) : (ends d (n - d) : Rw T S) = ends c (n - c) ++ ends d (c - d) := by
  obtain ⟨k, rfl⟩ : ∃ k, n = c + k := ⟨n - c, by omega⟩
  have : ∀ k, (ends d (c + k - d) : Rw T S) = ends c (c + k - c) ++ ends d (c - d) := by
    intro k
    induction k with
    | zero => simp [ends]
    | succ k ih =>
      rw [show c + (k + 1) - d = (c + k - d) + 1 by omega, show c + (k + 1) - c = (c + k - c) + 1 by omega]
      show (d + (c + k - d), Rr.fin) :: ends d (c + k - d) = (c + (c + k - c), Rr.fin) :: (ends c (c + k - c) ++ ends d (c - d))
      rw [ih, show d + (c + k - d) = c + (c + k - c) by omega]
  exact this k
theorem lin_up {d : Nat} : ∀ {ds : List (Dd T S)} {a : Dd T S} {R : Rw T S}, Lin (d + 1) a ds R → d + 1 ≤ a.loops.length → (∀ b ∈ ds, d + 1 ≤ b.loops.length) → Lin d a ds (R ++ [(d, .fin)])
  | [], a, R, h, ha, hb => by
    cases h
    have : (ends d (a.loops.length - d) : Rw T S) = ends (d + 1) (a.loops.length - (d + 1)) ++ [(d, .fin)] := by
      rw [ends_split d (d + 1) a.loops.length (by omega) ha, show d + 1 - d = 0 + 1 by omega]
      rfl
    rw [← this]
    exact .nil
  | b :: ds, a, R, h, ha, hb => by
    cases h with
    | @cons _ _ _ c R' h1 h2 h3 =>
      have := lin_up h3 (hb b List.mem_cons_self) fun x hx => hb x (List.mem_cons_of_mem _ hx)
      have := Lin.cons (d := d) h1 (by omega) this
      rw [show ends c (a.loops.length - c) ++ heads c (b.loops.drop c) ++ (b.loops.length, Rr.row b.txt) :: R' ++ [(d, Rr.fin)] = ends c (a.loops.length - c) ++ heads c (b.loops.drop c) ++ (b.loops.length, Rr.row b.txt) :: (R' ++ [(d, Rr.fin)]) by simp]
      exact this
theorem lin_app {d : Nat} : ∀ {ds : List (Dd T S)} {a : Dd T S} {R R2 : Rw T S} {es : List (Dd T S)}, Lin d a ds R → LinA d es R2 → (∀ x b, (a :: ds).getLast? = some x → es.head? = some b → Sh x b d) → d ≤ a.loops.length → Lin d a (ds ++ es) (R ++ R2)
  | [], a, R, R2, es, h, h2, hs, hd => by
    cases h
    cases h2 with
    | nil => rw [List.append_nil, List.append_nil]; exact .nil
    | @cons b es R' hb hl =>
      have sh := hs a b rfl rfl
      have := Lin.cons (d := d) sh (Nat.le_refl _) hl
      rw [List.append_assoc] at this
      exact this
  | b :: ds, a, R, R2, es, h, h2, hs, hd => by
    cases h with
    | @cons _ _ _ c R' h1 h3 h4 =>
      have := lin_app h4 h2 (fun x b' hx hb => hs x b' (by rw [List.getLast?_cons_cons]; exact hx) hb) (by have := h1.2.1; omega)
      have := Lin.cons (d := d) h1 h3 this
      rw [List.append_assoc]
      exact this
theorem take_getD {l m : List Int} {c n : Nat} (h : l.take n = m.take n) (hc : c < n) : l.getD c 0 = m.getD c 0 := by
  have := congrArg (fun x : List Int => x[c]?) h
  simp only [List.getElem?_take_of_lt hc] at this
  rw [List.getD_eq_getElem?_getD, List.getD_eq_getElem?_getD, this]
theorem Sh.one {a b : Dd T S} {c c' : Nat} (h : Sh a b c) (h' : Sh a b c') : c = c' := by
  rcases Nat.lt_trichotomy c c' with e | e | e
  · exact absurd (take_getD h'.2.2.2.1 e) h.2.2.2.2
  · exact e
  · exact absurd (take_getD h.2.2.2.1 e) h'.2.2.2.2
theorem Lin.one {d : Nat} : ∀ {ds : List (Dd T S)} {a : Dd T S} {R R' : Rw T S}, Lin d a ds R → Lin d a ds R' → R = R'
  | [], a, R, R', h, h' => by cases h; cases h'; rfl
  | b :: ds, a, R, R', h, h' => by
    cases h with
    | cons h1 h2 h3 =>
      cases h' with
      | cons k1 k2 k3 =>
        have e := h1.one k1
        subst e
        rw [Lin.one h3 k3]
theorem LinA.one {d : Nat} {ds : List (Dd T S)} {R R' : Rw T S} (h : LinA d ds R) (h' : LinA d ds R') : R = R' := by
  cases h with
  | nil => cases h'; rfl
  | cons h1 h2 => cases h' with | cons k1 k2 => rw [h2.one k2]
inductive Fs where
  | nil : Fs
  | leaf (k : Nat) (rest : Fs) : Fs
  | node (k : Nat) (sub rest : Fs) : Fs
noncomputable def CC (d : Nat) : List (Dd T S) → Prop
  | [] => True
  | [a] => d ≤ a.loops.length
  | a :: b :: ds => (∃ c, d ≤ c ∧ Sh a b c) ∧ CC d (b :: ds)
theorem CC.le {d : Nat} : ∀ {ds : List (Dd T S)}, CC d ds → ∀ a ∈ ds, d ≤ a.loops.length
  | [], _, a, ha => by cases ha
  | [b], h, a, ha => by rw [List.mem_singleton.mp ha]; exact h
  | b :: e :: ds, h, a, ha => by
    obtain ⟨⟨c, h1, h2⟩, h3⟩ := h
    rcases List.mem_cons.mp ha with rfl | ha
    · have := h2.1; omega
    · exact CC.le h3 a ha
theorem CC.right {d : Nat} : ∀ {ds es : List (Dd T S)}, CC d (ds ++ es) → CC d es
  | [], es, h => h
  | [a], [], h => True.intro
  | [a], b :: es, h => h.2
  | a :: b :: ds, es, h => CC.right (ds := b :: ds) h.2
theorem CC.left {d : Nat} : ∀ {ds es : List (Dd T S)}, CC d (ds ++ es) → CC d ds
  | [], es, h => True.intro
  | [a], [], h => h
  | [a], b :: es, h => by
    obtain ⟨c, h1, h2⟩ := h.1
    have := h2.1
    show d ≤ a.loops.length
    omega
  | a :: b :: ds, es, h => ⟨h.1, CC.left (ds := b :: ds) h.2⟩
theorem CC.mid {d : Nat} : ∀ {ds es : List (Dd T S)} {x b : Dd T S}, CC d (ds ++ es) → ds.getLast? = some x → es.head? = some b → ∃ c, d ≤ c ∧ Sh x b c
  | [], es, x, b, h, hx, hb => by cases hx
  | [a], [], x, b, h, hx, hb => by cases hb
  | [a], e :: es, x, b, h, hx, hb => by cases hx; cases hb; exact h.1
  | a :: e :: ds, es, x, b, h, hx, hb => CC.mid (ds := e :: ds) h.2 (by rw [List.getLast?_cons_cons] at hx; exact hx) hb
theorem CC.up {d : Nat} {v : Int} : ∀ {ds : List (Dd T S)}, CC d ds → (∀ a ∈ ds, a.path.getD d 0 = v) → (∀ a, ds.head? = some a → d < a.loops.length) → CC (d + 1) ds ∧ ∀ a b ds', ds = a :: b :: ds' → ∃ c, d + 1 ≤ c ∧ Sh a b c
  | [], h, hv, hl => ⟨True.intro, fun a b ds' e => by cases e⟩
  | [a], h, hv, hl => ⟨hl a rfl, fun a b ds' e => by cases e⟩
  | a :: b :: ds, h, hv, hl => by
    obtain ⟨⟨c, h1, h2⟩, h3⟩ := h
    have hc : d + 1 ≤ c := by
      rcases Nat.eq_or_lt_of_le h1 with e | e
      · subst e
        exact absurd ((hv a List.mem_cons_self).trans (hv b (List.mem_cons_of_mem _ List.mem_cons_self)).symm) h2.2.2.2.2
      · exact e
    have up := CC.up (v := v) h3 (fun x hx => hv x (List.mem_cons_of_mem _ hx)) (fun x hx => by cases hx; have := h2.2.1; omega)
    exact ⟨⟨⟨c, hc, h2⟩, up.1⟩, fun a' b' ds' e => by cases e; exact ⟨c, hc, h2⟩⟩
noncomputable def IsF (D : Nat → Option (Dd T S)) : Fs → List Nat → Nat → Prop
  | .nil, ns, _ => ns = []
  | .leaf k rest, ns, d => ∃ ns' a, ns = k :: ns' ∧ D k = some a ∧ a.loops.length = d ∧ IsF D rest ns' d
  | .node k sub rest, ns, d => ∃ g ns' a, ns = k :: g ++ ns' ∧ D k = some a ∧ d < a.loops.length ∧ (∀ x ∈ g, ∀ b, D x = some b → b.path.getD d 0 = a.path.getD d 0) ∧ (∀ x b, ns'.head? = some x → D x = some b → b.path.getD d 0 ≠ a.path.getD d 0) ∧ IsF D sub (k :: g) (d + 1) ∧ IsF D rest ns' d
inductive RowsF (D : Nat → Option (Dd T S)) : Fs → Nat → Rw T S → Prop
  | nil {d : Nat} : RowsF D .nil d []
  | leaf {k d : Nat} {rest : Fs} {a : Dd T S} {R : Rw T S} : D k = some a → RowsF D rest d R → RowsF D (.leaf k rest) d ((d, .row a.txt) :: R)
  | node {k d : Nat} {sub rest : Fs} {a : Dd T S} {t : T} {R R' : Rw T S} : D k = some a → a.loops[d]? = some t → RowsF D sub (d + 1) R → RowsF D rest d R' → RowsF D (.node k sub rest) d ((d, .opn t) :: R ++ (d, .fin) :: R')
inductive Got (D : Nat → Option (Dd T S)) : List Nat → List (Dd T S) → Prop
  | nil : Got D [] []
  | cons {k : Nat} {a : Dd T S} {ns : List Nat} {ds : List (Dd T S)} : D k = some a → Got D ns ds → Got D (k :: ns) (a :: ds)
theorem Got.split {D : Nat → Option (Dd T S)} : ∀ {ns ms : List Nat} {ds : List (Dd T S)}, Got D (ns ++ ms) ds → ∃ ds1 ds2, ds = ds1 ++ ds2 ∧ Got D ns ds1 ∧ Got D ms ds2
  | [], ms, ds, h => ⟨[], ds, rfl, .nil, h⟩
  | k :: ns, ms, ds, h => by
    cases h with
    | cons h1 h2 =>
      obtain ⟨ds1, ds2, rfl, h3, h4⟩ := Got.split h2
      exact ⟨_ :: ds1, ds2, rfl, .cons h1 h3, h4⟩
theorem Got.mem {D : Nat → Option (Dd T S)} {ns : List Nat} {ds : List (Dd T S)} (h : Got D ns ds) : ∀ a ∈ ds, ∃ k ∈ ns, D k = some a := by
  induction h with
  | nil => intro a ha; cases ha
  | cons h1 h2 ih =>
    intro a ha
    rcases List.mem_cons.mp ha with rfl | ha
    · exact ⟨_, List.mem_cons_self, h1⟩
    · obtain ⟨k, hk, h⟩ := ih a ha
      exact ⟨k, List.mem_cons_of_mem _ hk, h⟩
theorem Got.head {D : Nat → Option (Dd T S)} {ns : List Nat} {ds : List (Dd T S)} {b : Dd T S} (h : Got D ns ds) (hb : ds.head? = some b) : ∃ k, ns.head? = some k ∧ D k = some b := by
  cases h with
  | nil => cases hb
  | cons h1 h2 => cases hb; exact ⟨_, rfl, h1⟩
theorem Sh.at {x b : Dd T S} {c d : Nat} (h : Sh x b c) (hd : d ≤ c) (hn : x.path.getD d 0 ≠ b.path.getD d 0) : Sh x b d := by
  rcases Nat.eq_or_lt_of_le hd with e | e
  · rw [e]; exact h
  · exact absurd (take_getD h.2.2.2.1 e) hn
theorem rows_lin {D : Nat → Option (Dd T S)} : ∀ {f : Fs} {ns : List Nat} {d : Nat} {ds : List (Dd T S)} {R : Rw T S}, IsF D f ns d → Got D ns ds → CC d ds → RowsF D f d R → LinA d ds R
  | .nil, ns, d, ds, R, h, hg, hc, hr => by
    have h : ns = [] := h
    subst h
    cases hg; cases hr
    exact .nil
  | .leaf k rest, ns, d, ds, R, h, hg, hc, hr => by
    obtain ⟨ns', a, rfl, ha, hl, hi⟩ := h
    cases hg with
    | @cons _ a' _ ds' g1 g2 =>
      rw [ha] at g1
      cases g1
      cases hr with
      | @leaf _ _ _ a'' R' r1 r2 =>
        rw [ha] at r1
        cases r1
        have ih := rows_lin hi g2 (CC.right (ds := [a]) hc) r2
        have e : (heads d (a.loops.drop d) : Rw T S) = [] := by rw [List.drop_eq_nil_of_le (by omega)]; rfl
        have e2 : (ends d (a.loops.length - d) : Rw T S) = [] := by rw [hl, Nat.sub_self]; rfl
        have l1 : Lin d a [] ([] : Rw T S) := by rw [← e2]; exact .nil
        have l2 := lin_app l1 ih (fun x b hx hb => by
          have hx : a = x := Option.some.inj hx
          subst hx
          obtain ⟨c, c1, c2⟩ := CC.mid (ds := [a]) (x := a) hc rfl hb
          have : c = d := by have := c2.1; omega
          subst this
          exact c2) (by omega)
        have := LinA.cons (d := d) (a := a) (by omega) l2
        rw [e, hl] at this
        exact this
  | .node k sub rest, ns, d, ds, R, h, hg, hc, hr => by
    obtain ⟨g, ns', a, rfl, ha, hl, hsame, hdiff, hi1, hi2⟩ := h
    obtain ⟨ds1, ds2, rfl, g1, g2⟩ := Got.split (ns := k :: g) hg
    cases g1 with
    | @cons _ a' _ gs g3 g4 =>
      rw [ha] at g3
      cases g3
      cases hr with
      | @node _ _ _ _ a'' t Rs Rr' r1 r2 r3 r4 =>
        rw [ha] at r1
        cases r1
        have hv : ∀ x ∈ a :: gs, x.path.getD d 0 = a.path.getD d 0 := fun x hx => by
          rcases List.mem_cons.mp hx with rfl | hx
          · rfl
          · obtain ⟨k', hk', e⟩ := g4.mem x hx
            exact hsame k' hk' x e
        have up := (CC.up (CC.left hc) hv (fun x hx => by cases hx; exact hl)).1
        have ih1 := rows_lin hi1 (.cons ha g4) up r3
        have ih2 := rows_lin hi2 g2 (CC.right hc) r4
        cases ih1 with
        | @cons _ _ R1 q1 q2 =>
          have l1 := lin_up q2 q1 fun x hx => CC.le up x (List.mem_cons_of_mem _ hx)
          have l2 := lin_app l1 ih2 (fun x b hx hb => by
            obtain ⟨c, c1, c2⟩ := CC.mid hc hx hb
            obtain ⟨kb, hkb, eb⟩ := g2.head hb
            have hx' : x ∈ a :: gs := List.mem_of_getLast? hx
            exact c2.at c1 (by rw [hv x hx']; exact (hdiff kb b hkb eb).symm)) (by omega)
          have := LinA.cons (d := d) (a := a) (by omega) l2
          have e : (heads d (a.loops.drop d) : Rw T S) = (d, .opn t) :: heads (d + 1) (a.loops.drop (d + 1)) := by
            obtain ⟨hh, rfl⟩ := List.getElem?_eq_some_iff.mp r2
            rw [List.drop_eq_getElem_cons hh]
            rfl
          rw [e] at this
          simpa using this
inductive LinP : Dd T S → List (Dd T S) → Rw T S → Prop
  | nil {a : Dd T S} : LinP a [] []
  | cons {a b : Dd T S} {ds : List (Dd T S)} {c : Nat} {R : Rw T S} : Sh a b c → LinP b ds R → LinP a (b :: ds) (ends c (a.loops.length - c) ++ heads c (b.loops.drop c) ++ (b.loops.length, .row b.txt) :: R)
theorem LinP.snoc : ∀ {ds : List (Dd T S)} {a x b : Dd T S} {c : Nat} {R : Rw T S}, LinP a ds R → (a :: ds).getLast? = some x → Sh x b c → LinP a (ds ++ [b]) (R ++ (ends c (x.loops.length - c) ++ heads c (b.loops.drop c) ++ [(b.loops.length, .row b.txt)]))
  | [], a, x, b, c, R, h, hx, hs => by
    cases h
    cases hx
    exact .cons hs .nil
  | e :: ds, a, x, b, c, R, h, hx, hs => by
    cases h with
    | @cons _ _ _ c' R' h1 h2 =>
      have := LinP.cons h1 (LinP.snoc h2 (by rw [List.getLast?_cons_cons] at hx; exact hx) hs)
      simpa using this
theorem LinP.lin : ∀ {ds : List (Dd T S)} {a x : Dd T S} {R : Rw T S}, LinP a ds R → (a :: ds).getLast? = some x → Lin 0 a ds (R ++ ends 0 x.loops.length)
  | [], a, x, R, h, hx => by
    cases h
    cases hx
    exact .nil
  | e :: ds, a, x, R, h, hx => by
    cases h with
    | @cons _ _ _ c' R' h1 h2 =>
      have := Lin.cons (d := 0) h1 (Nat.zero_le _) (LinP.lin h2 (by rw [List.getLast?_cons_cons] at hx; exact hx))
      simpa using this
theorem LinP.cc : ∀ {ds : List (Dd T S)} {a : Dd T S} {R : Rw T S}, LinP a ds R → CC 0 (a :: ds)
  | [], a, R, h => Nat.zero_le _
  | e :: ds, a, R, h => by
    cases h with
    | cons h1 h2 => exact ⟨⟨_, Nat.zero_le _, h1⟩, LinP.cc h2⟩
structure Dft (opened : List T) (path : List Int) (rows : Rw T S) (ds : List (Dd T S)) : Prop where
  pl : path.length = opened.length + 1
  st : (ds = [] ∧ rows = heads 0 opened ∧ ∀ e, path.getD e 0 = 0) ∨ ∃ a ds' R x c, ds = a :: ds' ∧ LinP a ds' R ∧ ds.getLast? = some x ∧ c ≤ opened.length ∧ c ≤ x.loops.length ∧ x.loops.take c = opened.take c ∧ x.path.take c = path.take c ∧ x.path.getD c 0 < path.getD c 0 ∧ (∀ e, c < e → path.getD e 0 = 0) ∧ rows = heads 0 a.loops ++ (a.loops.length, .row a.txt) :: R ++ ends c (x.loops.length - c) ++ heads c (opened.drop c)
theorem heads_snoc : ∀ (d : Nat) (ts : List T) (t : T), (heads d (ts ++ [t]) : Rw T S) = heads d ts ++ [(d + ts.length, .opn t)]
  | d, [], t => by simp [heads]
  | d, u :: ts, t => by
    show (d, Rr.opn u) :: heads (d + 1) (ts ++ [t]) = (d, Rr.opn u) :: (heads (d + 1) ts ++ [(d + (ts.length + 1), .opn t)])
    rw [heads_snoc, show d + 1 + ts.length = d + (ts.length + 1) by omega]
theorem getD_l {l m : List Int} {e : Nat} (h : e < l.length) : (l ++ m).getD e 0 = l.getD e 0 := by
  rw [List.getD_eq_getElem?_getD, List.getD_eq_getElem?_getD, List.getElem?_append_left h]
theorem getD_out {l : List Int} {e : Nat} (h : l.length ≤ e) : l.getD e 0 = 0 := by
  rw [List.getD_eq_getElem?_getD, List.getElem?_eq_none_iff.mpr h]; rfl
theorem getD_snoc0 (l : List Int) (e : Nat) : (l ++ [0]).getD e 0 = l.getD e 0 := by
  by_cases c : e < l.length
  · exact getD_l c
  · rw [getD_out (l := l) (by omega)]
    by_cases c2 : e = l.length
    · subst c2
      rw [List.getD_eq_getElem?_getD, List.getElem?_append_right (Nat.le_refl _), Nat.sub_self]; rfl
    · exact getD_out (by rw [List.length_append]; show l.length + 1 ≤ e; omega)
theorem Dft.start : Dft ([] : List T) [0] ([] : Rw T S) [] := ⟨rfl, .inl ⟨rfl, rfl, fun e => by cases e <;> rfl⟩⟩
theorem Dft.opn {opened : List T} {path : List Int} {rows : Rw T S} {ds : List (Dd T S)} (h : Dft opened path rows ds) (t : T) : Dft (opened ++ [t]) (path ++ [0]) (rows ++ [(opened.length, .opn t)]) ds := by
  obtain ⟨pl, st⟩ := h
  refine ⟨by rw [List.length_append, List.length_append, pl]; rfl, ?_⟩
  rcases st with ⟨h1, h2, h3⟩ | ⟨a, ds', R, x, c, h1, h2, h3, h4, h5, h6, h7, h8, h9, h10⟩
  · refine .inl ⟨h1, ?_, fun e => by rw [getD_snoc0]; exact h3 e⟩
    rw [h2, heads_snoc, Nat.zero_add]
  · refine .inr ⟨a, ds', R, x, c, h1, h2, h3, by rw [List.length_append]; omega, h5, by rw [List.take_append_of_le_length h4]; exact h6, by rw [List.take_append_of_le_length (by omega)]; exact h7, by rw [getD_snoc0]; exact h8, fun e he => by rw [getD_snoc0]; exact h9 e he, ?_⟩
    rw [h10, List.drop_append_of_le_length h4, heads_snoc, List.length_drop, show c + (opened.length - c) = opened.length by omega]
    simp
theorem Dft.deed {opened : List T} {p : List Int} {y : Int} {rows : Rw T S} {ds : List (Dd T S)} (h : Dft opened (p ++ [y]) rows ds) (s : S) : Dft opened (p ++ [y + 1]) (rows ++ [(opened.length, .row s)]) (ds ++ [⟨opened, p ++ [y], s⟩]) := by
  obtain ⟨pl, st⟩ := h
  have hp : p.length = opened.length := by rw [List.length_append] at pl; simp at pl; exact pl
  have g : (p ++ [y]).getD opened.length 0 = y := by rw [← hp, List.getD_eq_getElem?_getD, List.getElem?_append_right (Nat.le_refl _), Nat.sub_self]; rfl
  have g' : (p ++ [y + 1]).getD opened.length 0 = y + 1 := by rw [← hp, List.getD_eq_getElem?_getD, List.getElem?_append_right (Nat.le_refl _), Nat.sub_self]; rfl
  have tk : (p ++ [y]).take opened.length = (p ++ [y + 1]).take opened.length := by rw [← hp, List.take_left', List.take_left'] <;> rfl
  have out : ∀ e, opened.length < e → (p ++ [y + 1]).getD e 0 = 0 := fun e he => getD_out (by rw [List.length_append, hp]; exact he)
  have e0 : (ends opened.length (opened.length - opened.length) : Rw T S) = [] := by rw [Nat.sub_self]; rfl
  have e1 : (heads opened.length (opened.drop opened.length) : Rw T S) = [] := by rw [List.drop_length]; rfl
  refine ⟨by rw [List.length_append, hp]; rfl, .inr ?_⟩
  rcases st with ⟨h1, h2, h3⟩ | ⟨a, ds', R, x, c, h1, h2, h3, h4, h5, h6, h7, h8, h9, h10⟩
  · subst h1 h2
    refine ⟨⟨opened, p ++ [y], s⟩, [], [], ⟨opened, p ++ [y], s⟩, opened.length, rfl, .nil, rfl, Nat.le_refl _, Nat.le_refl _, rfl, tk, ?_, out, ?_⟩
    · show (p ++ [y]).getD opened.length 0 < _
      rw [g, g']; omega
    · show _ = heads 0 opened ++ [(opened.length, Rr.row s)] ++ ends opened.length (opened.length - opened.length) ++ _
      rw [e0, e1]; simp
  · subst h1
    have sh : Sh x ⟨opened, p ++ [y], s⟩ c := ⟨h5, h4, h6, h7, by have := h8; show x.path.getD c 0 ≠ (p ++ [y]).getD c 0; omega⟩
    refine ⟨a, ds' ++ [⟨opened, p ++ [y], s⟩], _, ⟨opened, p ++ [y], s⟩, opened.length, rfl, h2.snoc h3 sh, ?_, Nat.le_refl _, Nat.le_refl _, rfl, tk, ?_, out, ?_⟩
    · rw [List.getLast?_append]; rfl
    · show (p ++ [y]).getD opened.length 0 < _
      rw [g, g']; omega
    · show _ = heads 0 a.loops ++ (a.loops.length, Rr.row a.txt) :: (R ++ (ends c (x.loops.length - c) ++ heads c (opened.drop c) ++ [(opened.length, Rr.row s)])) ++ ends opened.length (opened.length - opened.length) ++ _
      rw [e0, e1, h10]; simp
theorem Dft.fin {opened : List T} {t : T} {p : List Int} {y z : Int} {rows : Rw T S} {ds : List (Dd T S)} (h : Dft (opened ++ [t]) (p ++ [y, z]) rows ds) (hz : z ≠ 0) : Dft opened (p ++ [y + 1]) (rows ++ [(opened.length, .fin)]) ds := by
  obtain ⟨pl, st⟩ := h
  have hp : p.length = opened.length := by rw [List.length_append, List.length_append] at pl; simp at pl; omega
  have gz : (p ++ [y, z]).getD (opened.length + 1) 0 = z := by rw [← hp, List.getD_eq_getElem?_getD, List.getElem?_append_right (by omega), show p.length + 1 - p.length = 1 by omega]; rfl
  have gy : (p ++ [y, z]).getD opened.length 0 = y := by rw [← hp, List.getD_eq_getElem?_getD, List.getElem?_append_right (Nat.le_refl _), Nat.sub_self]; rfl
  have g' : (p ++ [y + 1]).getD opened.length 0 = y + 1 := by rw [← hp, List.getD_eq_getElem?_getD, List.getElem?_append_right (Nat.le_refl _), Nat.sub_self]; rfl
  have tk : (p ++ [y, z]).take opened.length = (p ++ [y + 1]).take opened.length := by rw [← hp, List.take_left', List.take_left'] <;> rfl
  refine ⟨by rw [List.length_append, hp]; rfl, .inr ?_⟩
  rcases st with ⟨h1, h2, h3⟩ | ⟨a, ds', R, x, c, h1, h2, h3, h4, h5, h6, h7, h8, h9, h10⟩
  · have := h3 (opened.length + 1); omega
  · have hc : c = opened.length + 1 := by
      rw [List.length_append] at h4
      have h4 : c ≤ opened.length + 1 := h4
      rcases Nat.eq_or_lt_of_le h4 with e | e
      · exact e
      · have := h9 (opened.length + 1) (by omega); omega
    subst hc
    have xp : x.path.getD opened.length 0 = y := by rw [take_getD h7 (Nat.lt_succ_self _)]; exact gy
    refine ⟨a, ds', R, x, opened.length, h1, h2, h3, Nat.le_refl _, by omega, ?_, ?_, by rw [xp, g']; omega, fun e he => getD_out (by rw [List.length_append, hp]; exact he), ?_⟩
    · have := congrArg (List.take opened.length) h6
      rw [List.take_take, List.take_take, Nat.min_eq_left (by omega), List.take_append_of_le_length (Nat.le_refl _)] at this
      exact this
    · have := congrArg (List.take opened.length) h7
      rw [List.take_take, List.take_take, Nat.min_eq_left (by omega), tk] at this
      exact this
    · rw [h10, ends_split opened.length (opened.length + 1) x.loops.length (by omega) h5, show opened.length + 1 - opened.length = 0 + 1 by omega, List.drop_length, List.drop_eq_nil_of_le (by rw [List.length_append]; exact Nat.le_refl _)]
      simp [heads, ends]
theorem Dft.all {opened : List T} {p : List Int} {y : Int} {rows : Rw T S} {ds : List (Dd T S)} (h : Dft opened (p ++ [y]) rows ds) (hy : y ≠ 0) : LinA 0 ds (rows ++ ends 0 opened.length) ∧ CC 0 ds ∧ ds ≠ [] := by
  obtain ⟨pl, st⟩ := h
  have hp : p.length = opened.length := by rw [List.length_append] at pl; simp at pl; exact pl
  have g : (p ++ [y]).getD opened.length 0 = y := by rw [← hp, List.getD_eq_getElem?_getD, List.getElem?_append_right (Nat.le_refl _), Nat.sub_self]; rfl
  rcases st with ⟨h1, h2, h3⟩ | ⟨a, ds', R, x, c, h1, h2, h3, h4, h5, h6, h7, h8, h9, h10⟩
  · have := h3 opened.length; omega
  · have hc : c = opened.length := by
      rcases Nat.eq_or_lt_of_le h4 with e | e
      · exact e
      · have := h9 opened.length e; omega
    subst hc
    subst h1
    refine ⟨?_, h2.cc, by simp⟩
    have l1 := LinA.cons (d := 0) (Nat.zero_le _) (h2.lin h3)
    have e : (ends 0 x.loops.length : Rw T S) = ends opened.length (x.loops.length - opened.length) ++ ends 0 opened.length := by
      have := ends_split (T := T) (S := S) 0 opened.length x.loops.length (Nat.zero_le _) h5
      simpa using this
    rw [h10, List.drop_length]
    rw [e] at l1
    simpa [heads] using l1
theorem heads_len : ∀ (d : Nat) (ts : List T), (heads d ts : Rw T S).length = ts.length
  | _, [] => rfl
  | d, t :: ts => by show (heads (d + 1) ts : Rw T S).length + 1 = ts.length + 1; rw [heads_len]
theorem ends_len (d : Nat) : ∀ n, (ends d n : Rw T S).length = n
  | 0 => rfl
  | n + 1 => by show (ends d n : Rw T S).length + 1 = n + 1; rw [ends_len]
theorem Lin.len {d : Nat} : ∀ {ds : List (Dd T S)} {a : Dd T S} {R : Rw T S}, Lin d a ds R → (∀ x ∈ a :: ds, x.loops.length ≤ 3) → R.length ≤ 7 * ds.length + 3
  | [], a, R, h, hl => by
    cases h
    have := hl a List.mem_cons_self
    rw [ends_len]
    simp
    omega
  | b :: ds, a, R, h, hl => by
    cases h with
    | @cons _ _ _ c R' h1 h2 h3 =>
      have := Lin.len h3 fun x hx => hl x (List.mem_cons_of_mem _ hx)
      have h4 := hl a List.mem_cons_self
      have h5 := hl b (List.mem_cons_of_mem _ List.mem_cons_self)
      rw [List.length_append, List.length_append, ends_len, heads_len, List.length_drop, List.length_cons, List.length_cons]
      omega
theorem LinA.len {d : Nat} {ds : List (Dd T S)} {R : Rw T S} (h : LinA d ds R) (hl : ∀ x ∈ ds, x.loops.length ≤ 3) : R.length ≤ 7 * ds.length := by
  cases h with
  | nil => simp
  | @cons a ds' R' h1 h2 =>
    have := h2.len hl
    have h4 := hl a List.mem_cons_self
    rw [List.length_append, heads_len, List.length_drop, List.length_cons, List.length_cons]
    omega
noncomputable def RowOk (Pt : T → Prop) (Ps : S → Prop) (p : Nat × Rr T S) : Prop := p.1 ≤ 3 ∧ match p.2 with
  | .opn t => Pt t
  | .row s => Ps s
  | .fin => True
theorem heads_ok {Pt : T → Prop} {Ps : S → Prop} : ∀ (d : Nat) (ts : List T), (∀ t ∈ ts, Pt t) → d + ts.length ≤ 4 → ∀ p ∈ (heads d ts : Rw T S), RowOk Pt Ps p
  | _, [], _, _, p, hp => by cases hp
  | d, t :: ts, ht, hd, p, hp => by
    rw [List.length_cons] at hd
    rcases List.mem_cons.mp hp with rfl | hp
    · exact ⟨by show d ≤ 3; omega, ht t List.mem_cons_self⟩
    · exact heads_ok (d + 1) ts (fun x hx => ht x (List.mem_cons_of_mem _ hx)) (by omega) p hp
theorem ends_ok {Pt : T → Prop} {Ps : S → Prop} (d : Nat) : ∀ n, d + n ≤ 4 → ∀ p ∈ (ends d n : Rw T S), RowOk Pt Ps p
  | 0, _, p, hp => by cases hp
  | n + 1, hd, p, hp => by
    rcases List.mem_cons.mp hp with rfl | hp
    · exact ⟨by show d + n ≤ 3; omega, True.intro⟩
    · exact ends_ok d n (by omega) p hp
theorem Lin.ok {Pt : T → Prop} {Ps : S → Prop} {d : Nat} : ∀ {ds : List (Dd T S)} {a : Dd T S} {R : Rw T S}, Lin d a ds R → d ≤ a.loops.length → (∀ x ∈ a :: ds, x.loops.length ≤ 3 ∧ (∀ t ∈ x.loops, Pt t) ∧ Ps x.txt) → ∀ p ∈ R, RowOk Pt Ps p
  | [], a, R, h, hd, hl, p, hp => by
    cases h
    have := (hl a List.mem_cons_self).1
    exact ends_ok d _ (by omega) p hp
  | b :: ds, a, R, h, hd, hl, p, hp => by
    cases h with
    | @cons _ _ _ c R' h1 h2 h3 =>
      have h4 := (hl a List.mem_cons_self).1
      obtain ⟨h5, h6, h7⟩ := hl b (List.mem_cons_of_mem _ List.mem_cons_self)
      have k1 := h1.1
      have k2 := h1.2.1
      rcases List.mem_append.mp hp with hp | hp
      · rcases List.mem_append.mp hp with hp | hp
        · exact ends_ok c _ (by omega) p hp
        · exact heads_ok c _ (fun t ht => h6 t (List.mem_of_mem_drop ht)) (by rw [List.length_drop]; omega) p hp
      · rcases List.mem_cons.mp hp with rfl | hp
        · exact ⟨h5, h7⟩
        · exact Lin.ok h3 (by omega) (fun x hx => hl x (List.mem_cons_of_mem _ hx)) p hp
theorem LinA.ok {Pt : T → Prop} {Ps : S → Prop} {d : Nat} {ds : List (Dd T S)} {R : Rw T S} (h : LinA d ds R) (hl : ∀ x ∈ ds, x.loops.length ≤ 3 ∧ (∀ t ∈ x.loops, Pt t) ∧ Ps x.txt) : ∀ p ∈ R, RowOk Pt Ps p := by
  cases h with
  | nil => intro p hp; cases hp
  | @cons a ds' R' h1 h2 =>
    intro p hp
    obtain ⟨h5, h6, h7⟩ := hl a List.mem_cons_self
    rcases List.mem_append.mp hp with hp | hp
    · exact heads_ok d _ (fun t ht => h6 t (List.mem_of_mem_drop ht)) (by rw [List.length_drop]; omega) p hp
    · rcases List.mem_cons.mp hp with rfl | hp
      · exact ⟨h5, h7⟩
      · exact h2.ok h1 hl p hp
theorem rows_ex {D : Nat → Option (Dd T S)} : ∀ {f : Fs} {ns : List Nat} {d : Nat}, IsF D f ns d → ∃ R, RowsF D f d R
  | .nil, ns, d, h => ⟨_, .nil⟩
  | .leaf k rest, ns, d, h => by
    obtain ⟨ns', a, rfl, ha, hl, hi⟩ := h
    obtain ⟨R, hR⟩ := rows_ex hi
    exact ⟨_, .leaf ha hR⟩
  | .node k sub rest, ns, d, h => by
    obtain ⟨g, ns', a, rfl, ha, hl, _, _, hi1, hi2⟩ := h
    obtain ⟨R, hR⟩ := rows_ex hi1
    obtain ⟨R', hR'⟩ := rows_ex hi2
    exact ⟨_, .node ha (List.getElem?_eq_getElem hl) hR hR'⟩
theorem Got.find {D : Nat → Option (Dd T S)} {ns : List Nat} {ds : List (Dd T S)} (h : Got D ns ds) {k : Nat} (hk : k ∈ ns) : ∃ a ∈ ds, D k = some a := by
  induction h with
  | nil => cases hk
  | cons h1 h2 ih =>
    rcases List.mem_cons.mp hk with rfl | hk
    · exact ⟨_, List.mem_cons_self, h1⟩
    · obtain ⟨a, ha, e⟩ := ih hk
      exact ⟨a, List.mem_cons_of_mem _ ha, e⟩
end Pw

set_option Elab.async false
set_option linter.all false
set_option maxRecDepth 100000
set_option maxHeartbeats 4000000
namespace L2
open PySem PySem.Spec PyProof.Rows
noncomputable def tJoin6 (a b c d e f : TE) : TE := tJoin1 Str.empty a fun x => tJoin1 x b fun y => tJoin1 y c fun z => tJoin1 z d fun u => tJoin1 u e fun v => tJoin1 v f fun w => tC (.str w)
theorem pe_joined6 {X : Cx} {e1 e2 e3 e4 e5 e6 : Expr} {a b c d e f : TE} {pos : Pos} (h1 : PE X e1 a) (h2 : PE X e2 b) (h3 : PE X e3 c) (h4 : PE X e4 d) (h5 : PE X e5 e) (h6 : PE X e6 f) : PE X (.JoinedStr [e1, e2, e3, e4, e5, e6] pos) (tJoin6 a b c d e f) := by
  intro pins s σ H Q I hq
  refine JoinedStr_many (joinParts_cons (thn (h1 pins s σ H _ I hq) fun v s1 hx => ?_))
  obtain ⟨x, H1, I1, r1, y, rfl, hy, q1⟩ := hx
  obtain ⟨t1, rfl⟩ := (show ∃ t, v = Value.str y t from r1)
  refine ⟨hy, joinParts_cons (thn (h2 pins s1 σ H1 _ I1 q1) fun v2 s2 hx2 => ?_)⟩
  obtain ⟨x2, H2, I2, r2, y2, rfl, hy2, q2⟩ := hx2
  obtain ⟨t2, rfl⟩ := (show ∃ t, v2 = Value.str y2 t from r2)
  refine ⟨hy2, joinParts_cons (thn (h3 pins s2 σ H2 _ I2 q2) fun v3 s3 hx3 => ?_)⟩
  obtain ⟨x3, H3, I3, r3, y3, rfl, hy3, q3⟩ := hx3
  obtain ⟨t3, rfl⟩ := (show ∃ t, v3 = Value.str y3 t from r3)
  refine ⟨hy3, joinParts_cons (thn (h4 pins s3 σ H3 _ I3 q3) fun v4 s4 hx4 => ?_)⟩
  obtain ⟨x4, H4, I4, r4, y4, rfl, hy4, q4⟩ := hx4
  obtain ⟨t4, rfl⟩ := (show ∃ t, v4 = Value.str y4 t from r4)
  refine ⟨hy4, joinParts_cons (thn (h5 pins s4 σ H4 _ I4 q4) fun v5 s5 hx5 => ?_)⟩
  obtain ⟨x5, H5, I5, r5, y5, rfl, hy5, q5⟩ := hx5
  obtain ⟨t5, rfl⟩ := (show ∃ t, v5 = Value.str y5 t from r5)
  refine ⟨hy5, joinParts_cons (thn (h6 pins s5 σ H5 _ I5 q5) fun v6 s6 hx6 => ?_)⟩
  obtain ⟨x6, H6, I6, r6, y6, rfl, hy6, q6⟩ := hx6
  obtain ⟨t6, rfl⟩ := (show ∃ t, v6 = Value.str y6 t from r6)
  exact ⟨hy6, joinParts_nil ⟨.str _, H6, I6.tok _, ⟨_, rfl⟩, q6⟩ hy6⟩
structure LpT where
  nm : Str
  lo : Str × Int
  hi : Str × Int
noncomputable def LpT.Ok (t : LpT) : Prop := t.nm.length ≤ 20 ∧ SpB t.lo ∧ SpB t.hi
structure Dw where
  loops : List LpT
  tbl : Str
  sp : List (Str × Int)
  tm : Tw
  path : List Int
noncomputable def Dw.txt (D : Dw) : Str := celS D.tbl D.sp ++ " = " ++ D.tm.wr
noncomputable def Dw.dd (D : Dw) : Pw.Dd LpT Str := ⟨D.loops, D.path, D.txt⟩
structure Dw.Ok (D : Dw) : Prop where
  lp : ∀ t ∈ D.loops, t.Ok
  ll : D.loops.length ≤ 3
  pl : D.path.length = D.loops.length + 1
  c : Tw.Ok (.c D.tbl D.sp)
  t : D.tm.Ok
  s : D.tm.sz ≤ 5
noncomputable def lpS (t : LpT) : Str := "for " ++ t.nm ++ " " ++ spS t.lo ++ " " ++ spS t.hi
noncomputable def rrS : Pw.Rr LpT Str → Str
  | .opn t => lpS t
  | .row s => s
  | .fin => "end"
noncomputable def rowS (p : Nat × Pw.Rr LpT Str) : Str := blk p.1 ++ rrS p.2
theorem Dw.txt_len {D : Dw} (h : D.Ok) : D.txt.length ≤ 1200 := by
  have h1 := celS_len h.c.1 h.c.2.1 h.c.2.2
  have h2 := Tw.wr_len h.t
  have h3 := h.s
  have e : (" = " : Str).length = 3 := by decide +kernel
  unfold Dw.txt
  rw [sLen, sLen]
  omega
theorem lpS_len {t : LpT} (h : t.Ok) : (lpS t).length ≤ 200 := by
  obtain ⟨h1, h2, h3⟩ := h
  have h2 := spS_len h2
  have h3 := spS_len h3
  have e : ("for " : Str).length = 4 := by decide +kernel
  have e2 : (" " : Str).length = 1 := by decide +kernel
  unfold lpS
  rw [sLen, sLen, sLen, sLen, sLen]
  omega
noncomputable def LptAt (H : Hp) (x : V) (t : LpT) : Prop := ∃ (p : Addr) (a b : V), x = .ref p ∧ H p = some (.tup [.str t.nm, a, b]) ∧ SpoAt H a t.lo ∧ SpoAt H b t.hi
theorem LptAt.tk {H H' : Hp} {x : V} {t : LpT} (k : TK H H') (h : LptAt H x t) : LptAt H' x t := let ⟨p, a, b, e, h, g1, g2⟩ := h; ⟨p, a, b, e, k _ _ h, g1.tk k, g2.tk k⟩
noncomputable def LpsAt (H : Hp) (o : Addr) (ts : List LpT) : Prop := ∃ xs, H o = some (.lst xs) ∧ All2 (LptAt H) xs ts
theorem LpsAt.over {H H' : Hp} {o : Addr} {ts : List LpT} (e : Same H H') (h : LpsAt H o ts) : LpsAt H' o ts := let ⟨xs, h, g⟩ := h; ⟨xs, e _ _ h, g.mono fun _ _ z => z.tk (Same.tk e)⟩
noncomputable def DtAtO (H : Hp) (o : Addr) (x : V) (D : Dw) : Prop := ∃ (p ps pt : Addr) (sh : V), x = .ref p ∧ H p = some (.tup [.ref o, .str D.tbl, .ref ps, sh, .ref pt, .str D.txt]) ∧ LpsAt H o D.loops ∧ SpsAt H ps D.sp ∧ ShAt H D.tm sh ∧ H pt = some (.tup (D.path.map V.int))
noncomputable def DtAt (H : Hp) (x : V) (D : Dw) : Prop := ∃ o, DtAtO H o x D
theorem DtAt.over {H H' : Hp} {x : V} {D : Dw} (e : Same H H') (h : DtAt H x D) : DtAt H' x D := let ⟨o, p, ps, pt, sh, r, h0, h1, h2, h3, h4⟩ := h; ⟨o, p, ps, pt, sh, r, e _ _ h0, h1.over e, h2.tk (Same.tk e), h3.tk (Same.tk e), e _ _ h4⟩
noncomputable def DoAt (C : Addr) (c : Cs) (H : Hp) (x : V) (D : Dw) : Prop := ∃ (p dx nm lo hi ps pt : Addr) (ob : V) (ls hs : List V), x = .ref p ∧ H p = some (.ins C dx [("names", .ref nm), ("lows", .ref lo), ("highs", .ref hi), ("table", .str D.tbl), ("spots", .ref ps), ("term", ob), ("path", .ref pt)]) ∧ H nm = some (.tup (D.loops.map fun t => V.str t.nm)) ∧ H lo = some (.tup ls) ∧ All2 (fun v t => SpoAt H v (LpT.lo t)) ls D.loops ∧ H hi = some (.tup hs) ∧ All2 (fun v t => SpoAt H v (LpT.hi t)) hs D.loops ∧ SpsAt H ps D.sp ∧ TbAt c H D.tm ob ∧ H pt = some (.tup (D.path.map V.int))
theorem DoAt.over {C : Addr} {c : Cs} {H H' : Hp} {x : V} {D : Dw} (e : Same H H') (h : DoAt C c H x D) : DoAt C c H' x D := by
  obtain ⟨p, dx, nm, lo, hi, ps, pt, ob, ls, hs, rfl, h0, h1, h2, h3, h4, h5, h6, h7, h8⟩ := h
  exact ⟨p, dx, nm, lo, hi, ps, pt, ob, ls, hs, rfl, e _ _ h0, e _ _ h1, e _ _ h2, h3.mono fun _ _ z => z.tk (Same.tk e), e _ _ h4, h5.mono fun _ _ z => z.tk (Same.tk e), h6.tk (Same.tk e), h7.over e, e _ _ h8⟩
noncomputable def DosAt (C : Addr) (c : Cs) (H : Hp) (l : Addr) (Ds : List Dw) : Prop := ∃ xs, H l = some (.lst xs) ∧ All2 (DoAt C c H) xs Ds
theorem DosAt.over {C : Addr} {c : Cs} {H H' : Hp} {l : Addr} {Ds : List Dw} (e : Same H H') (h : DosAt C c H l Ds) : DosAt C c H' l Ds := let ⟨xs, h, g⟩ := h; ⟨xs, e _ _ h, g.mono fun _ _ z => z.over e⟩
noncomputable def OkD (Ds : List Dw) : Prop := (∀ D ∈ Ds, D.Ok) ∧ Ds.length ≤ 10 ∧ Pw.CC 0 (Ds.map Dw.dd)
noncomputable def getD (Ds : List Dw) : Nat → Option (Pw.Dd LpT Str) := fun k => Ds[k]?.map Dw.dd
noncomputable def pat (Ds : List Dw) (d k : Nat) : Int := match Ds[k]? with
  | some D => D.path.getD d 0
  | none => 0
inductive IsG (Ds : List Dw) (d : Nat) : List Nat → List (List Nat) → Prop
  | nil : IsG Ds d [] []
  | cons {k : Nat} {g ns : List Nat} {G : List (List Nat)} : (∀ x ∈ g, pat Ds d x = pat Ds d k) → (∀ y, ns.head? = some y → pat Ds d y ≠ pat Ds d k) → IsG Ds d ns G → IsG Ds d (k :: g ++ ns) ((k :: g) :: G)
noncomputable def ilst (g : List Nat) : List V := g.map fun k : Nat => V.int (k : Int)
noncomputable def IlAt (H : Hp) (x : V) (g : List Nat) : Prop := ∃ l, x = .ref l ∧ H l = some (.lst (ilst g))
theorem IlAt.over {H H' : Hp} {x : V} {g : List Nat} (e : Same H H') (h : IlAt H x g) : IlAt H' x g := let ⟨l, r, h⟩ := h; ⟨l, r, e _ _ h⟩
inductive GP (Ds : List Dw) (d : Nat) : List Nat → List (List Nat) → Prop
  | nil : GP Ds d [] []
  | new {ns : List Nat} {G : List (List Nat)} {k : Nat} : GP Ds d ns G → (∀ g h, G.getLast? = some g → g.head? = some h → pat Ds d h ≠ pat Ds d k) → GP Ds d (ns ++ [k]) (G ++ [[k]])
  | more {ns : List Nat} {G : List (List Nat)} {h k : Nat} {g : List Nat} : GP Ds d ns (G ++ [h :: g]) → pat Ds d h = pat Ds d k → GP Ds d (ns ++ [k]) (G ++ [h :: g ++ [k]])
theorem IsG.snocG {Ds : List Dw} {d k : Nat} : ∀ {ns : List Nat} {G : List (List Nat)}, IsG Ds d ns G → (∀ g h, G.getLast? = some g → g.head? = some h → pat Ds d h ≠ pat Ds d k) → IsG Ds d (ns ++ [k]) (G ++ [[k]])
  | _, _, .nil, _ => .cons (g := []) (ns := []) (fun x hx => by cases hx) (fun y hy => by cases hy) .nil
  | _, _, .cons (k := k0) (g := g0) (ns := ns') (G := G') h1 h2 h3, hd => by
    cases h3 with
    | nil =>
      have hk := hd (k0 :: g0) k0 rfl rfl
      have := IsG.cons (Ds := Ds) (d := d) (k := k0) (g := g0) (ns := [k] ++ []) (G := [[k]]) h1 (fun y hy => by cases hy; exact hk.symm) (.cons (g := []) (fun x hx => by cases hx) (fun y hy => by cases hy) .nil)
      simpa using this
    | @cons k1 g1 ns1 G1 a1 a2 a3 =>
      have ih := IsG.snocG (IsG.cons a1 a2 a3) (fun g h hg hh => hd g h (by rw [List.getLast?_cons_cons]; exact hg) hh)
      have := IsG.cons (Ds := Ds) (d := d) (k := k0) (g := g0) h1 (ns := k1 :: g1 ++ ns1 ++ [k]) (fun y hy => h2 y (by simpa using hy)) ih
      simpa using this
theorem IsG.more {Ds : List Dw} {d k : Nat} : ∀ {G : List (List Nat)} {ns : List Nat} {h : Nat} {g : List Nat}, IsG Ds d ns (G ++ [h :: g]) → pat Ds d h = pat Ds d k → IsG Ds d (ns ++ [k]) (G ++ [h :: g ++ [k]])
  | [], _, h, g, i, e => by
    cases i with
    | @cons _ _ ns' _ h1 h2 h3 =>
      cases h3
      have := IsG.cons (Ds := Ds) (d := d) (k := h) (g := g ++ [k]) (ns := []) (G := []) (fun x hx => by
        rcases List.mem_append.mp hx with hx | hx
        · exact h1 x hx
        · rw [List.mem_singleton.mp hx]; exact e.symm) (fun y hy => by cases hy) .nil
      simpa using this
  | g1 :: G, _, h, g, i, e => by
    cases i with
    | @cons k1 g1' ns' _ h1 h2 h3 =>
      have ih := IsG.more (G := G) h3 e
      have hne : ns' ≠ [] := by
        intro z
        subst z
        have h3 : IsG Ds d [] (G ++ [h :: g]) := h3
        generalize hG : G ++ [h :: g] = GG at h3
        generalize hn : ([] : List Nat) = nn at h3
        cases h3 with
        | nil => simp at hG
        | cons _ _ _ => simp at hn
      have := IsG.cons (Ds := Ds) (d := d) (k := k1) (g := g1') (ns := ns' ++ [k]) h1 (fun y hy => h2 y (by
        cases ns' with
        | nil => exact absurd rfl hne
        | cons a b => exact hy)) ih
      simpa using this
theorem GP.isG {Ds : List Dw} {d : Nat} {ns : List Nat} {G : List (List Nat)} (h : GP Ds d ns G) : IsG Ds d ns G := by
  induction h with
  | nil => exact .nil
  | new _ h ih => exact ih.snocG h
  | more _ h ih => exact ih.more h
noncomputable def FsAt (H : Hp) : Pw.Fs → List V → Prop
  | .nil, xs => xs = []
  | .leaf k rest, xs => ∃ t xs', xs = .ref t :: xs' ∧ H t = some (.tup [.int (k : Int), .non]) ∧ FsAt H rest xs'
  | .node k sub rest, xs => ∃ t l ys xs', xs = .ref t :: xs' ∧ H t = some (.tup [.int (k : Int), .ref l]) ∧ H l = some (.lst ys) ∧ FsAt H sub ys ∧ FsAt H rest xs'
theorem FsAt.over {H H' : Hp} (e : Same H H') : ∀ {f : Pw.Fs} {xs : List V}, FsAt H f xs → FsAt H' f xs
  | .nil, xs, h => h
  | .leaf k rest, xs, h => let ⟨t, xs', r, h0, h1⟩ := h; ⟨t, xs', r, e _ _ h0, FsAt.over e h1⟩
  | .node k sub rest, xs, h => let ⟨t, l, ys, xs', r, h0, h1, h2, h3⟩ := h; ⟨t, l, ys, xs', r, e _ _ h0, e _ _ h1, FsAt.over e h2, FsAt.over e h3⟩
noncomputable def fapp : Pw.Fs → Pw.Fs → Pw.Fs
  | .nil, g => g
  | .leaf k r, g => .leaf k (fapp r g)
  | .node k s r, g => .node k s (fapp r g)
theorem FsAt.app {H : Hp} : ∀ {f g : Pw.Fs} {xs ys : List V}, FsAt H f xs → FsAt H g ys → FsAt H (fapp f g) (xs ++ ys)
  | .nil, g, xs, ys, h, h' => by have h : xs = [] := h; subst h; exact h'
  | .leaf k rest, g, xs, ys, h, h' => by
    obtain ⟨t, xs', rfl, h0, h1⟩ := h
    exact ⟨t, xs' ++ ys, rfl, h0, FsAt.app h1 h'⟩
  | .node k sub rest, g, xs, ys, h, h' => by
    obtain ⟨t, l, zs, xs', rfl, h0, h1, h2, h3⟩ := h
    exact ⟨t, l, zs, xs' ++ ys, rfl, h0, h1, h2, FsAt.app h3 h'⟩
noncomputable def fdep : Pw.Fs → Nat
  | .nil => 0
  | .leaf _ r => max 1 (fdep r)
  | .node _ s r => max (fdep s + 1) (fdep r)
theorem isF_app {D : Nat → Option (Pw.Dd LpT Str)} {d : Nat} : ∀ {f g : Pw.Fs} {ns ms : List Nat}, Pw.IsF D f ns d → Pw.IsF D g ms d → (∀ x y a b, ns.getLast? = some x → ms.head? = some y → D x = some a → D y = some b → a.path.getD d 0 ≠ b.path.getD d 0) → (∀ x ∈ ns, ∃ a, D x = some a) → Pw.IsF D (fapp f g) (ns ++ ms) d
  | .nil, g, ns, ms, h, h', _, _ => by have h : ns = [] := h; subst h; exact h'
  | .leaf k rest, g, ns, ms, h, h', hd, hm => by
    obtain ⟨ns', a, rfl, h0, h1, h2⟩ := h
    refine ⟨ns' ++ ms, a, rfl, h0, h1, isF_app h2 h' (fun x y a b hx => ?_) fun x hx => hm x (List.mem_cons_of_mem _ hx)⟩
    cases ns' with
    | nil => cases hx
    | cons z zs => exact hd x y a b (by rw [List.getLast?_cons_cons]; exact hx)
  | .node k sub rest, g, ns, ms, h, h', hd, hm => by
    obtain ⟨g', ns', a, rfl, h0, h1, h2, h3, h4, h5⟩ := h
    refine ⟨g', ns' ++ ms, a, by rw [List.append_assoc], h0, h1, h2, ?_, h4, isF_app h5 h' (fun x y a b hx => ?_) fun x hx => hm x (List.mem_append_right _ hx)⟩
    · intro x b hx hb
      cases ns' with
      | cons z zs => exact h3 x b hx hb
      | nil =>
        obtain ⟨last, hl⟩ : ∃ last, (k :: g' ++ []).getLast? = some last := ⟨_, List.getLast?_eq_some_getLast (by simp)⟩
        have hmem : last ∈ k :: g' := by have := List.mem_of_getLast? hl; simpa using this
        obtain ⟨al, hal⟩ := hm last (by simpa using hmem)
        have h6 := hd last x al b hl hx hal hb
        have e : al.path.getD d 0 = a.path.getD d 0 := by
          rcases List.mem_cons.mp hmem with z | z
          · subst z; rw [h0] at hal; cases hal; rfl
          · exact h2 last z al hal
        rw [e] at h6
        exact h6.symm
    · cases ns' with
      | nil => cases hx
      | cons z zs => exact hd x y a b (by rw [List.getLast?_append]; rw [hx]; rfl)
theorem fdep_app : ∀ f g : Pw.Fs, fdep (fapp f g) ≤ max (fdep f) (fdep g)
  | .nil, g => Nat.le_max_right _ _
  | .leaf k r, g => by
    have := fdep_app r g
    show max 1 (fdep (fapp r g)) ≤ max (max 1 (fdep r)) (fdep g)
    omega
  | .node k s r, g => by
    have := fdep_app r g
    show max (fdep s + 1) (fdep (fapp r g)) ≤ max (max (fdep s + 1) (fdep r)) (fdep g)
    omega
noncomputable def nw (H H' : Hp) : Hp := fun b => match H b with
  | none => H' b
  | some _ => none
noncomputable def nwi (H H' : Hp) (it : Addr) : Hp := fun b => if b = it then none else nw H H' b
theorem nw_inv {H H' : Hp} {b : Addr} {o : HO} (h : nw H H' b = some o) : H b = none ∧ H' b = some o := by
  unfold nw at h
  cases e : H b with
  | none => rw [e] at h; exact ⟨rfl, h⟩
  | some _ => rw [e] at h; cases h
theorem nw_get {H H' : Hp} {b : Addr} {o : HO} (h : H b = none) (h' : H' b = some o) : nw H H' b = some o := by
  unfold nw
  rw [h]
  exact h'
theorem nw_same {H H' : Hp} : Same (nw H H') H' := fun b o h => (nw_inv h).2
theorem nwi_inv {H H' : Hp} {it b : Addr} {o : HO} (h : nwi H H' it b = some o) : b ≠ it ∧ H b = none ∧ H' b = some o := by
  unfold nwi at h
  split at h
  · cases h
  · rename_i c; exact ⟨c, nw_inv h⟩
theorem nwi_get {H H' : Hp} {it b : Addr} {o : HO} (h : H b = none) (c : b ≠ it) (h' : H' b = some o) : nwi H H' it b = some o := by
  unfold nwi
  rw [if_neg c]
  exact nw_get h h'
theorem nwi_mono {H H1 H2 : Hp} {it : Addr} (k : ∀ b o, b ≠ it → H1 b = some o → H2 b = some o) : Same (nwi H H1 it) (nwi H H2 it) := fun b o h => by
  obtain ⟨c, h0, h1⟩ := nwi_inv h
  exact nwi_get h0 c (k b o c h1)
theorem nwi_nw {H H' : Hp} {it : Addr} : Same (nwi H H' it) (nw H H') := fun b o h => by
  obtain ⟨c, h0, h1⟩ := nwi_inv h
  exact nw_get h0 h1
theorem nw_nwi {H H2 H3 : Hp} {it : Addr} {o' : HO} (e : Same H H2) (hi : H2 it = some o') : Same (nw H2 H3) (nwi H H3 it) := fun b o h => by
  obtain ⟨h0, h1⟩ := nw_inv h
  exact nwi_get (e.free h0) (ne_of_none hi h0).symm h1
noncomputable def spWLoop (C : Addr) (c : Cs) : Sp := fun vs H Q _ => ∃ (x : V) (D : Dw) (e : Nat) (t : LpT), vs = [x, .int (e : Int)] ∧ DoAt C c H x D ∧ D.Ok ∧ D.loops[e]? = some t ∧ Q (.str (lpS t)) H
noncomputable def spWDeed (C : Addr) (c : Cs) : Sp := fun vs H Q _ => ∃ (x : V) (D : Dw), vs = [x] ∧ DoAt C c H x D ∧ D.Ok ∧ ∀ H', Same H H' → Q (.str D.txt) H'
noncomputable def GrsAt (H : Hp) (gl : Addr) (G : List (List Nat)) : Prop := ∃ xs, H gl = some (.lst xs) ∧ All2 (IlAt H) xs G
noncomputable def InD (Ds : List Dw) (d : Nat) (ns : List Nat) : Prop := ∀ k ∈ ns, ∃ D, Ds[k]? = some D ∧ D.Ok ∧ d ≤ D.loops.length
noncomputable def spNeigh (C : Addr) (c : Cs) : Sp := fun vs H Q _ => ∃ (dl nl : Addr) (d : Nat) (Ds : List Dw) (ns : List Nat), vs = [.ref dl, .ref nl, .int (d : Int)] ∧ DosAt C c H dl Ds ∧ H nl = some (.lst (ilst ns)) ∧ InD Ds d ns ∧ ns.length ≤ 10 ∧ ∀ (gl : Addr) (H' : Hp) (G : List (List Nat)), Same H H' → H gl = none → GrsAt H' gl G → IsG Ds d ns G → Q (.ref gl) H'
noncomputable def spItemsW (C : Addr) (c : Cs) (n : Nat) : Sp := fun vs H Q _ => ∃ (dl nl : Addr) (d : Nat) (Ds : List Dw) (ns : List Nat) (ds : List (Pw.Dd LpT Str)), vs = [.ref dl, .ref nl, .int (d : Int)] ∧ DosAt C c H dl Ds ∧ H nl = some (.lst (ilst ns)) ∧ InD Ds d ns ∧ ns.length ≤ 10 ∧ Pw.Got (getD Ds) ns ds ∧ Pw.CC d ds ∧ d ≤ 3 ∧ 4 ≤ d + n ∧ ∀ (r : Addr) (H' : Hp) (f : Pw.Fs) (xs : List V), Same H H' → H r = none → H' r = some (.lst xs) → FsAt (nw H H') f xs → Pw.IsF (getD Ds) f ns d → fdep f ≤ n → xs.length ≤ ns.length → Q (.ref r) H'
noncomputable def spNested (C : Addr) (c : Cs) : Sp := fun vs H Q _ => ∃ (dl : Addr) (Ds : List Dw), vs = [.ref dl] ∧ DosAt C c H dl Ds ∧ OkD Ds ∧ ∀ (r : Addr) (H' : Hp) (f : Pw.Fs) (xs : List V), Same H H' → H' r = some (.lst xs) → FsAt H' f xs → Pw.IsF (getD Ds) f (List.range Ds.length) 0 → fdep f ≤ 4 → Q (.ref r) H'
noncomputable def spWItems (C : Addr) (c : Cs) (n : Nat) : Sp := fun vs H Q _ => ∃ (dl il : Addr) (d : Nat) (Ds : List Dw) (f : Pw.Fs) (xs : List V) (R : Pw.Rw LpT Str), vs = [.ref dl, .ref il, .int (d : Int)] ∧ DosAt C c H dl Ds ∧ (∀ D ∈ Ds, D.Ok) ∧ H il = some (.lst xs) ∧ FsAt H f xs ∧ fdep f < n ∧ d + n ≤ 10 ∧ Pw.RowsF (getD Ds) f d R ∧ R.length ≤ 100 ∧ ∀ (r : Addr) (H' : Hp), Same H H' → H' r = some (.lst ((R.map rowS).map V.str)) → Q (.ref r) H'
noncomputable def prgS (n : Int) (R : Pw.Rw LpT Str) : Str := Txt.join "\n" (("size " ++ nS n) :: R.map rowS)
noncomputable def PrgW (CP C : Addr) (c : Cs) (H : Hp) (v : V) (n : Int) (Ds : List Dw) : Prop := ∃ (x dx dl : Addr), v = .ref x ∧ H x = some (.ins CP dx [("size", .int n), ("deeds", .ref dl)]) ∧ DosAt C c H dl Ds
noncomputable def spWritten (CP C : Addr) (c : Cs) : Sp := fun vs H Q _ => ∃ (v : V) (n : Int) (Ds : List Dw), vs = [v] ∧ PrgW CP C c H v n Ds ∧ OkD Ds ∧ 0 ≤ n ∧ n ≤ 999999999999999999 ∧ ∀ (H' : Hp) (R : Pw.Rw LpT Str), Same H H' → Pw.LinA 0 (Ds.map Dw.dd) R → Q (.str (prgS n R)) H'
theorem getD_some {Ds : List Dw} {k : Nat} {D : Dw} (h : Ds[k]? = some D) : getD Ds k = some D.dd := by unfold getD; rw [h]; rfl
theorem getD_inv {Ds : List Dw} {k : Nat} {a : Pw.Dd LpT Str} (h : getD Ds k = some a) : ∃ D, Ds[k]? = some D ∧ D.dd = a := by
  unfold getD at h
  exact Option.map_eq_some_iff.mp h
theorem pat_some {Ds : List Dw} {d k : Nat} {D : Dw} (h : Ds[k]? = some D) : pat Ds d k = D.path.getD d 0 := by unfold pat; rw [h]
theorem got_range {Ds : List Dw} : Pw.Got (getD Ds) (List.range Ds.length) (Ds.map Dw.dd) := by
  have : ∀ (es fs : List Dw), fs ++ es = Ds → Pw.Got (getD Ds) (List.range' fs.length es.length) (es.map Dw.dd) := by
    intro es
    induction es with
    | nil => intro fs e; exact .nil
    | cons D es ih =>
      intro fs e
      have h := ih (fs ++ [D]) (by rw [List.append_assoc]; exact e)
      rw [List.length_append] at h
      refine .cons (getD_some ?_) h
      rw [← e, List.getElem?_append_right (Nat.le_refl _), Nat.sub_self]
      rfl
  have := this Ds [] rfl
  rw [List.range_eq_range']
  exact this
theorem row_ok {Ds : List Dw} (h : ∀ D ∈ Ds, D.Ok) : ∀ x ∈ Ds.map Dw.dd, x.loops.length ≤ 3 ∧ (∀ t ∈ x.loops, LpT.Ok t) ∧ x.txt.length ≤ 1200 := fun x hx => by
  obtain ⟨D, hD, rfl⟩ := List.mem_map.mp hx
  exact ⟨(h D hD).ll, (h D hD).lp, Dw.txt_len (h D hD)⟩
theorem rowB_of {p : Nat × Pw.Rr LpT Str} (h : Pw.RowOk LpT.Ok (fun s : Str => s.length ≤ 1200) p) : (rowS p).length ≤ 1300 := by
  obtain ⟨h1, h2⟩ := h
  unfold rowS
  rw [sLen, blk_len]
  have : (rrS p.2).length ≤ 1200 := by
    cases hp : p.2 with
    | opn t => rw [hp] at h2; have := lpS_len h2; show (lpS t).length ≤ 1200; omega
    | row s => rw [hp] at h2; exact h2
    | fin => show ("end" : Str).length ≤ 1200; have : ("end" : Str).length = 3 := by decide +kernel
             omega
  omega
theorem rows_sum {R : Pw.Rw LpT Str} {n : Int} (hn : 0 ≤ n ∧ n ≤ 999999999999999999) (hl : R.length ≤ 100) (h : ∀ p ∈ R, (rowS p).length ≤ 1300) : (((("size " : Str) ++ nS n) :: R.map rowS).map (·.length)).sum + ((("size " : Str) ++ nS n) :: R.map rowS).length * ("\n" : Str).length ≤ 200000 := by
  have h1 := sum_lens (ys := R.map rowS) (c := 1300) fun y hy => by
    obtain ⟨s, hs, rfl⟩ := List.mem_map.mp hy
    exact h s hs
  have e1 : ("size " : Str).length = 5 := by decide +kernel
  have e2 : ("\n" : Str).length = 1 := by decide +kernel
  have e3 := nS_len (i := n) (by omega) hn.2
  rw [List.map_cons, List.sum_cons, List.length_cons, List.length_map, e2, sLen]
  rw [List.length_map] at h1
  have : 1300 * R.length ≤ 1300 * 100 := Nat.mul_le_mul_left _ hl
  omega
noncomputable def wo2 (H : Hp) (a b : Addr) : Hp := fun x => if x = a ∨ x = b then none else H x
theorem wo2_same {H : Hp} {a b : Addr} : Same (wo2 H a b) H := fun x o h => by
  unfold wo2 at h
  split at h
  · cases h
  · exact h
theorem wo2_mono {H H' : Hp} {a b : Addr} (e : Same H H') : Same (wo2 H a b) (wo2 H' a b) := fun x o h => by
  unfold wo2 at h ⊢
  split at h
  · cases h
  · rename_i c; rw [if_neg c]; exact e x o h
theorem wo2_upd_l {H : Hp} {a b : Addr} {o : HO} : wo2 (upd H a o) a b = wo2 H a b := by
  funext x
  unfold wo2
  by_cases c : x = a ∨ x = b
  · rw [if_pos c, if_pos c]
  · rw [if_neg c, if_neg c, upd_ne fun z => c (.inl z)]
theorem wo2_upd_r {H : Hp} {a b : Addr} {o : HO} : wo2 (upd H b o) a b = wo2 H a b := by
  funext x
  unfold wo2
  by_cases c : x = a ∨ x = b
  · rw [if_pos c, if_pos c]
  · rw [if_neg c, if_neg c, upd_ne fun z => c (.inr z)]
theorem wo2_get {H : Hp} {a b x : Addr} {o : HO} (h : H x = some o) (h1 : x ≠ a) (h2 : x ≠ b) : wo2 H a b x = some o := by
  unfold wo2
  rw [if_neg (fun z => z.elim h1 h2)]
  exact h
noncomputable def GSt (H0 H : Hp) (gl : Addr) (xs : List V) (G : List (List Nat)) : Prop := (xs = [] ∧ G = []) ∨ ∃ (xs' : List V) (l : Addr) (G' : List (List Nat)) (h : Nat) (g : List Nat), xs = xs' ++ [.ref l] ∧ G = G' ++ [h :: g] ∧ All2 (IlAt (wo2 H gl l)) xs' G' ∧ H l = some (.lst (ilst (h :: g))) ∧ l ≠ gl ∧ H0 l = none
theorem GSt.len {H0 H : Hp} {gl : Addr} {xs : List V} {G : List (List Nat)} (h : GSt H0 H gl xs G) : xs.length = G.length := by
  rcases h with ⟨rfl, rfl⟩ | ⟨xs', l, G', h, g, rfl, rfl, ha, _⟩
  · rfl
  · rw [List.length_append, List.length_append, ha.1]; rfl
theorem GSt.all {H0 H : Hp} {gl : Addr} {xs : List V} {G : List (List Nat)} (h : GSt H0 H gl xs G) (hg : H gl = some (.lst xs)) : GrsAt H gl G := by
  refine ⟨xs, hg, ?_⟩
  rcases h with ⟨rfl, rfl⟩ | ⟨xs', l, G', h, g, rfl, rfl, ha, hl, _⟩
  · exact .nil
  · exact (ha.mono fun x g z => z.over wo2_same).snoc ⟨l, rfl, hl⟩
theorem GSt.new {H0 H : Hp} {gl l : Addr} {xs : List V} {G : List (List Nat)} {k : Nat} (h : GSt H0 H gl xs G) (hg : H gl = some (.lst xs)) (hl : H l = none) (hl0 : H0 l = none) : GSt H0 (upd (upd H l (.lst [V.int (k : Int)])) gl (.lst (xs ++ [.ref l]))) gl (xs ++ [.ref l]) (G ++ [[k]]) := by
  have nlg : l ≠ gl := (ne_of_none hg hl).symm
  refine .inr ⟨xs, l, G, k, [], rfl, rfl, ?_, by rw [upd_ne nlg]; exact upd_same, nlg, hl0⟩
  have keep : ∀ {x : Addr} {g : List Nat}, x ≠ gl → H x = some (.lst (ilst g)) → IlAt (wo2 (upd (upd H l (.lst [V.int (k : Int)])) gl (.lst (xs ++ [.ref l]))) gl l) (.ref x) g := fun {x g} hx h => by
    have nx := ne_of_none h hl
    exact ⟨x, rfl, wo2_get (by rw [upd_ne hx, upd_ne nx]; exact h) hx nx⟩
  rcases h with ⟨rfl, rfl⟩ | ⟨xs', l', G', h, g, rfl, rfl, ha, hl', nl', _⟩
  · exact .nil
  · refine (ha.mono fun x g z => ?_).snoc (keep nl' hl')
    obtain ⟨y, rfl, hy⟩ := z
    unfold wo2 at hy
    split at hy
    · cases hy
    · rename_i c
      exact keep (fun z => c (.inl z)) hy
theorem IsG.mem {Ds : List Dw} {d : Nat} {ns : List Nat} {G : List (List Nat)} (h : IsG Ds d ns G) : ∀ g ∈ G, ∀ x ∈ g, x ∈ ns := by
  induction h with
  | nil => intro g hg; cases hg
  | cons h1 h2 h3 ih =>
    intro g hg x hx
    rcases List.mem_cons.mp hg with rfl | hg
    · exact List.mem_append_left _ hx
    · exact List.mem_append_right _ (ih g hg x hx)
theorem IsG.glen {Ds : List Dw} {d : Nat} {ns : List Nat} {G : List (List Nat)} (h : IsG Ds d ns G) : ∀ g ∈ G, g.length ≤ ns.length := by
  induction h with
  | nil => intro g hg; cases hg
  | cons h1 h2 h3 ih =>
    intro g hg
    rw [List.length_append]
    rcases List.mem_cons.mp hg with rfl | hg
    · omega
    · have := ih g hg; omega
noncomputable def spTerm26 : Sp := fun vs H Q _ => ∃ (c : Int) (kl nl : Addr) (zs ns : List Str) (m : Nat), vs = [.int c, .ref kl, .ref nl] ∧ 1 ≤ m ∧ StrsAt H kl zs m ∧ StrsAt H nl ns 8 ∧ ∀ (x : V) (H' : Hp) (t : Tw), Same H H' → TpAt H' x t → t.Ok → t.sz ≤ 5 → Q x H'
noncomputable def spLoop26 : Sp := fun vs H Q _ => ∃ (c : Int) (nl o : Addr) (la : V) (ns : List Str) (ts : List LpT) (tl : LpT), vs = [.int c, .ref nl, .ref o, la] ∧ StrsAt H nl ns 8 ∧ ns.Nodup ∧ LpsAt H o ts ∧ ts.length ≤ 2 ∧ (∀ t ∈ ts, t.Ok) ∧ LptAt H la tl ∧ tl.Ok ∧ ∀ (r : V) (H' : Hp) (t : LpT), Same H H' → LptAt H' r t → t.Ok → Q r H'
noncomputable def spDeed26 : Sp := fun vs H Q _ => ∃ (c : Int) (o pt nl : Addr) (ns : List Str) (ts : List LpT) (path : List Int), vs = [.int c, .ref o, .ref pt, .ref nl] ∧ StrsAt H nl ns 8 ∧ LpsAt H o ts ∧ ts.length ≤ 3 ∧ (∀ t ∈ ts, t.Ok) ∧ H pt = some (.lst (path.map V.int)) ∧ path.length = ts.length + 1 ∧ ∀ (r : V) (H' : Hp) (D : Dw), Same H H' → DtAtO H' o r D → D.Ok → D.loops = ts → D.path = path → Q r H'
end L2
namespace L2
open PySem
theorem inV_str (z : Str) (l : List Str) : inV (.str z) (l.map V.str) = decide (z ∈ l) := by
  unfold inV
  induction l with
  | nil => rfl
  | cons y l ih =>
    rw [List.map_cons, List.any_cons, ih]
    have e : eqV (.str y) (.str z) = decide (z = y) := by
      show (y == z) = _
      rw [Bool.eq_iff_iff]
      simp only [beq_iff_eq, decide_eq_true_eq]
      exact ⟨fun e => e.symm, fun e => e.symm⟩
    rw [e, Bool.eq_iff_iff]
    simp
end L2
namespace L2
open PySem PySem.Spec PyProof.Rows
noncomputable def RwT (H : Hp) (x : V) (p : Nat × Pw.Rr LpT Str) : Prop := ∃ t, x = .ref t ∧ H t = some (.tup [.int (p.1 : Int), .str (rrS p.2)])
theorem RwT.tk {H H' : Hp} {x : V} {p : Nat × Pw.Rr LpT Str} (k : TK H H') (h : RwT H x p) : RwT H' x p := let ⟨t, e, h⟩ := h; ⟨t, e, k _ _ h⟩
structure HSt (H0 H : Hp) (rl dl o pt : Addr) (la : V) (ts : List LpT) (path : List Int) (R : Pw.Rw LpT Str) (Ds : List Dw) (tl : LpT) : Prop where
  same : Same H0 H
  op : LpsAt (wo2 H rl dl) o ts
  pa : wo2 H rl dl pt = some (.lst (path.map V.int))
  la : LptAt H la tl
  rows : ∃ xs, H rl = some (.lst xs) ∧ All2 (RwT H) xs R
  deeds : ∃ ys, H dl = some (.lst ys) ∧ All2 (DtAt (wo2 H rl dl)) ys Ds
  rne : rl ≠ dl
  h0r : H0 rl = none
  h0d : H0 dl = none
theorem HSt.over {H0 H H' : Hp} {rl dl o pt : Addr} {la : V} {ts : List LpT} {path : List Int} {R : Pw.Rw LpT Str} {Ds : List Dw} {tl : LpT} (h : HSt H0 H rl dl o pt la ts path R Ds tl) (e : Same H H') : HSt H0 H' rl dl o pt la ts path R Ds tl := by
  obtain ⟨xs, hx, ax⟩ := h.rows
  obtain ⟨ys, hy, ay⟩ := h.deeds
  exact ⟨h.same.trans e, h.op.over (wo2_mono e), wo2_mono e _ _ h.pa, h.la.tk (Same.tk e), ⟨xs, e _ _ hx, ax.mono fun _ _ z => z.tk (Same.tk e)⟩, ⟨ys, e _ _ hy, ay.mono fun _ _ z => z.over (wo2_mono e)⟩, h.rne, h.h0r, h.h0d⟩
theorem HSt.row {H0 H : Hp} {rl dl o pt : Addr} {la : V} {ts : List LpT} {path : List Int} {R : Pw.Rw LpT Str} {Ds : List Dw} {tl : LpT} (h : HSt H0 H rl dl o pt la ts path R Ds tl) {t : Addr} {xs : List V} {p : Nat × Pw.Rr LpT Str} (hx : H rl = some (.lst xs)) (ht : H t = some (.tup [.int (p.1 : Int), .str (rrS p.2)])) : HSt H0 (upd H rl (.lst (xs ++ [.ref t]))) rl dl o pt la ts path (R ++ [p]) Ds tl := by
  obtain ⟨xs', hx', ax⟩ := h.rows
  obtain ⟨ys, hy, ay⟩ := h.deeds
  rw [hx] at hx'
  cases hx'
  have tk : TK H (upd H rl (.lst (xs ++ [.ref t]))) := TK.upd hx
  exact ⟨fun b o hb => by rw [upd_ne (ne_of_none hb h.h0r)]; exact h.same _ _ hb, by rw [wo2_upd_l]; exact h.op, by rw [wo2_upd_l]; exact h.pa, h.la.tk tk, ⟨_, upd_same, (ax.mono fun _ _ z => z.tk tk).snoc ⟨t, rfl, tk _ _ ht⟩⟩, ⟨ys, by rw [upd_ne h.rne.symm]; exact hy, by rw [wo2_upd_l]; exact ay⟩, h.rne, h.h0r, h.h0d⟩
theorem HSt.deed {H0 H : Hp} {rl dl o pt : Addr} {la : V} {ts : List LpT} {path : List Int} {R : Pw.Rw LpT Str} {Ds : List Dw} {tl : LpT} (h : HSt H0 H rl dl o pt la ts path R Ds tl) {x : V} {ys : List V} {D : Dw} (hy : H dl = some (.lst ys)) (hD : DtAt (wo2 H rl dl) x D) : HSt H0 (upd H dl (.lst (ys ++ [x]))) rl dl o pt la ts path R (Ds ++ [D]) tl := by
  obtain ⟨xs, hx, ax⟩ := h.rows
  obtain ⟨ys', hy', ay⟩ := h.deeds
  rw [hy] at hy'
  cases hy'
  have tk : TK H (upd H dl (.lst (ys ++ [x]))) := TK.upd hy
  exact ⟨fun b o hb => by rw [upd_ne (ne_of_none hb h.h0d)]; exact h.same _ _ hb, by rw [wo2_upd_r]; exact h.op, by rw [wo2_upd_r]; exact h.pa, h.la.tk tk, ⟨xs, by rw [upd_ne h.rne]; exact hx, ax.mono fun _ _ z => z.tk tk⟩, ⟨_, upd_same, by rw [wo2_upd_r]; exact ay.snoc hD⟩, h.rne, h.h0r, h.h0d⟩
theorem HSt.newO {H0 H : Hp} {rl dl o pt : Addr} {la : V} {ts : List LpT} {path : List Int} {R : Pw.Rw LpT Str} {Ds : List Dw} {tl : LpT} (h : HSt H0 H rl dl o pt la ts path R Ds tl) {p : Addr} {vs : List V} {ts' : List LpT} (hp : H p = none) (hv : All2 (LptAt H) vs ts') : HSt H0 (upd H p (.lst vs)) rl dl p pt la ts' path R Ds tl := by
  have e := same_new hp (.lst vs)
  have n := h.over e
  obtain ⟨xs, hx, _⟩ := h.rows
  obtain ⟨ys, hy, _⟩ := h.deeds
  have n1 := (ne_of_none hx hp).symm
  have n2 := (ne_of_none hy hp).symm
  refine ⟨n.same, ⟨vs, wo2_get upd_same n1 n2, hv.mono fun v t z => ?_⟩, n.pa, n.la, n.rows, n.deeds, n.rne, n.h0r, n.h0d⟩
  obtain ⟨q, a, b, rfl, h0, ⟨qa, rfl, ha⟩, ⟨qb, rfl, hb⟩⟩ := z
  have g : ∀ {c : Addr} {zs : List V}, H c = some (.tup zs) → wo2 (upd H p (.lst vs)) rl dl c = some (.tup zs) := fun {c zs} hc => wo2_get (e _ _ hc) (ne_of hc hx (by intro z; cases z)) (ne_of hc hy (by intro z; cases z))
  exact ⟨q, .ref qa, .ref qb, rfl, g h0, ⟨qa, rfl, g ha⟩, ⟨qb, rfl, g hb⟩⟩
theorem HSt.newP {H0 H : Hp} {rl dl o pt : Addr} {la : V} {ts : List LpT} {path path' : List Int} {R : Pw.Rw LpT Str} {Ds : List Dw} {tl : LpT} (h : HSt H0 H rl dl o pt la ts path R Ds tl) {p : Addr} (hp : H p = none) : HSt H0 (upd H p (.lst (path'.map V.int))) rl dl o p la ts path' R Ds tl := by
  have n := h.over (same_new hp (.lst (path'.map V.int)))
  obtain ⟨xs, hx, _⟩ := h.rows
  obtain ⟨ys, hy, _⟩ := h.deeds
  exact ⟨n.same, n.op, wo2_get upd_same (ne_of_none hx hp).symm (ne_of_none hy hp).symm, n.la, n.rows, n.deeds, n.rne, n.h0r, n.h0d⟩
theorem DtAtO.wo2' {H : Hp} {rl dl o : Addr} {x : V} {D : Dw} {xs ys : List V} {ts : List LpT} (h : DtAtO H o x D) (hx : H rl = some (.lst xs)) (hy : H dl = some (.lst ys)) (op : LpsAt (L2.wo2 H rl dl) o ts) (eL : D.loops = ts) : DtAt (L2.wo2 H rl dl) x D := by
  obtain ⟨p, ps, pt, sh, rfl, h0, _, h2, h3, h4⟩ := h
  have tk : TK H (L2.wo2 H rl dl) := fun b zs hb => wo2_get hb (ne_of hb hx (by intro z; cases z)) (ne_of hb hy (by intro z; cases z))
  exact ⟨o, p, ps, pt, sh, rfl, tk _ _ h0, by rw [eL]; exact op, h2.tk tk, h3.tk tk, tk _ _ h4⟩
theorem HSt.start {H : Hp} {o pt rl dl q1 q2 la : Addr} (h1 : H o = none) (h2 : (upd H o (.lst [])) pt = none) (h3 : (upd (upd H o (.lst [])) pt (.lst [.int 0])) rl = none)
    (h4 : (upd (upd (upd H o (.lst [])) pt (.lst [.int 0])) rl (.lst [])) dl = none)
    (h5 : (upd (upd (upd (upd H o (.lst [])) pt (.lst [.int 0])) rl (.lst [])) dl (.lst [])) q1 = none)
    (h6 : (upd (upd (upd (upd (upd H o (.lst [])) pt (.lst [.int 0])) rl (.lst [])) dl (.lst [])) q1 (.tup [.str (Str.ofString ""), .int 0])) q2 = none)
    (h7 : (upd (upd (upd (upd (upd (upd H o (.lst [])) pt (.lst [.int 0])) rl (.lst [])) dl (.lst [])) q1 (.tup [.str (Str.ofString ""), .int 0])) q2 (.tup [.str (Str.ofString ""), .int 0])) la = none) :
    HSt H (upd (upd (upd (upd (upd (upd (upd H o (.lst [])) pt (.lst [.int 0])) rl (.lst [])) dl (.lst [])) q1 (.tup [.str (Str.ofString ""), .int 0])) q2 (.tup [.str (Str.ofString ""), .int 0])) la (.tup [.str (Str.ofString ""), .ref q1, .ref q2])) rl dl o pt (.ref la) [] [0] [] [] ⟨"", ("", 0), ("", 0)⟩ := by
  have s1 := same_new h1 (.lst [])
  have s2 := same_new h2 (.lst [.int 0])
  have s3 := same_new h3 (.lst [])
  have s4 := same_new h4 (.lst [])
  have s5 := same_new h5 (.tup [.str (Str.ofString ""), .int 0])
  have s6 := same_new h6 (.tup [.str (Str.ofString ""), .int 0])
  have s7 := same_new h7 (.tup [.str (Str.ofString ""), .ref q1, .ref q2])
  have a1 : (upd H o (.lst [])) o = some (.lst []) := upd_same
  have b1 := s2 _ _ a1
  have b2 : (upd (upd H o (.lst [])) pt (.lst [.int 0])) pt = some (.lst [.int 0]) := upd_same
  have c3 : (upd (upd (upd H o (.lst [])) pt (.lst [.int 0])) rl (.lst [])) rl = some (.lst []) := upd_same
  have nOr : o ≠ rl := ne_of_none b1 h3
  have nPr : pt ≠ rl := ne_of_none b2 h3
  have nOd : o ≠ dl := ne_of_none (s3 _ _ b1) h4
  have nPd : pt ≠ dl := ne_of_none (s3 _ _ b2) h4
  have nrd : rl ≠ dl := ne_of_none c3 h4
  have t := ((s4.trans s5).trans s6).trans s7
  have t5 := (s5.trans s6).trans s7
  refine ⟨((s1.trans s2).trans s3).trans t, ⟨[], wo2_get (t _ _ (s3 _ _ b1)) nOr nOd, .nil⟩, wo2_get (t _ _ (s3 _ _ b2)) nPr nPd, ⟨la, .ref q1, .ref q2, rfl, upd_same, ⟨q1, rfl, s7 _ _ (s6 _ _ upd_same)⟩, ⟨q2, rfl, s7 _ _ upd_same⟩⟩, ⟨[], t _ _ c3, .nil⟩, ⟨[], t5 _ _ upd_same, .nil⟩, nrd, (s1.trans s2).free h3, ((s1.trans s2).trans s3).free h4⟩
noncomputable def NL (H H' : Hp) : Prop := ∀ b o, H b = some o → (∀ xs, o ≠ .lst xs) → H' b = some o
theorem NL.tk {H H' : Hp} (h : NL H H') : TK H H' := fun b xs hb => h b _ hb (fun _ z => by cases z)
theorem NL.upd {H : Hp} {l : Addr} {xs : List V} {o : HO} (hl : H l = some (.lst xs)) : NL H (upd H l o) := fun b ob hb hn => by
  rw [upd_ne (fun z => by rw [z, hl] at hb; cases hb; exact hn _ rfl)]
  exact hb
theorem TbAt.nl {c : Cs} {H H' : Hp} (e : NL H H') : ∀ {t : Tw} {x : V}, TbAt c H t x → TbAt c H' t x
  | .n i, x, h => let ⟨t, dx, r, h⟩ := h; ⟨t, dx, r, e _ _ h (fun _ z => by cases z)⟩
  | .v z, x, h => let ⟨t, dx, r, h⟩ := h; ⟨t, dx, r, e _ _ h (fun _ z => by cases z)⟩
  | .c z sp, x, h => let ⟨t, dx, p, r, h, g⟩ := h; ⟨t, dx, p, r, e _ _ h (fun _ z => by cases z), g.tk e.tk⟩
  | .j z l r, x, h => let ⟨t, dx, a, b, r, h, g1, g2⟩ := h; ⟨t, dx, a, b, r, e _ _ h (fun _ z => by cases z), TbAt.nl e g1, TbAt.nl e g2⟩
theorem DoAt.nl {C : Addr} {c : Cs} {H H' : Hp} {x : V} {D : Dw} (e : NL H H') (h : DoAt C c H x D) : DoAt C c H' x D := by
  obtain ⟨p, dx, nm, lo, hi, ps, pt, ob, ls, hs, rfl, h0, h1, h2, h3, h4, h5, h6, h7, h8⟩ := h
  exact ⟨p, dx, nm, lo, hi, ps, pt, ob, ls, hs, rfl, e _ _ h0 (fun _ z => by cases z), e.tk _ _ h1, e.tk _ _ h2, h3.mono fun _ _ z => z.tk e.tk, e.tk _ _ h4, h5.mono fun _ _ z => z.tk e.tk, h6.tk e.tk, h7.nl e, e.tk _ _ h8⟩
noncomputable def spPlain : Sp := fun vs H Q _ => ∃ (rl : Addr) (n : Int) (xs : List V) (R : Pw.Rw LpT Str), vs = [.ref rl, .int n] ∧ H rl = some (.lst xs) ∧ All2 (RwT H) xs R ∧ R.length ≤ 100 ∧ (∀ p ∈ R, Pw.RowOk LpT.Ok (fun s : Str => s.length ≤ 1200) p) ∧ 0 ≤ n ∧ n ≤ 999999999999999999 ∧ ∀ H', Same H H' → Q (.str (prgS n R)) H'
noncomputable def spTold (C : Addr) (c : Cs) : Sp := fun vs H Q _ => ∃ (x : V) (D : Dw), vs = [x] ∧ DtAt H x D ∧ D.Ok ∧ ∀ (d : V) (H' : Hp), Same H H' → DoAt C c H' d D → Q d H'
theorem lpt_tree {K : PySem.W.Frag} {H : Hp} {v : V} {t : LpT} (h : LptAt H v t) : ∃ tr, TrIs K H v tr ∧ depT tr ≤ 2 := by
  obtain ⟨p, a, b, rfl, h0, ⟨qa, rfl, ha⟩, ⟨qb, rfl, hb⟩⟩ := h
  exact ⟨.tup [.v (.str t.nm), .tup [.v (.str t.lo.1), .v (.int t.lo.2)], .tup [.v (.str t.hi.1), .v (.int t.hi.2)]], .tup (SqT.of h0) (.cons (.flat rfl) (.cons (.tup (SqT.of ha) (.cons (.flat rfl) (.cons (.flat rfl) .nil))) (.cons (.tup (SqT.of hb) (.cons (.flat rfl) (.cons (.flat rfl) .nil))) .nil))), Nat.le_refl _⟩
theorem lpts_tree {K : PySem.W.Frag} {H : Hp} : ∀ (vs : List V), (∀ x ∈ vs, ∃ t, LptAt H x t) → ∃ ts, TrsIs K H vs ts ∧ ts.length = vs.length ∧ depTs ts ≤ 2
  | [], _ => ⟨[], .nil, rfl, Nat.zero_le _⟩
  | x :: vs, h => by
    obtain ⟨t, hx⟩ := h x List.mem_cons_self
    obtain ⟨tr, ht, hd⟩ := lpt_tree (K := K) hx
    obtain ⟨ts, h1, h2, h3⟩ := lpts_tree (K := K) vs fun y hy => h y (List.mem_cons_of_mem _ hy)
    refine ⟨tr :: ts, .cons ht h1, by rw [List.length_cons, List.length_cons, h2], ?_⟩
    rw [depTs]
    exact Nat.max_le.mpr ⟨hd, h3⟩
theorem lps_tree {K : PySem.W.Frag} {H : Hp} {o : Addr} {ts : List LpT} (h : LpsAt H o ts) : ∃ tr, TrIs K H (.ref o) (.lst tr) ∧ tr.length = ts.length ∧ depT (.lst tr) ≤ 60 := by
  obtain ⟨vs, h0, a⟩ := h
  obtain ⟨tr, g1, g2, g3⟩ := lpts_tree (K := K) vs fun x hx => by
    obtain ⟨i, hi, rfl⟩ := List.mem_iff_getElem.mp hx
    obtain ⟨t, _, ht⟩ := a.get' (List.getElem?_eq_getElem hi)
    exact ⟨t, ht⟩
  refine ⟨tr, .lst (SqL.of h0) g1, by rw [g2, a.1], ?_⟩
  rw [depT]
  omega
noncomputable def spProg26 (K : PySem.W.Frag) : Sp := fun vs H Q _ => ∃ (cl nl : Addr) (cs : List Int) (ns : List Str), vs = [.ref cl, .ref nl] ∧ SqL K H cl (cs.map V.int) ∧ cs.length ≤ 63 ∧ StrsAt H nl ns 8 ∧ ns.Nodup ∧ ∀ (t rl dl : Addr) (H' : Hp) (xs ys : List V) (R : Pw.Rw LpT Str) (Ds : List Dw), Same H H' → H' t = some (.tup [.ref rl, .ref dl]) → H' rl = some (.lst xs) → All2 (RwT H') xs R → H' dl = some (.lst ys) → All2 (DtAt H') ys Ds → (∀ D ∈ Ds, D.Ok) → Ds.length ≤ 7 → Ds ≠ [] → Pw.CC 0 (Ds.map Dw.dd) → Pw.LinA 0 (Ds.map Dw.dd) R → Q (.ref t) H'
end L2

set_option Elab.async false
set_option linter.all false
set_option maxRecDepth 100000
set_option maxHeartbeats 4000000

namespace Fw
open PySem L2


noncomputable def top (i : Nat) : Stmt := PySem.Challenge.pw_furrow_k26_programs_written.main.body.getD i (.Pass ⟨0, 0, 0, 0⟩)
noncomputable abbrev s_Number_init : Stmt := inClass (top 3) 0
noncomputable abbrev s_Value_init : Stmt := inClass (top 4) 0
noncomputable abbrev s_Cell_init : Stmt := inClass (top 5) 0
noncomputable abbrev s_Joined_init : Stmt := inClass (top 6) 0
noncomputable abbrev s_Deed_init : Stmt := inClass (top 8) 0
noncomputable abbrev s_Program_init : Stmt := inClass (top 9) 0
noncomputable abbrev s_nested : Stmt := top 10
noncomputable abbrev s_items_within : Stmt := top 11
noncomputable abbrev s_neighbours : Stmt := top 12
noncomputable abbrev s_written : Stmt := top 14
noncomputable abbrev s_written_items : Stmt := top 15
noncomputable abbrev s_written_loop : Stmt := top 16
noncomputable abbrev s_written_deed : Stmt := top 17
noncomputable abbrev s_written_cell : Stmt := top 18
noncomputable abbrev s_written_spot : Stmt := top 19
noncomputable abbrev s_written_term : Stmt := top 20
noncomputable abbrev s_bracketed : Stmt := top 21
noncomputable abbrev s_left_needs : Stmt := top 22
noncomputable abbrev s_right_needs : Stmt := top 23
noncomputable abbrev s_is_sum : Stmt := top 24
noncomputable abbrev s_l_cell_at : Stmt := top 26
noncomputable abbrev s_l_stream : Stmt := top 27
noncomputable abbrev s_l_names : Stmt := top 28
noncomputable abbrev s_l_number : Stmt := top 29
noncomputable abbrev s_l_spot_text : Stmt := top 30
noncomputable abbrev s_l_spot : Stmt := top 31
noncomputable abbrev s_l_cell : Stmt := top 32
noncomputable abbrev s_l_leaf : Stmt := top 33
noncomputable abbrev s_l_both : Stmt := top 34
noncomputable abbrev s_l_term : Stmt := top 35
noncomputable abbrev s_l_loop : Stmt := top 36
noncomputable abbrev s_l_deed : Stmt := top 37
noncomputable abbrev s_l_program : Stmt := top 38
noncomputable abbrev s_l_plain : Stmt := top 39
noncomputable abbrev s_l_made : Stmt := top 40
noncomputable abbrev s_l_told : Stmt := top 41
noncomputable abbrev s_law : Stmt := top 42
theorem sc_Number_init : FnScope ["self", "n"] ["self", "n"] (defScope s_Number_init) := ⟨rfl, rfl, rfl, by decide +kernel, rfl, by decide +kernel, by decide +kernel⟩
theorem sc_Value_init : FnScope ["self", "name"] ["self", "name"] (defScope s_Value_init) := ⟨rfl, rfl, rfl, by decide +kernel, rfl, by decide +kernel, by decide +kernel⟩
theorem sc_Cell_init : FnScope ["self", "table", "spots"] ["self", "table", "spots"] (defScope s_Cell_init) := ⟨rfl, rfl, rfl, by decide +kernel, rfl, by decide +kernel, by decide +kernel⟩
theorem sc_Joined_init : FnScope ["self", "sign", "left", "right"] ["self", "sign", "left", "right"] (defScope s_Joined_init) := ⟨rfl, rfl, rfl, by decide +kernel, rfl, by decide +kernel, by decide +kernel⟩
theorem sc_Deed_init : FnScope ["self", "names", "lows", "highs", "table", "spots", "term", "path"] ["self", "names", "lows", "highs", "table", "spots", "term", "path"] (defScope s_Deed_init) := ⟨rfl, rfl, rfl, by decide +kernel, rfl, by decide +kernel, by decide +kernel⟩
theorem sc_Program_init : FnScope ["self", "size", "deeds"] ["self", "size", "deeds"] (defScope s_Program_init) := ⟨rfl, rfl, rfl, by decide +kernel, rfl, by decide +kernel, by decide +kernel⟩
theorem sc_nested : FnScope ["deeds"] ["deeds"] (defScope s_nested) := ⟨rfl, rfl, rfl, by decide +kernel, rfl, by decide +kernel, by decide +kernel⟩
theorem sc_items_within : FnScope ["deeds", "numbers", "depth", "items", "group", "k"] ["deeds", "numbers", "depth"] (defScope s_items_within) := ⟨rfl, rfl, rfl, by decide +kernel, rfl, by decide +kernel, by decide +kernel⟩
theorem sc_neighbours : FnScope ["deeds", "numbers", "depth", "groups", "k"] ["deeds", "numbers", "depth"] (defScope s_neighbours) := ⟨rfl, rfl, rfl, by decide +kernel, rfl, by decide +kernel, by decide +kernel⟩
theorem sc_written : FnScope ["program", "size", "rows"] ["program"] (defScope s_written) := ⟨rfl, rfl, rfl, by decide +kernel, rfl, by decide +kernel, by decide +kernel⟩
theorem sc_written_items : FnScope ["deeds", "items", "depth", "blanks", "rows", "k", "inner"] ["deeds", "items", "depth"] (defScope s_written_items) := ⟨rfl, rfl, rfl, by decide +kernel, rfl, by decide +kernel, by decide +kernel⟩
theorem sc_written_loop : FnScope ["deed", "e", "name", "low", "high"] ["deed", "e"] (defScope s_written_loop) := ⟨rfl, rfl, rfl, by decide +kernel, rfl, by decide +kernel, by decide +kernel⟩
theorem sc_written_deed : FnScope ["deed", "cell", "term"] ["deed"] (defScope s_written_deed) := ⟨rfl, rfl, rfl, by decide +kernel, rfl, by decide +kernel, by decide +kernel⟩
theorem sc_written_cell : FnScope ["table", "spots"] ["table", "spots"] (defScope s_written_cell) := ⟨rfl, rfl, rfl, by decide +kernel, rfl, by decide +kernel, by decide +kernel⟩
theorem sc_written_spot : FnScope ["spot", "name", "n"] ["spot"] (defScope s_written_spot) := ⟨rfl, rfl, rfl, by decide +kernel, rfl, by decide +kernel, by decide +kernel⟩
theorem sc_written_term : FnScope ["term", "left", "right"] ["term"] (defScope s_written_term) := ⟨rfl, rfl, rfl, by decide +kernel, rfl, by decide +kernel, by decide +kernel⟩
theorem sc_bracketed : FnScope ["term", "needed", "text"] ["term", "needed"] (defScope s_bracketed) := ⟨rfl, rfl, rfl, by decide +kernel, rfl, by decide +kernel, by decide +kernel⟩
theorem sc_left_needs : FnScope ["term"] ["term"] (defScope s_left_needs) := ⟨rfl, rfl, rfl, by decide +kernel, rfl, by decide +kernel, by decide +kernel⟩
theorem sc_right_needs : FnScope ["term"] ["term"] (defScope s_right_needs) := ⟨rfl, rfl, rfl, by decide +kernel, rfl, by decide +kernel, by decide +kernel⟩
theorem sc_is_sum : FnScope ["term"] ["term"] (defScope s_is_sum) := ⟨rfl, rfl, rfl, by decide +kernel, rfl, by decide +kernel, by decide +kernel⟩
theorem sc_l_cell_at : FnScope ["_law_script", "_law_k"] ["_law_script", "_law_k"] (defScope s_l_cell_at) := ⟨rfl, rfl, rfl, by decide +kernel, rfl, by decide +kernel, by decide +kernel⟩
theorem sc_l_stream : FnScope ["_law_cell_here", "_law_many", "_law_found", "_law_number_here", "_law_k"] ["_law_cell_here", "_law_many"] (defScope s_l_stream) := ⟨rfl, rfl, rfl, by decide +kernel, rfl, by decide +kernel, by decide +kernel⟩
theorem sc_l_names : FnScope ["_law_cell_here", "_law_many", "_law_letters", "_law_xs", "_law_word", "_law_long", "_law_at", "_law_found", "_law_k", "_law_sign", "_law_name"] ["_law_cell_here", "_law_many"] (defScope s_l_names) := ⟨rfl, rfl, rfl, by decide +kernel, rfl, by decide +kernel, by decide +kernel⟩
theorem sc_l_number : FnScope ["_law_cell_here", "_law_far"] ["_law_cell_here", "_law_far"] (defScope s_l_number) := ⟨rfl, rfl, rfl, by decide +kernel, rfl, by decide +kernel, by decide +kernel⟩
theorem sc_l_spot_text : FnScope ["_law_spot_here"] ["_law_spot_here"] (defScope s_l_spot_text) := ⟨rfl, rfl, rfl, by decide +kernel, rfl, by decide +kernel, by decide +kernel⟩
theorem sc_l_spot : FnScope ["_law_one", "_law_other", "_law_known", "_law_n"] ["_law_one", "_law_other", "_law_known"] (defScope s_l_spot) := ⟨rfl, rfl, rfl, by decide +kernel, rfl, by decide +kernel, by decide +kernel⟩
theorem sc_l_cell : FnScope ["_law_xs", "_law_known", "_law_names_here", "_law_many", "_law_table", "_law_spots"] ["_law_xs", "_law_known", "_law_names_here"] (defScope s_l_cell) := ⟨rfl, rfl, rfl, by decide +kernel, rfl, by decide +kernel, by decide +kernel⟩
theorem sc_l_leaf : FnScope ["_law_cell_here", "_law_known", "_law_names_here", "_law_xs", "_law_n", "_law_name", "_law_one"] ["_law_cell_here", "_law_known", "_law_names_here"] (defScope s_l_leaf) := ⟨rfl, rfl, rfl, by decide +kernel, rfl, by decide +kernel, by decide +kernel⟩
theorem sc_l_both : FnScope ["_law_sign", "_law_left", "_law_right", "_law_hold", "_law_one", "_law_other"] ["_law_sign", "_law_left", "_law_right"] (defScope s_l_both) := ⟨rfl, rfl, rfl, by decide +kernel, rfl, by decide +kernel, by decide +kernel⟩
theorem sc_l_term : FnScope ["_law_cell_here", "_law_known", "_law_names_here", "_law_xs", "_law_stack", "_law_x", "_law_right", "_law_left"] ["_law_cell_here", "_law_known", "_law_names_here"] (defScope s_l_term) := ⟨rfl, rfl, rfl, by decide +kernel, rfl, by decide +kernel, by decide +kernel⟩
theorem sc_l_loop : FnScope ["_law_cell_here", "_law_names_here", "_law_opened", "_law_last", "_law_xs", "_law_known", "_law_rest", "_law_low"] ["_law_cell_here", "_law_names_here", "_law_opened", "_law_last"] (defScope s_l_loop) := ⟨rfl, rfl, rfl, by decide +kernel, rfl, by decide +kernel, by decide +kernel⟩
theorem sc_l_deed : FnScope ["_law_cell_here", "_law_opened", "_law_path", "_law_names_here", "_law_known", "_law_table", "_law_spots", "_law_text", "_law_term_here"] ["_law_cell_here", "_law_opened", "_law_path", "_law_names_here"] (defScope s_l_deed) := ⟨rfl, rfl, rfl, by decide +kernel, rfl, by decide +kernel, by decide +kernel⟩
theorem sc_l_program : FnScope ["_law_cells", "_law_names_here", "_law_opened", "_law_path", "_law_rows", "_law_deeds", "_law_last", "_law_cell_here", "_law_loop_here", "_law_text"] ["_law_cells", "_law_names_here"] (defScope s_l_program) := ⟨rfl, rfl, rfl, by decide +kernel, rfl, by decide +kernel, by decide +kernel⟩
theorem sc_l_plain : FnScope ["_law_rows", "_law_size"] ["_law_rows", "_law_size"] (defScope s_l_plain) := ⟨rfl, rfl, rfl, by decide +kernel, rfl, by decide +kernel, by decide +kernel⟩
theorem sc_l_made : FnScope ["_law_shape"] ["_law_shape"] (defScope s_l_made) := ⟨rfl, rfl, rfl, by decide +kernel, rfl, by decide +kernel, by decide +kernel⟩
theorem sc_l_told : FnScope ["_law_row", "_law_loops", "_law_lows", "_law_highs"] ["_law_row"] (defScope s_l_told) := ⟨rfl, rfl, rfl, by decide +kernel, rfl, by decide +kernel, by decide +kernel⟩
theorem sc_law : FnScope ["_law_script", "_law_names_here", "_law_size", "_law_rows", "_law_deeds", "_law_told_here", "_law_program_here", "_law_found", "_law_due"] ["_law_script"] (defScope s_law) := ⟨rfl, rfl, rfl, by decide +kernel, rfl, by decide +kernel, by decide +kernel⟩
theorem c_l_names_0 : compB (mkSc [(".0", .local), ("_law_x", .local), ("_law_letters", .free)]) (defScope s_l_names) ["_law_cell_here", "_law_many", "_law_letters", "_law_xs", "_law_word", "_law_long", "_law_at", "_law_found", "_law_k", "_law_sign", "_law_name"] ["_law_x", "_law_letters"] [none, some 2] = true := by decide +kernel
theorem c_l_names_0n : (["_law_x", "_law_letters"] : List Str).Nodup := by decide +kernel
theorem c_written_cell_0 : compB (mkSc [(".0", .local), ("spot", .local), ("written_spot", .globalImplicit)]) (defScope s_written_cell) ["table", "spots"] ["spot"] [none] = true := by decide +kernel
theorem c_written_cell_0n : (["spot"] : List Str).Nodup := by decide +kernel
theorem c_l_cell_0 : compB (mkSc [(".0", .local), ("_law_k", .local), ("_law_spot", .globalImplicit), ("_law_known", .free), ("_law_xs", .free)]) (defScope s_l_cell) ["_law_xs", "_law_known", "_law_names_here", "_law_many", "_law_table", "_law_spots"] ["_law_k", "_law_known", "_law_xs"] [none, some 1, some 0] = true := by decide +kernel
theorem c_l_cell_0n : (["_law_k", "_law_known", "_law_xs"] : List Str).Nodup := by decide +kernel
theorem c_l_cell_1 : compB (mkSc [(".0", .local), ("_law_spot_here", .local), ("_law_spot_text", .globalImplicit)]) (defScope s_l_cell) ["_law_xs", "_law_known", "_law_names_here", "_law_many", "_law_table", "_law_spots"] ["_law_spot_here"] [none] = true := by decide +kernel
theorem c_l_cell_1n : (["_law_spot_here"] : List Str).Nodup := by decide +kernel
theorem c_l_loop_0 : compB (mkSc [(".0", .local), ("_law_one", .local)]) (defScope s_l_loop) ["_law_cell_here", "_law_names_here", "_law_opened", "_law_last", "_law_xs", "_law_known", "_law_rest", "_law_low"] ["_law_one"] [none] = true := by decide +kernel
theorem c_l_loop_0n : (["_law_one"] : List Str).Nodup := by decide +kernel
theorem c_l_loop_1 : compB (mkSc [(".0", .local), ("_law_name", .local), ("_law_known", .free)]) (defScope s_l_loop) ["_law_cell_here", "_law_names_here", "_law_opened", "_law_last", "_law_xs", "_law_known", "_law_rest", "_law_low"] ["_law_name", "_law_known"] [none, some 5] = true := by decide +kernel
theorem c_l_loop_1n : (["_law_name", "_law_known"] : List Str).Nodup := by decide +kernel
theorem c_l_deed_0 : compB (mkSc [(".0", .local), ("_law_one", .local)]) (defScope s_l_deed) ["_law_cell_here", "_law_opened", "_law_path", "_law_names_here", "_law_known", "_law_table", "_law_spots", "_law_text", "_law_term_here"] ["_law_one"] [none] = true := by decide +kernel
theorem c_l_deed_0n : (["_law_one"] : List Str).Nodup := by decide +kernel
theorem c_l_plain_0 : compB (mkSc [(".0", .local), ("_law_deep", .local), ("_law_text", .local)]) (defScope s_l_plain) ["_law_rows", "_law_size"] ["_law_deep", "_law_text"] [none, none] = true := by decide +kernel
theorem c_l_plain_0n : (["_law_deep", "_law_text"] : List Str).Nodup := by decide +kernel
theorem c_l_told_0 : compB (mkSc [(".0", .local), ("_law_one", .local)]) (defScope s_l_told) ["_law_row", "_law_loops", "_law_lows", "_law_highs"] ["_law_one"] [none] = true := by decide +kernel
theorem c_l_told_0n : (["_law_one"] : List Str).Nodup := by decide +kernel
theorem c_l_told_1 : compB (mkSc [(".0", .local), ("_law_one", .local)]) (defScope s_l_told) ["_law_row", "_law_loops", "_law_lows", "_law_highs"] ["_law_one"] [none] = true := by decide +kernel
theorem c_l_told_1n : (["_law_one"] : List Str).Nodup := by decide +kernel
theorem c_l_told_2 : compB (mkSc [(".0", .local), ("_law_one", .local)]) (defScope s_l_told) ["_law_row", "_law_loops", "_law_lows", "_law_highs"] ["_law_one"] [none] = true := by decide +kernel
theorem c_l_told_2n : (["_law_one"] : List Str).Nodup := by decide +kernel
theorem c_law_0 : compB (mkSc [(".0", .local), ("_law_row", .local), ("_law_told", .globalImplicit)]) (defScope s_law) ["_law_script", "_law_names_here", "_law_size", "_law_rows", "_law_deeds", "_law_told_here", "_law_program_here", "_law_found", "_law_due"] ["_law_row"] [none] = true := by decide +kernel
theorem c_law_0n : (["_law_row"] : List Str).Nodup := by decide +kernel
structure Ad where
  f_Number_init : Addr
  d_Number_init : FuncData
  f_Value_init : Addr
  d_Value_init : FuncData
  f_Cell_init : Addr
  d_Cell_init : FuncData
  f_Joined_init : Addr
  d_Joined_init : FuncData
  f_Deed_init : Addr
  d_Deed_init : FuncData
  f_Program_init : Addr
  d_Program_init : FuncData
  f_nested : Addr
  d_nested : FuncData
  f_items_within : Addr
  d_items_within : FuncData
  f_neighbours : Addr
  d_neighbours : FuncData
  f_written : Addr
  d_written : FuncData
  f_written_items : Addr
  d_written_items : FuncData
  f_written_loop : Addr
  d_written_loop : FuncData
  f_written_deed : Addr
  d_written_deed : FuncData
  f_written_cell : Addr
  d_written_cell : FuncData
  f_written_spot : Addr
  d_written_spot : FuncData
  f_written_term : Addr
  d_written_term : FuncData
  f_bracketed : Addr
  d_bracketed : FuncData
  f_left_needs : Addr
  d_left_needs : FuncData
  f_right_needs : Addr
  d_right_needs : FuncData
  f_is_sum : Addr
  d_is_sum : FuncData
  f_l_cell_at : Addr
  d_l_cell_at : FuncData
  f_l_stream : Addr
  d_l_stream : FuncData
  f_l_names : Addr
  d_l_names : FuncData
  f_l_number : Addr
  d_l_number : FuncData
  f_l_spot_text : Addr
  d_l_spot_text : FuncData
  f_l_spot : Addr
  d_l_spot : FuncData
  f_l_cell : Addr
  d_l_cell : FuncData
  f_l_leaf : Addr
  d_l_leaf : FuncData
  f_l_both : Addr
  d_l_both : FuncData
  f_l_term : Addr
  d_l_term : FuncData
  f_l_loop : Addr
  d_l_loop : FuncData
  f_l_deed : Addr
  d_l_deed : FuncData
  f_l_program : Addr
  d_l_program : FuncData
  f_l_plain : Addr
  d_l_plain : FuncData
  f_l_made : Addr
  d_l_made : FuncData
  f_l_told : Addr
  d_l_told : FuncData
  f_law : Addr
  d_law : FuncData
  c_Term : Addr
  c_Number : Addr
  c_Value : Addr
  c_Cell : Addr
  c_Joined : Addr
  c_Deed : Addr
  c_Program : Addr
structure Tx (K : PySem.W.Frag) (mg : Str → Option Value) (a : Ad) : Prop where
  F_Number_init : Fun K "__init__" "Number.__init__" s_Number_init a.f_Number_init a.d_Number_init
  b_Number_init : Binds K a.d_Number_init ["self", "n"] []
  F_Value_init : Fun K "__init__" "Value.__init__" s_Value_init a.f_Value_init a.d_Value_init
  b_Value_init : Binds K a.d_Value_init ["self", "name"] []
  F_Cell_init : Fun K "__init__" "Cell.__init__" s_Cell_init a.f_Cell_init a.d_Cell_init
  b_Cell_init : Binds K a.d_Cell_init ["self", "table", "spots"] []
  F_Joined_init : Fun K "__init__" "Joined.__init__" s_Joined_init a.f_Joined_init a.d_Joined_init
  b_Joined_init : Binds K a.d_Joined_init ["self", "sign", "left", "right"] []
  F_Deed_init : Fun K "__init__" "Deed.__init__" s_Deed_init a.f_Deed_init a.d_Deed_init
  b_Deed_init : Binds K a.d_Deed_init ["self", "names", "lows", "highs", "table", "spots", "term", "path"] []
  F_Program_init : Fun K "__init__" "Program.__init__" s_Program_init a.f_Program_init a.d_Program_init
  b_Program_init : Binds K a.d_Program_init ["self", "size", "deeds"] []
  F_nested : Fun K "nested" "nested" s_nested a.f_nested a.d_nested
  b_nested : Binds K a.d_nested ["deeds"] []
  m_nested : mg "nested" = some (.ref a.f_nested)
  F_items_within : Fun K "items_within" "items_within" s_items_within a.f_items_within a.d_items_within
  b_items_within : Binds K a.d_items_within ["deeds", "numbers", "depth"] []
  m_items_within : mg "items_within" = some (.ref a.f_items_within)
  F_neighbours : Fun K "neighbours" "neighbours" s_neighbours a.f_neighbours a.d_neighbours
  b_neighbours : Binds K a.d_neighbours ["deeds", "numbers", "depth"] []
  m_neighbours : mg "neighbours" = some (.ref a.f_neighbours)
  F_written : Fun K "written" "written" s_written a.f_written a.d_written
  b_written : Binds K a.d_written ["program"] []
  m_written : mg "written" = some (.ref a.f_written)
  F_written_items : Fun K "written_items" "written_items" s_written_items a.f_written_items a.d_written_items
  b_written_items : Binds K a.d_written_items ["deeds", "items", "depth"] []
  m_written_items : mg "written_items" = some (.ref a.f_written_items)
  F_written_loop : Fun K "written_loop" "written_loop" s_written_loop a.f_written_loop a.d_written_loop
  b_written_loop : Binds K a.d_written_loop ["deed", "e"] []
  m_written_loop : mg "written_loop" = some (.ref a.f_written_loop)
  F_written_deed : Fun K "written_deed" "written_deed" s_written_deed a.f_written_deed a.d_written_deed
  b_written_deed : Binds K a.d_written_deed ["deed"] []
  m_written_deed : mg "written_deed" = some (.ref a.f_written_deed)
  F_written_cell : Fun K "written_cell" "written_cell" s_written_cell a.f_written_cell a.d_written_cell
  b_written_cell : Binds K a.d_written_cell ["table", "spots"] []
  m_written_cell : mg "written_cell" = some (.ref a.f_written_cell)
  F_written_spot : Fun K "written_spot" "written_spot" s_written_spot a.f_written_spot a.d_written_spot
  b_written_spot : Binds K a.d_written_spot ["spot"] []
  m_written_spot : mg "written_spot" = some (.ref a.f_written_spot)
  F_written_term : Fun K "written_term" "written_term" s_written_term a.f_written_term a.d_written_term
  b_written_term : Binds K a.d_written_term ["term"] []
  m_written_term : mg "written_term" = some (.ref a.f_written_term)
  F_bracketed : Fun K "bracketed" "bracketed" s_bracketed a.f_bracketed a.d_bracketed
  b_bracketed : Binds K a.d_bracketed ["term", "needed"] []
  m_bracketed : mg "bracketed" = some (.ref a.f_bracketed)
  F_left_needs : Fun K "left_needs" "left_needs" s_left_needs a.f_left_needs a.d_left_needs
  b_left_needs : Binds K a.d_left_needs ["term"] []
  m_left_needs : mg "left_needs" = some (.ref a.f_left_needs)
  F_right_needs : Fun K "right_needs" "right_needs" s_right_needs a.f_right_needs a.d_right_needs
  b_right_needs : Binds K a.d_right_needs ["term"] []
  m_right_needs : mg "right_needs" = some (.ref a.f_right_needs)
  F_is_sum : Fun K "is_sum" "is_sum" s_is_sum a.f_is_sum a.d_is_sum
  b_is_sum : Binds K a.d_is_sum ["term"] []
  m_is_sum : mg "is_sum" = some (.ref a.f_is_sum)
  F_l_cell_at : Fun K "_law_cell_at" "_law_cell_at" s_l_cell_at a.f_l_cell_at a.d_l_cell_at
  b_l_cell_at : Binds K a.d_l_cell_at ["_law_script", "_law_k"] []
  m_l_cell_at : mg "_law_cell_at" = some (.ref a.f_l_cell_at)
  F_l_stream : Fun K "_law_stream" "_law_stream" s_l_stream a.f_l_stream a.d_l_stream
  b_l_stream : Binds K a.d_l_stream ["_law_cell_here", "_law_many"] []
  m_l_stream : mg "_law_stream" = some (.ref a.f_l_stream)
  F_l_names : Fun K "_law_names" "_law_names" s_l_names a.f_l_names a.d_l_names
  b_l_names : Binds K a.d_l_names ["_law_cell_here", "_law_many"] []
  m_l_names : mg "_law_names" = some (.ref a.f_l_names)
  F_l_number : Fun K "_law_number" "_law_number" s_l_number a.f_l_number a.d_l_number
  b_l_number : Binds K a.d_l_number ["_law_cell_here", "_law_far"] []
  m_l_number : mg "_law_number" = some (.ref a.f_l_number)
  F_l_spot_text : Fun K "_law_spot_text" "_law_spot_text" s_l_spot_text a.f_l_spot_text a.d_l_spot_text
  b_l_spot_text : Binds K a.d_l_spot_text ["_law_spot_here"] []
  m_l_spot_text : mg "_law_spot_text" = some (.ref a.f_l_spot_text)
  F_l_spot : Fun K "_law_spot" "_law_spot" s_l_spot a.f_l_spot a.d_l_spot
  b_l_spot : Binds K a.d_l_spot ["_law_one", "_law_other", "_law_known"] []
  m_l_spot : mg "_law_spot" = some (.ref a.f_l_spot)
  F_l_cell : Fun K "_law_cell" "_law_cell" s_l_cell a.f_l_cell a.d_l_cell
  b_l_cell : Binds K a.d_l_cell ["_law_xs", "_law_known", "_law_names_here"] []
  m_l_cell : mg "_law_cell" = some (.ref a.f_l_cell)
  F_l_leaf : Fun K "_law_leaf" "_law_leaf" s_l_leaf a.f_l_leaf a.d_l_leaf
  b_l_leaf : Binds K a.d_l_leaf ["_law_cell_here", "_law_known", "_law_names_here"] []
  m_l_leaf : mg "_law_leaf" = some (.ref a.f_l_leaf)
  F_l_both : Fun K "_law_both" "_law_both" s_l_both a.f_l_both a.d_l_both
  b_l_both : Binds K a.d_l_both ["_law_sign", "_law_left", "_law_right"] []
  m_l_both : mg "_law_both" = some (.ref a.f_l_both)
  F_l_term : Fun K "_law_term" "_law_term" s_l_term a.f_l_term a.d_l_term
  b_l_term : Binds K a.d_l_term ["_law_cell_here", "_law_known", "_law_names_here"] []
  m_l_term : mg "_law_term" = some (.ref a.f_l_term)
  F_l_loop : Fun K "_law_loop" "_law_loop" s_l_loop a.f_l_loop a.d_l_loop
  b_l_loop : Binds K a.d_l_loop ["_law_cell_here", "_law_names_here", "_law_opened", "_law_last"] []
  m_l_loop : mg "_law_loop" = some (.ref a.f_l_loop)
  F_l_deed : Fun K "_law_deed" "_law_deed" s_l_deed a.f_l_deed a.d_l_deed
  b_l_deed : Binds K a.d_l_deed ["_law_cell_here", "_law_opened", "_law_path", "_law_names_here"] []
  m_l_deed : mg "_law_deed" = some (.ref a.f_l_deed)
  F_l_program : Fun K "_law_program" "_law_program" s_l_program a.f_l_program a.d_l_program
  b_l_program : Binds K a.d_l_program ["_law_cells", "_law_names_here"] []
  m_l_program : mg "_law_program" = some (.ref a.f_l_program)
  F_l_plain : Fun K "_law_plain" "_law_plain" s_l_plain a.f_l_plain a.d_l_plain
  b_l_plain : Binds K a.d_l_plain ["_law_rows", "_law_size"] []
  m_l_plain : mg "_law_plain" = some (.ref a.f_l_plain)
  F_l_made : Fun K "_law_made" "_law_made" s_l_made a.f_l_made a.d_l_made
  b_l_made : Binds K a.d_l_made ["_law_shape"] []
  m_l_made : mg "_law_made" = some (.ref a.f_l_made)
  F_l_told : Fun K "_law_told" "_law_told" s_l_told a.f_l_told a.d_l_told
  b_l_told : Binds K a.d_l_told ["_law_row"] []
  m_l_told : mg "_law_told" = some (.ref a.f_l_told)
  F_law : Fun K "law" "law" s_law a.f_law a.d_law
  b_law : Binds K a.d_law ["_law_script"] []
  m_law : mg "law" = some (.ref a.f_law)
  cl_Term : Cls K a.c_Term
  mc_Term : mg "Term" = some (.ref a.c_Term)
  cl_Number : Cls K a.c_Number
  mc_Number : mg "Number" = some (.ref a.c_Number)
  mk_Number : Mk K a.c_Number a.f_Number_init
  n_Number_n : NoAttr K a.c_Number "n"
  cl_Value : Cls K a.c_Value
  mc_Value : mg "Value" = some (.ref a.c_Value)
  mk_Value : Mk K a.c_Value a.f_Value_init
  n_Value_name : NoAttr K a.c_Value "name"
  cl_Cell : Cls K a.c_Cell
  mc_Cell : mg "Cell" = some (.ref a.c_Cell)
  mk_Cell : Mk K a.c_Cell a.f_Cell_init
  n_Cell_table : NoAttr K a.c_Cell "table"
  n_Cell_spots : NoAttr K a.c_Cell "spots"
  cl_Joined : Cls K a.c_Joined
  mc_Joined : mg "Joined" = some (.ref a.c_Joined)
  mk_Joined : Mk K a.c_Joined a.f_Joined_init
  n_Joined_sign : NoAttr K a.c_Joined "sign"
  n_Joined_left : NoAttr K a.c_Joined "left"
  n_Joined_right : NoAttr K a.c_Joined "right"
  cl_Deed : Cls K a.c_Deed
  mc_Deed : mg "Deed" = some (.ref a.c_Deed)
  mk_Deed : Mk K a.c_Deed a.f_Deed_init
  n_Deed_names : NoAttr K a.c_Deed "names"
  n_Deed_lows : NoAttr K a.c_Deed "lows"
  n_Deed_highs : NoAttr K a.c_Deed "highs"
  n_Deed_table : NoAttr K a.c_Deed "table"
  n_Deed_spots : NoAttr K a.c_Deed "spots"
  n_Deed_term : NoAttr K a.c_Deed "term"
  n_Deed_path : NoAttr K a.c_Deed "path"
  cl_Program : Cls K a.c_Program
  mc_Program : mg "Program" = some (.ref a.c_Program)
  mk_Program : Mk K a.c_Program a.f_Program_init
  n_Program_size : NoAttr K a.c_Program "size"
  n_Program_deeds : NoAttr K a.c_Program "deeds"
  ty_Number : ∀ (H : Hp) (x dx : Addr) (fs : List (Str × V)), H x = some (.ins a.c_Number dx fs) → TyOf K H (.ref x) (.ref a.c_Number)
  is_Number_Term : PySem.W.kitOne K (.ref a.c_Number) (.ref a.c_Term) = some true
  is_Number_Number : PySem.W.kitOne K (.ref a.c_Number) (.ref a.c_Number) = some true
  is_Number_Value : PySem.W.kitOne K (.ref a.c_Number) (.ref a.c_Value) = some false
  is_Number_Cell : PySem.W.kitOne K (.ref a.c_Number) (.ref a.c_Cell) = some false
  is_Number_Joined : PySem.W.kitOne K (.ref a.c_Number) (.ref a.c_Joined) = some false
  is_Number_Deed : PySem.W.kitOne K (.ref a.c_Number) (.ref a.c_Deed) = some false
  is_Number_Program : PySem.W.kitOne K (.ref a.c_Number) (.ref a.c_Program) = some false
  ty_Value : ∀ (H : Hp) (x dx : Addr) (fs : List (Str × V)), H x = some (.ins a.c_Value dx fs) → TyOf K H (.ref x) (.ref a.c_Value)
  is_Value_Term : PySem.W.kitOne K (.ref a.c_Value) (.ref a.c_Term) = some true
  is_Value_Number : PySem.W.kitOne K (.ref a.c_Value) (.ref a.c_Number) = some false
  is_Value_Value : PySem.W.kitOne K (.ref a.c_Value) (.ref a.c_Value) = some true
  is_Value_Cell : PySem.W.kitOne K (.ref a.c_Value) (.ref a.c_Cell) = some false
  is_Value_Joined : PySem.W.kitOne K (.ref a.c_Value) (.ref a.c_Joined) = some false
  is_Value_Deed : PySem.W.kitOne K (.ref a.c_Value) (.ref a.c_Deed) = some false
  is_Value_Program : PySem.W.kitOne K (.ref a.c_Value) (.ref a.c_Program) = some false
  ty_Cell : ∀ (H : Hp) (x dx : Addr) (fs : List (Str × V)), H x = some (.ins a.c_Cell dx fs) → TyOf K H (.ref x) (.ref a.c_Cell)
  is_Cell_Term : PySem.W.kitOne K (.ref a.c_Cell) (.ref a.c_Term) = some true
  is_Cell_Number : PySem.W.kitOne K (.ref a.c_Cell) (.ref a.c_Number) = some false
  is_Cell_Value : PySem.W.kitOne K (.ref a.c_Cell) (.ref a.c_Value) = some false
  is_Cell_Cell : PySem.W.kitOne K (.ref a.c_Cell) (.ref a.c_Cell) = some true
  is_Cell_Joined : PySem.W.kitOne K (.ref a.c_Cell) (.ref a.c_Joined) = some false
  is_Cell_Deed : PySem.W.kitOne K (.ref a.c_Cell) (.ref a.c_Deed) = some false
  is_Cell_Program : PySem.W.kitOne K (.ref a.c_Cell) (.ref a.c_Program) = some false
  ty_Joined : ∀ (H : Hp) (x dx : Addr) (fs : List (Str × V)), H x = some (.ins a.c_Joined dx fs) → TyOf K H (.ref x) (.ref a.c_Joined)
  is_Joined_Term : PySem.W.kitOne K (.ref a.c_Joined) (.ref a.c_Term) = some true
  is_Joined_Number : PySem.W.kitOne K (.ref a.c_Joined) (.ref a.c_Number) = some false
  is_Joined_Value : PySem.W.kitOne K (.ref a.c_Joined) (.ref a.c_Value) = some false
  is_Joined_Cell : PySem.W.kitOne K (.ref a.c_Joined) (.ref a.c_Cell) = some false
  is_Joined_Joined : PySem.W.kitOne K (.ref a.c_Joined) (.ref a.c_Joined) = some true
  is_Joined_Deed : PySem.W.kitOne K (.ref a.c_Joined) (.ref a.c_Deed) = some false
  is_Joined_Program : PySem.W.kitOne K (.ref a.c_Joined) (.ref a.c_Program) = some false
  ty_Deed : ∀ (H : Hp) (x dx : Addr) (fs : List (Str × V)), H x = some (.ins a.c_Deed dx fs) → TyOf K H (.ref x) (.ref a.c_Deed)
  is_Deed_Term : PySem.W.kitOne K (.ref a.c_Deed) (.ref a.c_Term) = some false
  is_Deed_Number : PySem.W.kitOne K (.ref a.c_Deed) (.ref a.c_Number) = some false
  is_Deed_Value : PySem.W.kitOne K (.ref a.c_Deed) (.ref a.c_Value) = some false
  is_Deed_Cell : PySem.W.kitOne K (.ref a.c_Deed) (.ref a.c_Cell) = some false
  is_Deed_Joined : PySem.W.kitOne K (.ref a.c_Deed) (.ref a.c_Joined) = some false
  is_Deed_Deed : PySem.W.kitOne K (.ref a.c_Deed) (.ref a.c_Deed) = some true
  is_Deed_Program : PySem.W.kitOne K (.ref a.c_Deed) (.ref a.c_Program) = some false
  ty_Program : ∀ (H : Hp) (x dx : Addr) (fs : List (Str × V)), H x = some (.ins a.c_Program dx fs) → TyOf K H (.ref x) (.ref a.c_Program)
  is_Program_Term : PySem.W.kitOne K (.ref a.c_Program) (.ref a.c_Term) = some false
  is_Program_Number : PySem.W.kitOne K (.ref a.c_Program) (.ref a.c_Number) = some false
  is_Program_Value : PySem.W.kitOne K (.ref a.c_Program) (.ref a.c_Value) = some false
  is_Program_Cell : PySem.W.kitOne K (.ref a.c_Program) (.ref a.c_Cell) = some false
  is_Program_Joined : PySem.W.kitOne K (.ref a.c_Program) (.ref a.c_Joined) = some false
  is_Program_Deed : PySem.W.kitOne K (.ref a.c_Program) (.ref a.c_Deed) = some false
  is_Program_Program : PySem.W.kitOne K (.ref a.c_Program) (.ref a.c_Program) = some true
  z_abs : mg "abs" = none
  z_int : mg "int" = none
  z_isinstance : mg "isinstance" = none
  z_len : mg "len" = none
  z_list : mg "list" = none
  z_range : mg "range" = none
  z_str : mg "str" = none
  z_tuple : mg "tuple" = none
noncomputable def csOf (a : Ad) : Cs := ⟨a.c_Number, a.c_Value, a.c_Cell, a.c_Joined⟩
section
variable {P : Program} {w : World} {K : PySem.W.Frag} {mg : Str → Option Value} {base : Heap} {a : Ad}
theorem ok_cell_at (T : Tx K mg a) : FnOk P w K mg base CX0 1 a.f_l_cell_at a.d_l_cell_at ["_law_script", "_law_k"] (spCell K) := by
  refine T.F_l_cell_at.ok sc_l_cell_at (fun vs H Q E h => ?_) (fun cdv A outer s H vs Q E hr h => ?_)
  · obtain ⟨_, _, _, rfl, _⟩ := h; rfl
  obtain ⟨p, ns, k, rfl, hS, h0, q⟩ := h
  refine ⟨_, (@pss_cons _ _ _ _ _ (@ps_if _ _ _ _ _ _ _ _ (@pt_cmpR _ _ _ _ _ _ _ _ op_lt (pv 1) (@pe_callB _ _ _ _ _ _ _ _ _ call_len_seq (by rfl) T.z_len bt_len (@pa_cons _ _ _ _ _ (pv 0) pa_nil (by rfl)) (by decide) (by decide) (by rfl) (by rfl)) (@nomark _ _ (by decide) (by decide))) (@pss_one _ _ _ (@ps_ret _ _ _ _ (@pe_ix _ _ _ _ _ _ _ ix_list (pv 0) (pv 1) (fun _ _ => rfl)))) pss_nil) (@pss_one _ _ _ (@ps_ret _ _ _ _ pe_int))), ?_⟩
  have hl : (ns.map V.int).length = ns.length := List.length_map _
  refine ⟨_, rfl, _, rfl, p, _, rfl, .inl hS, _, _, rfl, rfl, _, rfl, ?_⟩
  refine ite2 (fun c => ?_) (fun c => ?_)
  · have c' := dT c
    rw [hl] at c'
    exact ⟨_, rfl, _, rfl, p, _, _, _, rfl, rfl, hS, cell_in h0 c', q⟩
  · have c' := dF c
    rw [hl] at c'
    rw [cell_out c'] at q
    exact q

theorem ok_stream (T : Tx K mg a) : FnOk P w K mg base CX0 1 a.f_l_stream a.d_l_stream ["_law_cell_here", "_law_many"] spStream := by
  refine T.F_l_stream.ok sc_l_stream (fun vs H Q E h => ?_) (fun cdv A outer s H vs Q E hr h => ?_)
  · obtain ⟨_, _, rfl, _⟩ := h; rfl
  obtain ⟨c, n, rfl, h0, h1, q⟩ := h
  refine ⟨_, (@pss_cons _ _ _ _ _ (@ps_set _ _ (2) _ _ _ _ sc_l_stream.nd rfl (Or.inl rfl) (@pe_lst _ _ _ _ pa_nil) (by rfl) (by first | exact .inl rfl | exact .inr rfl | assumption)) (@pss_cons _ _ _ _ _ (@ps_set _ _ (3) _ _ _ _ sc_l_stream.nd rfl (Or.inl rfl) (@pe_op _ _ _ _ _ _ _ _ op_add (@pe_op _ _ _ _ _ _ _ _ op_mod (pv 0) pe_int) pe_int) (by rfl) (by first | exact .inl rfl | exact .inr rfl | assumption)) (@pss_cons _ _ _ _ _ (@ps_for _ _ _ _ _ _ _ _ PassesOwn.never rfl (@pi_range1 _ _ _ _ _ _ (by rfl) T.z_range (@pa_cons _ _ _ _ _ (@pe_op _ _ _ _ _ _ _ _ op_add (pv 1) pe_int) pa_nil (by rfl)) (by rfl)) (pg_name (i := 4) sc_l_stream.nd rfl (Or.inl rfl)) (@pss_cons _ _ _ _ _ (@ps_set _ _ (3) _ _ _ _ sc_l_stream.nd rfl (Or.inl rfl) (@pe_op _ _ _ _ _ _ _ _ op_mod (@pe_op _ _ _ _ _ _ _ _ op_add (@pe_op _ _ _ _ _ _ _ _ op_add (@pe_op _ _ _ _ _ _ _ _ op_mul (pv 3) (pv 3)) (@pe_op _ _ _ _ _ _ _ _ op_mul pe_int (pv 3))) (pv 4)) pe_int) (by rfl) (by first | exact .inl rfl | exact .inr rfl | assumption)) (@pss_one _ _ _ (@ps_expr _ _ _ _ (@pe_bm _ _ _ _ _ _ _ _ _ _ _ _ PySem.F.plainAttrs_list PySem.F.slot_list_append PySem.F.type_list_append mt_append (pv 2) (@pa_cons _ _ _ _ _ (pv 3) pa_nil (by rfl)) (by rfl) (by rfl) (by rfl) (by rfl) (by rfl)) (by rfl)))) (by intro _ ; rfl)) (@pss_one _ _ _ (@ps_ret _ _ _ _ (@pe_slice _ _ _ _ _ _ _ _ _ _ sl_list (pv 2) (@po_some _ _ _ pe_int) po_none)))))), ?_⟩
  refine ⟨szl (by show 0 ≤ 1000000; decide), fun l hl => ?_⟩
  refine ⟨_, rfl, _, _, rfl, rfl, (by show (0 : Int) < 2147483647; decide), _, _, rfl, rfl, ?_⟩
  refine ⟨_, rfl, _, _, rfl, rfl, n + 1, rfl, by omega, by omega, ?_⟩
  refine for_range (lo := 0) (n := (n + 1).toNat) (fun i σ' H' => (∃ o1, σ' = [some (.int c), some (.int n), some (.ref l), some (.int (lastS (seedS c) 0 i)), o1]) ∧ Same H H' ∧ H' l = some (.lst ((seqS (seedS c) 0 i).map V.int))) ?_ (fun i σ' H' hi p => ?_) (fun σ' H' p => ?_)
  · exact ⟨⟨_, rfl⟩, same_new hl _, upd_same⟩
  · obtain ⟨⟨o1, rfl⟩, hs, hH⟩ := p
    obtain ⟨b0, b1⟩ := last_bound c i
    have bb := step_bound b0 b1
    have e1 : (lastS (seedS c) 0 i * lastS (seedS c) 0 i + 48271 * lastS (seedS c) 0 i + (0 + (i : Int))) % 2147483647 = lastS (seedS c) 0 (i + 1) := by rw [lastS_succ]; rfl
    have hz : ((seqS (seedS c) 0 i).map V.int).length < sizeLine := by rw [List.length_map, seqS_len]; exact szlt (by omega)
    refine ⟨_, rfl, _, rfl, _, _, rfl, rfl, .inl bb, _, rfl, _, _, rfl, rfl, .inl ⟨by decide, by decide⟩, _, _, rfl, rfl, _, rfl, _, _, rfl, rfl, _, _, rfl, rfl, (by show (0 : Int) < 2147483647; decide), ?_⟩
    refine ⟨_, rfl, .inl ⟨rfl, _, SqL.of hH⟩, _, rfl, l, _, _, rfl, rfl, hH, hz, ⟨_, congrArg (fun v => [some (V.int c), some (V.int n), some (V.ref l), some (V.int v), some (V.int (0 + (i : Int)))]) e1⟩, ?_, ?_⟩
    · exact fun b o e => by rw [upd_ne (ne_of_none e hl)]; exact hs b o e
    · rw [upd_same, seqS_snoc, List.map_append]
      show some (HO.lst (_ ++ [V.int _])) = _
      rw [e1]; rfl
  · obtain ⟨⟨o1, rfl⟩, hs, hH⟩ := p
    refine ⟨_, rfl, _, rfl, l, _, rfl, SqL.of hH, fun r hr' => ?_⟩
    rw [cutV_1]
    refine q r _ (hs.trans (same_new hr' _)) ?_
    rw [upd_same]
    unfold strm
    rw [show (n + 1).toNat = n.toNat + 1 by omega]

theorem ok_names (T : Tx K mg a) : FnOk P w K mg base CX0 2 a.f_l_names a.d_l_names ["_law_cell_here", "_law_many"] spNames24 := by
  have G_l_stream := ok_stream (P := P) (w := w) (base := base) T
  refine T.F_l_names.ok sc_l_names (fun vs H Q E h => ?_) (fun cdv A outer s H vs Q E hr h => ?_)
  · obtain ⟨_, rfl, _⟩ := h; rfl
  obtain ⟨c, rfl, q⟩ := h
  refine ⟨_, (@pss_cons _ _ _ _ _ (@ps_set _ _ (2) _ _ _ _ sc_l_names.nd rfl (Or.inr rfl) pe_str (by rfl) (by first | exact .inl rfl | exact .inr rfl | assumption)) (@pss_cons _ _ _ _ _ (@ps_set _ _ (3) _ _ _ _ sc_l_names.nd rfl (Or.inl rfl) (@pe_call _ _ _ _ _ _ _ _ _ _ _ _ _ _ _ _ G_l_stream (hr.mono (by omega)) (by rfl) T.m_l_stream T.F_l_stream.kp T.b_l_stream .nil pass0 (@pa_cons _ _ _ _ _ (pv 0) (@pa_cons _ _ _ _ _ pe_int pa_nil (by rfl)) (by rfl)) (by decide) (by rfl) (by rfl)) (by rfl) (by first | exact .inl rfl | exact .inr rfl | assumption)) (@pss_cons _ _ _ _ _ (@ps_set _ _ (4) _ _ _ _ sc_l_names.nd rfl (Or.inl rfl) (@pe_bm _ _ _ _ _ _ _ _ _ _ _ _ PySem.F.plainAttrs_str PySem.F.slot_str_join PySem.F.type_str_join mt_join pe_str (@pa_cons _ _ _ _ _ (@pe_compB _ _ _ _ _ _ _ ["_law_x", "_law_letters"] [none, some 2] _ _ _ _ (by rfl) (@pi_list _ _ _ _ (@pe_slice _ _ _ _ _ _ _ _ _ _ sl_list (pv 3) (@po_some _ _ _ pe_int) po_none)) c_l_names_0 (fun _ _ _ _ _ _ => ⟨(pg_name (i := 0) c_l_names_0n rfl (Or.inl rfl)), @pts_nil _, (@pe_ix _ _ _ _ _ _ _ ix_str (pv 1) (@pe_op _ _ _ _ _ _ _ _ op_mod (pv 0) pe_int) (fun _ _ => rfl))⟩) (by intro _ ; rfl)) pa_nil (by rfl)) (by rfl) (by rfl) (by rfl) (by rfl) (by rfl)) (by rfl) (by first | exact .inl rfl | exact .inr rfl | assumption)) (@pss_cons _ _ _ _ _ (@ps_if _ _ _ _ _ _ _ _ (@pt_cmpR _ _ _ _ _ _ _ _ op_eq (@pe_op _ _ _ _ _ _ _ _ op_mod (@pe_op _ _ _ _ _ _ _ _ op_fdiv (@pe_ix _ _ _ _ _ _ _ ix_list (pv 3) pe_int (fun _ _ => rfl)) pe_int) pe_int) pe_int (@nomark _ _ (by decide) (by decide))) (@pss_one _ _ _ (@ps_set _ _ (4) _ _ _ _ sc_l_names.nd rfl (Or.inl rfl) (@pe_slice _ _ _ _ _ _ _ _ _ _ sl_str (@pe_op _ _ _ _ _ _ _ _ op_add_str (@pe_ix _ _ _ _ _ _ _ ix_list (@pe_lstq _ _ _ _ (@paq_cons _ _ _ _ _ pe_str (@paq_cons _ _ _ _ _ pe_str (@paq_cons _ _ _ _ _ pe_str paq_nil star_C) star_C) star_C)) (@pe_op _ _ _ _ _ _ _ _ op_mod (@pe_op _ _ _ _ _ _ _ _ op_fdiv (@pe_ix _ _ _ _ _ _ _ ix_list (pv 3) pe_int (fun _ _ => rfl)) pe_int) pe_int) (fun _ _ => rfl)) (pv 4)) po_none (@po_some _ _ _ pe_int)) (by rfl) (by first | exact .inl rfl | exact .inr rfl | assumption))) pss_nil) (@pss_cons _ _ _ _ _ (@ps_set _ _ (5) _ _ _ _ sc_l_names.nd rfl (Or.inl rfl) (@pe_op _ _ _ _ _ _ _ _ op_add pe_int (@pe_op _ _ _ _ _ _ _ _ op_mod (@pe_ix _ _ _ _ _ _ _ ix_list (pv 3) pe_int (fun _ _ => rfl)) pe_int)) (by rfl) (by first | exact .inl rfl | exact .inr rfl | assumption)) (@pss_cons _ _ _ _ _ (@ps_set _ _ (6) _ _ _ _ sc_l_names.nd rfl (Or.inl rfl) (@pe_op _ _ _ _ _ _ _ _ op_mod (@pe_op _ _ _ _ _ _ _ _ op_fdiv (@pe_ix _ _ _ _ _ _ _ ix_list (pv 3) pe_int (fun _ _ => rfl)) pe_int) (pv 5)) (by rfl) (by first | exact .inl rfl | exact .inr rfl | assumption)) (@pss_cons _ _ _ _ _ (@ps_set _ _ (7) _ _ _ _ sc_l_names.nd rfl (Or.inl rfl) (@pe_lst _ _ _ _ pa_nil) (by rfl) (by first | exact .inl rfl | exact .inr rfl | assumption)) (@pss_cons _ _ _ _ _ (@ps_for _ _ _ _ _ _ _ _ PassesOwn.never rfl (@pi_range1 _ _ _ _ _ _ (by rfl) T.z_range (@pa_cons _ _ _ _ _ (pv 1) pa_nil (by rfl)) (by rfl)) (pg_name (i := 8) sc_l_names.nd rfl (Or.inl rfl)) (@pss_cons _ _ _ _ _ (@ps_set _ _ (9) _ _ _ _ sc_l_names.nd rfl (Or.inl rfl) (@pe_ix _ _ _ _ _ _ _ ix_str (pv 2) (@pe_op _ _ _ _ _ _ _ _ op_mod (@pe_op _ _ _ _ _ _ _ _ op_add (@pe_ix _ _ _ _ _ _ _ ix_list (pv 3) (@pe_op _ _ _ _ _ _ _ _ op_add pe_int (pv 6)) (fun _ _ => rfl)) (pv 8)) pe_int) (fun _ _ => rfl)) (by rfl) (by first | exact .inl rfl | exact .inr rfl | assumption)) (@pss_cons _ _ _ _ _ (@ps_set _ _ (10) _ _ _ _ sc_l_names.nd rfl (Or.inl rfl) (@pe_op _ _ _ _ _ _ _ _ op_add_str (@pe_op _ _ _ _ _ _ _ _ op_add_str (@pe_slice _ _ _ _ _ _ _ _ _ _ sl_str (pv 4) po_none (@po_some _ _ _ (pv 6))) (pv 9)) (@pe_slice _ _ _ _ _ _ _ _ _ _ sl_str (pv 4) (@po_some _ _ _ (@pe_op _ _ _ _ _ _ _ _ op_add (pv 6) pe_int)) (@po_some _ _ _ (pv 5)))) (by rfl) (by first | exact .inl rfl | exact .inr rfl | assumption)) (@pss_cons _ _ _ _ _ (@ps_if _ _ _ _ _ _ _ _ (@pt_cmpR _ _ _ _ _ _ _ _ op_eq (@pe_op _ _ _ _ _ _ _ _ op_mod (@pe_ix _ _ _ _ _ _ _ ix_list (pv 3) pe_int (fun _ _ => rfl)) pe_int) pe_int (@nomark _ _ (by decide) (by decide))) (@pss_one _ _ _ (@ps_set _ _ (10) _ _ _ _ sc_l_names.nd rfl (Or.inl rfl) (@pe_slice _ _ _ _ _ _ _ _ _ _ sl_str (pv 4) po_none (@po_some _ _ _ (@pe_op _ _ _ _ _ _ _ _ op_add pe_int (@pe_op _ _ _ _ _ _ _ _ op_mod (@pe_op _ _ _ _ _ _ _ _ op_add (pv 5) (@pe_op _ _ _ _ _ _ _ _ op_mul pe_int (pv 8))) pe_int)))) (by rfl) (by first | exact .inl rfl | exact .inr rfl | assumption))) pss_nil) (@pss_cons _ _ _ _ _ (@ps_if _ _ _ _ _ _ _ _ (@pt_cmpR _ _ _ _ _ _ _ _ op_in_seq (pv 10) (@pe_tupq _ _ _ _ _ (@paq_cons _ _ _ _ _ pe_str (@paq_cons _ _ _ _ _ pe_str (@paq_cons _ _ _ _ _ pe_str paq_nil star_C) star_C) star_C)) (by with_unfolding_all rfl)) (@pss_one _ _ _ (@ps_set _ _ (10) _ _ _ _ sc_l_names.nd rfl (Or.inl rfl) (@pe_op _ _ _ _ _ _ _ _ op_add_str pe_str (pv 10)) (by rfl) (by first | exact .inl rfl | exact .inr rfl | assumption))) pss_nil) (@pss_one _ _ _ (@ps_expr _ _ _ _ (@pe_bm _ _ _ _ _ _ _ _ _ _ _ _ PySem.F.plainAttrs_list PySem.F.slot_list_append PySem.F.type_list_append mt_append (pv 7) (@pa_cons _ _ _ _ _ (pv 10) pa_nil (by rfl)) (by rfl) (by rfl) (by rfl) (by rfl) (by rfl)) (by rfl))))))) (by intro _ ; rfl)) (@pss_one _ _ _ (@ps_ret _ _ _ _ (pv 7))))))))))), ?_⟩
  refine ⟨_, rfl, c, 10, rfl, by decide, by decide, fun rx H1 s1 hx => ?_⟩
  rw [show (10 : Int).toNat = 10 from rfl] at hx
  generalize hxs : strm c 10 = xs at hx
  have xl : xs.length = 10 := by rw [← hxs, strm_len]
  have xl' : (xs.map V.int).length = 10 := by rw [List.length_map, xl]
  have xm : ∀ y ∈ xs, 0 ≤ y ∧ y < 2147483647 := fun y hy => strm_mem (hxs ▸ hy)
  have atx : ∀ k : Nat, k < 10 → atI (xs.map V.int) ((k : Nat) : Int) = some (.int (xs.getD k 0)) := fun k hk => by
    have := cell_in (ns := xs) (k := ((k : Nat) : Int)) (by omega) (by omega)
    exact this
  -- the word
  refine ⟨rfl, _, rfl, _, rfl, rx, _, rfl, SqL.of hx, fun p2 hp2 => ?_⟩
  have hx2 : (upd H1 p2 (.lst (cutV (xs.map V.int) (some 2) none))) rx = some (.lst (xs.map V.int)) := by rw [upd_ne (ne_of_none hx hp2)]; exact hx
  have cut2 : cutV (xs.map V.int) (some 2) none = (xs.drop 2).map V.int := by
    have := cut_from (xs.map V.int) (i := 2) (by decide)
    rw [List.map_drop]
    exact this
  rw [cut2] at hx2 ⊢
  refine ⟨p2, rfl, ⟨_, SqL.of upd_same⟩, ?_⟩
  refine comp_list (xs := (xs.drop 2).map V.int) (fun i ys H' => H' = upd H1 p2 (.lst ((xs.drop 2).map V.int)) ∧ ys = ((xs.drop 2).take i).map fun x => V.str ⟨#[letC x]⟩) ⟨rfl, by simp⟩ (szl (by rw [List.length_map, List.length_drop]; omega)) (fun i ys H' hi p => ?_) (fun i x ys H' hc p => ?_) (fun ys H' p r hr' => ?_)
  · obtain ⟨rfl, rfl⟩ := p
    exact ⟨SqL.of upd_same, by rw [List.length_map, List.length_take]; omega⟩
  · obtain ⟨rfl, rfl⟩ := p
    rw [List.getElem?_map] at hc
    cases hy : (xs.drop 2)[i]? with
    | none => rw [hy] at hc; cases hc
    | some y =>
      rw [hy] at hc
      cases hc
      refine ⟨_, rfl, _, rfl, _, _, rfl, rfl, (by show (0 : Int) < 26; decide), _, _, _, rfl, rfl, abc_len, abc_at y, rfl, ?_⟩
      rw [take_snoc hy, List.map_append]
      rfl
  obtain ⟨rfl, rfl⟩ := p
  have full : ((xs.drop 2).take ((xs.drop 2).map V.int).length) = xs.drop 2 := by rw [List.length_map, List.take_length]
  rw [full]
  have e3 : Same H1 (upd (upd H1 p2 (.lst ((xs.drop 2).map V.int))) r (.lst ((xs.drop 2).map fun x => V.str ⟨#[letC x]⟩))) := (same_new hp2 _).trans (same_new hr' _)
  generalize hH3 : upd (upd H1 p2 (.lst ((xs.drop 2).map V.int))) r (.lst ((xs.drop 2).map fun x => V.str ⟨#[letC x]⟩)) = H3 at e3
  have hr3 : H3 r = some (.lst (((xs.drop 2).map fun x => (⟨#[letC x]⟩ : Str)).map V.str)) := by rw [← hH3, upd_same, List.map_map]; rfl
  have ew : Txt.join "" ((xs.drop 2).map fun x => (⟨#[letC x]⟩ : Str)) = sOf (nameW xs) := cds_ext (by
    rw [cds_join0, cds_sOf]
    unfold nameW
    generalize xs.drop 2 = l
    induction l with
    | nil => rfl
    | cons y l ih =>
      rw [List.map_cons, List.map_cons, List.flatten_cons, ih]
      rfl)
  refine ⟨_, r, _, rfl, rfl, .inl (SqL.of hr3), ?_, ?_⟩
  · have : ∀ l : List Int, ((l.map fun x => (⟨#[letC x]⟩ : Str)).map (·.length)).sum = l.length := fun l => by
      induction l with
      | nil => rfl
      | cons y l ih => rw [List.map_cons, List.map_cons, List.sum_cons, ih]; show 1 + l.length = l.length + 1; omega
    rw [this, List.length_map, List.length_drop, xl]
    show 10 - 2 + (10 - 2) * (Str.ofString "").length ≤ 16777216
    decide +kernel
  rw [ew]
  have hx3 := e3 _ _ hx
  have wl : (nameW xs).length = 8 := nameW_len xl
  generalize nameW xs = wd at wl
  obtain ⟨lb0, lb1⟩ := long_b xs
  obtain ⟨ab0, ab1⟩ := at_b xs
  dsimp only [gName]
  refine seq_any (fun σ' H' => Same H1 H' ∧ ∃ wd : List Nat, wd.length = 8 ∧ σ' = [some (.int c), some (.int 8), some (.str abc), some (.ref rx), some (.str (sOf wd)), none, none, none, none, none, none]) (fun σ' H4 pp => ?_) (fun nx => ?_)
  rotate_left
  · refine ⟨_, rfl, rx, _, _, _, rfl, rfl, SqL.of hx3, atx 0 (by decide), _, _, rfl, rfl, ⟨by decide, by decide⟩, _, _, rfl, rfl, (by show (0 : Int) < 8; decide), rfl, _, rfl, ?_⟩
    refine ite2 (fun _ => ?_) (fun _ => nx _ _ ⟨e3, wd, wl, rfl⟩)
    refine ⟨szl (by show 3 ≤ 1000000; decide), fun l3 hl3 => ?_⟩
    have s4 := same_new hl3 (.lst [V.str "for", V.str "end", V.str "size"])
    have m0 := Int.emod_nonneg (xs.getD 0 0 / 16) (show (3 : Int) ≠ 0 by decide)
    have m1 := Int.emod_lt_of_pos (xs.getD 0 0 / 16) (show (0 : Int) < 3 by decide)
    obtain ⟨rz, hrz, rl⟩ : ∃ rz : Str, atI [V.str "for", V.str "end", V.str "size"] (xs.getD 0 0 / 16 % 3) = some (.str rz) ∧ rz.length ≤ 4 := by
      generalize xs.getD 0 0 / 16 % 3 = j at m0 m1
      have : j = 0 ∨ j = 1 ∨ j = 2 := by omega
      rcases this with rfl | rfl | rfl
      · exact ⟨"for", rfl, by decide +kernel⟩
      · exact ⟨"end", rfl, by decide +kernel⟩
      · exact ⟨"size", rfl, by decide +kernel⟩
    refine ⟨_, rfl, rx, _, _, _, rfl, rfl, SqL.of (s4 _ _ hx3), atx 0 (by decide), _, _, rfl, rfl, ⟨by decide, by decide⟩, _, _, rfl, rfl, (by show (0 : Int) < 3; decide), l3, _, _, _, rfl, rfl, SqL.of upd_same, hrz, _, rfl, _, _, rfl, rfl, szl (by rw [len_sOf]; omega), _, rfl, _, rfl, szl (by rw [len_app, len_sOf]; omega), ?_⟩
    refine nx _ _ ⟨e3.trans s4, _, ?_, rfl⟩
    rw [cut_to _ (by decide), List.length_take, cds_app, List.length_append, cds_sOf, wl]
    show min 8 _ = 8
    omega
  obtain ⟨e4, wd, wl, rfl⟩ := pp
  have hx4 := e4 _ _ hx
  refine ⟨_, rfl, rx, _, _, _, rfl, rfl, SqL.of hx4, atx 1 (by decide), _, _, rfl, rfl, (by show (0 : Int) < 8; decide), _, _, rfl, rfl, ?_⟩
  refine ⟨_, rfl, rx, _, _, _, rfl, rfl, SqL.of hx4, atx 1 (by decide), _, _, rfl, rfl, ⟨by decide, by decide⟩, _, rfl, _, _, rfl, rfl, (by show (0 : Int) < 1 + xs.getD 1 0 % 8; exact lb0), ?_⟩
  refine ⟨szl (by show 0 ≤ 1000000; decide), fun l hl => ?_⟩
  have hl1 : H1 l = none := e4.free hl
  dsimp only [gName]
  refine ⟨_, rfl, 8, rfl, by decide, by decide, ?_⟩
  have wz : (sOf wd).length = 8 := by rw [len_sOf, wl]
  refine for_range (lo := 0) (n := 8) (fun i σ' H' => ∃ (o1 o2 o3 : Option V), σ' = [some (.int c), some (.int 8), some (.str abc), some (.ref rx), some (.str (sOf wd)), some (.int (nameLong xs)), some (.int (nameAt xs)), some (.ref l), o1, o2, o3] ∧ Same H1 H' ∧ H' l = some (.lst (((List.range i).map fun k : Nat => sOf (nameC xs wd (k : Int))).map V.str))) ?_ (fun i σ' H' hi p => ?_) (fun σ' H' p => ?_)
  · exact ⟨_, _, _, rfl, e4.trans (same_new hl _), upd_same⟩
  · obtain ⟨o1, o2, o3, rfl, hs, hH⟩ := p
    have hxx := hs _ _ hx
    refine ⟨_, rfl, _, rfl, _, rfl, _, _, rfl, rfl, rx, _, _, (.int (xs.getD (2 + nameAt xs).toNat 0)), rfl, rfl, SqL.of hxx, cell_in (by omega) (by omega), _, rfl, _, _, rfl, rfl, _, _, rfl, rfl, (by show (0 : Int) < 26; decide), _, _, _, rfl, rfl, abc_len, abc_at _, ?_⟩
    refine ⟨_, rfl, _, rfl, _, rfl, _, rfl, szl (by omega), _, rfl, _, _, rfl, rfl, ?_, ?_⟩
    · rw [len_sOf, cds_sOf, cut_to _ ab0]
      exact szl (by rw [List.length_take]; show _ + 1 ≤ 1000000; omega)
    refine ⟨_, rfl, _, rfl, _, _, rfl, rfl, _, rfl, _, rfl, _, rfl, _, rfl, szl (by omega), ?_⟩
    have e0 : (0 : Int) + (i : Int) = (i : Int) := by omega
    rw [cds_sOf, cut_to _ ab0, cut_mid _ (by omega) (by omega) (by omega) (by omega), e0]
    have eA : sOf (wd.take (nameAt xs).toNat) ++ (⟨#[letC (xs.getD (2 + nameAt xs).toNat 0 + (i : Int))]⟩ : Str) ++ sOf ((wd.drop (nameAt xs + 1).toNat).take ((nameLong xs).toNat - (nameAt xs + 1).toNat)) = sOf (nameA xs wd (i : Int)) :=
      cds_ext (by rw [cds_app, cds_app, cds_sOf, cds_sOf, cds_sOf]; rfl)
    refine ⟨_, _, rfl, rfl, ?_, ?_⟩
    · rw [len_app, len_sOf, len_sOf, List.length_take, List.length_take, List.length_drop]
      exact szl (by show _ + 1 + _ ≤ 1000000; omega)
    rw [eA]
    dsimp only [gName]
    refine seq_any (fun σ2 H2 => H2 = H' ∧ ∃ (o1 o2 : Option V), σ2 = [some (.int c), some (.int 8), some (.str abc), some (.ref rx), some (.str (sOf wd)), some (.int (nameLong xs)), some (.int (nameAt xs)), some (.ref l), o1, o2, some (.str (sOf (nameRaw xs wd (i : Int))))]) (fun σ2 H2 m => ?_) (fun rest => ?_)
    · obtain ⟨rfl, o4, o5, rfl⟩ := m
      refine seq_any (fun σ3 H3' => Same H2 H3' ∧ ∃ (o1 o2 : Option V), σ3 = [some (.int c), some (.int 8), some (.str abc), some (.ref rx), some (.str (sOf wd)), some (.int (nameLong xs)), some (.int (nameAt xs)), some (.ref l), o1, o2, some (.str (sOf (nameC xs wd (i : Int))))]) (fun σ3 H3' m => ?_) (fun rest => ?_)
      · obtain ⟨hs3, o6, o7, rfl⟩ := m
        have hl3 := hs3 _ _ hH
        refine ⟨_, rfl, .inl ⟨rfl, _, SqL.of hl3⟩, _, rfl, l, _, _, rfl, rfl, hl3, szlt (by rw [List.length_map, List.length_map, List.length_range]; omega), _, _, _, rfl, ?_, ?_⟩
        · exact fun b o e => by rw [upd_ne (ne_of_none e hl1)]; exact hs3 _ _ (hs b o e)
        · rw [upd_same, List.range_succ, List.map_append, List.map_append]
          rfl
      · refine ⟨_, rfl, szl (by show 3 ≤ 1000000; decide), fun tp htp => ?_⟩
        refine ⟨tp, [.str "for", .str "end", .str "size"], rfl, .inr (SqT.of upd_same), rfl, rfl, _, rfl, ?_⟩
        show if inV (V.str (sOf (nameRaw xs wd (i : Int)))) [.str "for", .str "end", .str "size"] = true then _ else _
        rw [in_resv]
        have hlr : (nameRaw xs wd (i : Int)).length ≤ 10 := by
          have := len_nameC wl (xs := xs) (i : Int)
          unfold nameC at this
          split at this
          · rw [List.length_append] at this; omega
          · exact this
        have hz2 : (Str.ofString "zz").length = 2 := by decide +kernel
        refine ite2 (fun cc => ?_) (fun cc => ?_)
        · have e : (Str.ofString "zz" ++ sOf (nameRaw xs wd (i : Int))) = sOf (nameC xs wd (i : Int)) := cds_ext (by
            rw [cds_app, cds_sOf, cds_sOf]
            unfold nameC
            rw [if_pos (dT cc)]
            congr 1)
          refine ⟨_, rfl, _, _, rfl, rfl, szl (by rw [len_sOf, hz2]; omega), ?_⟩
          rw [e]
          exact rest _ _ ⟨same_new htp _, _, _, rfl⟩
        · have e : sOf (nameRaw xs wd (i : Int)) = sOf (nameC xs wd (i : Int)) := by
            unfold nameC
            rw [if_neg (dF cc)]
          rw [e]
          exact rest _ _ ⟨same_new htp _, _, _, rfl⟩
    · refine ⟨_, rfl, rx, _, _, _, rfl, rfl, SqL.of hxx, atx 0 (by decide), _, _, rfl, rfl, (by show (0 : Int) < 2; decide), rfl, _, rfl, ?_⟩
      have key : (V.int (xs.getD 0 0 % 2) = V.int 0) ↔ xs.getD 0 0 % 2 = 0 := ⟨fun e => V.int.inj e, fun e => by rw [e]⟩
      refine ite2 (fun cc => ?_) (fun cc => ?_)
      · have c2 := key.mp (dT cc)
        refine ⟨_, rfl, _, rfl, _, rfl, _, _, rfl, rfl, .inl ⟨by decide, by decide⟩, _, _, rfl, rfl, _, _, rfl, rfl, (by show (0 : Int) < 8; decide), _, _, rfl, rfl, _, rfl, _, rfl, szl (by omega), ?_⟩
        have b0 := Int.emod_nonneg (nameLong xs + 3 * (i : Int)) (show (8 : Int) ≠ 0 by decide)
        have e : sOf (cutC (cds (sOf wd)) none (some (1 + (nameLong xs + 3 * (i : Int)) % 8))) = sOf (nameRaw xs wd (i : Int)) := by
          rw [cds_sOf, cut_to _ (by omega)]
          unfold nameRaw
          rw [if_pos c2]
          unfold nameB
          rfl
        exact rest _ _ ⟨rfl, _, _, congrArg (fun z => [some (V.int c), some (V.int 8), some (V.str abc), some (V.ref rx), some (V.str (sOf wd)), some (V.int (nameLong xs)), some (V.int (nameAt xs)), some (V.ref l), _, _, some (V.str z)]) e⟩
      · have c2 := fun z => dF cc (key.mpr z)
        have e : sOf (nameA xs wd (i : Int)) = sOf (nameRaw xs wd (i : Int)) := by
          unfold nameRaw
          rw [if_neg c2]
        exact rest _ _ ⟨rfl, _, _, congrArg (fun z => [some (V.int c), some (V.int 8), some (V.str abc), some (V.ref rx), some (V.str (sOf wd)), some (V.int (nameLong xs)), some (V.int (nameAt xs)), some (V.ref l), _, _, some (V.str z)]) e⟩
  · obtain ⟨o1, o2, o3, rfl, hs, hH⟩ := p
    refine ⟨_, rfl, q l H' _ (s1.trans hs) ⟨hH, by rw [List.length_map, List.length_range], fun z hz => ?_⟩ (namesZ_nd wl)⟩
    obtain ⟨k, _, rfl⟩ := List.mem_map.mp hz
    rw [len_sOf]
    have := len_nameC wl (xs := xs) (k : Int)
    omega

theorem ok_number (T : Tx K mg a) : FnOk P w K mg base CX0 1 a.f_l_number a.d_l_number ["_law_cell_here", "_law_far"] spNumber := by
  refine T.F_l_number.ok sc_l_number (fun vs H Q E h => ?_) (fun cdv A outer s H vs Q E hr h => ?_)
  · obtain ⟨_, _, rfl, _⟩ := h; rfl
  obtain ⟨c, far, rfl, h0, h1, q⟩ := h
  refine ⟨_, (@pss_cons _ _ _ _ _ (@ps_if _ _ _ _ _ _ _ _ (@pt_cmpR _ _ _ _ _ _ _ _ op_eq (@pe_op _ _ _ _ _ _ _ _ op_mod (pv 0) pe_int) pe_int (@nomark _ _ (by decide) (by decide))) (@pss_one _ _ _ (@ps_ret _ _ _ _ (@pe_op _ _ _ _ _ _ _ _ op_sub (@pe_op _ _ _ _ _ _ _ _ op_mod (@pe_op _ _ _ _ _ _ _ _ op_fdiv (pv 0) pe_int) pe_int) pe_int))) pss_nil) (@pss_one _ _ _ (@ps_ret _ _ _ _ (@pe_op _ _ _ _ _ _ _ _ op_sub (@pe_op _ _ _ _ _ _ _ _ op_mod (@pe_op _ _ _ _ _ _ _ _ op_fdiv (pv 0) pe_int) (@pe_op _ _ _ _ _ _ _ _ op_add (@pe_op _ _ _ _ _ _ _ _ op_mul pe_int (pv 1)) pe_int)) (pv 1))))), ?_⟩
  have key : (V.int (c % 3) = V.int 0) ↔ c % 3 = 0 := ⟨fun e => V.int.inj e, fun e => by rw [e]⟩
  refine ⟨_, rfl, _, _, rfl, rfl, (by show (0 : Int) < 3; decide), rfl, _, rfl, ?_⟩
  refine ite2 (fun cc => ?_) (fun cc => ?_)
  · refine ⟨_, rfl, _, _, rfl, rfl, ⟨by decide, by decide⟩, _, _, rfl, rfl, (by show (0 : Int) < 7; decide), _, _, rfl, rfl, ?_⟩
    unfold numZ at q
    rw [if_pos (key.mp (dT cc))] at q
    exact q
  · refine ⟨_, rfl, _, _, rfl, rfl, ⟨by decide, by decide⟩, _, rfl, _, _, rfl, rfl, .inl ⟨by decide, by decide⟩, _, _, rfl, rfl, _, _, rfl, rfl, (by show (0 : Int) < 2 * far + 1; omega), _, rfl, _, _, rfl, rfl, ?_⟩
    unfold numZ at q
    rw [if_neg (fun z => dF cc (key.mpr z))] at q
    exact q

theorem ok_inin (T : Tx K mg a) : FnOk P w K mg base CX0 1 a.f_Number_init a.d_Number_init ["self", "n"] (spIni a.c_Number ["n"]) := by
  refine T.F_Number_init.ok sc_Number_init (fun vs H Q E h => ?_) (fun cdv A outer s H vs Q E hr h => ?_)
  · obtain ⟨_, _, vs, rfl, hl, _⟩ := h; rw [List.length_cons, hl]; rfl
  obtain ⟨x, dx, vs, rfl, hl, hx, q⟩ := h
  obtain ⟨n, rfl⟩ : ∃ n, vs = [n] := by match vs, hl with | [n], _ => exact ⟨n, rfl⟩
  refine ⟨_, (@pss_one _ _ _ (@ps_fld _ _ _ _ _ _ _ _ (pv 0) (pv 1) rfl)), ?_⟩
  exact ⟨_, rfl, _, rfl, x, _, dx, _, rfl, hx, T.cl_Number, T.n_Number_n, (by show 0 < 1000; decide), q _ (fun b o e hb => by rw [upd_ne hb]; exact e) ⟨dx, upd_same⟩⟩
theorem ok_iniv (T : Tx K mg a) : FnOk P w K mg base CX0 1 a.f_Value_init a.d_Value_init ["self", "name"] (spIni a.c_Value ["name"]) := by
  refine T.F_Value_init.ok sc_Value_init (fun vs H Q E h => ?_) (fun cdv A outer s H vs Q E hr h => ?_)
  · obtain ⟨_, _, vs, rfl, hl, _⟩ := h; rw [List.length_cons, hl]; rfl
  obtain ⟨x, dx, vs, rfl, hl, hx, q⟩ := h
  obtain ⟨n, rfl⟩ : ∃ n, vs = [n] := by match vs, hl with | [n], _ => exact ⟨n, rfl⟩
  refine ⟨_, (@pss_one _ _ _ (@ps_fld _ _ _ _ _ _ _ _ (pv 0) (pv 1) rfl)), ?_⟩
  exact ⟨_, rfl, _, rfl, x, _, dx, _, rfl, hx, T.cl_Value, T.n_Value_name, (by show 0 < 1000; decide), q _ (fun b o e hb => by rw [upd_ne hb]; exact e) ⟨dx, upd_same⟩⟩
theorem ok_inic (T : Tx K mg a) : FnOk P w K mg base CX0 1 a.f_Cell_init a.d_Cell_init ["self", "table", "spots"] (spIni a.c_Cell ["table", "spots"]) := by
  refine T.F_Cell_init.ok sc_Cell_init (fun vs H Q E h => ?_) (fun cdv A outer s H vs Q E hr h => ?_)
  · obtain ⟨_, _, vs, rfl, hl, _⟩ := h; rw [List.length_cons, hl]; rfl
  obtain ⟨x, dx, vs, rfl, hl, hx, q⟩ := h
  obtain ⟨n, m, rfl⟩ : ∃ n m, vs = [n, m] := by match vs, hl with | [n, m], _ => exact ⟨n, m, rfl⟩
  refine ⟨_, (@pss_cons _ _ _ _ _ (@ps_fld _ _ _ _ _ _ _ _ (pv 0) (pv 1) rfl) (@pss_one _ _ _ (@ps_fld _ _ _ _ _ _ _ _ (pv 0) (pv 2) rfl))), ?_⟩
  refine ⟨_, rfl, _, rfl, x, _, dx, _, rfl, hx, T.cl_Cell, T.n_Cell_table, (by show 0 < 1000; decide), ?_⟩
  refine ⟨_, rfl, _, rfl, x, _, dx, _, rfl, upd_same, T.cl_Cell, T.n_Cell_spots, (by show 1 < 1000; decide), ?_⟩
  exact q _ (fun b o e hb => by repeat rw [upd_ne hb]
                                exact e) ⟨dx, upd_same⟩
theorem ok_inij (T : Tx K mg a) : FnOk P w K mg base CX0 1 a.f_Joined_init a.d_Joined_init ["self", "sign", "left", "right"] (spIni a.c_Joined ["sign", "left", "right"]) := by
  refine T.F_Joined_init.ok sc_Joined_init (fun vs H Q E h => ?_) (fun cdv A outer s H vs Q E hr h => ?_)
  · obtain ⟨_, _, vs, rfl, hl, _⟩ := h; rw [List.length_cons, hl]; rfl
  obtain ⟨x, dx, vs, rfl, hl, hx, q⟩ := h
  obtain ⟨n, m, o, rfl⟩ : ∃ n m o, vs = [n, m, o] := by match vs, hl with | [n, m, o], _ => exact ⟨n, m, o, rfl⟩
  refine ⟨_, (@pss_cons _ _ _ _ _ (@ps_fld _ _ _ _ _ _ _ _ (pv 0) (pv 1) rfl) (@pss_cons _ _ _ _ _ (@ps_fld _ _ _ _ _ _ _ _ (pv 0) (pv 2) rfl) (@pss_one _ _ _ (@ps_fld _ _ _ _ _ _ _ _ (pv 0) (pv 3) rfl)))), ?_⟩
  refine ⟨_, rfl, _, rfl, x, _, dx, _, rfl, hx, T.cl_Joined, T.n_Joined_sign, (by show 0 < 1000; decide), ?_⟩
  refine ⟨_, rfl, _, rfl, x, _, dx, _, rfl, upd_same, T.cl_Joined, T.n_Joined_left, (by show 1 < 1000; decide), ?_⟩
  refine ⟨_, rfl, _, rfl, x, _, dx, _, rfl, upd_same, T.cl_Joined, T.n_Joined_right, (by show 2 < 1000; decide), ?_⟩
  exact q _ (fun b o e hb => by repeat rw [upd_ne hb]
                                exact e) ⟨dx, upd_same⟩

theorem ok_dinit (T : Tx K mg a) : FnOk P w K mg base CX0 1 a.f_Deed_init a.d_Deed_init ["self", "names", "lows", "highs", "table", "spots", "term", "path"] (spDInit a.c_Deed) := by
  refine T.F_Deed_init.ok sc_Deed_init (fun vs H Q E h => ?_) (fun cdv A outer s H vs Q E hr h => ?_)
  · obtain ⟨_, _, _, _, _, _, _, _, _, rfl, _⟩ := h; rfl
  obtain ⟨x, dx, v1, v2, v3, v4, v5, v6, v7, rfl, hx, q⟩ := h
  refine ⟨_, (@pss_cons _ _ _ _ _ (@ps_fld _ _ _ _ _ _ _ _ (pv 0) (pv 1) rfl) (@pss_cons _ _ _ _ _ (@ps_fld _ _ _ _ _ _ _ _ (pv 0) (pv 2) rfl) (@pss_cons _ _ _ _ _ (@ps_fld _ _ _ _ _ _ _ _ (pv 0) (pv 3) rfl) (@pss_cons _ _ _ _ _ (@ps_fld _ _ _ _ _ _ _ _ (pv 0) (pv 4) rfl) (@pss_cons _ _ _ _ _ (@ps_fld _ _ _ _ _ _ _ _ (pv 0) (pv 5) rfl) (@pss_cons _ _ _ _ _ (@ps_fld _ _ _ _ _ _ _ _ (pv 0) (pv 6) rfl) (@pss_one _ _ _ (@ps_fld _ _ _ _ _ _ _ _ (pv 0) (pv 7) rfl)))))))), ?_⟩
  refine ⟨_, rfl, _, rfl, x, _, dx, _, rfl, hx, T.cl_Deed, T.n_Deed_names, (by show 0 < 1000; decide), ?_⟩
  refine ⟨_, rfl, _, rfl, x, _, dx, _, rfl, upd_same, T.cl_Deed, T.n_Deed_lows, (by show 1 < 1000; decide), ?_⟩
  refine ⟨_, rfl, _, rfl, x, _, dx, _, rfl, upd_same, T.cl_Deed, T.n_Deed_highs, (by show 2 < 1000; decide), ?_⟩
  refine ⟨_, rfl, _, rfl, x, _, dx, _, rfl, upd_same, T.cl_Deed, T.n_Deed_table, (by show 3 < 1000; decide), ?_⟩
  refine ⟨_, rfl, _, rfl, x, _, dx, _, rfl, upd_same, T.cl_Deed, T.n_Deed_spots, (by show 4 < 1000; decide), ?_⟩
  refine ⟨_, rfl, _, rfl, x, _, dx, _, rfl, upd_same, T.cl_Deed, T.n_Deed_term, (by show 5 < 1000; decide), ?_⟩
  refine ⟨_, rfl, _, rfl, x, _, dx, _, rfl, upd_same, T.cl_Deed, T.n_Deed_path, (by show 6 < 1000; decide), ?_⟩
  exact q _ (fun b o e hb => by repeat rw [upd_ne hb]
                                exact e) ⟨dx, upd_same⟩

theorem ok_pini (T : Tx K mg a) : FnOk P w K mg base CX0 1 a.f_Program_init a.d_Program_init ["self", "size", "deeds"] (spPIni K a.c_Program) := by
  refine T.F_Program_init.ok sc_Program_init (fun vs H Q E h => ?_) (fun cdv A outer s H vs Q E hr h => ?_)
  · obtain ⟨_, _, _, _, _, rfl, _⟩ := h; rfl
  obtain ⟨x, dx, sz, p, ys, rfl, hx, hp, q⟩ := h
  refine ⟨_, (@pss_cons _ _ _ _ _ (@ps_fld _ _ _ _ _ _ _ _ (pv 0) (pv 1) rfl) (@pss_one _ _ _ (@ps_fld _ _ _ _ _ _ _ _ (pv 0) (@pe_callTy _ _ _ _ _ _ _ _ _ call_list_of (by rfl) T.z_list bt_list (@pa_cons _ _ _ _ _ (pv 2) pa_nil (by rfl)) (by decide) (by decide) (by rfl) (by rfl)) rfl))), ?_⟩
  refine ⟨_, rfl, _, rfl, x, _, dx, _, rfl, hx, T.cl_Program, T.n_Program_size, (by show 0 < 1000; decide), ?_⟩
  refine ⟨_, rfl, p, ys, rfl, .inl (SqL.updI hp hx), fun l hl => ?_⟩
  have nxl : x ≠ l := fun e => by rw [e, upd_same] at hl; cases hl
  have hlH : H l = none := by rw [upd_ne (Ne.symm nxl)] at hl; exact hl
  refine ⟨_, rfl, x, _, dx, _, rfl, (by rw [upd_ne nxl]; exact upd_same), T.cl_Program, T.n_Program_deeds, (by show 1 < 1000; decide), ?_⟩
  refine q l _ hlH (fun b o e hb => ?_) ?_ ⟨dx, upd_same⟩
  · rw [upd_ne hb, upd_ne (ne_of_none e hlH), upd_ne hb]
    exact e
  · rw [upd_ne (Ne.symm nxl)]
    exact upd_same

theorem ok_wspot (T : Tx K mg a) : FnOk P w K mg base CX0 1 a.f_written_spot a.d_written_spot ["spot"] spSpotT := by
  refine T.F_written_spot.ok sc_written_spot (fun vs H Q E h => ?_) (fun cdv A outer s H vs Q E hr h => ?_)
  · obtain ⟨_, _, rfl, _⟩ := h; rfl
  obtain ⟨x, s, rfl, ⟨t, rfl, ht⟩, ⟨b0, b1, b2⟩, q⟩ := h
  refine ⟨_, (@pss_cons _ _ _ _ _ (@ps_set _ _ (1) _ _ _ _ sc_written_spot.nd rfl (Or.inl rfl) (@pe_ix _ _ _ _ _ _ _ ix_tup (pv 0) pe_int (fun _ _ => rfl)) (by rfl) (by first | exact .inl rfl | exact .inr rfl | assumption)) (@pss_cons _ _ _ _ _ (@ps_set _ _ (2) _ _ _ _ sc_written_spot.nd rfl (Or.inl rfl) (@pe_ix _ _ _ _ _ _ _ ix_tup (pv 0) pe_int (fun _ _ => rfl)) (by rfl) (by first | exact .inl rfl | exact .inr rfl | assumption)) (@pss_cons _ _ _ _ _ (@ps_if _ _ _ _ _ _ _ _ (@pt_cmpR _ _ _ _ _ _ _ _ op_eq (pv 1) pe_str (@nomark _ _ (by decide) (by decide))) (@pss_one _ _ _ (@ps_ret _ _ _ _ (@pe_callTy _ _ _ _ _ _ _ _ _ call_str_int (by rfl) T.z_str bt_str (@pa_cons _ _ _ _ _ (pv 2) pa_nil (by rfl)) (by decide) (by decide) (by rfl) (by rfl)))) pss_nil) (@pss_cons _ _ _ _ _ (@ps_if _ _ _ _ _ _ _ _ (@pt_cmpR _ _ _ _ _ _ _ _ op_eq (pv 2) pe_int (@nomark _ _ (by decide) (by decide))) (@pss_one _ _ _ (@ps_ret _ _ _ _ (pv 1))) pss_nil) (@pss_cons _ _ _ _ _ (@ps_if _ _ _ _ _ _ _ _ (@pt_cmpR _ _ _ _ _ _ _ _ op_gt (pv 2) pe_int (@nomark _ _ (by decide) (by decide))) (@pss_one _ _ _ (@ps_ret _ _ _ _ (@pe_joined3 _ _ _ _ _ _ _ _ (@pe_fmtS _ _ _ _ (pv 1)) pe_str (@pe_fmtI _ _ _ _ (pv 2))))) pss_nil) (@pss_one _ _ _ (@ps_ret _ _ _ _ (@pe_joined2 _ _ _ _ _ _ (@pe_fmtS _ _ _ _ (pv 1)) (@pe_fmtI _ _ _ _ (pv 2)))))))))), ?_⟩
  have nl := nS_len b1 b2
  unfold nS at nl
  have pl := plus_len
  have em : ∀ x : Str, Str.empty ++ x = x := fun x => cds_ext (by rw [cds_app]; rfl)
  unfold spS at q
  refine ⟨_, rfl, t, _, 0, _, rfl, rfl, SqT.of ht, rfl, ?_⟩
  dsimp only [gName]
  refine ⟨_, rfl, t, _, 1, _, rfl, rfl, SqT.of ht, rfl, ?_⟩
  dsimp only [gName]
  refine ⟨_, rfl, rfl, _, rfl, ?_⟩
  by_cases c1 : s.1 = ""
  · rw [if_pos c1] at q
    refine iteE (v := true) (decide_eq_true (congrArg V.str c1)) (iteT ?_)
    exact ⟨_, rfl, _, rfl, log_small b1 b2, q⟩
  rw [if_neg c1] at q
  refine iteE (v := false) (dS c1) (iteF ?_)
  refine ⟨_, rfl, rfl, _, rfl, ?_⟩
  by_cases c2 : s.2 = 0
  · rw [if_pos c2] at q
    refine iteE (v := true) (decide_eq_true (congrArg V.int c2)) (iteT ?_)
    exact ⟨_, rfl, q⟩
  rw [if_neg c2] at q
  refine iteE (v := false) (decide_eq_false fun z => c2 (V.int.inj z)) (iteF ?_)
  refine ⟨_, rfl, _, _, rfl, rfl, _, rfl, ?_⟩
  by_cases c3 : 0 < s.2
  · rw [if_pos c3] at q
    refine iteE (v := true) (decide_eq_true c3) (iteT ?_)
    refine ⟨_, rfl, _, rfl, szl (by omega), _, rfl, szl (by rw [em]; omega), ?_⟩
    rw [em]
    exact ⟨_, rfl, szl (by rw [sLen]; omega), _, rfl, _, rfl, log_small b1 b2, _, rfl, szl (by rw [sLen, sLen]; omega), q⟩
  · rw [if_neg c3] at q
    refine iteE (v := false) (decide_eq_false c3) (iteF ?_)
    refine ⟨_, rfl, _, rfl, szl (by omega), _, rfl, szl (by rw [em]; omega), ?_⟩
    rw [em]
    exact ⟨_, rfl, _, rfl, log_small b1 b2, _, rfl, szl (by rw [sLen]; omega), q⟩

theorem ok_wcell (T : Tx K mg a) : FnOk P w K mg base CX0 2 a.f_written_cell a.d_written_cell ["table", "spots"] spCellW := by
  have G_written_spot := ok_wspot (P := P) (w := w) (base := base) T
  refine T.F_written_cell.ok sc_written_cell (fun vs H Q E h => ?_) (fun cdv A outer s H vs Q E hr h => ?_)
  · obtain ⟨_, _, _, rfl, _⟩ := h; rfl
  obtain ⟨z, p, sp, rfl, ⟨xs, hp, ax⟩, zl, sl, hB, q⟩ := h
  refine ⟨_, (@pss_one _ _ _ (@ps_ret _ _ _ _ (@pe_op _ _ _ _ _ _ _ _ op_add_str (pv 0) (@pe_bm _ _ _ _ _ _ _ _ _ _ _ _ PySem.F.plainAttrs_str PySem.F.slot_str_join PySem.F.type_str_join mt_join pe_str (@pa_cons _ _ _ _ _ (@pe_compB _ _ _ _ _ _ _ ["spot"] [none] _ _ _ _ (by rfl) (@pi_tup _ _ _ _ (pv 1)) c_written_cell_0 (fun _ _ _ _ _ _ => ⟨(pg_name (i := 0) c_written_cell_0n rfl (Or.inl rfl)), @pts_nil _, (@pe_op _ _ _ _ _ _ _ _ op_add_str (@pe_op _ _ _ _ _ _ _ _ op_add_str pe_str (@pe_call _ _ _ _ _ _ _ _ _ _ _ _ _ _ _ _ G_written_spot (hr.mono (by omega)) (by rfl) T.m_written_spot T.F_written_spot.kp T.b_written_spot .nil pass0 (@pa_cons _ _ _ _ _ (pv 0) pa_nil (by rfl)) (by decide) (by rfl) (by rfl))) pe_str)⟩) (by intro _ ; rfl)) pa_nil (by rfl)) (by rfl) (by rfl) (by rfl) (by rfl) (by rfl))))), ?_⟩
  have xl := ax.1
  refine ⟨_, rfl, rfl, _, rfl, p, rfl, ⟨_, SqT.of hp⟩, ?_⟩
  refine comp_tup (xs := xs) (fun i ys H' => H' = H ∧ ys = ((sp.take i).map boxS).map V.str) ⟨rfl, rfl⟩ (szl (by omega)) (fun i ys H' hi pp => ⟨by rw [pp.1]; exact SqT.of hp, by rw [pp.2, List.length_map, List.length_map, List.length_take]; omega⟩) (fun i x ys H' hx pp => ?_) (fun ys H' pp r hr' => ?_)
  · obtain ⟨rfl, rfl⟩ := pp
    obtain ⟨s1, hs, hsp⟩ := ax.get' hx
    have hb := hB s1 (List.mem_of_getElem? hs)
    have l1 := spS_len hb
    have l2 : ("[" : Str).length = 1 := by decide +kernel
    have l3 : ("]" : Str).length = 1 := by decide +kernel
    refine ⟨_, rfl, x, s1, rfl, hsp, hb, _, _, rfl, rfl, szl (by omega), _, _, rfl, rfl, szl (by rw [sLen]; omega), rfl, ?_⟩
    rw [take_snoc hs, List.map_append, List.map_append]
    rfl
  obtain ⟨rfl, rfl⟩ := pp
  rw [List.take_of_length_le (by omega)]
  have hs := boxes_sum sl hB
  have cl := celS_len zl sl hB
  unfold celS at cl
  rw [sLen] at cl
  refine ⟨_, r, _, rfl, rfl, .inl (SqL.of upd_same), Nat.le_trans hs (by decide), _, _, rfl, rfl, szl (by omega), ?_⟩
  exact q _ (same_new hr' _)

theorem ok_stext (T : Tx K mg a) : FnOk P w K mg base CX0 1 a.f_l_spot_text a.d_l_spot_text ["_law_spot_here"] spSpotT := by
  refine T.F_l_spot_text.ok sc_l_spot_text (fun vs H Q E h => ?_) (fun cdv A outer s H vs Q E hr h => ?_)
  · obtain ⟨_, _, rfl, _⟩ := h; rfl
  obtain ⟨x, s, rfl, ⟨t, rfl, ht⟩, ⟨b0, b1, b2⟩, q⟩ := h
  refine ⟨_, (@pss_cons _ _ _ _ _ (@ps_if _ _ _ _ _ _ _ _ (@pt_cmpR _ _ _ _ _ _ _ _ op_eq (@pe_ix _ _ _ _ _ _ _ ix_tup (pv 0) pe_int (fun _ _ => rfl)) pe_str (@nomark _ _ (by decide) (by decide))) (@pss_one _ _ _ (@ps_ret _ _ _ _ (@pe_callTy _ _ _ _ _ _ _ _ _ call_str_int (by rfl) T.z_str bt_str (@pa_cons _ _ _ _ _ (@pe_ix _ _ _ _ _ _ _ ix_tup (pv 0) pe_int (fun _ _ => rfl)) pa_nil (by rfl)) (by decide) (by decide) (by rfl) (by rfl)))) pss_nil) (@pss_cons _ _ _ _ _ (@ps_if _ _ _ _ _ _ _ _ (@pt_cmpR _ _ _ _ _ _ _ _ op_eq (@pe_ix _ _ _ _ _ _ _ ix_tup (pv 0) pe_int (fun _ _ => rfl)) pe_int (@nomark _ _ (by decide) (by decide))) (@pss_one _ _ _ (@ps_ret _ _ _ _ (@pe_ix _ _ _ _ _ _ _ ix_tup (pv 0) pe_int (fun _ _ => rfl)))) pss_nil) (@pss_one _ _ _ (@ps_ret _ _ _ _ (@pe_op _ _ _ _ _ _ _ _ op_add_str (@pe_op _ _ _ _ _ _ _ _ op_add_str (@pe_ix _ _ _ _ _ _ _ ix_tup (pv 0) pe_int (fun _ _ => rfl)) (@pe_ix _ _ _ _ _ _ _ ix_str pe_str (@pe_callTy _ _ _ _ _ _ _ _ _ call_int1 (by rfl) T.z_int bt_int (@pa_cons _ _ _ _ _ (@pe_cmpR _ _ _ _ _ _ _ _ op_lt (@pe_ix _ _ _ _ _ _ _ ix_tup (pv 0) pe_int (fun _ _ => rfl)) pe_int (@nomark _ _ (by decide) (by decide))) pa_nil (by rfl)) (by decide) (by decide) (by rfl) (by rfl)) (fun _ _ => rfl))) (@pe_callTy _ _ _ _ _ _ _ _ _ call_str_int (by rfl) T.z_str bt_str (@pa_cons _ _ _ _ _ (@pe_callB _ _ _ _ _ _ _ _ _ call_abs (by rfl) T.z_abs bt_abs (@pa_cons _ _ _ _ _ (@pe_ix _ _ _ _ _ _ _ ix_tup (pv 0) pe_int (fun _ _ => rfl)) pa_nil (by rfl)) (by decide) (by decide) (by rfl) (by rfl)) pa_nil (by rfl)) (by decide) (by decide) (by rfl) (by rfl))))))), ?_⟩
  refine ⟨_, rfl, t, _, 0, _, rfl, rfl, SqT.of ht, rfl, rfl, _, rfl, ?_⟩
  by_cases c1 : s.1 = ""
  · unfold spS at q
    rw [if_pos c1] at q
    refine iteE (v := true) (decide_eq_true (congrArg V.str c1)) (iteT ?_)
    exact ⟨_, rfl, t, _, 1, _, rfl, rfl, SqT.of ht, rfl, _, rfl, log_small b1 b2, q⟩
  refine iteE (v := false) (dS c1) (iteF ?_)
  refine ⟨_, rfl, t, _, 1, _, rfl, rfl, SqT.of ht, rfl, rfl, _, rfl, ?_⟩
  by_cases c2 : s.2 = 0
  · unfold spS at q
    rw [if_neg c1, if_pos c2] at q
    refine iteE (v := true) (decide_eq_true (congrArg V.int c2)) (iteT ?_)
    exact ⟨_, rfl, t, _, 0, _, rfl, rfl, SqT.of ht, rfl, q⟩
  refine iteE (v := false) (decide_eq_false fun z => c2 (V.int.inj z)) (iteF ?_)
  rw [spS_law c1 c2] at q
  have nl := nS_len (i := if s.2 < 0 then -s.2 else s.2) (by split <;> omega) (by split <;> omega)
  unfold nS at nl q
  have lg := log_small (i := if s.2 < 0 then -s.2 else s.2) (by split <;> omega) (by split <;> omega)
  have a1 : atI (cds (Str.ofString "+-")) (if decide (s.2 < 0) = true then 1 else 0) = some (if s.2 < 0 then 45 else 43) := by
    by_cases c : s.2 < 0
    · rw [if_pos c, if_pos (decide_eq_true c)]; decide +kernel
    · rw [if_neg c, if_neg (fun z => c (of_decide_eq_true z))]; decide +kernel
  have a2 : (⟨#[if s.2 < 0 then 45 else 43]⟩ : Str) = if s.2 < 0 then ("-" : Str) else "+" := by
    by_cases c : s.2 < 0
    · rw [if_pos c, if_pos c]; decide +kernel
    · rw [if_neg c, if_neg c]; decide +kernel
  have a3 : (⟨#[if s.2 < 0 then 45 else 43]⟩ : Str).length = 1 := rfl
  rw [← a2] at q
  refine ⟨_, rfl, t, _, 0, _, rfl, rfl, SqT.of ht, rfl, _, rfl, t, _, 1, _, rfl, rfl, SqT.of ht, rfl, _, _, rfl, rfl, .inr ⟨_, rfl, _, _, _, rfl, rfl, (by decide +kernel), a1, _, _, rfl, rfl, szl (by omega), ?_⟩⟩
  exact ⟨_, rfl, t, _, 1, _, rfl, rfl, SqT.of ht, rfl, _, rfl, _, rfl, lg, _, _, rfl, rfl, szl (by rw [sLen]; omega), q⟩

theorem ok_spot24 (T : Tx K mg a) : FnOk P w K mg base CX0 2 a.f_l_spot a.d_l_spot ["_law_one", "_law_other", "_law_known"] spSpot24 := by
  have G_l_number := ok_number (P := P) (w := w) (base := base) T
  refine T.F_l_spot.ok sc_l_spot (fun vs H Q E h => ?_) (fun cdv A outer s H vs Q E hr h => ?_)
  · obtain ⟨_, _, _, _, _, rfl, _⟩ := h; rfl
  obtain ⟨x, y, kl, zs, m, rfl, m1, x0, x1, y0, y1, hk, q⟩ := h
  refine ⟨_, (@pss_cons _ _ _ _ _ (@ps_set _ _ (3) _ _ _ _ sc_l_spot.nd rfl (Or.inl rfl) (@pe_call _ _ _ _ _ _ _ _ _ _ _ _ _ _ _ _ G_l_number (hr.mono (by omega)) (by rfl) T.m_l_number T.F_l_number.kp T.b_l_number .nil pass0 (@pa_cons _ _ _ _ _ (@pe_op _ _ _ _ _ _ _ _ op_mul (@pe_op _ _ _ _ _ _ _ _ op_mul (pv 0) (pv 1)) pe_int) (@pa_cons _ _ _ _ _ (@pe_op _ _ _ _ _ _ _ _ op_sub (@pe_op _ _ _ _ _ _ _ _ op_pow pe_int pe_int) pe_int) pa_nil (by rfl)) (by rfl)) (by decide) (by rfl) (by rfl)) (by rfl) (by first | exact .inl rfl | exact .inr rfl | assumption)) (@pss_cons _ _ _ _ _ (@ps_if _ _ _ _ _ _ _ _ (@pt_cmpR _ _ _ _ _ _ _ _ op_eq (@pe_op _ _ _ _ _ _ _ _ op_mod (pv 1) pe_int) pe_int (@nomark _ _ (by decide) (by decide))) (@pss_one _ _ _ (@ps_set _ _ (3) _ _ _ _ sc_l_spot.nd rfl (Or.inl rfl) pe_int (by rfl) (by first | exact .inl rfl | exact .inr rfl | assumption))) pss_nil) (@pss_one _ _ _ (@ps_ret _ _ _ _ (@pe_tup _ _ _ _ _ (@pa_cons _ _ _ _ _ (@pe_ix _ _ _ _ _ _ _ ix_list (pv 2) (@pe_op _ _ _ _ _ _ _ _ op_mod (pv 0) (@pe_callB _ _ _ _ _ _ _ _ _ call_len_seq (by rfl) T.z_len bt_len (@pa_cons _ _ _ _ _ (pv 2) pa_nil (by rfl)) (by decide) (by decide) (by rfl) (by rfl))) (fun _ _ => rfl)) (@pa_cons _ _ _ _ _ (pv 3) pa_nil (by rfl)) (by rfl))))))), ?_⟩
  have bx : -(2 ^ 64 : Int) < x ∧ x < 2 ^ 64 := ⟨by omega, by omega⟩
  have bxy : -(2 ^ 64 : Int) < x * y ∧ x * y < 2 ^ 64 := by
    have h1 : x * y ≤ 2147483647 * 2147483647 := Int.mul_le_mul (by omega) (by omega) y0 (by decide)
    have h2 := Int.mul_nonneg x0 y0
    exact ⟨by omega, by omega⟩
  refine ⟨_, rfl, _, rfl, _, _, rfl, rfl, .inl bx, _, _, rfl, rfl, .inl bxy, _, _, rfl, rfl, ⟨by decide, by decide, by decide⟩, _, _, rfl, rfl, _, _, rfl, (by decide), (by decide), ?_⟩
  have nb := numZ_b (x * y * 7) (far := 10 ^ (18 : Int).toNat - 1) (by decide)
  dsimp only [gName]
  generalize numZ _ _ = nn at nb ⊢
  refine seq_any (fun σ' H' => H' = H ∧ ∃ n : Int, -999999999999999999 ≤ n ∧ n ≤ 999999999999999999 ∧ σ' = [some (.int x), some (.int y), some (.ref kl), some (.int n)]) (fun σ' H' pp => ?_) (fun nx => ?_)
  · obtain ⟨rfl, n, n0, n1, rfl⟩ := pp
    have lm : (((zs.map V.str).length : Nat) : Int) = (m : Int) := by rw [List.length_map, hk.2.1]
    have f0 := Int.emod_nonneg x (show (((zs.map V.str).length : Nat) : Int) ≠ 0 by omega)
    have f1 := Int.emod_lt_of_pos x (show (0 : Int) < (((zs.map V.str).length : Nat) : Int) by omega)
    obtain ⟨z, hz, zl⟩ := hk.at f0 (by omega)
    refine ⟨_, rfl, _, rfl, _, rfl, kl, _, rfl, .inl (SqL.of hk.1), _, _, rfl, rfl, (by show (0 : Int) < (((zs.map V.str).length : Nat) : Int); omega), kl, _, _, _, rfl, rfl, SqL.of hk.1, hz, _, rfl, szl (by show 2 ≤ 1000000; decide), fun r hr' => ?_⟩
    exact q _ _ (z, n) (same_new hr' _) ⟨r, rfl, upd_same⟩ ⟨zl, n0, n1⟩
  · refine ⟨_, rfl, _, _, rfl, rfl, (by show (0 : Int) < 4; decide), rfl, _, rfl, ?_⟩
    refine ite2 (fun _ => nx _ _ ⟨rfl, 0, by decide, by decide, rfl⟩) (fun _ => nx _ _ ⟨rfl, nn, nb.1, nb.2, rfl⟩)

theorem ok_cell24 (T : Tx K mg a) : FnOk P w K mg base CX0 3 a.f_l_cell a.d_l_cell ["_law_xs", "_law_known", "_law_names_here"] spCell24 := by
  have G_l_spot := ok_spot24 (P := P) (w := w) (base := base) T
  have G_l_spot_text := ok_stext (P := P) (w := w) (base := base) T
  refine T.F_l_cell.ok sc_l_cell (fun vs H Q E h => ?_) (fun cdv A outer s H vs Q E hr h => ?_)
  · obtain ⟨_, _, _, _, _, _, _, rfl, _⟩ := h; rfl
  obtain ⟨rx, kl, nl, xs, zs, ns, mk, rfl, mk1, hx, xl, xm, hk, hn, q⟩ := h
  refine ⟨_, (@pss_cons _ _ _ _ _ (@ps_set _ _ (3) _ _ _ _ sc_l_cell.nd rfl (Or.inl rfl) (@pe_op _ _ _ _ _ _ _ _ op_add pe_int (@pe_op _ _ _ _ _ _ _ _ op_mod (@pe_ix _ _ _ _ _ _ _ ix_list (pv 0) pe_int (fun _ _ => rfl)) pe_int)) (by rfl) (by first | exact .inl rfl | exact .inr rfl | assumption)) (@pss_cons _ _ _ _ _ (@ps_set _ _ (4) _ _ _ _ sc_l_cell.nd rfl (Or.inl rfl) (@pe_ix _ _ _ _ _ _ _ ix_list (pv 2) (@pe_op _ _ _ _ _ _ _ _ op_add (@pe_op _ _ _ _ _ _ _ _ op_sub (@pe_op _ _ _ _ _ _ _ _ op_mul pe_int (pv 3)) pe_int) (@pe_op _ _ _ _ _ _ _ _ op_mod (@pe_op _ _ _ _ _ _ _ _ op_fdiv (@pe_ix _ _ _ _ _ _ _ ix_list (pv 0) pe_int (fun _ _ => rfl)) pe_int) pe_int)) (fun _ _ => rfl)) (by rfl) (by first | exact .inl rfl | exact .inr rfl | assumption)) (@pss_cons _ _ _ _ _ (@ps_set _ _ (5) _ _ _ _ sc_l_cell.nd rfl (Or.inl rfl) (@pe_callTy _ _ _ _ _ _ _ _ _ call_tuple_of (by rfl) T.z_tuple bt_tuple (@pa_cons _ _ _ _ _ (@pe_compB _ _ _ _ _ _ _ ["_law_k", "_law_known", "_law_xs"] [none, some 1, some 0] _ _ _ _ (by rfl) (@pi_range1 _ _ _ _ _ _ (by rfl) T.z_range (@pa_cons _ _ _ _ _ (pv 3) pa_nil (by rfl)) (by rfl)) c_l_cell_0 (fun _ _ _ _ _ _ => ⟨(pg_name (i := 0) c_l_cell_0n rfl (Or.inl rfl)), @pts_nil _, (@pe_call _ _ _ _ _ _ _ _ _ _ _ _ _ _ _ _ G_l_spot (hr.mono (by omega)) (by rfl) T.m_l_spot T.F_l_spot.kp T.b_l_spot .nil pass0 (@pa_cons _ _ _ _ _ (@pe_ix _ _ _ _ _ _ _ (show IxR _ (rIxL K) from ix_list) (pv 2) (@pe_op _ _ _ _ _ _ _ _ op_add pe_int (pv 0)) (fun _ _ => rfl)) (@pa_cons _ _ _ _ _ (@pe_ix _ _ _ _ _ _ _ (show IxR _ (rIxL K) from ix_list) (pv 2) (@pe_op _ _ _ _ _ _ _ _ op_add pe_int (pv 0)) (fun _ _ => rfl)) (@pa_cons _ _ _ _ _ (pv 1) pa_nil (by rfl)) (by rfl)) (by rfl)) (by decide) (by rfl) (by rfl))⟩) (by intro _ ; rfl)) pa_nil (by rfl)) (by decide) (by decide) (by rfl) (by rfl)) (by rfl) (by first | exact .inl rfl | exact .inr rfl | assumption)) (@pss_one _ _ _ (@ps_ret _ _ _ _ (@pe_tupq _ _ _ _ _ (@paq_cons _ _ _ _ _ (pv 4) (@paq_cons _ _ _ _ _ (pv 5) (@paq_cons _ _ _ _ _ (@pe_op _ _ _ _ _ _ _ _ op_add_str (pv 4) (@pe_bm _ _ _ _ _ _ _ _ _ _ _ _ PySem.F.plainAttrs_str PySem.F.slot_str_join PySem.F.type_str_join mt_join pe_str (@pa_cons _ _ _ _ _ (@pe_compB _ _ _ _ _ _ _ ["_law_spot_here"] [none] _ _ _ _ (by rfl) (@pi_tup _ _ _ _ (pv 5)) c_l_cell_1 (fun _ _ _ _ _ _ => ⟨(pg_name (i := 0) c_l_cell_1n rfl (Or.inl rfl)), @pts_nil _, (@pe_op _ _ _ _ _ _ _ _ op_add_str (@pe_op _ _ _ _ _ _ _ _ op_add_str pe_str (@pe_call _ _ _ _ _ _ _ _ _ _ _ _ _ _ _ _ G_l_spot_text (hr.mono (by omega)) (by rfl) T.m_l_spot_text T.F_l_spot_text.kp T.b_l_spot_text .nil pass0 (@pa_cons _ _ _ _ _ (pv 0) pa_nil (by rfl)) (by decide) (by rfl) (by rfl))) pe_str)⟩) (by intro _ ; rfl)) pa_nil (by rfl)) (by rfl) (by rfl) (by rfl) (by rfl) (by rfl))) paq_nil star_B) star_N) star_N))))))), ?_⟩
  have atx : ∀ k : Nat, k < 5 → atI (xs.map V.int) ((k : Nat) : Int) = some (.int (xs.getD k 0)) := fun k hk => cell_in (ns := xs) (k := ((k : Nat) : Int)) (by omega) (by omega)
  have xb : ∀ k : Nat, k < 5 → 0 ≤ xs.getD k 0 ∧ xs.getD k 0 < 2147483647 := fun k hk => by
    have hm : xs.getD k 0 ∈ xs := by rw [List.getD_eq_getElem?_getD, List.getElem?_eq_getElem (by omega)]; exact List.getElem_mem _
    exact xm _ hm
  refine ⟨_, rfl, rx, _, _, _, rfl, rfl, SqL.of hx, atx 0 (by decide), _, _, rfl, rfl, (by show (0 : Int) < 3; decide), _, _, rfl, rfl, ?_⟩
  dsimp only [gName]
  have m0 := Int.emod_nonneg (xs.getD 0 0) (show (3 : Int) ≠ 0 by decide)
  have m1 := Int.emod_lt_of_pos (xs.getD 0 0) (show (0 : Int) < 3 by decide)
  obtain ⟨m, em⟩ : ∃ m : Nat, 1 + xs.getD 0 0 % 3 = (m : Int) := ⟨(1 + xs.getD 0 0 % 3).toNat, by omega⟩
  rw [em]
  have mb : 1 ≤ m ∧ m ≤ 3 := by omega
  have f0 := Int.emod_nonneg (xs.getD 0 0 / 3) (show (2 : Int) ≠ 0 by decide)
  have f1 := Int.emod_lt_of_pos (xs.getD 0 0 / 3) (show (0 : Int) < 2 by decide)
  obtain ⟨tz, htz, tl⟩ := hn.at (i := 2 * (m : Int) - 1 + xs.getD 0 0 / 3 % 2) (by omega) (by omega)
  refine ⟨_, rfl, _, rfl, _, _, rfl, rfl, .inl ⟨by decide, by decide⟩, _, _, rfl, rfl, _, rfl, rx, _, _, _, rfl, rfl, SqL.of hx, atx 0 (by decide), _, _, rfl, rfl, ⟨by decide, by decide⟩, _, _, rfl, rfl, (by show (0 : Int) < 2; decide), _, _, rfl, rfl, nl, _, _, _, rfl, rfl, SqL.of hn.1, htz, ?_⟩
  dsimp only [gName]
  refine ⟨_, rfl, _, rfl, by omega, by omega, ?_⟩
  rw [Int.toNat_natCast]
  refine comp_range (lo := 0) (n := m) (fun i ys H' => Same H H' ∧ ∃ sp : List (Str × Int), All2 (SpoAt H') ys sp ∧ sp.length = i ∧ ∀ s ∈ sp, SpB s) ⟨Same.refl _, [], .nil, rfl, fun s hs => by cases hs⟩ (szl (by omega)) (fun i ys H' hi pp => by obtain ⟨_, sp, h, h2, _⟩ := pp; rw [h.1]; omega) (fun i ys H' hi pp => ?_) (fun ys H1 pp r1 hr1 => ?_)
  · obtain ⟨e, sp, ay, sl, sb⟩ := pp
    have e0 : 1 + (0 + (i : Int)) = ((1 + i : Nat) : Int) := by omega
    have e1 : 2 + (0 + (i : Int)) = ((2 + i : Nat) : Int) := by omega
    refine ⟨_, rfl, _, rfl, _, _, rfl, rfl, rx, _, _, _, rfl, rfl, SqL.of (e _ _ hx), (by rw [e0]; exact atx (1 + i) (by omega)), _, rfl, _, rfl, _, _, rfl, rfl, rx, _, _, _, rfl, rfl, SqL.of (e _ _ hx), (by rw [e1]; exact atx (2 + i) (by omega)), _, rfl, _, _, kl, zs, mk, rfl, mk1, (xb _ (by omega)).1, (xb _ (by omega)).2, (xb _ (by omega)).1, (xb _ (by omega)).2, hk.over e, fun r H2 s e2 hs hb => ?_⟩
    refine ⟨e.trans e2, sp ++ [s], (ay.mono fun _ _ z => z.tk (Same.tk e2)).snoc hs, by rw [List.length_append, sl]; rfl, fun s' hs' => ?_⟩
    rcases List.mem_append.mp hs' with c | c
    · exact sb s' c
    · rw [List.mem_singleton.mp c]; exact hb
  obtain ⟨e, sp, ay, sl, sb⟩ := pp
  refine ⟨r1, _, rfl, .inl ⟨SqL.of upd_same, fun p hp => ?_⟩⟩
  have s2 := (same_new hr1 (.lst ys)).trans (same_new hp (.tup ys))
  have hp2 : (upd (upd H1 r1 (.lst ys)) p (.tup ys)) p = some (.tup ys) := upd_same
  dsimp only [gName]
  have eH := e.trans s2
  have ay2 := ay.mono fun _ _ z => z.tk (Same.tk s2)
  generalize upd (upd H1 r1 (.lst ys)) p (.tup ys) = H2 at s2 hp2 eH ay2
  have yl := ay2.1
  refine ⟨_, rfl, _, rfl, _, rfl, rfl, _, rfl, p, rfl, ⟨_, SqT.of hp2⟩, ?_⟩
  refine comp_tup (xs := ys) (fun i zs H' => H' = H2 ∧ zs = ((sp.take i).map boxS).map V.str) ⟨rfl, rfl⟩ (szl (by omega)) (fun i zs H' hi pp => ⟨by rw [pp.1]; exact SqT.of hp2, by rw [pp.2, List.length_map, List.length_map, List.length_take]; omega⟩) (fun i x zs H' hx pp => ?_) (fun zs H' pp r hr' => ?_)
  · obtain ⟨rfl, rfl⟩ := pp
    obtain ⟨s1, hs, hsp⟩ := ay2.get' hx
    have hb := sb s1 (List.mem_of_getElem? hs)
    have l1 := spS_len hb
    have l2 : ("[" : Str).length = 1 := by decide +kernel
    have l3 : ("]" : Str).length = 1 := by decide +kernel
    refine ⟨_, rfl, x, s1, rfl, hsp, hb, _, _, rfl, rfl, szl (by omega), _, _, rfl, rfl, szl (by rw [sLen]; omega), rfl, ?_⟩
    rw [take_snoc hs, List.map_append, List.map_append]
    rfl
  obtain ⟨rfl, rfl⟩ := pp
  rw [List.take_of_length_le (by omega)]
  have hs := boxes_sum (sp := sp) (by omega) sb
  have cl := celS_len (sp := sp) tl (by omega) sb
  unfold celS at cl
  rw [sLen] at cl
  refine ⟨_, r, _, rfl, rfl, .inl (SqL.of upd_same), Nat.le_trans hs (by decide), _, _, rfl, rfl, szl (by omega), szl (by show 3 ≤ 1000000; decide), fun t ht => ?_⟩
  have s3 := (same_new hr' (.lst ((sp.map boxS).map V.str))).trans (same_new ht (.tup [V.str tz, V.ref p, V.str (tz ++ Txt.join "" (sp.map boxS))]))
  exact q t p _ tz sp (eH.trans s3) upd_same ⟨ys, s3 _ _ hp2, ay2.mono fun _ _ z => z.tk (Same.tk s3)⟩ ⟨tl, by omega, sb⟩

theorem ok_leaf24 (T : Tx K mg a) : FnOk P w K mg base CX0 4 a.f_l_leaf a.d_l_leaf ["_law_cell_here", "_law_known", "_law_names_here"] spLeaf24 := by
  have G_l_stream := ok_stream (P := P) (w := w) (base := base) T
  have G_l_number := ok_number (P := P) (w := w) (base := base) T
  have G_l_cell := ok_cell24 (P := P) (w := w) (base := base) T
  refine T.F_l_leaf.ok sc_l_leaf (fun vs H Q E h => ?_) (fun cdv A outer s H vs Q E hr h => ?_)
  · obtain ⟨_, _, _, _, _, _, rfl, _⟩ := h; rfl
  obtain ⟨c, kl, nl, zs, ns, mk, rfl, mk1, hk, hn, q⟩ := h
  refine ⟨_, (@pss_cons _ _ _ _ _ (@ps_set _ _ (3) _ _ _ _ sc_l_leaf.nd rfl (Or.inl rfl) (@pe_call _ _ _ _ _ _ _ _ _ _ _ _ _ _ _ _ G_l_stream (hr.mono (by omega)) (by rfl) T.m_l_stream T.F_l_stream.kp T.b_l_stream .nil pass0 (@pa_cons _ _ _ _ _ (@pe_op _ _ _ _ _ _ _ _ op_fdiv (pv 0) pe_int) (@pa_cons _ _ _ _ _ pe_int pa_nil (by rfl)) (by rfl)) (by decide) (by rfl) (by rfl)) (by rfl) (by first | exact .inl rfl | exact .inr rfl | assumption)) (@pss_cons _ _ _ _ _ (@ps_if _ _ _ _ _ _ _ _ (@pt_cmpR _ _ _ _ _ _ _ _ op_eq (@pe_op _ _ _ _ _ _ _ _ op_mod (pv 0) pe_int) pe_int (@nomark _ _ (by decide) (by decide))) (@pss_cons _ _ _ _ _ (@ps_set _ _ (4) _ _ _ _ sc_l_leaf.nd rfl (Or.inl rfl) (@pe_callB _ _ _ _ _ _ _ _ _ call_abs (by rfl) T.z_abs bt_abs (@pa_cons _ _ _ _ _ (@pe_call _ _ _ _ _ _ _ _ _ _ _ _ _ _ _ _ G_l_number (hr.mono (by omega)) (by rfl) T.m_l_number T.F_l_number.kp T.b_l_number .nil pass0 (@pa_cons _ _ _ _ _ (@pe_op _ _ _ _ _ _ _ _ op_mul (@pe_ix _ _ _ _ _ _ _ ix_list (pv 3) pe_int (fun _ _ => rfl)) (@pe_ix _ _ _ _ _ _ _ ix_list (pv 3) pe_int (fun _ _ => rfl))) (@pa_cons _ _ _ _ _ (@pe_op _ _ _ _ _ _ _ _ op_sub (@pe_op _ _ _ _ _ _ _ _ op_pow pe_int pe_int) pe_int) pa_nil (by rfl)) (by rfl)) (by decide) (by rfl) (by rfl)) pa_nil (by rfl)) (by decide) (by decide) (by rfl) (by rfl)) (by rfl) (by first | exact .inl rfl | exact .inr rfl | assumption)) (@pss_one _ _ _ (@ps_ret _ _ _ _ (@pe_tupq _ _ _ _ _ (@paq_cons _ _ _ _ _ (@pe_callTy _ _ _ _ _ _ _ _ _ call_str_int (by rfl) T.z_str bt_str (@pa_cons _ _ _ _ _ (pv 4) pa_nil (by rfl)) (by decide) (by decide) (by rfl) (by rfl)) (@paq_cons _ _ _ _ _ pe_int (@paq_cons _ _ _ _ _ (@pe_tup _ _ _ _ _ (@pa_cons _ _ _ _ _ pe_str (@pa_cons _ _ _ _ _ (pv 4) pa_nil (by rfl)) (by rfl))) paq_nil star_T) star_C) star_K))))) pss_nil) (@pss_cons _ _ _ _ _ (@ps_if _ _ _ _ _ _ _ _ ((@pw_and _ _ _ _ _ _ _ (@pt_cmpR _ _ _ _ _ _ _ _ op_eq (@pe_op _ _ _ _ _ _ _ _ op_mod (pv 0) pe_int) pe_int (@nomark _ _ (by decide) (by decide))) (@pw_and1 _ _ _ _ (@pt_cmpR _ _ _ _ _ _ _ _ op_gt (@pe_callB _ _ _ _ _ _ _ _ _ call_len_seq (by rfl) T.z_len bt_len (@pa_cons _ _ _ _ _ (pv 1) pa_nil (by rfl)) (by decide) (by decide) (by rfl) (by rfl)) pe_int (@nomark _ _ (by decide) (by decide)))))).pt (@pss_cons _ _ _ _ _ (@ps_set _ _ (5) _ _ _ _ sc_l_leaf.nd rfl (Or.inl rfl) (@pe_ix _ _ _ _ _ _ _ ix_list (pv 1) (@pe_op _ _ _ _ _ _ _ _ op_add pe_int (@pe_op _ _ _ _ _ _ _ _ op_mod (@pe_ix _ _ _ _ _ _ _ ix_list (pv 3) pe_int (fun _ _ => rfl)) (@pe_op _ _ _ _ _ _ _ _ op_sub (@pe_callB _ _ _ _ _ _ _ _ _ call_len_seq (by rfl) T.z_len bt_len (@pa_cons _ _ _ _ _ (pv 1) pa_nil (by rfl)) (by decide) (by decide) (by rfl) (by rfl)) pe_int))) (fun _ _ => rfl)) (by rfl) (by first | exact .inl rfl | exact .inr rfl | assumption)) (@pss_one _ _ _ (@ps_ret _ _ _ _ (@pe_tupq _ _ _ _ _ (@paq_cons _ _ _ _ _ (pv 5) (@paq_cons _ _ _ _ _ pe_int (@paq_cons _ _ _ _ _ (@pe_tup _ _ _ _ _ (@pa_cons _ _ _ _ _ pe_str (@pa_cons _ _ _ _ _ (pv 5) pa_nil (by rfl)) (by rfl))) paq_nil star_T) star_C) star_N))))) pss_nil) (@pss_cons _ _ _ _ _ (@ps_set _ _ (6) _ _ _ _ sc_l_leaf.nd rfl (Or.inl rfl) (@pe_call _ _ _ _ _ _ _ _ _ _ _ _ _ _ _ _ G_l_cell (hr.mono (by omega)) (by rfl) T.m_l_cell T.F_l_cell.kp T.b_l_cell .nil pass0 (@pa_cons _ _ _ _ _ (pv 3) (@pa_cons _ _ _ _ _ (pv 1) (@pa_cons _ _ _ _ _ (pv 2) pa_nil (by rfl)) (by rfl)) (by rfl)) (by decide) (by rfl) (by rfl)) (by rfl) (by first | exact .inl rfl | exact .inr rfl | assumption)) (@pss_one _ _ _ (@ps_ret _ _ _ _ (@pe_tupq _ _ _ _ _ (@paq_cons _ _ _ _ _ (@pe_ix _ _ _ _ _ _ _ ix_tup (pv 6) pe_int (fun _ _ => rfl)) (@paq_cons _ _ _ _ _ pe_int (@paq_cons _ _ _ _ _ (@pe_tupq _ _ _ _ _ (@paq_cons _ _ _ _ _ pe_str (@paq_cons _ _ _ _ _ (@pe_ix _ _ _ _ _ _ _ ix_tup (pv 6) pe_int (fun _ _ => rfl)) (@paq_cons _ _ _ _ _ (@pe_ix _ _ _ _ _ _ _ ix_tup (pv 6) pe_int (fun _ _ => rfl)) paq_nil star_S) star_S) star_C)) paq_nil star_T) star_C) star_S)))))))), ?_⟩
  refine ⟨_, rfl, _, _, rfl, rfl, ⟨by decide, by decide⟩, _, 5, rfl, by decide, by decide, fun rx H1 s1 hx => ?_⟩
  rw [show (5 : Int).toNat = 5 from rfl] at hx
  generalize hxs : strm (c / 3) 5 = xs at hx
  have xl : xs.length = 5 := by rw [← hxs, strm_len]
  have xm : ∀ y ∈ xs, 0 ≤ y ∧ y < 2147483647 := fun y hy => strm_mem (hxs ▸ hy)
  have atx : ∀ k : Nat, k < 5 → atI (xs.map V.int) ((k : Nat) : Int) = some (.int (xs.getD k 0)) := fun k hk => cell_in (ns := xs) (k := ((k : Nat) : Int)) (by omega) (by omega)
  have xb : ∀ k : Nat, k < 5 → -(2 ^ 64 : Int) < xs.getD k 0 ∧ xs.getD k 0 < 2 ^ 64 := fun k hk => by
    have hm : xs.getD k 0 ∈ xs := by rw [List.getD_eq_getElem?_getD, List.getElem?_eq_getElem (by omega)]; exact List.getElem_mem _
    obtain ⟨h0, h1⟩ := xm _ hm
    exact ⟨by omega, by omega⟩
  have hk1 := hk.over s1
  have hn1 := hn.over s1
  dsimp only [gName]
  refine ⟨_, rfl, _, _, rfl, rfl, (by show (0 : Int) < 3; decide), rfl, _, rfl, ?_⟩
  refine ite2 (fun _ => ?_) (fun _ => ?_)
  · refine ⟨_, rfl, rx, _, _, _, rfl, rfl, SqL.of hx, atx 0 (by decide), _, rfl, rx, _, _, _, rfl, rfl, SqL.of hx, atx 1 (by decide), _, _, rfl, rfl, .inl (xb 0 (by decide)), _, _, rfl, rfl, ⟨by decide, by decide, by decide⟩, _, _, rfl, rfl, _, _, rfl, (by decide), (by decide), ?_⟩
    have nb := numZ_b (xs.getD 0 0 * xs.getD 1 0) (far := 10 ^ (18 : Int).toNat - 1) (by decide)
    generalize numZ _ _ = nn at nb ⊢
    refine ⟨_, rfl, ?_⟩
    obtain ⟨n, en, n0, n1⟩ : ∃ n : Int, (if nn < 0 then -nn else nn) = n ∧ 0 ≤ n ∧ n ≤ 999999999999999999 := ⟨_, rfl, by have := nb.1; have := nb.2; split <;> omega, by have := nb.1; have := nb.2; split <;> omega⟩
    rw [en]
    dsimp only [gName]
    refine ⟨_, rfl, _, rfl, log_small (by omega) n1, _, rfl, szl (by show 2 ≤ 1000000; decide), fun t1 ht1 => ⟨szl (by show 3 ≤ 1000000; decide), fun t2 ht2 => ?_⟩⟩
    have s2 := (same_new ht1 (.tup [V.str "n", V.int n])).trans (same_new ht2 (.tup [V.str (Str.ofString (toString n)), V.int 3, V.ref t1]))
    exact q _ _ (.n n) (s1.trans s2) ⟨t2, .ref t1, rfl, upd_same, t1, rfl, (same_new ht2 _) _ _ upd_same⟩ ⟨n0, n1⟩ rfl
  · dsimp only [tNext]
    refine seq_any (fun σ' H2 => H2 = H1 ∧ σ' = [some (.int c), some (.ref kl), some (.ref nl), some (.ref rx), none, none, none]) (fun σ' H2 pp => ?_) (fun nx => ?_)
    · obtain ⟨rfl, rfl⟩ := pp
      refine ⟨_, rfl, _, rfl, _, rfl, rx, kl, nl, xs, zs, ns, mk, rfl, mk1, hx, xl, xm, hk1, hn1, fun r p H3 z sp s3 hr3 hp3 ok => ?_⟩
      dsimp only [gName]
      refine ⟨_, rfl, r, _, 2, _, rfl, rfl, SqT.of hr3, rfl, _, rfl, r, _, 0, _, rfl, rfl, SqT.of hr3, rfl, _, rfl, r, _, 1, _, rfl, rfl, SqT.of hr3, rfl, szl (by show 3 ≤ 1000000; decide), fun t1 ht1 => ⟨szl (by show 3 ≤ 1000000; decide), fun t2 ht2 => ?_⟩⟩
      have s4 := (same_new ht1 (.tup [V.str "c", V.str z, V.ref p])).trans (same_new ht2 (.tup [V.str (celS z sp), V.int 3, V.ref t1]))
      exact q _ _ (.c z sp) (s1.trans (s3.trans s4)) ⟨t2, .ref t1, rfl, upd_same, t1, p, rfl, (same_new ht2 _) _ _ upd_same, hp3.tk (Same.tk s4)⟩ ok rfl
    · refine ⟨_, rfl, _, _, rfl, rfl, (by show (0 : Int) < 3; decide), rfl, _, rfl, ?_⟩
      refine ite2 (fun _ => ?_) (fun _ => iteF (nx _ _ ⟨rfl, rfl⟩))
      refine ⟨_, rfl, kl, _, rfl, .inl (SqL.of hk1.1), _, _, rfl, rfl, _, rfl, ?_⟩
      have l4 : (((zs.map V.str).length : Nat) : Int) = (mk : Int) := by rw [List.length_map, hk.2.1]
      refine ite2 (fun cm => ?_) (fun _ => nx _ _ ⟨rfl, rfl⟩)
      have cm : (1 : Int) < (((zs.map V.str).length : Nat) : Int) := dT cm
      have m0 := Int.emod_nonneg (xs.getD 0 0) (show (((zs.map V.str).length : Nat) : Int) - 1 ≠ 0 by omega)
      have m1 := Int.emod_lt_of_pos (xs.getD 0 0) (show (0 : Int) < (((zs.map V.str).length : Nat) : Int) - 1 by omega)
      obtain ⟨z, hz, zl⟩ := hk1.at (i := 1 + xs.getD 0 0 % ((((zs.map V.str).length : Nat) : Int) - 1)) (by omega) (by omega)
      refine ⟨_, rfl, _, rfl, rx, _, _, _, rfl, rfl, SqL.of hx, atx 0 (by decide), _, rfl, kl, _, rfl, .inl (SqL.of hk1.1), _, _, rfl, rfl, _, _, rfl, rfl, (by show (0 : Int) < (((zs.map V.str).length : Nat) : Int) - 1; omega), _, _, rfl, rfl, kl, _, _, _, rfl, rfl, SqL.of hk1.1, hz, ?_⟩
      dsimp only [gName]
      refine ⟨_, rfl, _, rfl, szl (by show 2 ≤ 1000000; decide), fun t1 ht1 => ⟨szl (by show 3 ≤ 1000000; decide), fun t2 ht2 => ?_⟩⟩
      have s2 := (same_new ht1 (.tup [V.str "v", V.str z])).trans (same_new ht2 (.tup [V.str z, V.int 3, V.ref t1]))
      exact q _ _ (.v z) (s1.trans s2) ⟨t2, .ref t1, rfl, upd_same, t1, rfl, (same_new ht2 _) _ _ upd_same⟩ zl rfl

theorem ok_both24 (T : Tx K mg a) : FnOk P w K mg base CX0 1 a.f_l_both a.d_l_both ["_law_sign", "_law_left", "_law_right"] spBoth24 := by
  refine T.F_l_both.ok sc_l_both (fun vs H Q E h => ?_) (fun cdv A outer s H vs Q E hr h => ?_)
  · obtain ⟨_, _, _, _, _, rfl, _⟩ := h; rfl
  obtain ⟨z, x, y, l, r, rfl, hz3, ⟨p, sx, rfl, hp, hsx⟩, ⟨p2, sy, rfl, hp2, hsy⟩, okl, okr, szs, q⟩ := h
  refine ⟨_, (@pss_cons _ _ _ _ _ (@ps_set _ _ (3) _ _ _ _ sc_l_both.nd rfl (Or.inl rfl) (@pe_op _ _ _ _ _ _ _ _ op_add pe_int (@pe_callTy _ _ _ _ _ _ _ _ _ call_int1 (by rfl) T.z_int bt_int (@pa_cons _ _ _ _ _ (@pe_cmpR _ _ _ _ _ _ _ _ op_eq (pv 0) pe_str (@nomark _ _ (by decide) (by decide))) pa_nil (by rfl)) (by decide) (by decide) (by rfl) (by rfl))) (by rfl) (by first | exact .inl rfl | exact .inr rfl | assumption)) (@pss_cons _ _ _ _ _ (@ps_set _ _ (4) _ _ _ _ sc_l_both.nd rfl (Or.inl rfl) (@pe_ix _ _ _ _ _ _ _ ix_tup (pv 1) pe_int (fun _ _ => rfl)) (by rfl) (by first | exact .inl rfl | exact .inr rfl | assumption)) (@pss_cons _ _ _ _ _ (@ps_set _ _ (5) _ _ _ _ sc_l_both.nd rfl (Or.inl rfl) (@pe_ix _ _ _ _ _ _ _ ix_tup (pv 2) pe_int (fun _ _ => rfl)) (by rfl) (by first | exact .inl rfl | exact .inr rfl | assumption)) (@pss_cons _ _ _ _ _ (@ps_if _ _ _ _ _ _ _ _ (@pt_cmpR _ _ _ _ _ _ _ _ op_lt (@pe_ix _ _ _ _ _ _ _ ix_tup (pv 1) pe_int (fun _ _ => rfl)) (pv 3) (@nomark _ _ (by decide) (by decide))) (@pss_one _ _ _ (@ps_set _ _ (4) _ _ _ _ sc_l_both.nd rfl (Or.inl rfl) (@pe_op _ _ _ _ _ _ _ _ op_add_str (@pe_op _ _ _ _ _ _ _ _ op_add_str pe_str (pv 4)) pe_str) (by rfl) (by first | exact .inl rfl | exact .inr rfl | assumption))) pss_nil) (@pss_cons _ _ _ _ _ (@ps_if _ _ _ _ _ _ _ _ (@pt_cmpR _ _ _ _ _ _ _ _ op_le (@pe_ix _ _ _ _ _ _ _ ix_tup (pv 2) pe_int (fun _ _ => rfl)) (pv 3) (@nomark _ _ (by decide) (by decide))) (@pss_one _ _ _ (@ps_set _ _ (5) _ _ _ _ sc_l_both.nd rfl (Or.inl rfl) (@pe_op _ _ _ _ _ _ _ _ op_add_str (@pe_op _ _ _ _ _ _ _ _ op_add_str pe_str (pv 5)) pe_str) (by rfl) (by first | exact .inl rfl | exact .inr rfl | assumption))) pss_nil) (@pss_one _ _ _ (@ps_ret _ _ _ _ (@pe_tupq _ _ _ _ _ (@paq_cons _ _ _ _ _ (@pe_op _ _ _ _ _ _ _ _ op_add_str (@pe_op _ _ _ _ _ _ _ _ op_add_str (pv 4) (pv 0)) (pv 5)) (@paq_cons _ _ _ _ _ (pv 3) (@paq_cons _ _ _ _ _ (@pe_tupq _ _ _ _ _ (@paq_cons _ _ _ _ _ (pv 0) (@paq_cons _ _ _ _ _ (@pe_ix _ _ _ _ _ _ _ ix_tup (pv 1) pe_int (fun _ _ => rfl)) (@paq_cons _ _ _ _ _ (@pe_ix _ _ _ _ _ _ _ ix_tup (pv 2) pe_int (fun _ _ => rfl)) paq_nil star_S) star_S) star_N)) paq_nil star_T) star_N) star_B))))))))), ?_⟩
  have wl := Tw.wr_len okl
  have wR := Tw.wr_len okr
  have zl := sgn_len hz3
  have l2 : ("(" : Str).length = 1 := by decide +kernel
  have l3 : (")" : Str).length = 1 := by decide +kernel
  have eh : (1 + if decide (V.str z = V.str (Str.ofString "*")) = true then (1 : Int) else 0) = ((hz z : Nat) : Int) := by
    unfold hz
    by_cases c : z = "*"
    · rw [if_pos c, if_pos (decide_eq_true (congrArg V.str c))]; rfl
    · rw [if_neg c, if_neg (fun e => c (V.str.inj (of_decide_eq_true e)))]; rfl
  refine ⟨_, rfl, rfl, .inr ⟨_, rfl, _, _, rfl, rfl, ?_⟩⟩
  dsimp only [gName]
  rw [eh]
  refine ⟨_, rfl, p, _, 0, _, rfl, rfl, SqT.of hp, rfl, ?_⟩
  dsimp only [gName]
  refine ⟨_, rfl, p2, _, 0, _, rfl, rfl, SqT.of hp2, rfl, ?_⟩
  dsimp only [gName]
  refine seq_any (fun σ' H' => H' = H ∧ σ' = [some (.str z), some (.ref p), some (.ref p2), some (.int ((hz z : Nat) : Int)), some (.str (brkS (decide (l.hld < hz z)) l.wr)), some (.str r.wr)]) (fun σ' H' pp => ?_) (fun nx => ?_)
  · obtain ⟨rfl, rfl⟩ := pp
    have bl := brkS_len (decide (l.hld < hz z)) l.wr
    refine seq_any (fun σ' H2 => H2 = H' ∧ σ' = [some (.str z), some (.ref p), some (.ref p2), some (.int ((hz z : Nat) : Int)), some (.str (brkS (decide (l.hld < hz z)) l.wr)), some (.str (brkS (decide (r.hld ≤ hz z)) r.wr))]) (fun σ' H2 pp => ?_) (fun nx => ?_)
    · obtain ⟨rfl, rfl⟩ := pp
      have br := brkS_len (decide (r.hld ≤ hz z)) r.wr
      refine ⟨_, rfl, _, rfl, _, _, rfl, rfl, szl (by omega), _, rfl, _, _, rfl, rfl, szl (by rw [sLen]; omega), _, rfl, _, rfl, _, rfl, p, _, 2, _, rfl, rfl, SqT.of hp, rfl, _, rfl, p2, _, 2, _, rfl, rfl, SqT.of hp2, rfl, szl (by show 3 ≤ 1000000; decide), fun t1 ht1 => ⟨szl (by show 3 ≤ 1000000; decide), fun t2 ht2 => ?_⟩⟩
      have s1 := same_new ht1 (.tup [V.str z, sx, sy])
      have s2 := s1.trans (same_new ht2 (.tup [V.str (Tw.wr (.j z l r)), V.int ((hz z : Nat) : Int), V.ref t1]))
      exact q _ _ s2 ⟨t2, .ref t1, rfl, upd_same, t1, sx, sy, rfl, (same_new ht2 _) _ _ upd_same, hsx.tk (Same.tk s2), hsy.tk (Same.tk s2)⟩
    · refine ⟨_, rfl, p2, _, 1, _, rfl, rfl, SqT.of hp2, rfl, _, rfl, _, _, rfl, rfl, _, rfl, ?_⟩
      refine ite2 (fun c => ?_) (fun c => ?_)
      · have c : r.hld ≤ hz z := Int.ofNat_le.mp (dT c)
        refine ⟨_, rfl, _, _, rfl, rfl, szl (by omega), _, _, rfl, rfl, szl (by rw [sLen]; omega), nx _ _ ⟨rfl, ?_⟩⟩
        rw [decide_eq_true c]
        rfl
      · have c : ¬ r.hld ≤ hz z := fun e => dF c (Int.ofNat_le.mpr e)
        refine nx _ _ ⟨rfl, ?_⟩
        rw [decide_eq_false c]
        rfl
  · refine ⟨_, rfl, p, _, 1, _, rfl, rfl, SqT.of hp, rfl, _, rfl, _, _, rfl, rfl, _, rfl, ?_⟩
    refine ite2 (fun c => ?_) (fun c => ?_)
    · have c : l.hld < hz z := Int.ofNat_lt.mp (dT c)
      refine ⟨_, rfl, _, _, rfl, rfl, szl (by omega), _, _, rfl, rfl, szl (by rw [sLen]; omega), nx _ _ ⟨rfl, ?_⟩⟩
      rw [decide_eq_true c]
      rfl
    · have c : ¬ l.hld < hz z := fun e => dF c (Int.ofNat_lt.mpr e)
      refine nx _ _ ⟨rfl, ?_⟩
      rw [decide_eq_false c]
      rfl

theorem ok_made (T : Tx K mg a) : ∀ n : Nat, FnOk P w K mg base CX0 (n + 2) a.f_l_made a.d_l_made ["_law_shape"] (spMade24 (csOf a) n)
  | 0 => by
    have no : ∀ vs H Q E, ¬ spMade24 (csOf a) 0 vs H Q E := fun vs H Q E h => by
      obtain ⟨x, t, _, _, _, hm, _⟩ := h
      have := t.sz_pos
      omega
    exact ⟨fun vs H Q E h => absurd h (no vs H Q E), fun A outer s H args us vs Q E _ _ _ _ h => absurd h (no vs H Q E)⟩
  | n + 1 => by
    have G_Number_init := ok_inin (P := P) (w := w) (base := base) T
    have G_Value_init := ok_iniv (P := P) (w := w) (base := base) T
    have G_Cell_init := ok_inic (P := P) (w := w) (base := base) T
    have G_Joined_init := ok_inij (P := P) (w := w) (base := base) T
    have G_l_made := ok_made T n
    refine T.F_l_made.ok sc_l_made (fun vs H Q E h => ?_) (fun cdv A outer s H vs Q E hr h => ?_)
    · obtain ⟨_, _, rfl, _⟩ := h; rfl
    obtain ⟨x, tm, rfl, hs, ok, hm, q⟩ := h
    refine ⟨_, (@pss_cons _ _ _ _ _ (@ps_if _ _ _ _ _ _ _ _ (@pt_cmpR _ _ _ _ _ _ _ _ op_eq (@pe_ix _ _ _ _ _ _ _ ix_tup (pv 0) pe_int (fun _ _ => rfl)) pe_str (@nomark _ _ (by decide) (by decide))) (@pss_one _ _ _ (@ps_ret _ _ _ _ (@pe_make _ _ _ _ _ _ _ _ _ _ _ _ _ _ _ _ _ T.mk_Number G_Number_init (hr.mono (by omega)) (by rfl) T.mc_Number T.b_Number_init .nil pass0 (@pa_cons _ _ _ _ _ (@pe_ix _ _ _ _ _ _ _ ix_tup (pv 0) pe_int (fun _ _ => rfl)) pa_nil (by rfl)) (by decide) (by rfl) (by rfl)))) pss_nil) (@pss_cons _ _ _ _ _ (@ps_if _ _ _ _ _ _ _ _ (@pt_cmpR _ _ _ _ _ _ _ _ op_eq (@pe_ix _ _ _ _ _ _ _ ix_tup (pv 0) pe_int (fun _ _ => rfl)) pe_str (@nomark _ _ (by decide) (by decide))) (@pss_one _ _ _ (@ps_ret _ _ _ _ (@pe_make _ _ _ _ _ _ _ _ _ _ _ _ _ _ _ _ _ T.mk_Value G_Value_init (hr.mono (by omega)) (by rfl) T.mc_Value T.b_Value_init .nil pass0 (@pa_cons _ _ _ _ _ (@pe_ix _ _ _ _ _ _ _ ix_tup (pv 0) pe_int (fun _ _ => rfl)) pa_nil (by rfl)) (by decide) (by rfl) (by rfl)))) pss_nil) (@pss_cons _ _ _ _ _ (@ps_if _ _ _ _ _ _ _ _ (@pt_cmpR _ _ _ _ _ _ _ _ op_eq (@pe_ix _ _ _ _ _ _ _ ix_tup (pv 0) pe_int (fun _ _ => rfl)) pe_str (@nomark _ _ (by decide) (by decide))) (@pss_one _ _ _ (@ps_ret _ _ _ _ (@pe_make _ _ _ _ _ _ _ _ _ _ _ _ _ _ _ _ _ T.mk_Cell G_Cell_init (hr.mono (by omega)) (by rfl) T.mc_Cell T.b_Cell_init .nil pass0 (@pa_cons _ _ _ _ _ (@pe_ix _ _ _ _ _ _ _ ix_tup (pv 0) pe_int (fun _ _ => rfl)) (@pa_cons _ _ _ _ _ (@pe_ix _ _ _ _ _ _ _ ix_tup (pv 0) pe_int (fun _ _ => rfl)) pa_nil (by rfl)) (by rfl)) (by decide) (by rfl) (by rfl)))) pss_nil) (@pss_one _ _ _ (@ps_ret _ _ _ _ (@pe_make _ _ _ _ _ _ _ _ _ _ _ _ _ _ _ _ _ T.mk_Joined G_Joined_init (hr.mono (by omega)) (by rfl) T.mc_Joined T.b_Joined_init .nil pass0 (@pa_cons _ _ _ _ _ (@pe_ix _ _ _ _ _ _ _ ix_tup (pv 0) pe_int (fun _ _ => rfl)) (@pa_cons _ _ _ _ _ (@pe_call _ _ _ _ _ _ _ _ _ _ _ _ _ _ _ _ G_l_made (hr.mono (by omega)) (by rfl) T.m_l_made T.F_l_made.kp T.b_l_made .nil pass0 (@pa_cons _ _ _ _ _ (@pe_ix _ _ _ _ _ _ _ ix_tup (pv 0) pe_int (fun _ _ => rfl)) pa_nil (by rfl)) (by decide) (by rfl) (by rfl)) (@pa_cons _ _ _ _ _ (@pe_call _ _ _ _ _ _ _ _ _ _ _ _ _ _ _ _ G_l_made (hr.mono (by omega)) (by rfl) T.m_l_made T.F_l_made.kp T.b_l_made .nil pass0 (@pa_cons _ _ _ _ _ (@pe_ix _ _ _ _ _ _ _ ix_tup (pv 0) pe_int (fun _ _ => rfl)) pa_nil (by rfl)) (by decide) (by rfl) (by rfl)) pa_nil (by rfl)) (by rfl)) (by rfl)) (by decide) (by rfl) (by rfl))))))), ?_⟩
    cases tm with
    | n i =>
      obtain ⟨t, rfl, h⟩ := hs
      refine ⟨_, rfl, t, _, 0, _, rfl, rfl, SqT.of h, rfl, rfl, _, rfl, iteE (v := true) (decide_eq_true rfl) (iteT ?_)⟩
      refine ⟨_, rfl, t, _, 1, _, rfl, rfl, SqT.of h, rfl, fun x dx nx ndx ne => ⟨x, dx, [_], rfl, rfl, upd_same, fun H2 k2 hx2 => ⟨rfl, ?_⟩⟩⟩
      obtain ⟨dx2, hx2⟩ := hx2
      exact q _ _ (made_same nx ndx k2) ⟨x, dx2, rfl, hx2⟩
    | v z =>
      obtain ⟨t, rfl, h⟩ := hs
      refine ⟨_, rfl, t, _, 0, _, rfl, rfl, SqT.of h, rfl, rfl, _, rfl, iteE (v := false) (dS (by decide +kernel)) (iteF ?_)⟩
      refine ⟨_, rfl, t, _, 0, _, rfl, rfl, SqT.of h, rfl, rfl, _, rfl, iteE (v := true) (decide_eq_true rfl) (iteT ?_)⟩
      refine ⟨_, rfl, t, _, 1, _, rfl, rfl, SqT.of h, rfl, fun x dx nx ndx ne => ⟨x, dx, [_], rfl, rfl, upd_same, fun H2 k2 hx2 => ⟨rfl, ?_⟩⟩⟩
      obtain ⟨dx2, hx2⟩ := hx2
      exact q _ _ (made_same nx ndx k2) ⟨x, dx2, rfl, hx2⟩
    | c z sp =>
      obtain ⟨t, p, rfl, h, hsp⟩ := hs
      refine ⟨_, rfl, t, _, 0, _, rfl, rfl, SqT.of h, rfl, rfl, _, rfl, iteE (v := false) (dS (by decide +kernel)) (iteF ?_)⟩
      refine ⟨_, rfl, t, _, 0, _, rfl, rfl, SqT.of h, rfl, rfl, _, rfl, iteE (v := false) (dS (by decide +kernel)) (iteF ?_)⟩
      refine ⟨_, rfl, t, _, 0, _, rfl, rfl, SqT.of h, rfl, rfl, _, rfl, iteE (v := true) (decide_eq_true rfl) (iteT ?_)⟩
      refine ⟨_, rfl, t, _, 1, _, rfl, rfl, SqT.of h, rfl, _, rfl, t, _, 2, _, rfl, rfl, SqT.of h, rfl, fun x dx nx ndx ne => ⟨x, dx, [_, _], rfl, rfl, upd_same, fun H2 k2 hx2 => ⟨rfl, ?_⟩⟩⟩
      obtain ⟨dx2, hx2⟩ := hx2
      have e := made_same nx ndx k2
      exact q _ _ e ⟨x, dx2, p, rfl, hx2, hsp.tk (Same.tk e)⟩
    | j z l r =>
      obtain ⟨t, sx, sy, rfl, h, tl, tr⟩ := hs
      obtain ⟨hz, okl, okr⟩ := ok
      obtain ⟨z1, z2, z3⟩ := sgn_ne hz
      have := l.sz_pos
      have := r.sz_pos
      have hm : l.sz + r.sz ≤ n + 1 := hm
      refine ⟨_, rfl, t, _, 0, _, rfl, rfl, SqT.of h, rfl, rfl, _, rfl, iteE (v := false) (dS z1) (iteF ?_)⟩
      refine ⟨_, rfl, t, _, 0, _, rfl, rfl, SqT.of h, rfl, rfl, _, rfl, iteE (v := false) (dS z2) (iteF ?_)⟩
      refine ⟨_, rfl, t, _, 0, _, rfl, rfl, SqT.of h, rfl, rfl, _, rfl, iteE (v := false) (dS z3) (iteF ?_)⟩
      refine ⟨_, rfl, t, _, 0, _, rfl, rfl, SqT.of h, rfl, _, rfl, t, _, 1, _, rfl, rfl, SqT.of h, rfl, sx, l, rfl, tl, okl, by omega, fun y1 H1 e1 o1 => ?_⟩
      refine ⟨_, rfl, t, _, 2, _, rfl, rfl, SqT.of (e1 _ _ h), rfl, sy, r, rfl, tr.tk (Same.tk e1), okr, by omega, fun y2 H2 e2 o2 => ?_⟩
      refine fun x dx nx ndx ne => ⟨x, dx, [_, _, _], rfl, rfl, upd_same, fun H3 k3 hx3 => ⟨rfl, ?_⟩⟩
      obtain ⟨dx3, hx3⟩ := hx3
      have e3 := made_same nx ndx k3
      exact q _ _ (e1.trans (e2.trans e3)) ⟨x, dx3, y1, y2, rfl, hx3, (o1.over e2).over e3, o2.over e3⟩

theorem ok_issum (T : Tx K mg a) : FnOk P w K mg base CX0 1 a.f_is_sum a.d_is_sum ["term"] (spIsSum (csOf a)) := by
  refine T.F_is_sum.ok sc_is_sum (fun vs H Q E h => ?_) (fun cdv A outer s H vs Q E hr h => ?_)
  · obtain ⟨_, _, rfl, _⟩ := h; rfl
  obtain ⟨x, t, rfl, ht, q⟩ := h
  refine ⟨_, (@pss_one _ _ _ (@ps_ret _ _ _ _ (@pe_and _ _ _ _ _ _ _ (@pe_callB _ _ _ _ _ _ _ _ _ call_isi (by rfl) T.z_isinstance bt_isinstance (@pa_cons _ _ _ _ _ (pv 0) (@pa_cons _ _ _ _ _ (@pe_glob _ _ (.ref a.c_Joined) _ _ (by rfl) T.mc_Joined rfl (by decide)) pa_nil (by rfl)) (by rfl)) (by decide) (by decide) (by rfl) (by rfl)) (@pe_one _ _ _ _ _ (@pe_cmpR _ _ _ _ _ _ _ _ op_ne (@pe_fld _ _ _ _ _ (pv 0) rfl) pe_str (@nomark _ _ (by decide) (by decide))))))), ?_⟩
  cases t with
  | n i =>
    obtain ⟨t, dx, rfl, h⟩ := ht
    exact ⟨_, rfl, _, _, _, _, _, rfl, rfl, T.ty_Number _ t dx _ h, T.is_Number_Joined, _, rfl, iteF q⟩
  | v z =>
    obtain ⟨t, dx, rfl, h⟩ := ht
    exact ⟨_, rfl, _, _, _, _, _, rfl, rfl, T.ty_Value _ t dx _ h, T.is_Value_Joined, _, rfl, iteF q⟩
  | c z sp =>
    obtain ⟨t, dx, p, rfl, h, _⟩ := ht
    exact ⟨_, rfl, _, _, _, _, _, rfl, rfl, T.ty_Cell _ t dx _ h, T.is_Cell_Joined, _, rfl, iteF q⟩
  | j z l r =>
    obtain ⟨t, dx, y1, y2, rfl, h, _, _⟩ := ht
    refine ⟨_, rfl, _, _, _, _, _, rfl, rfl, T.ty_Joined _ t dx _ h, T.is_Joined_Joined, _, rfl, iteT ?_⟩
    refine ⟨_, rfl, t, _, dx, _, _, rfl, h, T.cl_Joined, T.n_Joined_sign, rfl, rfl, ?_⟩
    have e : decide (Tw.hld (.j z l r) ≤ 1) = !decide (V.str z = V.str (Str.ofString "*")) := by
      show decide (hz z ≤ 1) = _
      unfold hz
      by_cases c : z = "*"
      · rw [if_pos c, decide_eq_true (show V.str z = V.str (Str.ofString "*") from congrArg V.str c)]; rfl
      · rw [if_neg c, decide_eq_false (show ¬ V.str z = V.str (Str.ofString "*") from fun e => c (V.str.inj e))]; rfl
    rw [e] at q
    exact q
theorem ok_leftn (T : Tx K mg a) : FnOk P w K mg base CX0 2 a.f_left_needs a.d_left_needs ["term"] (spLeftN (csOf a)) := by
  have G_is_sum := ok_issum (P := P) (w := w) (base := base) T
  refine T.F_left_needs.ok sc_left_needs (fun vs H Q E h => ?_) (fun cdv A outer s H vs Q E hr h => ?_)
  · obtain ⟨_, _, _, _, rfl, _⟩ := h; rfl
  obtain ⟨x, z, l, r, rfl, ⟨t, dx, y1, y2, rfl, h, hl, _⟩, q⟩ := h
  refine ⟨_, (@pss_one _ _ _ (@ps_ret _ _ _ _ (@pe_and _ _ _ _ _ _ _ (@pe_cmpR _ _ _ _ _ _ _ _ op_eq (@pe_fld _ _ _ _ _ (pv 0) rfl) pe_str (@nomark _ _ (by decide) (by decide))) (@pe_one _ _ _ _ _ (@pe_call _ _ _ _ _ _ _ _ _ _ _ _ _ _ _ _ G_is_sum (hr.mono (by omega)) (by rfl) T.m_is_sum T.F_is_sum.kp T.b_is_sum .nil pass0 (@pa_cons _ _ _ _ _ (@pe_fld _ _ _ _ _ (pv 0) rfl) pa_nil (by rfl)) (by decide) (by rfl) (by rfl)))))), ?_⟩
  refine ⟨_, rfl, t, _, dx, _, _, rfl, h, T.cl_Joined, T.n_Joined_sign, rfl, rfl, _, rfl, ?_⟩
  unfold hz at q
  by_cases c : z = "*"
  · rw [if_pos c, show decide (l.hld < 2) = decide (l.hld ≤ 1) from decide_eq_decide.mpr (by omega)] at q
    refine iteE (v := true) (decide_eq_true (congrArg V.str c)) (iteT ?_)
    exact ⟨_, rfl, t, _, dx, _, _, rfl, h, T.cl_Joined, T.n_Joined_left, rfl, y1, l, rfl, hl, q⟩
  · rw [if_neg c, decide_eq_false (by have := l.hld_pos; omega)] at q
    have e : decide (V.str z = V.str (Str.ofString "*")) = false := decide_eq_false fun e => c (V.str.inj e)
    rw [e]
    exact iteF q
theorem ok_rightn (T : Tx K mg a) : FnOk P w K mg base CX0 2 a.f_right_needs a.d_right_needs ["term"] (spRightN (csOf a)) := by
  have G_is_sum := ok_issum (P := P) (w := w) (base := base) T
  refine T.F_right_needs.ok sc_right_needs (fun vs H Q E h => ?_) (fun cdv A outer s H vs Q E hr h => ?_)
  · obtain ⟨_, _, _, _, rfl, _⟩ := h; rfl
  obtain ⟨x, z, l, r, rfl, ⟨t, dx, y1, y2, rfl, h, _, hr2⟩, q⟩ := h
  refine ⟨_, (@pss_cons _ _ _ _ _ (@ps_if _ _ _ _ _ _ _ _ (@pt_cmpR _ _ _ _ _ _ _ _ op_eq (@pe_fld _ _ _ _ _ (pv 0) rfl) pe_str (@nomark _ _ (by decide) (by decide))) (@pss_one _ _ _ (@ps_ret _ _ _ _ (@pe_callB _ _ _ _ _ _ _ _ _ call_isi (by rfl) T.z_isinstance bt_isinstance (@pa_cons _ _ _ _ _ (@pe_fld _ _ _ _ _ (pv 0) rfl) (@pa_cons _ _ _ _ _ (@pe_glob _ _ (.ref a.c_Joined) _ _ (by rfl) T.mc_Joined rfl (by decide)) pa_nil (by rfl)) (by rfl)) (by decide) (by decide) (by rfl) (by rfl)))) pss_nil) (@pss_one _ _ _ (@ps_ret _ _ _ _ (@pe_call _ _ _ _ _ _ _ _ _ _ _ _ _ _ _ _ G_is_sum (hr.mono (by omega)) (by rfl) T.m_is_sum T.F_is_sum.kp T.b_is_sum .nil pass0 (@pa_cons _ _ _ _ _ (@pe_fld _ _ _ _ _ (pv 0) rfl) pa_nil (by rfl)) (by decide) (by rfl) (by rfl))))), ?_⟩
  refine ⟨_, rfl, t, _, dx, _, _, rfl, h, T.cl_Joined, T.n_Joined_sign, rfl, rfl, _, rfl, ?_⟩
  unfold hz at q
  by_cases c : z = "*"
  · rw [if_pos c] at q
    refine iteE (v := true) (decide_eq_true (congrArg V.str c)) (iteT ?_)
    refine ⟨_, rfl, t, _, dx, _, _, rfl, h, T.cl_Joined, T.n_Joined_right, rfl, ?_⟩
    cases r with
    | n i =>
      obtain ⟨t', dx', rfl, h'⟩ := hr2
      exact ⟨_, _, _, _, _, rfl, rfl, T.ty_Number _ t' dx' _ h', T.is_Number_Joined, q⟩
    | v z =>
      obtain ⟨t', dx', rfl, h'⟩ := hr2
      exact ⟨_, _, _, _, _, rfl, rfl, T.ty_Value _ t' dx' _ h', T.is_Value_Joined, q⟩
    | c z sp =>
      obtain ⟨t', dx', p, rfl, h', _⟩ := hr2
      exact ⟨_, _, _, _, _, rfl, rfl, T.ty_Cell _ t' dx' _ h', T.is_Cell_Joined, q⟩
    | j z l r =>
      obtain ⟨t', dx', _, _, rfl, h', _, _⟩ := hr2
      rw [decide_eq_true (show Tw.hld (.j z l r) ≤ 2 from (hz_pos z).2)] at q
      exact ⟨_, _, _, _, _, rfl, rfl, T.ty_Joined _ t' dx' _ h', T.is_Joined_Joined, q⟩
  · rw [if_neg c] at q
    refine iteE (v := false) (dS c) (iteF ?_)
    exact ⟨_, rfl, t, _, dx, _, _, rfl, h, T.cl_Joined, T.n_Joined_right, rfl, y2, r, rfl, hr2, q⟩
theorem ok_brk (T : Tx K mg a) (n : Nat) (G_written_term : FnOk P w K mg base CX0 (2 * n + 3) a.f_written_term a.d_written_term ["term"] (spWr (csOf a) n)) : FnOk P w K mg base CX0 (2 * n + 4) a.f_bracketed a.d_bracketed ["term", "needed"] (spBrk (csOf a) n) := by
  refine T.F_bracketed.ok sc_bracketed (fun vs H Q E h => ?_) (fun cdv A outer s H vs Q E hr h => ?_)
  · obtain ⟨_, _, _, rfl, _⟩ := h; rfl
  obtain ⟨x, b, t, rfl, ht, ok, hm, hn, q⟩ := h
  refine ⟨_, (@pss_cons _ _ _ _ _ (@ps_set _ _ (2) _ _ _ _ sc_bracketed.nd rfl (Or.inl rfl) (@pe_call _ _ _ _ _ _ _ _ _ _ _ _ _ _ _ _ G_written_term (hr.mono (by omega)) (by rfl) T.m_written_term T.F_written_term.kp T.b_written_term .nil pass0 (@pa_cons _ _ _ _ _ (pv 0) pa_nil (by rfl)) (by decide) (by rfl) (by rfl)) (by rfl) (by first | exact .inl rfl | exact .inr rfl | assumption)) (@pss_cons _ _ _ _ _ (@ps_if _ _ _ _ _ _ _ _ (@pt_val _ _ _ (pv 1) (by intro _ ; rfl)) (@pss_one _ _ _ (@ps_ret _ _ _ _ (@pe_joined3 _ _ _ _ _ _ _ _ pe_str (@pe_fmtS _ _ _ _ (pv 2)) pe_str))) pss_nil) (@pss_one _ _ _ (@ps_ret _ _ _ _ (pv 2))))), ?_⟩
  have wl := Tw.wr_len ok
  have l2 : ("(" : Str).length = 1 := by decide +kernel
  have l3 : (")" : Str).length = 1 := by decide +kernel
  have em : ∀ x : Str, Str.empty ++ x = x := fun x => cds_ext (by rw [cds_app]; rfl)
  refine ⟨_, rfl, x, t, rfl, ht, ok, hm, hn, fun H1 e1 => ?_⟩
  dsimp only [gName]
  cases b with
  | true =>
    refine ⟨_, rfl, _, rfl, iteT ?_⟩
    refine ⟨_, rfl, szl (by rw [em]; omega), ?_⟩
    rw [em]
    exact ⟨_, rfl, _, rfl, szl (by omega), _, rfl, szl (by rw [sLen]; omega), _, rfl, szl (by rw [sLen, sLen]; omega), q _ e1⟩
  | false =>
    refine ⟨_, rfl, _, rfl, iteF ?_⟩
    exact ⟨_, rfl, q _ e1⟩
theorem ok_wterm (T : Tx K mg a) : ∀ n : Nat, FnOk P w K mg base CX0 (2 * n + 3) a.f_written_term a.d_written_term ["term"] (spWr (csOf a) n)
  | 0 => by
    have no : ∀ vs H Q E, ¬ spWr (csOf a) 0 vs H Q E := fun vs H Q E h => by
      obtain ⟨x, t, _, _, _, hm, _⟩ := h
      have := t.sz_pos
      omega
    exact ⟨fun vs H Q E h => absurd h (no vs H Q E), fun A outer s H args us vs Q E _ _ _ _ h => absurd h (no vs H Q E)⟩
  | n + 1 => by
    have G_bracketed := ok_brk (P := P) (w := w) (base := base) T n (ok_wterm T n)
    have G_left_needs := ok_leftn (P := P) (w := w) (base := base) T
    have G_right_needs := ok_rightn (P := P) (w := w) (base := base) T
    have G_written_cell := ok_wcell (P := P) (w := w) (base := base) T
    refine T.F_written_term.ok sc_written_term (fun vs H Q E h => ?_) (fun cdv A outer s H vs Q E hr h => ?_)
    · obtain ⟨_, _, rfl, _⟩ := h; rfl
    obtain ⟨x, tm, rfl, ht, ok, hm, hn, q⟩ := h
    refine ⟨_, (@pss_cons _ _ _ _ _ (@ps_if _ _ _ _ _ _ _ _ (@pt_val _ _ _ (@pe_callB _ _ _ _ _ _ _ _ _ call_isi (by rfl) T.z_isinstance bt_isinstance (@pa_cons _ _ _ _ _ (pv 0) (@pa_cons _ _ _ _ _ (@pe_glob _ _ (.ref a.c_Joined) _ _ (by rfl) T.mc_Joined rfl (by decide)) pa_nil (by rfl)) (by rfl)) (by decide) (by decide) (by rfl) (by rfl)) (by intro _ ; rfl)) (@pss_cons _ _ _ _ _ (@ps_set _ _ (1) _ _ _ _ sc_written_term.nd rfl (Or.inl rfl) (@pe_call _ _ _ _ _ _ _ _ _ _ _ _ _ _ _ _ G_bracketed (hr.mono (by omega)) (by rfl) T.m_bracketed T.F_bracketed.kp T.b_bracketed .nil pass0 (@pa_cons _ _ _ _ _ (@pe_fld _ _ _ _ _ (pv 0) rfl) (@pa_cons _ _ _ _ _ (@pe_call _ _ _ _ _ _ _ _ _ _ _ _ _ _ _ _ G_left_needs (hr.mono (by omega)) (by rfl) T.m_left_needs T.F_left_needs.kp T.b_left_needs .nil pass0 (@pa_cons _ _ _ _ _ (pv 0) pa_nil (by rfl)) (by decide) (by rfl) (by rfl)) pa_nil (by rfl)) (by rfl)) (by decide) (by rfl) (by rfl)) (by rfl) (by first | exact .inl rfl | exact .inr rfl | assumption)) (@pss_cons _ _ _ _ _ (@ps_set _ _ (2) _ _ _ _ sc_written_term.nd rfl (Or.inl rfl) (@pe_call _ _ _ _ _ _ _ _ _ _ _ _ _ _ _ _ G_bracketed (hr.mono (by omega)) (by rfl) T.m_bracketed T.F_bracketed.kp T.b_bracketed .nil pass0 (@pa_cons _ _ _ _ _ (@pe_fld _ _ _ _ _ (pv 0) rfl) (@pa_cons _ _ _ _ _ (@pe_call _ _ _ _ _ _ _ _ _ _ _ _ _ _ _ _ G_right_needs (hr.mono (by omega)) (by rfl) T.m_right_needs T.F_right_needs.kp T.b_right_needs .nil pass0 (@pa_cons _ _ _ _ _ (pv 0) pa_nil (by rfl)) (by decide) (by rfl) (by rfl)) pa_nil (by rfl)) (by rfl)) (by decide) (by rfl) (by rfl)) (by rfl) (by first | exact .inl rfl | exact .inr rfl | assumption)) (@pss_one _ _ _ (@ps_ret _ _ _ _ (@pe_op _ _ _ _ _ _ _ _ op_add_str (@pe_op _ _ _ _ _ _ _ _ op_add_str (pv 1) (@pe_fld _ _ _ _ _ (pv 0) rfl)) (pv 2)))))) pss_nil) (@pss_cons _ _ _ _ _ (@ps_if _ _ _ _ _ _ _ _ (@pt_val _ _ _ (@pe_callB _ _ _ _ _ _ _ _ _ call_isi (by rfl) T.z_isinstance bt_isinstance (@pa_cons _ _ _ _ _ (pv 0) (@pa_cons _ _ _ _ _ (@pe_glob _ _ (.ref a.c_Number) _ _ (by rfl) T.mc_Number rfl (by decide)) pa_nil (by rfl)) (by rfl)) (by decide) (by decide) (by rfl) (by rfl)) (by intro _ ; rfl)) (@pss_one _ _ _ (@ps_ret _ _ _ _ (@pe_callTy _ _ _ _ _ _ _ _ _ call_str_int (by rfl) T.z_str bt_str (@pa_cons _ _ _ _ _ (@pe_fld _ _ _ _ _ (pv 0) rfl) pa_nil (by rfl)) (by decide) (by decide) (by rfl) (by rfl)))) pss_nil) (@pss_cons _ _ _ _ _ (@ps_if _ _ _ _ _ _ _ _ (@pt_val _ _ _ (@pe_callB _ _ _ _ _ _ _ _ _ call_isi (by rfl) T.z_isinstance bt_isinstance (@pa_cons _ _ _ _ _ (pv 0) (@pa_cons _ _ _ _ _ (@pe_glob _ _ (.ref a.c_Cell) _ _ (by rfl) T.mc_Cell rfl (by decide)) pa_nil (by rfl)) (by rfl)) (by decide) (by decide) (by rfl) (by rfl)) (by intro _ ; rfl)) (@pss_one _ _ _ (@ps_ret _ _ _ _ (@pe_call _ _ _ _ _ _ _ _ _ _ _ _ _ _ _ _ G_written_cell (hr.mono (by omega)) (by rfl) T.m_written_cell T.F_written_cell.kp T.b_written_cell .nil pass0 (@pa_cons _ _ _ _ _ (@pe_fld _ _ _ _ _ (pv 0) rfl) (@pa_cons _ _ _ _ _ (@pe_fld _ _ _ _ _ (pv 0) rfl) pa_nil (by rfl)) (by rfl)) (by decide) (by rfl) (by rfl)))) pss_nil) (@pss_one _ _ _ (@ps_ret _ _ _ _ (@pe_fld _ _ _ _ _ (pv 0) rfl)))))), ?_⟩
    cases tm with
    | n i =>
      obtain ⟨t, dx, rfl, h⟩ := ht
      obtain ⟨i0, i1⟩ := ok
      refine ⟨_, rfl, _, _, _, _, _, rfl, rfl, T.ty_Number _ t dx _ h, T.is_Number_Joined, _, rfl, iteF ?_⟩
      refine ⟨_, rfl, _, _, _, _, _, rfl, rfl, T.ty_Number _ t dx _ h, T.is_Number_Number, _, rfl, iteT ?_⟩
      exact ⟨_, rfl, t, _, dx, _, _, rfl, h, T.cl_Number, T.n_Number_n, rfl, _, rfl, log_small (by omega) i1, q _ (Same.refl _)⟩
    | v z =>
      obtain ⟨t, dx, rfl, h⟩ := ht
      refine ⟨_, rfl, _, _, _, _, _, rfl, rfl, T.ty_Value _ t dx _ h, T.is_Value_Joined, _, rfl, iteF ?_⟩
      refine ⟨_, rfl, _, _, _, _, _, rfl, rfl, T.ty_Value _ t dx _ h, T.is_Value_Number, _, rfl, iteF ?_⟩
      refine ⟨_, rfl, _, _, _, _, _, rfl, rfl, T.ty_Value _ t dx _ h, T.is_Value_Cell, _, rfl, iteF ?_⟩
      exact ⟨_, rfl, t, _, dx, _, _, rfl, h, T.cl_Value, T.n_Value_name, rfl, q _ (Same.refl _)⟩
    | c z sp =>
      obtain ⟨t, dx, p, rfl, h, hsp⟩ := ht
      obtain ⟨o1, o2, o3⟩ := ok
      refine ⟨_, rfl, _, _, _, _, _, rfl, rfl, T.ty_Cell _ t dx _ h, T.is_Cell_Joined, _, rfl, iteF ?_⟩
      refine ⟨_, rfl, _, _, _, _, _, rfl, rfl, T.ty_Cell _ t dx _ h, T.is_Cell_Number, _, rfl, iteF ?_⟩
      refine ⟨_, rfl, _, _, _, _, _, rfl, rfl, T.ty_Cell _ t dx _ h, T.is_Cell_Cell, _, rfl, iteT ?_⟩
      exact ⟨_, rfl, t, _, dx, _, _, rfl, h, T.cl_Cell, T.n_Cell_table, rfl, _, rfl, t, _, dx, _, _, rfl, h, T.cl_Cell, T.n_Cell_spots, rfl, z, p, sp, rfl, hsp, o1, o2, o3, fun H' e => q _ e⟩
    | j z l r =>
      have ht' := ht
      obtain ⟨t, dx, y1, y2, rfl, h, hl, hrr⟩ := ht
      have ok' := ok
      obtain ⟨hz3, okl, okr⟩ := ok
      have := l.sz_pos
      have := r.sz_pos
      have hm : l.sz + r.sz ≤ n + 1 := hm
      have wL := Tw.wr_len okl
      have wR := Tw.wr_len okr
      have zl := sgn_len hz3
      have bL := brkS_len (decide (l.hld < hz z)) l.wr
      have bR := brkS_len (decide (r.hld ≤ hz z)) r.wr
      refine ⟨_, rfl, _, _, _, _, _, rfl, rfl, T.ty_Joined _ t dx _ h, T.is_Joined_Joined, _, rfl, iteT ?_⟩
      refine ⟨_, rfl, t, _, dx, _, _, rfl, h, T.cl_Joined, T.n_Joined_left, rfl, _, rfl, .ref t, z, l, r, rfl, ht', y1, _, l, rfl, hl, okl, by omega, by omega, fun H1 e1 => ?_⟩
      dsimp only [gName]
      have h1 := e1 _ _ h
      refine ⟨_, rfl, t, _, dx, _, _, rfl, h1, T.cl_Joined, T.n_Joined_right, rfl, _, rfl, .ref t, z, l, r, rfl, TbAt.over e1 ht', y2, _, r, rfl, hrr.over e1, okr, by omega, by omega, fun H2 e2 => ?_⟩
      dsimp only [gName]
      have h2 := e2 _ _ h1
      exact ⟨_, rfl, _, rfl, t, _, dx, _, _, rfl, h2, T.cl_Joined, T.n_Joined_sign, rfl, _, _, rfl, rfl, szl (by omega), _, rfl, _, _, rfl, rfl, szl (by rw [sLen]; omega), q _ (e1.trans e2)⟩

theorem ok_wloop (T : Tx K mg a) : FnOk P w K mg base CX0 2 a.f_written_loop a.d_written_loop ["deed", "e"] (spWLoop a.c_Deed (csOf a)) := by
  have G_written_spot := ok_wspot (P := P) (w := w) (base := base) T
  refine T.F_written_loop.ok sc_written_loop (fun vs H Q E h => ?_) (fun cdv A outer s H vs Q E hr h => ?_)
  · obtain ⟨_, _, _, _, rfl, _⟩ := h; rfl
  obtain ⟨x, D, e, t, rfl, ⟨p, dx, nm, lo, hi, ps, pt, ob, ls, hs, rfl, h0, h1, h2, h3, h4, h5, h6, h7, h8⟩, ok, he, q⟩ := h
  refine ⟨_, (@pss_cons _ _ _ _ _ (@ps_set _ _ (2) _ _ _ _ sc_written_loop.nd rfl (Or.inl rfl) (@pe_ix _ _ _ _ _ _ _ ix_tup (@pe_fld _ _ _ _ _ (pv 0) rfl) (pv 1) (fun _ _ => rfl)) (by rfl) (by first | exact .inl rfl | exact .inr rfl | assumption)) (@pss_cons _ _ _ _ _ (@ps_set _ _ (3) _ _ _ _ sc_written_loop.nd rfl (Or.inl rfl) (@pe_call _ _ _ _ _ _ _ _ _ _ _ _ _ _ _ _ G_written_spot (hr.mono (by omega)) (by rfl) T.m_written_spot T.F_written_spot.kp T.b_written_spot .nil pass0 (@pa_cons _ _ _ _ _ (@pe_ix _ _ _ _ _ _ _ ix_tup (@pe_fld _ _ _ _ _ (pv 0) rfl) (pv 1) (fun _ _ => rfl)) pa_nil (by rfl)) (by decide) (by rfl) (by rfl)) (by rfl) (by first | exact .inl rfl | exact .inr rfl | assumption)) (@pss_cons _ _ _ _ _ (@ps_set _ _ (4) _ _ _ _ sc_written_loop.nd rfl (Or.inl rfl) (@pe_call _ _ _ _ _ _ _ _ _ _ _ _ _ _ _ _ G_written_spot (hr.mono (by omega)) (by rfl) T.m_written_spot T.F_written_spot.kp T.b_written_spot .nil pass0 (@pa_cons _ _ _ _ _ (@pe_ix _ _ _ _ _ _ _ ix_tup (@pe_fld _ _ _ _ _ (pv 0) rfl) (pv 1) (fun _ _ => rfl)) pa_nil (by rfl)) (by decide) (by rfl) (by rfl)) (by rfl) (by first | exact .inl rfl | exact .inr rfl | assumption)) (@pss_one _ _ _ (@ps_ret _ _ _ _ (@pe_joined6 _ _ _ _ _ _ _ _ _ _ _ _ _ _ pe_str (@pe_fmtS _ _ _ _ (pv 2)) pe_str (@pe_fmtS _ _ _ _ (pv 3)) pe_str (@pe_fmtS _ _ _ _ (pv 4)))))))), ?_⟩
  obtain ⟨tk1, tk2, tk3⟩ := ok.lp t (List.mem_of_getElem? he)
  have l2 := spS_len tk2
  have l3 := spS_len tk3
  have e4 : ("for " : Str).length = 4 := by decide +kernel
  have e1 : (" " : Str).length = 1 := by decide +kernel
  have em : ∀ x : Str, Str.empty ++ x = x := fun x => cds_ext (by rw [cds_app]; rfl)
  obtain ⟨xl, hxl, sl⟩ := h3.get he
  obtain ⟨xh, hxh, sh⟩ := h5.get he
  have hn : (D.loops.map fun t => V.str t.nm)[e]? = some (V.str t.nm) := by rw [List.getElem?_map, he]; rfl
  refine ⟨_, rfl, p, _, dx, _, _, rfl, h0, T.cl_Deed, T.n_Deed_names, rfl, _, rfl, nm, _, _, _, rfl, rfl, SqT.of h1, atI_nat hn, ?_⟩
  dsimp only [gName]
  refine ⟨_, rfl, p, _, dx, _, _, rfl, h0, T.cl_Deed, T.n_Deed_lows, rfl, _, rfl, lo, _, _, _, rfl, rfl, SqT.of h2, atI_nat hxl, xl, t.lo, rfl, sl, tk2, ?_⟩
  dsimp only [gName]
  refine ⟨_, rfl, p, _, dx, _, _, rfl, h0, T.cl_Deed, T.n_Deed_highs, rfl, _, rfl, hi, _, _, _, rfl, rfl, SqT.of h4, atI_nat hxh, xh, t.hi, rfl, sh, tk3, ?_⟩
  dsimp only [gName]
  refine ⟨_, rfl, szl (by rw [em]; omega), ?_⟩
  rw [em]
  refine ⟨_, rfl, _, rfl, szl (by omega), _, rfl, szl (by rw [sLen]; omega), _, rfl, szl (by rw [sLen, sLen]; omega), ?_⟩
  refine ⟨_, rfl, _, rfl, szl (by omega), _, rfl, szl (by rw [sLen, sLen, sLen]; omega), _, rfl, szl (by rw [sLen, sLen, sLen, sLen]; omega), ?_⟩
  exact ⟨_, rfl, _, rfl, szl (by omega), _, rfl, szl (by rw [sLen, sLen, sLen, sLen, sLen]; omega), q⟩
theorem ok_wdeed (T : Tx K mg a) : FnOk P w K mg base CX0 14 a.f_written_deed a.d_written_deed ["deed"] (spWDeed a.c_Deed (csOf a)) := by
  have G_written_cell := ok_wcell (P := P) (w := w) (base := base) T
  have G_written_term := ok_wterm (P := P) (w := w) (base := base) T 5
  refine T.F_written_deed.ok sc_written_deed (fun vs H Q E h => ?_) (fun cdv A outer s H vs Q E hr h => ?_)
  · obtain ⟨_, _, rfl, _⟩ := h; rfl
  obtain ⟨x, D, rfl, ⟨p, dx, nm, lo, hi, ps, pt, ob, ls, hs, rfl, h0, h1, h2, h3, h4, h5, h6, h7, h8⟩, ok, q⟩ := h
  refine ⟨_, (@pss_cons _ _ _ _ _ (@ps_set _ _ (1) _ _ _ _ sc_written_deed.nd rfl (Or.inl rfl) (@pe_call _ _ _ _ _ _ _ _ _ _ _ _ _ _ _ _ G_written_cell (hr.mono (by omega)) (by rfl) T.m_written_cell T.F_written_cell.kp T.b_written_cell .nil pass0 (@pa_cons _ _ _ _ _ (@pe_fld _ _ _ _ _ (pv 0) rfl) (@pa_cons _ _ _ _ _ (@pe_fld _ _ _ _ _ (pv 0) rfl) pa_nil (by rfl)) (by rfl)) (by decide) (by rfl) (by rfl)) (by rfl) (by first | exact .inl rfl | exact .inr rfl | assumption)) (@pss_cons _ _ _ _ _ (@ps_set _ _ (2) _ _ _ _ sc_written_deed.nd rfl (Or.inl rfl) (@pe_call _ _ _ _ _ _ _ _ _ _ _ _ _ _ _ _ G_written_term (hr.mono (by omega)) (by rfl) T.m_written_term T.F_written_term.kp T.b_written_term .nil pass0 (@pa_cons _ _ _ _ _ (@pe_fld _ _ _ _ _ (pv 0) rfl) pa_nil (by rfl)) (by decide) (by rfl) (by rfl)) (by rfl) (by first | exact .inl rfl | exact .inr rfl | assumption)) (@pss_one _ _ _ (@ps_ret _ _ _ _ (@pe_joined3 _ _ _ _ _ _ _ _ (@pe_fmtS _ _ _ _ (pv 1)) pe_str (@pe_fmtS _ _ _ _ (pv 2))))))), ?_⟩
  have l1 := celS_len ok.c.1 ok.c.2.1 ok.c.2.2
  have l2 := Tw.wr_len ok.t
  have l3 := ok.s
  have e3 : (" = " : Str).length = 3 := by decide +kernel
  have em : ∀ x : Str, Str.empty ++ x = x := fun x => cds_ext (by rw [cds_app]; rfl)
  refine ⟨_, rfl, p, _, dx, _, _, rfl, h0, T.cl_Deed, T.n_Deed_table, rfl, _, rfl, p, _, dx, _, _, rfl, h0, T.cl_Deed, T.n_Deed_spots, rfl, D.tbl, ps, D.sp, rfl, h6, ok.c.1, ok.c.2.1, ok.c.2.2, fun H1 e1 => ?_⟩
  dsimp only [gName]
  refine ⟨_, rfl, p, _, dx, _, _, rfl, e1 _ _ h0, T.cl_Deed, T.n_Deed_term, rfl, ob, D.tm, rfl, h7.over e1, ok.t, ok.s, by decide, fun H2 e2 => ?_⟩
  dsimp only [gName]
  refine ⟨_, rfl, _, rfl, szl (by omega), _, rfl, szl (by rw [em]; omega), ?_⟩
  rw [em]
  exact ⟨_, rfl, szl (by rw [sLen]; omega), _, rfl, _, rfl, szl (by omega), _, rfl, szl (by rw [sLen, sLen]; omega), q _ (e1.trans e2)⟩

theorem ok_neigh (T : Tx K mg a) : FnOk P w K mg base CX0 1 a.f_neighbours a.d_neighbours ["deeds", "numbers", "depth"] (spNeigh a.c_Deed (csOf a)) := by
  refine T.F_neighbours.ok sc_neighbours (fun vs H Q E h => ?_) (fun cdv A outer s H vs Q E hr h => ?_)
  · obtain ⟨_, _, _, _, _, rfl, _⟩ := h; rfl
  obtain ⟨dl, nl, d, Ds, ns, rfl, ⟨xs, hdl, ax⟩, hnl, hin, nlen, q⟩ := h
  refine ⟨_, (@pss_cons _ _ _ _ _ (@ps_set _ _ (3) _ _ _ _ sc_neighbours.nd rfl (Or.inl rfl) (@pe_lst _ _ _ _ pa_nil) (by rfl) (by first | exact .inl rfl | exact .inr rfl | assumption)) (@pss_cons _ _ _ _ _ (@ps_for _ _ _ _ _ _ _ _ PassesOwn.never rfl (@pi_list _ _ _ _ (pv 1)) (pg_name (i := 4) sc_neighbours.nd rfl (Or.inl rfl)) (@pss_one _ _ _ (@ps_if _ _ _ _ _ _ _ _ ((@pw_and _ _ _ _ _ _ _ (@pt_truth _ _ _ (pv 3) (fun _ => rfl)) (@pw_and1 _ _ _ _ (@pt_cmpR _ _ _ _ _ _ _ _ op_eq (@pe_ix _ _ _ _ _ _ _ ix_tup (@pe_fld _ _ _ _ _ (@pe_ix _ _ _ _ _ _ _ ix_list (pv 0) (@pe_ix _ _ _ _ _ _ _ ix_list (@pe_ix _ _ _ _ _ _ _ ix_list (pv 3) (@pe_un _ _ _ _ _ _ un_neg pe_int) (fun _ _ => rfl)) pe_int (fun _ _ => rfl)) (fun _ _ => rfl)) rfl) (pv 2) (fun _ _ => rfl)) (@pe_ix _ _ _ _ _ _ _ ix_tup (@pe_fld _ _ _ _ _ (@pe_ix _ _ _ _ _ _ _ ix_list (pv 0) (pv 4) (fun _ _ => rfl)) rfl) (pv 2) (fun _ _ => rfl)) (@nomark _ _ (by decide) (by decide)))))).pt (@pss_one _ _ _ (@ps_expr _ _ _ _ (@pe_bm _ _ _ _ _ _ _ _ _ _ _ _ PySem.F.plainAttrs_list PySem.F.slot_list_append PySem.F.type_list_append mt_append (@pe_ix _ _ _ _ _ _ _ ix_list (pv 3) (@pe_un _ _ _ _ _ _ un_neg pe_int) (fun _ _ => rfl)) (@pa_cons _ _ _ _ _ (pv 4) pa_nil (by rfl)) (by rfl) (by rfl) (by rfl) (by rfl) (by rfl)) (by rfl))) (@pss_one _ _ _ (@ps_expr _ _ _ _ (@pe_bm _ _ _ _ _ _ _ _ _ _ _ _ PySem.F.plainAttrs_list PySem.F.slot_list_append PySem.F.type_list_append mt_append (pv 3) (@pa_cons _ _ _ _ _ (@pe_lst _ _ _ _ (@pa_cons _ _ _ _ _ (pv 4) pa_nil (by rfl))) pa_nil (by rfl)) (by rfl) (by rfl) (by rfl) (by rfl) (by rfl)) (by rfl))))) (by intro _ ; rfl)) (@pss_one _ _ _ (@ps_ret _ _ _ _ (pv 3))))), ?_⟩
  refine ⟨szl (by show 0 ≤ 1000000; decide), fun gl hgl => ?_⟩
  have s1 := same_new hgl (.lst [])
  have hgl1 : (upd H gl (.lst [])) gl = some (.lst []) := upd_same
  dsimp only [gName]
  generalize upd H gl (.lst []) = H1 at s1 hgl1
  have nln : (ilst ns).length = ns.length := by unfold ilst; rw [List.length_map]
  refine ⟨_, rfl, nl, rfl, ⟨_, SqL.of (s1 _ _ hnl)⟩, ?_⟩
  refine for_list (xs := ilst ns) (fun i σ' H' => ∃ (ys : List V) (G : List (List Nat)) (o4 : Option V), σ' = [some (.ref dl), some (.ref nl), some (.int (d : Int)), some (.ref gl), o4] ∧ Same H H' ∧ H' gl = some (.lst ys) ∧ GSt H H' gl ys G ∧ GP Ds d (ns.take i) G ∧ G.length ≤ i) ⟨[], [], _, rfl, s1, hgl1, .inl ⟨rfl, rfl⟩, .nil, Nat.le_refl _⟩ (fun i σ' H' _ pp => by obtain ⟨_, _, _, _, e, _⟩ := pp; exact SqL.of (e _ _ hnl)) (fun i x σ' H' hx pp => ?_) (fun σ' H' pp => ?_)
  rotate_left
  · obtain ⟨ys, G, o4, rfl, e, hg, st, gp, _⟩ := pp
    rw [nln, List.take_length] at gp
    exact ⟨_, rfl, q gl _ G e hgl (st.all hg) gp.isG⟩
  obtain ⟨ys, G, o4, rfl, e, hg, st, gp, glen⟩ := pp
  have hi : i < ns.length := by have := (List.getElem?_eq_some_iff.mp hx).1; omega
  have hk : ns[i]? = some ns[i] := List.getElem?_eq_getElem hi
  obtain ⟨k, ek⟩ : ∃ k, ns[i] = k := ⟨_, rfl⟩
  rw [ek] at hk
  have exk : x = V.int (k : Int) := by unfold ilst at hx; rw [List.getElem?_map, hk] at hx; exact (Option.some.inj hx).symm
  subst exk
  obtain ⟨D, hD, ok, hd⟩ := hin k (List.mem_of_getElem? hk)
  obtain ⟨v, hv, ⟨p, dx, nm, lo, hi2, ps, pt, ob, ls, hs, rfl, h0, h1, h2, h3, h4, h5, h6, h7, h8⟩⟩ := ax.get hD
  have pk : atI (D.path.map V.int) (d : Int) = some (.int (pat Ds d k)) := by
    rw [pat_some hD]
    exact cell_in (ns := D.path) (k := (d : Int)) (Int.natCast_nonneg _) (by have := ok.pl; omega)
  have tks : ns.take (i + 1) = ns.take i ++ [k] := take_snoc hk
  rw [tks]
  have yl := st.len
  dsimp only [gName]
  refine if_any (fun H2 => H2 = H' ∧ ∀ g h, G.getLast? = some g → g.head? = some h → pat Ds d h ≠ pat Ds d k) (fun H2 pp => ?_) (fun els => ?_)
  · obtain ⟨rfl, hne⟩ := pp
    refine ⟨_, rfl, .inl ⟨rfl, _, SqL.of hg⟩, _, rfl, szl (by show 1 ≤ 1000000; decide), fun l hl => ?_⟩
    have s2 := same_new hl (.lst [V.int (k : Int)])
    refine ⟨gl, _, _, rfl, rfl, s2 _ _ hg, szlt (by omega), ?_⟩
    refine ⟨ys ++ [.ref l], G ++ [[k]], _, rfl, fun b ob eb => by rw [upd_ne (ne_of_none eb hgl)]; exact s2 _ _ (e _ _ eb), upd_same, st.new hg hl (e.free hl), .new gp hne, by rw [List.length_append, List.length_singleton]; omega⟩
  · refine ⟨_, rfl, _, .inl ⟨_, SqL.of hg, rfl⟩, ?_⟩
    have il0 : ∀ {h : Nat} {g : List Nat}, atI (ilst (h :: g)) (0 : Int) = some (.int (h : Int)) := fun {h g} => by unfold ilst; exact atI_nat (j := 0) rfl
    rcases st with ⟨rfl, rfl⟩ | ⟨ys', l, G', h, g, rfl, rfl, hall, hl, nlg, hl0⟩
    · exact iteF (els _ ⟨rfl, fun g h hG => by cases hG⟩)
    have ne1 : (!(ys' ++ [V.ref l]).isEmpty) = true := by cases ys' <;> rfl
    rw [ne1]
    refine iteT ?_
    have hmem : h ∈ ns := by
      have := gp.isG.mem (h :: g) (by simp) h List.mem_cons_self
      exact List.mem_of_mem_take this
    obtain ⟨Dh, hDh, okh, hdh⟩ := hin h hmem
    obtain ⟨vh, hvh, ⟨p', dx', nm', lo', hi', ps', pt', ob', ls', hs', rfl, k0, _, _, _, _, _, _, _, k8⟩⟩ := ax.get hDh
    have ph : atI (Dh.path.map V.int) (d : Int) = some (.int (pat Ds d h)) := by
      rw [pat_some hDh]
      exact cell_in (ns := Dh.path) (k := (d : Int)) (Int.natCast_nonneg _) (by have := okh.pl; omega)
    refine ⟨_, rfl, _, rfl, _, rfl, gl, _, _, _, rfl, rfl, SqL.of hg, atI_neg _ _ [] rfl, l, _, _, _, rfl, rfl, SqL.of hl, il0, dl, _, _, _, rfl, rfl, SqL.of (e _ _ hdl), atI_nat hvh, p', _, dx', _, _, rfl, e _ _ k0, T.cl_Deed, T.n_Deed_path, rfl, _, rfl, pt', _, _, _, rfl, rfl, SqT.of (e _ _ k8), ph, ?_⟩
    refine ⟨_, rfl, _, rfl, dl, _, _, _, rfl, rfl, SqL.of (e _ _ hdl), atI_nat hv, p, _, dx, _, _, rfl, e _ _ h0, T.cl_Deed, T.n_Deed_path, rfl, _, rfl, pt, _, _, _, rfl, rfl, SqT.of (e _ _ h8), pk, rfl, _, rfl, ?_⟩
    by_cases c : pat Ds d h = pat Ds d k
    · refine iteE (v := true) (decide_eq_true (congrArg V.int c)) (iteT ?_)
      refine ⟨_, rfl, _, rfl, gl, _, _, _, rfl, rfl, SqL.of hg, atI_neg _ _ [] rfl, .inl ⟨rfl, _, SqL.of hl⟩, _, rfl, l, _, _, rfl, rfl, hl, szlt ?_, ?_⟩
      · have := gp.isG.glen (h :: g) (by simp)
        unfold ilst
        rw [List.length_map]
        rw [List.length_take] at this
        omega
      · refine ⟨ys' ++ [.ref l], G' ++ [h :: g ++ [k]], _, rfl, fun b ob eb => by rw [upd_ne (ne_of_none eb hl0)]; exact e _ _ eb, by rw [upd_ne nlg.symm]; exact hg, ?_, .more gp c, by rw [List.length_append, List.length_singleton] at glen ⊢; omega⟩
        refine .inr ⟨ys', l, G', h, g ++ [k], rfl, rfl, ?_, ?_, nlg, hl0⟩
        · rw [wo2_upd_r]; exact hall
        · rw [upd_same, show ilst (h :: (g ++ [k])) = ilst (h :: g) ++ [V.int (k : Int)] from by unfold ilst; exact List.map_append (l₁ := h :: g) (l₂ := [k])]
    · refine iteE (v := false) (decide_eq_false fun z => c (V.int.inj z)) (iteF ?_)
      refine els _ ⟨rfl, fun g1 h1 hG hh => ?_⟩
      rw [List.getLast?_append] at hG
      cases hG
      cases hh
      exact c

theorem ok_items26 (T : Tx K mg a) : ∀ n : Nat, FnOk P w K mg base CX0 (n + 2) a.f_items_within a.d_items_within ["deeds", "numbers", "depth"] (spItemsW a.c_Deed (csOf a) n)
  | 0 => by
    have no : ∀ vs H Q E, ¬ spItemsW a.c_Deed (csOf a) 0 vs H Q E := fun vs H Q E h => by
      obtain ⟨dl, nl, d, Ds, ns, ds, _, _, _, _, _, _, _, h1, h2, _⟩ := h
      omega
    exact ⟨fun vs H Q E h => absurd h (no vs H Q E), fun A outer s H args us vs Q E _ _ _ _ h => absurd h (no vs H Q E)⟩
  | n + 1 => by
    have G_neighbours := ok_neigh (P := P) (w := w) (base := base) T
    have G_items_within := ok_items26 T n
    refine T.F_items_within.ok sc_items_within (fun vs H Q E h => ?_) (fun cdv A outer s H vs Q E hr h => ?_)
    · obtain ⟨_, _, _, _, _, _, rfl, _⟩ := h; rfl
    obtain ⟨dl, nl, d, Ds, ns, ds, rfl, hDo, hnl, hin, nlen, got, cc, d3, dn, q⟩ := h
    refine ⟨_, (@pss_cons _ _ _ _ _ (@ps_set _ _ (3) _ _ _ _ sc_items_within.nd rfl (Or.inl rfl) (@pe_lst _ _ _ _ pa_nil) (by rfl) (by first | exact .inl rfl | exact .inr rfl | assumption)) (@pss_cons _ _ _ _ _ (@ps_for _ _ _ _ _ _ _ _ PassesOwn.never rfl (@pi_list _ _ _ _ (@pe_call _ _ _ _ _ _ _ _ _ _ _ _ _ _ _ _ G_neighbours (hr.mono (by omega)) (by rfl) T.m_neighbours T.F_neighbours.kp T.b_neighbours .nil pass0 (@pa_cons _ _ _ _ _ (pv 0) (@pa_cons _ _ _ _ _ (pv 1) (@pa_cons _ _ _ _ _ (pv 2) pa_nil (by rfl)) (by rfl)) (by rfl)) (by decide) (by rfl) (by rfl))) (pg_name (i := 4) sc_items_within.nd rfl (Or.inl rfl)) (@pss_cons _ _ _ _ _ (@ps_set _ _ (5) _ _ _ _ sc_items_within.nd rfl (Or.inl rfl) (@pe_ix _ _ _ _ _ _ _ ix_list (pv 4) pe_int (fun _ _ => rfl)) (by rfl) (by first | exact .inl rfl | exact .inr rfl | assumption)) (@pss_one _ _ _ (@ps_if _ _ _ _ _ _ _ _ (@pt_cmpR _ _ _ _ _ _ _ _ op_eq (@pe_callB _ _ _ _ _ _ _ _ _ call_len_seq (by rfl) T.z_len bt_len (@pa_cons _ _ _ _ _ (@pe_fld _ _ _ _ _ (@pe_ix _ _ _ _ _ _ _ ix_list (pv 0) (pv 5) (fun _ _ => rfl)) rfl) pa_nil (by rfl)) (by decide) (by decide) (by rfl) (by rfl)) (pv 2) (@nomark _ _ (by decide) (by decide))) (@pss_one _ _ _ (@ps_expr _ _ _ _ (@pe_bm _ _ _ _ _ _ _ _ _ _ _ _ PySem.F.plainAttrs_list PySem.F.slot_list_append PySem.F.type_list_append mt_append (pv 3) (@pa_cons _ _ _ _ _ (@pe_tup _ _ _ _ _ (@pa_cons _ _ _ _ _ (pv 5) (@pa_cons _ _ _ _ _ pe_non pa_nil (by rfl)) (by rfl))) pa_nil (by rfl)) (by rfl) (by rfl) (by rfl) (by rfl) (by rfl)) (by rfl))) (@pss_one _ _ _ (@ps_expr _ _ _ _ (@pe_bm _ _ _ _ _ _ _ _ _ _ _ _ PySem.F.plainAttrs_list PySem.F.slot_list_append PySem.F.type_list_append mt_append (pv 3) (@pa_cons _ _ _ _ _ (@pe_tup _ _ _ _ _ (@pa_cons _ _ _ _ _ (pv 5) (@pa_cons _ _ _ _ _ (@pe_call _ _ _ _ _ _ _ _ _ _ _ _ _ _ _ _ G_items_within (hr.mono (by omega)) (by rfl) T.m_items_within T.F_items_within.kp T.b_items_within .nil pass0 (@pa_cons _ _ _ _ _ (pv 0) (@pa_cons _ _ _ _ _ (pv 4) (@pa_cons _ _ _ _ _ (@pe_op _ _ _ _ _ _ _ _ op_add (pv 2) pe_int) pa_nil (by rfl)) (by rfl)) (by rfl)) (by decide) (by rfl) (by rfl)) pa_nil (by rfl)) (by rfl))) pa_nil (by rfl)) (by rfl) (by rfl) (by rfl) (by rfl) (by rfl)) (by rfl)))))) (by intro _ ; rfl)) (@pss_one _ _ _ (@ps_ret _ _ _ _ (pv 3))))), ?_⟩
    refine ⟨szl (by show 0 ≤ 1000000; decide), fun it hit => ?_⟩
    have s1 := same_new hit (.lst [])
    have hit1 : (upd H it (.lst [])) it = some (.lst []) := upd_same
    dsimp only [gName]
    generalize upd H it (.lst []) = H1 at s1 hit1
    refine ⟨_, rfl, _, rfl, _, rfl, dl, nl, d, Ds, ns, rfl, hDo.over s1, s1 _ _ hnl, hin, nlen, fun gl H2 G e2 hglN hG isG => ?_⟩
    obtain ⟨ys, hgl, ay⟩ := hG
    have e02 := s1.trans e2
    have ngi : gl ≠ it := (ne_of_none hit1 hglN).symm
    refine ⟨gl, rfl, ⟨_, SqL.of hgl⟩, ?_⟩
    refine for_list (xs := ys) (fun i σ' H' => ∃ (zs : List V) (f : Pw.Fs) (done rest : List Nat) (o4 o5 : Option V), σ' = [some (.ref dl), some (.ref nl), some (.int (d : Int)), some (.ref it), o4, o5] ∧ (∀ b o, b ≠ it → H2 b = some o → H' b = some o) ∧ H' it = some (.lst zs) ∧ FsAt (nwi H H' it) f zs ∧ Pw.IsF (getD Ds) f done d ∧ IsG Ds d rest (G.drop i) ∧ ns = done ++ rest ∧ fdep f ≤ n + 1 ∧ zs.length ≤ done.length ∧ (∀ x y, done.getLast? = some x → rest.head? = some y → pat Ds d x ≠ pat Ds d y)) ⟨[], .nil, [], ns, _, _, rfl, fun _ _ _ h => h, e2 _ _ hit1, rfl, rfl, isG, rfl, Nat.zero_le _, Nat.le_refl _, fun x y hx => by cases hx⟩ (fun i σ' H' _ pp => by obtain ⟨_, _, _, _, _, _, _, k, _⟩ := pp; exact SqL.of (k _ _ ngi hgl)) (fun i x σ' H' hx pp => ?_) (fun σ' H' pp => ?_)
    rotate_left
    · obtain ⟨zs, f, done, rest, o4, o5, rfl, k, hz, fa, isf, ig, en, fd, zl, _⟩ := pp
      rw [ay.1, List.drop_length] at ig
      cases ig
      rw [List.append_nil] at en
      subst en
      exact ⟨_, rfl, q it _ f zs (fun b o hb => k b o (ne_of_none hb hit) (e02 _ _ hb)) hit hz (fa.over nwi_nw) isf fd zl⟩
    obtain ⟨zs, f, done, rest, o4, o5, rfl, k, hz, fa, isf, ig, en, fd, zl, hdf⟩ := pp
    obtain ⟨g, hg, l, rfl, hl⟩ := ay.get' hx
    have dc : G.drop i = g :: G.drop (i + 1) := by
      obtain ⟨hh, rfl⟩ := List.getElem?_eq_some_iff.mp hg
      exact List.drop_eq_getElem_cons hh
    rw [dc] at ig
    generalize G.drop (i + 1) = G2 at ig
    cases ig with
    | @cons kk g' rest' _ i1 i2 i3 =>
    have nli : l ≠ it := fun z => by
      have h1 := e2 _ _ hit1
      rw [← z, hl] at h1
      cases h1
    have keep : ∀ {b o}, H b = some o → H' b = some o := fun {b o} hb => k b o (ne_of_none hb hit) (e02 _ _ hb)
    have eH : Same H H' := fun b o hb => keep hb
    have hl' : H' l = some (.lst (ilst (kk :: g'))) := k _ _ nli hl
    subst en
    obtain ⟨D, hD, ok, hdl⟩ := hin kk (by simp)
    have hDo' := hDo.over eH
    obtain ⟨xs, hxs, ax⟩ := hDo'
    obtain ⟨v, hv, hvo⟩ := ax.get hD
    obtain ⟨p, dx, nm, lo, hi2, ps, pt, ob, ls, hs, rfl, h0, h1, h2, h3, h4, h5, h6, h7, h8⟩ := id hvo
    obtain ⟨ds1, ds2, rfl, got1, got2⟩ := Pw.Got.split got
    obtain ⟨dsg, ds3, rfl, got3, got4⟩ := Pw.Got.split (ns := kk :: g') got2
    have ccg : Pw.CC d dsg := Pw.CC.left (Pw.CC.right cc)
    have memD : ∀ x ∈ done, ∃ a, getD Ds x = some a := fun x hx => by
      obtain ⟨Dx, hDx, _⟩ := hin x (List.mem_append_left _ hx)
      exact ⟨_, getD_some hDx⟩
    have diff : ∀ (x y : Nat) (a b : Pw.Dd LpT Str), done.getLast? = some x → (kk :: g').head? = some y → getD Ds x = some a → getD Ds y = some b → a.path.getD d 0 ≠ b.path.getD d 0 := fun x y a b hx hy ha hb => by
      obtain ⟨Da, hDa, rfl⟩ := getD_inv ha
      obtain ⟨Db, hDb, rfl⟩ := getD_inv hb
      have := hdf x y hx (by cases hy; rfl)
      rw [pat_some hDa, pat_some hDb] at this
      exact this
    have nxt : ∀ x y, (done ++ (kk :: g')).getLast? = some x → rest'.head? = some y → pat Ds d x ≠ pat Ds d y := fun x y hx hy => by
      have hx' : x ∈ kk :: g' := by
        rw [List.getLast?_append] at hx
        cases hgl2 : (kk :: g').getLast? with
        | none => simp at hgl2
        | some z =>
          rw [hgl2] at hx
          cases hx
          exact List.mem_of_getLast? hgl2
      have e : pat Ds d x = pat Ds d kk := by
        rcases List.mem_cons.mp hx' with rfl | h
        · rfl
        · exact i1 x h
      rw [e]
      exact (i2 y hy).symm
    have zlen : zs.length ≤ 10 := by rw [List.length_append] at nlen; omega
    have nlen2 : (kk :: g').length ≤ 10 := by
      have := nlen
      rw [List.length_append, List.length_append] at this
      omega
    dsimp only [gName]
    refine ⟨_, rfl, l, _, _, _, rfl, rfl, SqL.of hl', (show atI (ilst (kk :: g')) (0 : Int) = some (.int (kk : Int)) from by unfold ilst; exact atI_nat (j := 0) rfl), ?_⟩
    dsimp only [gName]
    refine ⟨_, rfl, _, rfl, dl, _, _, _, rfl, rfl, SqL.of hxs, atI_nat hv, p, _, dx, _, _, rfl, h0, T.cl_Deed, T.n_Deed_names, rfl, nm, _, rfl, .inr (SqT.of h1), _, rfl, rfl, _, rfl, ?_⟩
    rw [List.length_map]
    by_cases c : D.loops.length = d
    · refine iteE (v := true) (decide_eq_true (congrArg (fun m : Nat => V.int (m : Int)) c)) (iteT ?_)
      have g0 : g' = [] := by
        cases g' with
        | nil => rfl
        | cons k2 g2 =>
          cases got3 with
          | cons q1 q2 =>
            cases q2 with
            | cons q3 q4 =>
              rw [getD_some hD] at q1
              cases q1
              obtain ⟨D2, hD2, rfl⟩ := getD_inv q3
              obtain ⟨⟨cx, c1, c2⟩, _⟩ := ccg
              have c3 : cx ≤ D.loops.length := c2.1
              have ce : cx = d := by omega
              subst ce
              have := i1 k2 List.mem_cons_self
              rw [pat_some hD2, pat_some hD] at this
              exact absurd this.symm c2.2.2.2.2
      subst g0
      refine ⟨_, rfl, .inl ⟨rfl, _, SqL.of hz⟩, _, rfl, szl (by show 2 ≤ 1000000; decide), fun t ht => ?_⟩
      have s3 := same_new ht (.tup [V.int (kk : Int), V.non])
      refine ⟨it, _, _, rfl, rfl, s3 _ _ hz, szlt (by omega), ?_⟩
      have nti : t ≠ it := (ne_of_none hz ht).symm
      refine ⟨zs ++ [.ref t], fapp f (.leaf kk .nil), done ++ [kk], rest', _, _, rfl, fun b o hb h => by rw [upd_ne hb]; exact s3 _ _ (k b o hb h), upd_same, ?_, isF_app isf ⟨[], D.dd, rfl, getD_some hD, c, rfl⟩ diff memD, i3, by rw [List.append_assoc], Nat.le_trans (fdep_app f _) (Nat.max_le.mpr ⟨fd, by show max 1 0 ≤ n + 1; omega⟩), by rw [List.length_append, List.length_append]; exact Nat.add_le_add zl (Nat.le_refl _), nxt⟩
      exact (fa.over (nwi_mono fun b o hb h => by rw [upd_ne hb]; exact s3 _ _ h)).app ⟨t, [], rfl, nwi_get (eH.free ht) nti (by rw [upd_ne nti]; exact upd_same), rfl⟩
    · refine iteE (v := false) (decide_eq_false fun z => c (by have := V.int.inj z; omega)) (iteF ?_)
      have hlt : d < D.loops.length := by omega
      have ll := ok.ll
      have hv2 : ∀ y ∈ dsg, y.path.getD d 0 = D.dd.path.getD d 0 := fun y hy => by
        obtain ⟨k', hk', e⟩ := got3.mem y hy
        obtain ⟨D', hD', rfl⟩ := getD_inv e
        have : pat Ds d k' = pat Ds d kk := by
          rcases List.mem_cons.mp hk' with rfl | h
          · rfl
          · exact i1 k' h
        rw [pat_some hD', pat_some hD] at this
        exact this
      have up := (Pw.CC.up ccg hv2 (fun y hy => by
        obtain ⟨k', hk', e⟩ := got3.head hy
        cases hk'
        rw [getD_some hD] at e
        cases e
        exact hlt)).1
      have hin2 : InD Ds (d + 1) (kk :: g') := fun x hx => by
        obtain ⟨Dx, hDx, okx, _⟩ := hin x (List.mem_append_right _ (List.mem_append_left _ hx))
        refine ⟨Dx, hDx, okx, ?_⟩
        obtain ⟨y, hy, ey⟩ := got3.find hx
        rw [getD_some hDx] at ey
        cases ey
        exact Pw.CC.le up _ hy
      have nlen3 : zs.length + 1 ≤ 11 := by omega
      refine ⟨_, rfl, .inl ⟨rfl, _, SqL.of hz⟩, _, rfl, _, rfl, _, rfl, _, rfl, _, _, rfl, rfl, dl, l, d + 1, Ds, kk :: g', dsg, rfl, ⟨xs, hxs, ax⟩, hl', hin2, nlen2, got3, up, by omega, by omega, fun r H3 sub ws e3 hrN hr3 fs3 is3 fd3 wl3 => ⟨szl (by show 2 ≤ 1000000; decide), fun t ht => ?_⟩⟩
      have s4 := same_new ht (.tup [V.int (kk : Int), V.ref r])
      have hz3 := e3 _ _ hz
      refine ⟨it, _, _, rfl, rfl, s4 _ _ hz3, szlt (by omega), ?_⟩
      have nti : t ≠ it := (ne_of_none hz3 ht).symm
      have nri : r ≠ it := (ne_of_none hz hrN).symm
      refine ⟨zs ++ [.ref t], fapp f (.node kk sub .nil), done ++ (kk :: g'), rest', _, _, rfl, fun b o hb h => by rw [upd_ne hb]; exact s4 _ _ (e3 _ _ (k b o hb h)), upd_same, ?_, isF_app isf ⟨g', [], D.dd, by simp, getD_some hD, hlt, fun x hx b hb => ?_, fun x b hx => (by cases hx), is3, rfl⟩ diff memD, i3, by rw [List.append_assoc], Nat.le_trans (fdep_app f _) (Nat.max_le.mpr ⟨fd, by show max (fdep sub + 1) 0 ≤ n + 1; omega⟩), by rw [List.length_append, List.length_append]; exact Nat.add_le_add zl (by rw [List.length_cons, List.length_cons]; exact Nat.succ_le_succ (Nat.zero_le _)), nxt⟩
      · have up4 : ∀ b o, b ≠ it → H3 b = some o → (upd (upd H3 t (.tup [V.int (kk : Int), V.ref r])) it (.lst (zs ++ [.ref t]))) b = some o := fun b o hb h => by rw [upd_ne hb]; exact s4 _ _ h
        exact (fa.over (nwi_mono fun b o hb h => up4 b o hb (e3 _ _ h))).app ⟨t, r, ws, [], rfl, nwi_get (eH.free (e3.free ht)) nti (by rw [upd_ne nti]; exact upd_same), nwi_get (eH.free hrN) nri (up4 _ _ nri hr3), (fs3.over (nw_nwi eH hz)).over (nwi_mono up4), rfl⟩
      · obtain ⟨Db, hDb, rfl⟩ := getD_inv hb
        have := i1 x hx
        rw [pat_some hDb, pat_some hD] at this
        exact this

theorem ok_witems (T : Tx K mg a) : ∀ n : Nat, FnOk P w K mg base CX0 (n + 15) a.f_written_items a.d_written_items ["deeds", "items", "depth"] (spWItems a.c_Deed (csOf a) n)
  | 0 => by
    have no : ∀ vs H Q E, ¬ spWItems a.c_Deed (csOf a) 0 vs H Q E := fun vs H Q E h => by
      obtain ⟨_, _, _, _, f, _, _, _, _, _, _, _, h1, _⟩ := h
      omega
    exact ⟨fun vs H Q E h => absurd h (no vs H Q E), fun A outer s H args us vs Q E _ _ _ _ h => absurd h (no vs H Q E)⟩
  | n + 1 => by
    have G_written_deed := ok_wdeed (P := P) (w := w) (base := base) T
    have G_written_loop := ok_wloop (P := P) (w := w) (base := base) T
    have G_written_items := ok_witems T n
    refine T.F_written_items.ok sc_written_items (fun vs H Q E h => ?_) (fun cdv A outer s H vs Q E hr h => ?_)
    · obtain ⟨_, _, _, _, _, _, _, rfl, _⟩ := h; rfl
    obtain ⟨dl, il, d, Ds, f, xs, R, rfl, hDo, hok, hil, hfs, fd, dn, hR, Rl, q⟩ := h
    refine ⟨_, (@pss_cons _ _ _ _ _ (@ps_set _ _ (3) _ _ _ _ sc_written_items.nd rfl (Or.inl rfl) (@pe_op _ _ _ _ _ _ _ _ op_mulS pe_str (pv 2)) (by rfl) (by first | exact .inl rfl | exact .inr rfl | assumption)) (@pss_cons _ _ _ _ _ (@ps_set _ _ (4) _ _ _ _ sc_written_items.nd rfl (Or.inl rfl) (@pe_lst _ _ _ _ pa_nil) (by rfl) (by first | exact .inl rfl | exact .inr rfl | assumption)) (@pss_cons _ _ _ _ _ (@ps_for _ _ _ _ _ _ _ _ PassesOwn.never rfl (@pi_list _ _ _ _ (pv 1)) (pg_tup rfl (pgs_cons (pg_name (i := 5) sc_written_items.nd rfl (Or.inl rfl)) (pgs_cons (pg_name (i := 6) sc_written_items.nd rfl (Or.inl rfl)) pgs_nil))) (@pss_one _ _ _ (@ps_if _ _ _ _ _ _ _ _ (@pt_cmpR _ _ _ _ _ _ _ _ op_isN (pv 6) pe_non (@nomark _ _ (by decide) (by decide))) (@pss_one _ _ _ (@ps_expr _ _ _ _ (@pe_bm _ _ _ _ _ _ _ _ _ _ _ _ PySem.F.plainAttrs_list PySem.F.slot_list_append PySem.F.type_list_append mt_append (pv 4) (@pa_cons _ _ _ _ _ (@pe_op _ _ _ _ _ _ _ _ op_add_str (pv 3) (@pe_call _ _ _ _ _ _ _ _ _ _ _ _ _ _ _ _ G_written_deed (hr.mono (by omega)) (by rfl) T.m_written_deed T.F_written_deed.kp T.b_written_deed .nil pass0 (@pa_cons _ _ _ _ _ (@pe_ix _ _ _ _ _ _ _ ix_list (pv 0) (pv 5) (fun _ _ => rfl)) pa_nil (by rfl)) (by decide) (by rfl) (by rfl))) pa_nil (by rfl)) (by rfl) (by rfl) (by rfl) (by rfl) (by rfl)) (by rfl))) (@pss_cons _ _ _ _ _ (@ps_expr _ _ _ _ (@pe_bm _ _ _ _ _ _ _ _ _ _ _ _ PySem.F.plainAttrs_list PySem.F.slot_list_append PySem.F.type_list_append mt_append (pv 4) (@pa_cons _ _ _ _ _ (@pe_op _ _ _ _ _ _ _ _ op_add_str (pv 3) (@pe_call _ _ _ _ _ _ _ _ _ _ _ _ _ _ _ _ G_written_loop (hr.mono (by omega)) (by rfl) T.m_written_loop T.F_written_loop.kp T.b_written_loop .nil pass0 (@pa_cons _ _ _ _ _ (@pe_ix _ _ _ _ _ _ _ ix_list (pv 0) (pv 5) (fun _ _ => rfl)) (@pa_cons _ _ _ _ _ (pv 2) pa_nil (by rfl)) (by rfl)) (by decide) (by rfl) (by rfl))) pa_nil (by rfl)) (by rfl) (by rfl) (by rfl) (by rfl) (by rfl)) (by rfl)) (@pss_cons _ _ _ _ _ (@ps_expr _ _ _ _ (@pe_bm _ _ _ _ _ _ _ _ _ _ _ _ PySem.F.plainAttrs_list PySem.F.slot_list_extend PySem.F.type_list_extend mt_extend (pv 4) (@pa_cons _ _ _ _ _ (@pe_call _ _ _ _ _ _ _ _ _ _ _ _ _ _ _ _ G_written_items (hr.mono (by omega)) (by rfl) T.m_written_items T.F_written_items.kp T.b_written_items .nil pass0 (@pa_cons _ _ _ _ _ (pv 0) (@pa_cons _ _ _ _ _ (pv 6) (@pa_cons _ _ _ _ _ (@pe_op _ _ _ _ _ _ _ _ op_add (pv 2) pe_int) pa_nil (by rfl)) (by rfl)) (by rfl)) (by decide) (by rfl) (by rfl)) pa_nil (by rfl)) (by rfl) (by rfl) (by rfl) (by rfl) (by rfl)) (by rfl)) (@pss_one _ _ _ (@ps_expr _ _ _ _ (@pe_bm _ _ _ _ _ _ _ _ _ _ _ _ PySem.F.plainAttrs_list PySem.F.slot_list_append PySem.F.type_list_append mt_append (pv 4) (@pa_cons _ _ _ _ _ (@pe_op _ _ _ _ _ _ _ _ op_add_str (pv 3) pe_str) pa_nil (by rfl)) (by rfl) (by rfl) (by rfl) (by rfl) (by rfl)) (by rfl))))))) (by intro _ ; rfl)) (@pss_one _ _ _ (@ps_ret _ _ _ _ (pv 4)))))), ?_⟩
    have e1 : (" " : Str).length = 1 := by decide +kernel
    have e3 : ("end" : Str).length = 3 := by decide +kernel
    refine ⟨_, rfl, _, _, rfl, rfl, by omega, by omega, by rw [e1]; decide, ?_⟩
    rw [mul_blk]
    have bl := blk_len d
    dsimp only [gName]
    refine ⟨szl (by show 0 ≤ 1000000; decide), fun rl hrl => ?_⟩
    have s1 := same_new hrl (.lst [])
    have hrl1 : (upd H rl (.lst [])) rl = some (.lst []) := upd_same
    dsimp only [gName]
    generalize upd H rl (.lst []) = H1 at s1 hrl1
    refine ⟨_, rfl, il, rfl, ⟨_, SqL.of (s1 _ _ hil)⟩, ?_⟩
    refine for_list (xs := xs) (fun i σ' H' => ∃ (g : Pw.Fs) (R1 R2 : Pw.Rw LpT Str) (o5 o6 : Option V), σ' = [some (.ref dl), some (.ref il), some (.int (d : Int)), some (.str (blk d)), some (.ref rl), o5, o6] ∧ Same H H' ∧ H' rl = some (.lst ((R1.map rowS).map V.str)) ∧ FsAt H g (xs.drop i) ∧ Pw.RowsF (getD Ds) g d R2 ∧ R = R1 ++ R2 ∧ fdep g < n + 1) ⟨f, [], R, _, _, rfl, s1, hrl1, hfs, hR, rfl, fd⟩ (fun i σ' H' _ pp => by obtain ⟨_, _, _, _, _, _, e, _⟩ := pp; exact SqL.of (e _ _ hil)) (fun i x σ' H' hx pp => ?_) (fun σ' H' pp => ?_)
    rotate_left
    · obtain ⟨g, R1, R2, o5, o6, rfl, e, hrl', fs, rf, eR, _⟩ := pp
      rw [List.drop_length] at fs
      cases g with
      | nil =>
        cases rf
        rw [List.append_nil] at eR
        subst eR
        exact ⟨_, rfl, q rl _ e hrl'⟩
      | leaf k r => obtain ⟨_, _, z, _⟩ := fs; cases z
      | node k s r => obtain ⟨_, _, _, _, z, _⟩ := fs; cases z
    obtain ⟨g, R1, R2, o5, o6, rfl, e, hrl', fs, rf, eR, fdg⟩ := pp
    have dc : xs.drop i = x :: xs.drop (i + 1) := by
      obtain ⟨hh, rfl⟩ := List.getElem?_eq_some_iff.mp hx
      exact List.drop_eq_getElem_cons hh
    rw [dc] at fs
    have Rl' : R1.length + R2.length ≤ 100 := by rw [eR, List.length_append] at Rl; exact Rl
    cases g with
    | nil => cases fs
    | leaf k rest =>
      obtain ⟨t, xs', ex, ht, fs'⟩ := fs
      cases ex
      cases rf with
      | @leaf _ _ _ aa R' r1 r2 =>
      obtain ⟨D, hD, rfl⟩ := getD_inv r1
      have okD := hok D (List.mem_of_getElem? hD)
      have tl := Dw.txt_len okD
      have hDo' := hDo.over e
      obtain ⟨ys, hys, ay⟩ := id hDo'
      obtain ⟨v, hv, hvo⟩ := ay.get hD
      rw [List.length_cons] at Rl'
      refine ⟨t, _, rfl, SqT.of (e _ _ ht), rfl, _, _, rfl, _, _, rfl, rfl, ?_⟩
      refine ⟨_, rfl, rfl, _, rfl, iteE (v := true) (decide_eq_true rfl) (iteT ?_)⟩
      refine ⟨_, rfl, .inl ⟨rfl, _, SqL.of hrl'⟩, _, rfl, _, rfl, _, rfl, dl, _, _, _, rfl, rfl, SqL.of hys, atI_nat hv, v, D, rfl, hvo, okD, fun H2 e2 => ⟨_, _, rfl, rfl, szl (by omega), rl, _, _, rfl, rfl, e2 _ _ hrl', szlt (by rw [List.length_map, List.length_map]; omega), ?_⟩⟩
      refine ⟨rest, R1 ++ [(d, .row D.txt)], R', _, _, rfl, fun b o hb => by rw [upd_ne (ne_of_none hb hrl)]; exact e2 _ _ (e _ _ hb), ?_, fs', r2, by rw [eR, List.append_assoc]; rfl, by have : max 1 (fdep rest) < n + 1 := fdg; omega⟩
      rw [upd_same, List.map_append, List.map_append]
      rfl
    | node k sub rest =>
      obtain ⟨t, l, ws, xs', ex, ht, hl, fsub, fs'⟩ := fs
      cases ex
      cases rf with
      | @node _ _ _ _ aa lt Rs R' r1 r2 r3 r4 =>
      obtain ⟨D, hD, rfl⟩ := getD_inv r1
      have okD := hok D (List.mem_of_getElem? hD)
      have ll := lpS_len (okD.lp lt (List.mem_of_getElem? r2))
      have hDo' := hDo.over e
      obtain ⟨ys, hys, ay⟩ := id hDo'
      obtain ⟨v, hv, hvo⟩ := ay.get hD
      have fdg : max (fdep sub + 1) (fdep rest) < n + 1 := fdg
      rw [List.length_append, List.length_cons, List.length_cons] at Rl'
      refine ⟨t, _, rfl, SqT.of (e _ _ ht), rfl, _, _, rfl, _, _, rfl, rfl, ?_⟩
      refine ⟨_, rfl, rfl, _, rfl, iteE (v := false) (decide_eq_false fun z => by cases z) (iteF ?_)⟩
      refine ⟨_, rfl, .inl ⟨rfl, _, SqL.of hrl'⟩, _, rfl, _, rfl, _, rfl, dl, _, _, _, rfl, rfl, SqL.of hys, atI_nat hv, _, rfl, v, D, d, lt, rfl, hvo, okD, r2, _, _, rfl, rfl, szl (by omega), rl, _, _, rfl, rfl, hrl', szlt (by rw [List.length_map, List.length_map]; omega), ?_⟩
      have eA : Same H (upd H' rl (.lst (((R1.map rowS).map V.str) ++ [V.str (blk d ++ lpS lt)]))) := fun b o hb => by rw [upd_ne (ne_of_none hb hrl)]; exact e _ _ hb
      have hA : (upd H' rl (.lst (((R1.map rowS).map V.str) ++ [V.str (blk d ++ lpS lt)]))) rl = some (.lst (((R1 ++ [(d, Pw.Rr.opn lt)]).map rowS).map V.str)) := by rw [upd_same, List.map_append, List.map_append]; rfl
      generalize upd H' rl (.lst (((R1.map rowS).map V.str) ++ [V.str (blk d ++ lpS lt)])) = HA at eA hA
      refine ⟨_, rfl, .inl ⟨rfl, _, SqL.of hA⟩, _, rfl, _, rfl, _, rfl, _, _, rfl, rfl, dl, l, d + 1, Ds, sub, ws, Rs, rfl, hDo.over eA, hok, eA _ _ hl, FsAt.over eA fsub, by omega, by omega, r3, by omega, fun r HB eB hB => ?_⟩
      refine ⟨rl, r, _, _, rfl, rfl, eB _ _ hA, hB, szl (by rw [List.length_map, List.length_map, List.length_map, List.length_map, List.length_append, List.length_singleton]; omega), ?_⟩
      have eC : Same H (upd HB rl (.lst ((((R1 ++ [(d, Pw.Rr.opn lt)]).map rowS).map V.str) ++ ((Rs.map rowS).map V.str)))) := fun b o hb => by rw [upd_ne (ne_of_none hb hrl)]; exact eB _ _ (eA _ _ hb)
      have hC : (upd HB rl (.lst ((((R1 ++ [(d, Pw.Rr.opn lt)]).map rowS).map V.str) ++ ((Rs.map rowS).map V.str)))) rl = some (.lst (((R1 ++ [(d, Pw.Rr.opn lt)] ++ Rs).map rowS).map V.str)) := by rw [upd_same]; simp only [List.map_append, List.append_assoc]
      generalize upd HB rl (.lst ((((R1 ++ [(d, Pw.Rr.opn lt)]).map rowS).map V.str) ++ ((Rs.map rowS).map V.str))) = HC at eC hC
      refine ⟨_, rfl, .inl ⟨rfl, _, SqL.of hC⟩, _, rfl, _, _, rfl, rfl, szl (by omega), rl, _, _, rfl, rfl, hC, szlt (by rw [List.length_map, List.length_map, List.length_append, List.length_append, List.length_singleton]; omega), ?_⟩
      refine ⟨rest, R1 ++ [(d, Pw.Rr.opn lt)] ++ Rs ++ [(d, Pw.Rr.fin)], R', _, _, rfl, fun b o hb => by rw [upd_ne (ne_of_none hb hrl)]; exact eC _ _ hb, ?_, fs', r4, by rw [eR]; simp, by omega⟩
      rw [upd_same]
      simp only [List.map_append, List.append_assoc]
      rfl

theorem ok_nested (T : Tx K mg a) : FnOk P w K mg base CX0 7 a.f_nested a.d_nested ["deeds"] (spNested a.c_Deed (csOf a)) := by
  have G_items_within := ok_items26 (P := P) (w := w) (base := base) T 4
  refine T.F_nested.ok sc_nested (fun vs H Q E h => ?_) (fun cdv A outer s H vs Q E hr h => ?_)
  · obtain ⟨_, _, rfl, _⟩ := h; rfl
  obtain ⟨dl, Ds, rfl, hDo, ok, q⟩ := h
  refine ⟨_, (@pss_one _ _ _ (@ps_ret _ _ _ _ (@pe_call _ _ _ _ _ _ _ _ _ _ _ _ _ _ _ _ G_items_within (hr.mono (by omega)) (by rfl) T.m_items_within T.F_items_within.kp T.b_items_within .nil pass0 (@pa_cons _ _ _ _ _ (pv 0) (@pa_cons _ _ _ _ _ (@pe_lrange _ _ _ _ _ _ _ rfl (by rfl) T.z_list (by rfl) T.z_range (@pa_cons _ _ _ _ _ (@pe_callB _ _ _ _ _ _ _ _ _ call_len_seq (by rfl) T.z_len bt_len (@pa_cons _ _ _ _ _ (pv 0) pa_nil (by rfl)) (by decide) (by decide) (by rfl) (by rfl)) pa_nil (by rfl)) (by rfl)) (@pa_cons _ _ _ _ _ pe_int pa_nil (by rfl)) (by rfl)) (by rfl)) (by decide) (by rfl) (by rfl)))), ?_⟩
  obtain ⟨xs, hdl, ax⟩ := id hDo
  have xl := ax.1
  refine ⟨_, rfl, _, rfl, dl, _, rfl, .inl (SqL.of hdl), xs.length, rfl, by have := ok.2.1; omega, fun nl hnl => ?_⟩
  have s1 := same_new hnl (.lst (upto xs.length))
  have hnl1 : (upd H nl (.lst (upto xs.length))) nl = some (.lst (ilst (List.range Ds.length))) := by rw [upd_same, xl]; rfl
  generalize upd H nl (.lst (upto xs.length)) = H1 at s1 hnl1
  refine ⟨dl, nl, 0, Ds, List.range Ds.length, Ds.map Dw.dd, rfl, hDo.over s1, hnl1, fun k hk => ?_, by rw [List.length_range]; exact ok.2.1, got_range, ok.2.2, by decide, by decide, fun r H' f ys e hrN hr2 fs isf fd _ => ?_⟩
  · rw [List.mem_range] at hk
    exact ⟨Ds[k], List.getElem?_eq_getElem hk, ok.1 _ (List.getElem_mem hk), Nat.zero_le _⟩
  · exact q r _ f ys (s1.trans e) hr2 (fs.over nw_same) isf fd
theorem ok_written (T : Tx K mg a) : FnOk P w K mg base CX0 21 a.f_written a.d_written ["program"] (spWritten a.c_Program a.c_Deed (csOf a)) := by
  have G_nested := ok_nested (P := P) (w := w) (base := base) T
  have G_written_items := ok_witems (P := P) (w := w) (base := base) T 5
  refine T.F_written.ok sc_written (fun vs H Q E h => ?_) (fun cdv A outer s H vs Q E hr h => ?_)
  · obtain ⟨_, _, _, rfl, _⟩ := h; rfl
  obtain ⟨v, n, Ds, rfl, ⟨x, dx, dl, rfl, hx, hDo⟩, ok, n0, n1, q⟩ := h
  refine ⟨_, (@pss_cons _ _ _ _ _ (@ps_set _ _ (1) _ _ _ _ sc_written.nd rfl (Or.inl rfl) (@pe_fld _ _ _ _ _ (pv 0) rfl) (by rfl) (by first | exact .inl rfl | exact .inr rfl | assumption)) (@pss_cons _ _ _ _ _ (@ps_set _ _ (2) _ _ _ _ sc_written.nd rfl (Or.inl rfl) (@pe_lst _ _ _ _ (@pa_cons _ _ _ _ _ (@pe_joined2 _ _ _ _ _ _ pe_str (@pe_fmtI _ _ _ _ (pv 1))) pa_nil (by rfl))) (by rfl) (by first | exact .inl rfl | exact .inr rfl | assumption)) (@pss_cons _ _ _ _ _ (@ps_expr _ _ _ _ (@pe_bm _ _ _ _ _ _ _ _ _ _ _ _ PySem.F.plainAttrs_list PySem.F.slot_list_extend PySem.F.type_list_extend mt_extend (pv 2) (@pa_cons _ _ _ _ _ (@pe_call _ _ _ _ _ _ _ _ _ _ _ _ _ _ _ _ G_written_items (hr.mono (by omega)) (by rfl) T.m_written_items T.F_written_items.kp T.b_written_items .nil pass0 (@pa_cons _ _ _ _ _ (@pe_fld _ _ _ _ _ (pv 0) rfl) (@pa_cons _ _ _ _ _ (@pe_call _ _ _ _ _ _ _ _ _ _ _ _ _ _ _ _ G_nested (hr.mono (by omega)) (by rfl) T.m_nested T.F_nested.kp T.b_nested .nil pass0 (@pa_cons _ _ _ _ _ (@pe_fld _ _ _ _ _ (pv 0) rfl) pa_nil (by rfl)) (by decide) (by rfl) (by rfl)) (@pa_cons _ _ _ _ _ pe_int pa_nil (by rfl)) (by rfl)) (by rfl)) (by decide) (by rfl) (by rfl)) pa_nil (by rfl)) (by rfl) (by rfl) (by rfl) (by rfl) (by rfl)) (by rfl)) (@pss_one _ _ _ (@ps_ret _ _ _ _ (@pe_bm _ _ _ _ _ _ _ _ _ _ _ _ PySem.F.plainAttrs_str PySem.F.slot_str_join PySem.F.type_str_join mt_join pe_str (@pa_cons _ _ _ _ _ (pv 2) pa_nil (by rfl)) (by rfl) (by rfl) (by rfl) (by rfl) (by rfl))))))), ?_⟩
  have nl := nS_len (i := n) (by omega) n1
  unfold nS at nl
  have e5 : ("size " : Str).length = 5 := by decide +kernel
  have em : ∀ x : Str, Str.empty ++ x = x := fun x => cds_ext (by rw [cds_app]; rfl)
  refine ⟨_, rfl, x, _, dx, _, _, rfl, hx, T.cl_Program, T.n_Program_size, rfl, ?_⟩
  dsimp only [gName]
  refine ⟨_, rfl, szl (by rw [em]; omega), ?_⟩
  rw [em]
  refine ⟨_, rfl, _, rfl, log_small (by omega) n1, _, rfl, szl (by rw [sLen]; omega), szl (by show 1 ≤ 1000000; decide), fun rl hrl => ?_⟩
  have s1 := same_new hrl (.lst [V.str ("size " ++ Str.ofString (toString n))])
  have hrl1 : (upd H rl (.lst [V.str ("size " ++ Str.ofString (toString n))])) rl = some (.lst [V.str ("size " ++ nS n)]) := upd_same
  dsimp only [gName]
  generalize upd H rl (.lst [V.str ("size " ++ Str.ofString (toString n))]) = H1 at s1 hrl1
  have hx1 := s1 _ _ hx
  refine ⟨_, rfl, .inl ⟨rfl, _, SqL.of hrl1⟩, _, rfl, x, _, dx, _, _, rfl, hx1, T.cl_Program, T.n_Program_deeds, rfl, _, rfl, x, _, dx, _, _, rfl, hx1, T.cl_Program, T.n_Program_deeds, rfl, dl, Ds, rfl, hDo.over s1, ok, fun il H2 f xs e2 hil fs isf fd => ?_⟩
  obtain ⟨R, hR⟩ := Pw.rows_ex isf
  have lin := Pw.rows_lin isf got_range ok.2.2 hR
  have rok := row_ok ok.1
  have Rl := lin.len fun y hy => (rok y hy).1
  rw [List.length_map] at Rl
  have dsl := ok.2.1
  have rb : ∀ p ∈ R, (rowS p).length ≤ 1300 := fun p hp => rowB_of (lin.ok rok p hp)
  refine ⟨dl, il, 0, Ds, f, xs, R, rfl, (hDo.over s1).over e2, ok.1, hil, fs, by omega, by decide, hR, by omega, fun r H3 e3 hr3 => ?_⟩
  refine ⟨rl, r, _, _, rfl, rfl, e3 _ _ (e2 _ _ hrl1), hr3, szl (by rw [List.length_map, List.length_map, List.length_singleton]; omega), ?_⟩
  have hC : (upd H3 rl (.lst ([V.str ("size " ++ nS n)] ++ (R.map rowS).map V.str))) rl = some (.lst ((("size " ++ nS n) :: R.map rowS).map V.str)) := upd_same
  have eC : Same H (upd H3 rl (.lst ([V.str ("size " ++ nS n)] ++ (R.map rowS).map V.str))) := fun b o hb => by rw [upd_ne (ne_of_none hb hrl)]; exact e3 _ _ (e2 _ _ (s1 _ _ hb))
  generalize upd H3 rl (.lst ([V.str ("size " ++ nS n)] ++ (R.map rowS).map V.str)) = HC at eC hC
  exact ⟨rfl, _, rfl, _, rl, _, rfl, rfl, .inl (SqL.of hC), Nat.le_trans (rows_sum ⟨n0, n1⟩ (by omega) rb) (by decide), q _ R eC lin⟩

theorem ok_term26 (T : Tx K mg a) : FnOk P w K mg base CX0 5 a.f_l_term a.d_l_term ["_law_cell_here", "_law_known", "_law_names_here"] spTerm26 := by
  have G_l_stream := ok_stream (P := P) (w := w) (base := base) T
  have G_l_leaf := ok_leaf24 (P := P) (w := w) (base := base) T
  have G_l_both := ok_both24 (P := P) (w := w) (base := base) T
  refine T.F_l_term.ok sc_l_term (fun vs H Q E h => ?_) (fun cdv A outer s H vs Q E hr h => ?_)
  · obtain ⟨_, _, _, _, _, _, rfl, _⟩ := h; rfl
  obtain ⟨seed, kl, nl, zs, ns, mk, rfl, mk1, hk, hn, q⟩ := h
  refine ⟨_, (@pss_cons _ _ _ _ _ (@ps_set _ _ (3) _ _ _ _ sc_l_term.nd rfl (Or.inl rfl) (@pe_call _ _ _ _ _ _ _ _ _ _ _ _ _ _ _ _ G_l_stream (hr.mono (by omega)) (by rfl) T.m_l_stream T.F_l_stream.kp T.b_l_stream .nil pass0 (@pa_cons _ _ _ _ _ (pv 0) (@pa_cons _ _ _ _ _ pe_int pa_nil (by rfl)) (by rfl)) (by decide) (by rfl) (by rfl)) (by rfl) (by first | exact .inl rfl | exact .inr rfl | assumption)) (@pss_cons _ _ _ _ _ (@ps_set _ _ (4) _ _ _ _ sc_l_term.nd rfl (Or.inl rfl) (@pe_lst _ _ _ _ (@pa_cons _ _ _ _ _ (@pe_call _ _ _ _ _ _ _ _ _ _ _ _ _ _ _ _ G_l_leaf (hr.mono (by omega)) (by rfl) T.m_l_leaf T.F_l_leaf.kp T.b_l_leaf .nil pass0 (@pa_cons _ _ _ _ _ (@pe_ix _ _ _ _ _ _ _ ix_list (pv 3) pe_int (fun _ _ => rfl)) (@pa_cons _ _ _ _ _ (pv 1) (@pa_cons _ _ _ _ _ (pv 2) pa_nil (by rfl)) (by rfl)) (by rfl)) (by decide) (by rfl) (by rfl)) pa_nil (by rfl))) (by rfl) (by first | exact .inl rfl | exact .inr rfl | assumption)) (@pss_cons _ _ _ _ _ (@ps_for _ _ _ _ _ _ _ _ PassesOwn.never rfl (@pi_list _ _ _ _ (@pe_slice _ _ _ _ _ _ _ _ _ _ sl_list (pv 3) (@po_some _ _ _ pe_int) (@po_some _ _ _ (@pe_op _ _ _ _ _ _ _ _ op_add pe_int (@pe_op _ _ _ _ _ _ _ _ op_mod (pv 0) pe_int))))) (pg_name (i := 5) sc_l_term.nd rfl (Or.inl rfl)) (@pss_one _ _ _ (@ps_if _ _ _ _ _ _ _ _ ((@pw_and _ _ _ _ _ _ _ (@pt_cmpR _ _ _ _ _ _ _ _ op_lt (@pe_op _ _ _ _ _ _ _ _ op_mod (pv 5) pe_int) pe_int (@nomark _ _ (by decide) (by decide))) (@pw_and1 _ _ _ _ (@pt_cmpR _ _ _ _ _ _ _ _ op_gt (@pe_callB _ _ _ _ _ _ _ _ _ call_len_seq (by rfl) T.z_len bt_len (@pa_cons _ _ _ _ _ (pv 4) pa_nil (by rfl)) (by decide) (by decide) (by rfl) (by rfl)) pe_int (@nomark _ _ (by decide) (by decide)))))).pt (@pss_cons _ _ _ _ _ (@ps_set _ _ (6) _ _ _ _ sc_l_term.nd rfl (Or.inl rfl) (@pe_bm0 _ _ _ _ _ _ _ _ _ PySem.F.plainAttrs_list PySem.F.slot_list_pop PySem.F.type_list_pop mt_pop (pv 4) (by rfl) (by rfl)) (by rfl) (by first | exact .inl rfl | exact .inr rfl | assumption)) (@pss_cons _ _ _ _ _ (@ps_set _ _ (7) _ _ _ _ sc_l_term.nd rfl (Or.inl rfl) (@pe_bm0 _ _ _ _ _ _ _ _ _ PySem.F.plainAttrs_list PySem.F.slot_list_pop PySem.F.type_list_pop mt_pop (pv 4) (by rfl) (by rfl)) (by rfl) (by first | exact .inl rfl | exact .inr rfl | assumption)) (@pss_one _ _ _ (@ps_expr _ _ _ _ (@pe_bm _ _ _ _ _ _ _ _ _ _ _ _ PySem.F.plainAttrs_list PySem.F.slot_list_append PySem.F.type_list_append mt_append (pv 4) (@pa_cons _ _ _ _ _ (@pe_call _ _ _ _ _ _ _ _ _ _ _ _ _ _ _ _ G_l_both (hr.mono (by omega)) (by rfl) T.m_l_both T.F_l_both.kp T.b_l_both .nil pass0 (@pa_cons _ _ _ _ _ (@pe_ix _ _ _ _ _ _ _ ix_str pe_str (@pe_op _ _ _ _ _ _ _ _ op_mod (@pe_op _ _ _ _ _ _ _ _ op_fdiv (pv 5) pe_int) pe_int) (fun _ _ => rfl)) (@pa_cons _ _ _ _ _ (pv 7) (@pa_cons _ _ _ _ _ (pv 6) pa_nil (by rfl)) (by rfl)) (by rfl)) (by decide) (by rfl) (by rfl)) pa_nil (by rfl)) (by rfl) (by rfl) (by rfl) (by rfl) (by rfl)) (by rfl))))) (@pss_one _ _ _ (@ps_expr _ _ _ _ (@pe_bm _ _ _ _ _ _ _ _ _ _ _ _ PySem.F.plainAttrs_list PySem.F.slot_list_append PySem.F.type_list_append mt_append (pv 4) (@pa_cons _ _ _ _ _ (@pe_call _ _ _ _ _ _ _ _ _ _ _ _ _ _ _ _ G_l_leaf (hr.mono (by omega)) (by rfl) T.m_l_leaf T.F_l_leaf.kp T.b_l_leaf .nil pass0 (@pa_cons _ _ _ _ _ (@pe_op _ _ _ _ _ _ _ _ op_fdiv (pv 5) pe_int) (@pa_cons _ _ _ _ _ (pv 1) (@pa_cons _ _ _ _ _ (pv 2) pa_nil (by rfl)) (by rfl)) (by rfl)) (by decide) (by rfl) (by rfl)) pa_nil (by rfl)) (by rfl) (by rfl) (by rfl) (by rfl) (by rfl)) (by rfl))))) (by intro _ ; rfl)) (@pss_cons _ _ _ _ _ (@ps_while _ _ _ _ _ _ PassesOwn.never (@pt_cmpR _ _ _ _ _ _ _ _ op_gt (@pe_callB _ _ _ _ _ _ _ _ _ call_len_seq (by rfl) T.z_len bt_len (@pa_cons _ _ _ _ _ (pv 4) pa_nil (by rfl)) (by decide) (by decide) (by rfl) (by rfl)) pe_int (@nomark _ _ (by decide) (by decide))) (@pss_cons _ _ _ _ _ (@ps_set _ _ (6) _ _ _ _ sc_l_term.nd rfl (Or.inl rfl) (@pe_bm0 _ _ _ _ _ _ _ _ _ PySem.F.plainAttrs_list PySem.F.slot_list_pop PySem.F.type_list_pop mt_pop (pv 4) (by rfl) (by rfl)) (by rfl) (by first | exact .inl rfl | exact .inr rfl | assumption)) (@pss_cons _ _ _ _ _ (@ps_set _ _ (7) _ _ _ _ sc_l_term.nd rfl (Or.inl rfl) (@pe_bm0 _ _ _ _ _ _ _ _ _ PySem.F.plainAttrs_list PySem.F.slot_list_pop PySem.F.type_list_pop mt_pop (pv 4) (by rfl) (by rfl)) (by rfl) (by first | exact .inl rfl | exact .inr rfl | assumption)) (@pss_one _ _ _ (@ps_expr _ _ _ _ (@pe_bm _ _ _ _ _ _ _ _ _ _ _ _ PySem.F.plainAttrs_list PySem.F.slot_list_append PySem.F.type_list_append mt_append (pv 4) (@pa_cons _ _ _ _ _ (@pe_call _ _ _ _ _ _ _ _ _ _ _ _ _ _ _ _ G_l_both (hr.mono (by omega)) (by rfl) T.m_l_both T.F_l_both.kp T.b_l_both .nil pass0 (@pa_cons _ _ _ _ _ (@pe_ix _ _ _ _ _ _ _ ix_str pe_str (@pe_op _ _ _ _ _ _ _ _ op_mod (@pe_op _ _ _ _ _ _ _ _ op_fdiv (pv 0) pe_int) pe_int) (fun _ _ => rfl)) (@pa_cons _ _ _ _ _ (pv 7) (@pa_cons _ _ _ _ _ (pv 6) pa_nil (by rfl)) (by rfl)) (by rfl)) (by decide) (by rfl) (by rfl)) pa_nil (by rfl)) (by rfl) (by rfl) (by rfl) (by rfl) (by rfl)) (by rfl)))))) (@pss_one _ _ _ (@ps_ret _ _ _ _ (@pe_ix _ _ _ _ _ _ _ ix_list (pv 4) pe_int (fun _ _ => rfl)))))))), ?_⟩
  refine ⟨_, rfl, seed, 5, rfl, by decide, by decide, fun rx H3 e3 hx => ?_⟩
  rw [show (5 : Int).toNat = 5 from rfl] at hx
  generalize hxs : strm seed 5 = xs0 at hx
  have xl : xs0.length = 5 := by rw [← hxs, strm_len]
  have at0 : atI (xs0.map V.int) (0 : Int) = some (.int (xs0.getD 0 0)) := cell_in (ns := xs0) (k := 0) (by decide) (by rw [xl]; decide)
  have hk3 := hk.over e3
  have hn3 := hn.over e3
  dsimp only [gName]
  refine ⟨_, rfl, rx, _, _, _, rfl, rfl, SqL.of hx, at0, _, rfl, _, rfl, _, kl, nl, zs, ns, mk, rfl, mk1, hk3, hn3, fun v H4 t e4 tp ok st => ⟨szl (by show 1 ≤ 1000000; decide), fun l hl => ?_⟩⟩
  have e04 := e3.trans e4
  have hl0 : H l = none := e04.free hl
  have kl0 : H3 l = none := e4.free hl
  have s5 := same_new hl (.lst [v])
  have hl5 : (upd H4 l (.lst [v])) l = some (.lst [v]) := upd_same
  have S5 : StkAt (upd H4 l (.lst [v])) [v] [t] 1 := StkAt.push (xs := []) (ts := []) (N := 0) ⟨.nil, fun t ht => (by cases ht), Nat.le_refl _⟩ (tp.tk (Same.tk s5)) ok (by omega)
  have e05 := e04.trans s5
  dsimp only [gName]
  generalize upd H4 l (.lst [v]) = H5 at s5 hl5 S5 e05
  have f50 := Int.emod_nonneg seed (show (5 : Int) ≠ 0 by decide)
  have f51 := Int.emod_lt_of_pos seed (show (0 : Int) < 5 by decide)
  refine ⟨_, rfl, _, rfl, _, rfl, _, _, rfl, rfl, (by show (0 : Int) < 5; decide), _, _, rfl, rfl, _, rfl, rx, _, rfl, SqL.of ((e4.trans s5) _ _ hx), fun cl hcl => ?_⟩
  rw [cutV_map]
  obtain ⟨cs, ecs, hcs4⟩ : ∃ cs : List Int, cutC xs0 (some 1) (some (1 + seed % 5)) = cs ∧ cs.length ≤ 4 := ⟨_, rfl, by
    rw [cut_mid xs0 (by decide) (by omega) (by omega) (by omega), List.length_take, List.length_drop]
    omega⟩
  rw [ecs]
  have s6 := same_new hcl (.lst (cs.map V.int))
  have hC : (upd H5 cl (.lst (cs.map V.int))) cl = some (.lst (cs.map V.int)) := upd_same
  have hl6 := s6 _ _ hl5
  have S6 := S5.tk (Same.tk s6)
  have ncl : cl ≠ l := (ne_of_none hl5 hcl).symm
  have e06 := e05.trans s6
  have e36 := (e4.trans s5).trans s6
  generalize upd H5 cl (.lst (cs.map V.int)) = H6 at s6 hC hl6 S6 e06 e36
  refine ⟨cl, rfl, ⟨_, SqL.of hC⟩, ?_⟩
  refine for_list (xs := cs.map V.int) (fun i σ' H' => Same H H' ∧ Same H3 H' ∧ (H' cl = some (.lst (cs.map V.int)) ∧ ∃ o5 o6 o7, σ' = [some (.int seed), some (.ref kl), some (.ref nl), some (.ref rx), some (.ref l), o5, o6, o7]) ∧ ∃ xs ts N, H' l = some (.lst xs) ∧ StkAt H' xs ts N ∧ N ≤ i + 1 ∧ 0 < xs.length) ⟨e06, e36, ⟨hC, _, _, _, rfl⟩, [v], [t], 1, hl6, S6, Nat.le_refl _, Nat.succ_pos _⟩ (fun i σ' H' _ p => SqL.of p.2.2.1.1) (fun i x σ' H' hx p => ?_) (fun σ' H' p => ?_)
  · obtain ⟨eH, e3H, ⟨hcl', o5, o6, o7, rfl⟩, xs, ts, N, hxs, hS, hNi, hpos⟩ := p
    obtain ⟨c, rfl⟩ : ∃ c, x = V.int c := by
      rw [List.getElem?_map] at hx
      cases e : cs[i]? with
      | none => rw [e] at hx; cases hx
      | some z => rw [e] at hx; exact ⟨z, (Option.some.inj hx).symm⟩
    have hi : i < cs.length := by have := (List.getElem?_eq_some_iff.mp hx).1; rwa [List.length_map] at this
    have sl := hS.len
    dsimp only [gName]
    refine if_any (fun H2 => H2 = H') (fun H2 e => ?_) (fun els => ?_)
    · subst e
      refine ⟨_, rfl, .inl ⟨rfl, _, SqL.of hxs⟩, _, rfl, _, _, rfl, rfl, ⟨by decide, by decide⟩, _, rfl, _, rfl, _, kl, nl, zs, ns, mk, rfl, mk1, hk.over eH, hn.over eH, fun v2 H6 t2 e6 p6 ok2 sz2 => ?_⟩
      have hxs6 := e6 _ _ hxs
      refine ⟨l, _, _, rfl, rfl, hxs6, szlt (by omega), ?_⟩
      have tk : TK H6 (upd H6 l (.lst (xs ++ [v2]))) := TK.upd hxs6
      refine ⟨fun b ob eb => by rw [upd_ne (ne_of_none eb hl0)]; exact e6 _ _ (eH _ _ eb), fun b ob eb => by rw [upd_ne (ne_of_none eb kl0)]; exact e6 _ _ (e3H _ _ eb), ⟨by rw [upd_ne ncl]; exact e6 _ _ hcl', _, _, _, rfl⟩, xs ++ [v2], ts ++ [t2], N + 1, upd_same, ((hS.tk (Same.tk e6)).tk tk).push (p6.tk tk) ok2 (by omega), by omega, by rw [List.length_append]; omega⟩
    · refine ⟨_, rfl, _, _, rfl, rfl, (by show (0 : Int) < 5; decide), _, _, rfl, rfl, _, rfl, ?_⟩
      refine ite2 (fun _ => ?_) (fun _ => iteF (els _ rfl))
      refine ⟨_, rfl, l, _, rfl, .inl (SqL.of hxs), _, _, rfl, rfl, _, rfl, ?_⟩
      refine ite2 (fun c2 => ?_) (fun _ => els _ rfl)
      have c2 := dT c2
      obtain ⟨ys, x1, us, t1, M1, rfl, rfl, hS1, px, okx, m1⟩ := hS.pop hpos
      rw [List.length_append, List.length_singleton] at c2
      obtain ⟨zs', x2, us2, t2, M2, rfl, rfl, hS2, py, oky, m2⟩ := hS1.pop (by omega)
      refine ⟨_, rfl, .inl ⟨rfl, _, SqL.of hxs⟩, l, _, x1, rfl, rfl, hxs, pop_last.1, ?_⟩
      rw [pop_last.2]
      dsimp only [gName]
      refine ⟨_, rfl, .inl ⟨rfl, _, SqL.of upd_same⟩, l, _, x2, rfl, rfl, upd_same, pop_last.1, ?_⟩
      rw [pop_last.2]
      dsimp only [gName]
      have tk0 : TK H' (upd (upd H' l (.lst (zs' ++ [x2]))) l (.lst zs')) := (TK.upd hxs).trans (TK.upd upd_same)
      have hz : (upd (upd H' l (.lst (zs' ++ [x2]))) l (.lst zs')) l = some (.lst zs') := upd_same
      have u2 : ∀ b, b ≠ l → (upd (upd H' l (.lst (zs' ++ [x2]))) l (.lst zs')) b = H' b := fun b hb => by rw [upd_ne hb, upd_ne hb]
      generalize upd (upd H' l (.lst (zs' ++ [x2]))) l (.lst zs') = H2 at tk0 hz u2
      have eH2 : Same H H2 := fun b ob eb => by rw [u2 _ (ne_of_none eb hl0)]; exact eH _ _ eb
      have e3H2 : Same H3 H2 := fun b ob eb => by rw [u2 _ (ne_of_none eb kl0)]; exact e3H _ _ eb
      have f0 := Int.emod_nonneg (c / 5) (show (3 : Int) ≠ 0 by decide)
      have f1 := Int.emod_lt_of_pos (c / 5) (show (0 : Int) < 3 by decide)
      obtain ⟨ch, hch, h3⟩ := sgn_at f0 f1
      have sl2 := hS2.len
      refine ⟨_, rfl, .inl ⟨rfl, _, SqL.of hz⟩, _, rfl, _, _, rfl, rfl, ⟨by decide, by decide⟩, _, _, rfl, rfl, (by show (0 : Int) < 3; decide), _, _, ch, rfl, rfl, (by decide +kernel), hch, _, rfl, _, rfl, _, x2, x1, t2, t1, rfl, h3, py.tk tk0, px.tk tk0, oky, okx, by omega, fun v3 H6 e6 p6 => ?_⟩
      have hz6 := e6 _ _ hz
      refine ⟨l, _, _, rfl, rfl, hz6, szlt (by omega), ?_⟩
      have tk : TK H6 (upd H6 l (.lst (zs' ++ [v3]))) := TK.upd hz6
      refine ⟨fun b ob eb => by rw [upd_ne (ne_of_none eb hl0)]; exact e6 _ _ (eH2 _ _ eb), fun b ob eb => by rw [upd_ne (ne_of_none eb kl0)]; exact e6 _ _ (e3H2 _ _ eb), ⟨by rw [upd_ne ncl]; exact e6 _ _ (by rw [u2 _ ncl]; exact hcl'), _, _, _, rfl⟩, zs' ++ [v3], us2 ++ [.j ⟨#[ch]⟩ t2 t1], N, upd_same, (((hS2.tk tk0).tk (Same.tk e6)).tk tk).push (p6.tk tk) ⟨h3, oky, okx⟩ (by show M2 + (t2.sz + t1.sz) ≤ N; omega), by omega, by rw [List.length_append]; exact Nat.succ_pos _⟩
  · obtain ⟨eH, e3H, ⟨_, o5, o6, o7, rfl⟩, xs, ts, N, hxs, hS, hNi, hpos⟩ := p
    rw [List.length_map] at hNi
    have sl := hS.len
    show tSeq (tWhile _ _) (tRet _) _ _ _
    refine seq_any (fun σ' H2 => Same H H2 ∧ (∃ o5 o6 o7, σ' = [some (.int seed), some (.ref kl), some (.ref nl), some (.ref rx), some (.ref l), o5, o6, o7]) ∧ ∃ x t, H2 l = some (.lst [x]) ∧ TpAt H2 x t ∧ t.Ok ∧ t.sz ≤ 5) (fun σ' H2 pp => ?_) (fun nx => ?_)
    · obtain ⟨e2, ⟨o5, o6, o7, rfl⟩, x, t, hx, tx, okt, st⟩ := pp
      exact ⟨_, rfl, l, _, _, _, rfl, rfl, SqL.of hx, rfl, q x _ t e2 tx okt st⟩
    refine while_ix 5 (fun j σ' H2 => Same H H2 ∧ (∃ o5 o6 o7, σ' = [some (.int seed), some (.ref kl), some (.ref nl), some (.ref rx), some (.ref l), o5, o6, o7]) ∧ ∃ xs ts, H2 l = some (.lst xs) ∧ StkAt H2 xs ts 5 ∧ xs.length + j ≤ 5 ∧ 0 < xs.length) ⟨eH, ⟨_, _, _, rfl⟩, xs, ts, hxs, ⟨hS.at', hS.ok, by have := hS.sum; omega⟩, by omega, hpos⟩ (fun j σ' H' hj pp => ?_) (MT.test (ME.op (MR.i0 _) (ME.cb MB.len (MA.cons (ME.var _) MA.nil)) (ME.c _)))
    obtain ⟨eH, ⟨o5, o6, o7, rfl⟩, xs, ts, hxs, hS, hNi, hpos⟩ := pp
    refine ⟨_, rfl, l, _, rfl, .inl (SqL.of hxs), _, _, rfl, rfl, _, rfl, ?_⟩
    refine ite2 (fun c2 => ?_) (fun c2 => ?_)
    · have c2 := dT c2
      refine ⟨by omega, ?_⟩
      obtain ⟨ys, x1, us, t1, M1, rfl, rfl, hS1, px, okx, m1⟩ := hS.pop hpos
      rw [List.length_append, List.length_singleton] at c2 hNi
      obtain ⟨zs', x2, us2, t2, M2, rfl, rfl, hS2, py, oky, m2⟩ := hS1.pop (by omega)
      rw [List.length_append, List.length_singleton] at hNi
      refine ⟨_, rfl, .inl ⟨rfl, _, SqL.of hxs⟩, l, _, x1, rfl, rfl, hxs, pop_last.1, ?_⟩
      rw [pop_last.2]
      dsimp only [gName]
      refine ⟨_, rfl, .inl ⟨rfl, _, SqL.of upd_same⟩, l, _, x2, rfl, rfl, upd_same, pop_last.1, ?_⟩
      rw [pop_last.2]
      dsimp only [gName]
      have tk0 : TK H' (upd (upd H' l (.lst (zs' ++ [x2]))) l (.lst zs')) := (TK.upd hxs).trans (TK.upd upd_same)
      have hz : (upd (upd H' l (.lst (zs' ++ [x2]))) l (.lst zs')) l = some (.lst zs') := upd_same
      have u2 : ∀ b, b ≠ l → (upd (upd H' l (.lst (zs' ++ [x2]))) l (.lst zs')) b = H' b := fun b hb => by rw [upd_ne hb, upd_ne hb]
      generalize upd (upd H' l (.lst (zs' ++ [x2]))) l (.lst zs') = H2 at tk0 hz u2
      have eH2 : Same H H2 := fun b ob eb => by rw [u2 _ (ne_of_none eb hl0)]; exact eH _ _ eb
      have sl2 := hS2.len
      have f0 := Int.emod_nonneg (seed / 5) (show (3 : Int) ≠ 0 by decide)
      have f1 := Int.emod_lt_of_pos (seed / 5) (show (0 : Int) < 3 by decide)
      obtain ⟨ch, hch, h3⟩ := sgn_at f0 f1
      refine ⟨_, rfl, .inl ⟨rfl, _, SqL.of hz⟩, _, rfl, _, _, rfl, rfl, ⟨by decide, by decide⟩, _, _, rfl, rfl, (by show (0 : Int) < 3; decide), _, _, ch, rfl, rfl, (by decide +kernel), hch, _, rfl, _, rfl, _, x2, x1, t2, t1, rfl, h3, py.tk tk0, px.tk tk0, oky, okx, by omega, fun v3 H6 e6 p6 => ?_⟩
      have hz6 := e6 _ _ hz
      refine ⟨l, _, _, rfl, rfl, hz6, szlt (by omega), ?_⟩
      have tk : TK H6 (upd H6 l (.lst (zs' ++ [v3]))) := TK.upd hz6
      exact ⟨fun b ob eb => by rw [upd_ne (ne_of_none eb hl0)]; exact e6 _ _ (eH2 _ _ eb), ⟨_, _, _, rfl⟩, zs' ++ [v3], us2 ++ [.j ⟨#[ch]⟩ t2 t1], upd_same, (((hS2.tk tk0).tk (Same.tk e6)).tk tk).push (p6.tk tk) ⟨h3, oky, okx⟩ (by show M2 + (t2.sz + t1.sz) ≤ 5; omega), by rw [List.length_append, List.length_singleton]; omega, by rw [List.length_append]; exact Nat.succ_pos _⟩
    · have c2 := dF c2
      obtain ⟨ys, x1, us, t1, M1, rfl, rfl, hS1, px, okx, m1⟩ := hS.pop hpos
      have y0 : ys = [] := by
        rw [List.length_append, List.length_singleton] at c2
        exact List.eq_nil_of_length_eq_zero (by omega)
      subst y0
      exact nx _ _ ⟨eH, ⟨_, _, _, rfl⟩, x1, t1, hxs, px, okx, by omega⟩

theorem ok_loop26 (T : Tx K mg a) : FnOk P w K mg base CX0 3 a.f_l_loop a.d_l_loop ["_law_cell_here", "_law_names_here", "_law_opened", "_law_last"] spLoop26 := by
  have G_l_stream := ok_stream (P := P) (w := w) (base := base) T
  have G_l_spot := ok_spot24 (P := P) (w := w) (base := base) T
  refine T.F_l_loop.ok sc_l_loop (fun vs H Q E h => ?_) (fun cdv A outer s H vs Q E hr h => ?_)
  · obtain ⟨_, _, _, _, _, _, _, rfl, _⟩ := h; rfl
  obtain ⟨c, nl, o, la, ns, ts, tl, rfl, hn, hnd, ⟨vs, hO0, aO⟩, hol, hok, hla, okl, q⟩ := h
  refine ⟨_, (@pss_cons _ _ _ _ _ (@ps_set _ _ (4) _ _ _ _ sc_l_loop.nd rfl (Or.inl rfl) (@pe_call _ _ _ _ _ _ _ _ _ _ _ _ _ _ _ _ G_l_stream (hr.mono (by omega)) (by rfl) T.m_l_stream T.F_l_stream.kp T.b_l_stream .nil pass0 (@pa_cons _ _ _ _ _ (pv 0) (@pa_cons _ _ _ _ _ pe_int pa_nil (by rfl)) (by rfl)) (by decide) (by rfl) (by rfl)) (by rfl) (by first | exact .inl rfl | exact .inr rfl | assumption)) (@pss_cons _ _ _ _ _ (@ps_set _ _ (5) _ _ _ _ sc_l_loop.nd rfl (Or.inr rfl) (@pe_op _ _ _ _ _ _ _ _ op_cat (@pe_lst _ _ _ _ (@pa_cons _ _ _ _ _ pe_str pa_nil (by rfl))) (@pe_compB _ _ _ _ _ _ _ ["_law_one"] [none] _ _ _ _ (by rfl) (@pi_list _ _ _ _ (pv 2)) c_l_loop_0 (fun _ _ _ _ _ _ => ⟨(pg_name (i := 0) c_l_loop_0n rfl (Or.inl rfl)), @pts_nil _, (@pe_ix _ _ _ _ _ _ _ (show IxR _ (rIxT K) from ix_tup) (pv 0) pe_int (fun _ _ => rfl))⟩) (by intro _ ; rfl))) (by rfl) (by first | exact .inl rfl | exact .inr rfl | assumption)) (@pss_cons _ _ _ _ _ (@ps_setcompB _ _ _ _ _ _ _ _ _ (6) _ ["_law_name", "_law_known"] [none, some 5] _ _ _ _ sc_l_loop.nd rfl (Or.inl rfl) (by rfl) (@pi_list _ _ _ _ (@pe_slice _ _ _ _ _ _ _ _ _ _ sl_list (pv 1) po_none (@po_some _ _ _ pe_int))) c_l_loop_1 (fun _ _ _ _ _ _ => ⟨(pg_name (i := 0) c_l_loop_1n rfl (Or.inl rfl)), (@pts_one _ _ _ (@pt_cmpR _ _ _ _ _ _ _ _ (show OpR _ _ (rIn K true) from op_notIn_seq) (pv 0) (pv 1) (by with_unfolding_all rfl))), (pv 0)⟩) (by rfl) (by intro _ ; rfl) (by first | exact .inl rfl | exact .inr rfl | assumption)) (@pss_cons _ _ _ _ _ (@ps_if _ _ _ _ _ _ _ _ ((@pw_and _ _ _ _ _ _ _ (@pt_cmpR _ _ _ _ _ _ _ _ op_eq (@pe_op _ _ _ _ _ _ _ _ op_mod (@pe_ix _ _ _ _ _ _ _ ix_list (pv 4) pe_int (fun _ _ => rfl)) pe_int) pe_int (@nomark _ _ (by decide) (by decide))) (@pw_and _ _ _ _ _ _ _ (@pt_cmpR _ _ _ _ _ _ _ _ op_in_seq (@pe_ix _ _ _ _ _ _ _ ix_tup (pv 3) pe_int (fun _ _ => rfl)) (pv 6) (by with_unfolding_all rfl)) (@pw_and _ _ _ _ _ _ _ (@pt_cmpR _ _ _ _ _ _ _ _ op_in_seq (@pe_ix _ _ _ _ _ _ _ ix_tup (@pe_ix _ _ _ _ _ _ _ ix_tup (pv 3) pe_int (fun _ _ => rfl)) pe_int (fun _ _ => rfl)) (pv 5) (by with_unfolding_all rfl)) (@pw_and1 _ _ _ _ (@pt_cmpR _ _ _ _ _ _ _ _ op_in_seq (@pe_ix _ _ _ _ _ _ _ ix_tup (@pe_ix _ _ _ _ _ _ _ ix_tup (pv 3) pe_int (fun _ _ => rfl)) pe_int (fun _ _ => rfl)) (pv 5) (by with_unfolding_all rfl))))))).pt (@pss_one _ _ _ (@ps_ret _ _ _ _ (pv 3))) pss_nil) (@pss_cons _ _ _ _ _ (@ps_set _ _ (7) _ _ _ _ sc_l_loop.nd rfl (Or.inl rfl) (@pe_call _ _ _ _ _ _ _ _ _ _ _ _ _ _ _ _ G_l_spot (hr.mono (by omega)) (by rfl) T.m_l_spot T.F_l_spot.kp T.b_l_spot .nil pass0 (@pa_cons _ _ _ _ _ (@pe_ix _ _ _ _ _ _ _ ix_list (pv 4) pe_int (fun _ _ => rfl)) (@pa_cons _ _ _ _ _ (@pe_ix _ _ _ _ _ _ _ ix_list (pv 4) pe_int (fun _ _ => rfl)) (@pa_cons _ _ _ _ _ (pv 5) pa_nil (by rfl)) (by rfl)) (by rfl)) (by decide) (by rfl) (by rfl)) (by rfl) (by first | exact .inl rfl | exact .inr rfl | assumption)) (@pss_one _ _ _ (@ps_ret _ _ _ _ (@pe_tupq _ _ _ _ _ (@paq_cons _ _ _ _ _ (@pe_ix _ _ _ _ _ _ _ ix_list (pv 6) (@pe_op _ _ _ _ _ _ _ _ op_mod (@pe_ix _ _ _ _ _ _ _ ix_list (pv 4) pe_int (fun _ _ => rfl)) (@pe_callB _ _ _ _ _ _ _ _ _ call_len_seq (by rfl) T.z_len bt_len (@pa_cons _ _ _ _ _ (pv 6) pa_nil (by rfl)) (by decide) (by decide) (by rfl) (by rfl))) (fun _ _ => rfl)) (@paq_cons _ _ _ _ _ (pv 7) (@paq_cons _ _ _ _ _ (@pe_call _ _ _ _ _ _ _ _ _ _ _ _ _ _ _ _ G_l_spot (hr.mono (by omega)) (by rfl) T.m_l_spot T.F_l_spot.kp T.b_l_spot .nil pass0 (@pa_cons _ _ _ _ _ (@pe_ix _ _ _ _ _ _ _ ix_list (pv 4) pe_int (fun _ _ => rfl)) (@pa_cons _ _ _ _ _ (@pe_ix _ _ _ _ _ _ _ ix_list (pv 4) pe_int (fun _ _ => rfl)) (@pa_cons _ _ _ _ _ (pv 5) pa_nil (by rfl)) (by rfl)) (by rfl)) (by decide) (by rfl) (by rfl)) paq_nil star_K) star_N) star_S))))))))), ?_⟩
  refine ⟨_, rfl, c, 6, rfl, by decide, by decide, fun rx H1 s1 hx => ?_⟩
  rw [show (6 : Int).toNat = 6 from rfl] at hx
  generalize hxs : strm c 6 = xs at hx
  have xl : xs.length = 6 := by rw [← hxs, strm_len]
  have xm : ∀ y ∈ xs, 0 ≤ y ∧ y < 2147483647 := fun y hy => strm_mem (hxs ▸ hy)
  have atx : ∀ k : Nat, k < 6 → atI (xs.map V.int) ((k : Nat) : Int) = some (.int (xs.getD k 0)) := fun k hk => cell_in (ns := xs) (k := ((k : Nat) : Int)) (by omega) (by omega)
  have xb : ∀ k : Nat, k < 6 → 0 ≤ xs.getD k 0 ∧ xs.getD k 0 < 2147483647 := fun k hk => by
    have hm : xs.getD k 0 ∈ xs := by rw [List.getD_eq_getElem?_getD, List.getElem?_eq_getElem (by omega)]; exact List.getElem_mem _
    exact xm _ hm
  dsimp only [gName]
  have vl := aO.1
  -- known
  refine ⟨szl (by show 1 ≤ 1000000; decide), fun r1 hr1 => ?_⟩
  have s2 := same_new hr1 (.lst [V.str ""])
  have e2 := s1.trans s2
  have hO2 := e2 _ _ hO0
  refine ⟨_, rfl, o, rfl, ⟨_, SqL.of hO2⟩, ?_⟩
  refine comp_list (xs := vs) (fun i ys H' => H' = upd H1 r1 (.lst [V.str ""]) ∧ ys = ((ts.take i).map LpT.nm).map V.str) ⟨rfl, rfl⟩ (szl (by omega)) (fun i ys H' hi pp => ⟨by rw [pp.1]; exact SqL.of hO2, by rw [pp.2, List.length_map, List.length_map, List.length_take]; omega⟩) (fun i x ys H' hc pp => ?_) (fun ys H' pp r2 hr2 => ?_)
  · obtain ⟨rfl, rfl⟩ := pp
    obtain ⟨t, ht, p, xa, xb', rfl, hp, _, _⟩ := aO.get' hc
    refine ⟨_, rfl, p, _, 0, _, rfl, rfl, SqT.of (e2 _ _ hp), rfl, rfl, ?_⟩
    rw [take_snoc ht, List.map_append, List.map_append]
    rfl
  obtain ⟨rfl, rfl⟩ := pp
  rw [vl, List.take_length]
  have s3 := same_new hr2 (.lst ((ts.map LpT.nm).map V.str))
  refine ⟨r1, r2, _, _, rfl, rfl, s3 _ _ upd_same, upd_same, szl (by rw [List.length_map, List.length_map, List.length_singleton]; omega), fun kl hkl => ?_⟩
  have s4 := same_new hkl (.lst ([V.str ""] ++ (ts.map LpT.nm).map V.str))
  have hk : StrsAt (upd (upd (upd H1 r1 (.lst [V.str ""])) r2 (.lst ((ts.map LpT.nm).map V.str))) kl (.lst ([V.str ""] ++ (ts.map LpT.nm).map V.str))) kl ("" :: ts.map LpT.nm) (ts.length + 1) := ⟨upd_same, by rw [List.length_cons, List.length_map], fun z hz => by
    rcases List.mem_cons.mp hz with rfl | hz
    · rw [empty_len]; exact Nat.zero_le _
    · obtain ⟨t, ht, rfl⟩ := List.mem_map.mp hz
      exact (hok t ht).1⟩
  have e4 := (e2.trans s3).trans s4
  have hx4 := (s2.trans (s3.trans s4)) _ _ hx
  dsimp only [gName]
  generalize upd (upd (upd H1 r1 (.lst [V.str ""])) r2 (.lst ((ts.map LpT.nm).map V.str))) kl (.lst ([V.str ""] ++ (ts.map LpT.nm).map V.str)) = H4 at s4 hk e4 hx4
  generalize hkn : ("" : Str) :: ts.map LpT.nm = kn at hk
  have knl : kn.length ≤ 3 := by rw [← hkn, List.length_cons, List.length_map]; omega
  -- rest
  have hn4 := hn.over e4
  have ct : cutV (ns.map V.str) none (some 4) = (ns.take 4).map V.str := by
    have := cut_to (ns.map V.str) (k := 4) (by decide)
    rw [List.map_take]
    exact this
  refine ⟨_, rfl, _, rfl, nl, _, rfl, SqL.of hn4.1, fun p1 hp1 => ?_⟩
  rw [ct]
  have s5 := same_new hp1 (.lst ((ns.take 4).map V.str))
  have hp15 : (upd H4 p1 (.lst ((ns.take 4).map V.str))) p1 = some (.lst ((ns.take 4).map V.str)) := upd_same
  have hk5 := hk.over s5
  generalize upd H4 p1 (.lst ((ns.take 4).map V.str)) = H5 at s5 hp15 hk5
  have n4 : (ns.take 4).length = 4 := by rw [List.length_take, hn.2.1]; rfl
  have nd4 : (ns.take 4).Nodup := List.Nodup.sublist (List.take_sublist _ _) hnd
  have n20 : ∀ z ∈ ns.take 4, z.length ≤ 20 := fun z hz => hn.2.2 z (List.mem_of_mem_take hz)
  generalize ns.take 4 = n4s at hp15 n4 nd4 n20
  have fl : ((kn.map V.str).all flatV) = true := by rw [List.all_map]; exact List.all_eq_true.mpr fun _ _ => rfl
  refine ⟨p1, rfl, ⟨_, SqL.of hp15⟩, ?_⟩
  refine comp_list (xs := n4s.map V.str) (fun i ys H3 => H3 = H5 ∧ ys = ((n4s.take i).filter fun z => !decide (z ∈ kn)).map V.str) ⟨rfl, rfl⟩ (szl (by rw [List.length_map]; omega)) (fun i ys H3 hi p => ?_) (fun i x ys H3 hc p => ?_) (fun ys H3 p r3 hr3 => ?_)
  · obtain ⟨rfl, rfl⟩ := p
    refine ⟨SqL.of hp15, ?_⟩
    rw [List.length_map]
    exact Nat.le_trans (List.length_filter_le _ _) (by rw [List.length_take]; omega)
  · obtain ⟨rfl, rfl⟩ := p
    rw [List.getElem?_map] at hc
    cases hz : n4s[i]? with
    | none => rw [hz] at hc; cases hc
    | some z =>
      rw [hz] at hc
      cases hc
      refine ⟨_, rfl, _, rfl, kl, _, rfl, .inl (SqL.of hk5.1), rfl, fl, _, rfl, ?_⟩
      show if (!inV (V.str z) (kn.map V.str)) = true then _ else _
      rw [inV_str, take_snoc hz, List.filter_append, List.map_append]
      refine ite2 (fun c2 => ?_) (fun c2 => ?_)
      · refine ⟨_, rfl, rfl, ?_⟩
        rw [show List.filter (fun z => !decide (z ∈ kn)) [z] = [z] from List.filter_cons_of_pos (p := fun z => !decide (z ∈ kn)) c2]
        rfl
      · refine ⟨rfl, ?_⟩
        rw [show List.filter (fun z => !decide (z ∈ kn)) [z] = [] from List.filter_cons_of_neg (p := fun z => !decide (z ∈ kn)) c2]
        show _ = _ ++ []
        rw [List.append_nil]
  obtain ⟨rfl, rfl⟩ := p
  rw [List.length_map, List.take_length]
  have rsub : ∀ z ∈ (n4s.filter fun z => !decide (z ∈ kn)), z.length ≤ 20 := fun z hz => n20 z (List.mem_filter.mp hz).1
  generalize hrest : (n4s.filter fun z => !decide (z ∈ kn)) = rest at rsub
  have rne : 0 < rest.length := by
    refine Nat.pos_of_ne_zero fun h0 => ?_
    have hnil := List.length_eq_zero_iff.mp h0
    rw [← hrest] at hnil
    have := nodup_le nd4 (k := kn) fun x hx => by simpa using List.filter_eq_nil_iff.mp hnil x hx
    omega
  have rle : rest.length ≤ 4 := by rw [← hrest, ← n4]; exact List.length_filter_le _ _
  have s6 := same_new hr3 (.lst (rest.map V.str))
  have h6r : (upd H3 r3 (.lst (rest.map V.str))) r3 = some (.lst (rest.map V.str)) := upd_same
  have e6 := e4.trans (s5.trans s6)
  have hx6 := (s5.trans s6) _ _ hx4
  have hk6 := hk5.over s6
  dsimp only [gName]
  generalize upd H3 r3 (.lst (rest.map V.str)) = H6 at s6 h6r e6 hx6 hk6
  have flr : ((rest.map V.str).all flatV) = true := by rw [List.all_map]; exact List.all_eq_true.mpr fun _ _ => rfl
  obtain ⟨q0, xa, xb2, rfl, g0, ⟨q1, rfl, g1⟩, ⟨q2, rfl, g2⟩⟩ := hla.tk (Same.tk e6)
  have hla6 : LptAt H6 (.ref q0) tl := ⟨q0, .ref q1, .ref q2, rfl, g0, ⟨q1, rfl, g1⟩, ⟨q2, rfl, g2⟩⟩
  refine seq_any (fun σ' H' => H' = H6 ∧ σ' = [some (.int c), some (.ref nl), some (.ref o), some (.ref q0), some (.ref rx), some (.ref kl), some (.ref r3), none]) (fun σ' H' m => ?_) (fun go => ?_)
  · obtain ⟨rfl, rfl⟩ := m
    refine ⟨_, rfl, rx, _, _, _, rfl, rfl, SqL.of hx6, atx 0 (by decide), _, rfl, rx, _, _, _, rfl, rfl, SqL.of hx6, atx 1 (by decide), _, rfl, _, _, kl, kn, _, rfl, Nat.succ_le_succ (Nat.zero_le _), (xb 0 (by decide)).1, (xb 0 (by decide)).2, (xb 1 (by decide)).1, (xb 1 (by decide)).2, hk6, fun rl H7 sl e7 hsl bl => ?_⟩
    dsimp only [gName]
    have h7r := e7 _ _ h6r
    have hx7 := e7 _ _ hx6
    have lr : (((rest.map V.str).length : Nat) : Int) = (rest.length : Int) := by rw [List.length_map]
    have m0 := Int.emod_nonneg (xs.getD 4 0) (show (((rest.map V.str).length : Nat) : Int) ≠ 0 by omega)
    have m1 := Int.emod_lt_of_pos (xs.getD 4 0) (show (0 : Int) < (((rest.map V.str).length : Nat) : Int) by omega)
    have hrS : StrsAt H7 r3 rest rest.length := ⟨h7r, rfl, rsub⟩
    obtain ⟨nz, hnz, nzl⟩ := hrS.at m0 (by omega)
    refine ⟨_, rfl, _, rfl, rx, _, _, _, rfl, rfl, SqL.of hx7, atx 4 (by decide), _, rfl, r3, _, rfl, .inl (SqL.of h7r), _, _, rfl, rfl, (by show (0 : Int) < (((rest.map V.str).length : Nat) : Int); omega), r3, _, _, _, rfl, rfl, SqL.of h7r, hnz, _, rfl, ?_⟩
    refine ⟨_, rfl, rx, _, _, _, rfl, rfl, SqL.of hx7, atx 2 (by decide), _, rfl, rx, _, _, _, rfl, rfl, SqL.of hx7, atx 3 (by decide), _, rfl, _, _, kl, kn, _, rfl, Nat.succ_le_succ (Nat.zero_le _), (xb 2 (by decide)).1, (xb 2 (by decide)).2, (xb 3 (by decide)).1, (xb 3 (by decide)).2, hk6.over e7, fun rh H8 sh e8 hsh bh => ⟨szl (by show 3 ≤ 1000000; decide), fun t ht => ?_⟩⟩
    have s9 := same_new ht (.tup [V.str nz, rl, rh])
    exact q _ _ ⟨nz, sl, sh⟩ (((e6.trans e7).trans e8).trans s9) ⟨t, rl, rh, rfl, upd_same, (hsl.tk (Same.tk e8)).tk (Same.tk s9), hsh.tk (Same.tk s9)⟩ ⟨nzl, bl, bh⟩
  · refine ⟨_, rfl, rx, _, _, _, rfl, rfl, SqL.of hx6, atx 5 (by decide), _, _, rfl, rfl, (by show (0 : Int) < 3; decide), rfl, _, rfl, ?_⟩
    refine ite2 (fun _ => ?_) (fun _ => iteF (go _ _ ⟨rfl, rfl⟩))
    refine ⟨_, rfl, q0, _, 0, _, rfl, rfl, SqT.of g0, rfl, _, rfl, r3, _, rfl, .inl (SqL.of h6r), rfl, flr, _, rfl, ?_⟩
    refine ite2 (fun _ => ?_) (fun _ => iteF (go _ _ ⟨rfl, rfl⟩))
    refine ⟨_, rfl, q0, _, 1, _, rfl, rfl, SqT.of g0, rfl, q1, _, 0, _, rfl, rfl, SqT.of g1, rfl, _, rfl, kl, _, rfl, .inl (SqL.of hk6.1), rfl, fl, _, rfl, ?_⟩
    refine ite2 (fun _ => ?_) (fun _ => iteF (go _ _ ⟨rfl, rfl⟩))
    refine ⟨_, rfl, q0, _, 2, _, rfl, rfl, SqT.of g0, rfl, q2, _, 0, _, rfl, rfl, SqT.of g2, rfl, _, rfl, kl, _, rfl, .inl (SqL.of hk6.1), rfl, fl, _, rfl, ?_⟩
    refine ite2 (fun _ => ?_) (fun _ => go _ _ ⟨rfl, rfl⟩)
    exact ⟨_, rfl, q _ _ tl e6 hla6 okl⟩

theorem ok_deed26 (T : Tx K mg a) : FnOk P w K mg base CX0 6 a.f_l_deed a.d_l_deed ["_law_cell_here", "_law_opened", "_law_path", "_law_names_here"] spDeed26 := by
  have G_l_stream := ok_stream (P := P) (w := w) (base := base) T
  have G_l_cell := ok_cell24 (P := P) (w := w) (base := base) T
  have G_l_term := ok_term26 (P := P) (w := w) (base := base) T
  refine T.F_l_deed.ok sc_l_deed (fun vs H Q E h => ?_) (fun cdv A outer s H vs Q E hr h => ?_)
  · obtain ⟨_, _, _, _, _, _, _, rfl, _⟩ := h; rfl
  obtain ⟨c, o, pt, nl, ns, ts, path, rfl, hn, hO, hol, hok, hpt, hpl, q⟩ := h
  refine ⟨_, (@pss_cons _ _ _ _ _ (@ps_set _ _ (4) _ _ _ _ sc_l_deed.nd rfl (Or.inl rfl) (@pe_op _ _ _ _ _ _ _ _ op_cat (@pe_lst _ _ _ _ (@pa_cons _ _ _ _ _ pe_str pa_nil (by rfl))) (@pe_compB _ _ _ _ _ _ _ ["_law_one"] [none] _ _ _ _ (by rfl) (@pi_list _ _ _ _ (pv 1)) c_l_deed_0 (fun _ _ _ _ _ _ => ⟨(pg_name (i := 0) c_l_deed_0n rfl (Or.inl rfl)), @pts_nil _, (@pe_ix _ _ _ _ _ _ _ (show IxR _ (rIxT K) from ix_tup) (pv 0) pe_int (fun _ _ => rfl))⟩) (by intro _ ; rfl))) (by rfl) (by first | exact .inl rfl | exact .inr rfl | assumption)) (@pss_cons _ _ _ _ _ (@ps_asg _ _ _ _ _ _ (@pe_call _ _ _ _ _ _ _ _ _ _ _ _ _ _ _ _ G_l_cell (hr.mono (by omega)) (by rfl) T.m_l_cell T.F_l_cell.kp T.b_l_cell .nil pass0 (@pa_cons _ _ _ _ _ (@pe_call _ _ _ _ _ _ _ _ _ _ _ _ _ _ _ _ G_l_stream (hr.mono (by omega)) (by rfl) T.m_l_stream T.F_l_stream.kp T.b_l_stream .nil pass0 (@pa_cons _ _ _ _ _ (pv 0) (@pa_cons _ _ _ _ _ pe_int pa_nil (by rfl)) (by rfl)) (by decide) (by rfl) (by rfl)) (@pa_cons _ _ _ _ _ (pv 4) (@pa_cons _ _ _ _ _ (pv 3) pa_nil (by rfl)) (by rfl)) (by rfl)) (by decide) (by rfl) (by rfl)) (pg_tup rfl (pgs_cons (pg_name (i := 5) sc_l_deed.nd rfl (Or.inl rfl)) (pgs_cons (pg_name (i := 6) sc_l_deed.nd rfl (Or.inl rfl)) (pgs_cons (pg_name (i := 7) sc_l_deed.nd rfl (Or.inl rfl)) pgs_nil)))) (by rfl) (by rfl) (by rfl)) (@pss_cons _ _ _ _ _ (@ps_set _ _ (8) _ _ _ _ sc_l_deed.nd rfl (Or.inl rfl) (@pe_call _ _ _ _ _ _ _ _ _ _ _ _ _ _ _ _ G_l_term (hr.mono (by omega)) (by rfl) T.m_l_term T.F_l_term.kp T.b_l_term .nil pass0 (@pa_cons _ _ _ _ _ (@pe_op _ _ _ _ _ _ _ _ op_fdiv (pv 0) pe_int) (@pa_cons _ _ _ _ _ (pv 4) (@pa_cons _ _ _ _ _ (pv 3) pa_nil (by rfl)) (by rfl)) (by rfl)) (by decide) (by rfl) (by rfl)) (by rfl) (by first | exact .inl rfl | exact .inr rfl | assumption)) (@pss_one _ _ _ (@ps_ret _ _ _ _ (@pe_tupq _ _ _ _ _ (@paq_cons _ _ _ _ _ (pv 1) (@paq_cons _ _ _ _ _ (pv 5) (@paq_cons _ _ _ _ _ (pv 6) (@paq_cons _ _ _ _ _ (@pe_ix _ _ _ _ _ _ _ ix_tup (pv 8) pe_int (fun _ _ => rfl)) (@paq_cons _ _ _ _ _ (@pe_callTy _ _ _ _ _ _ _ _ _ call_tuple_of (by rfl) T.z_tuple bt_tuple (@pa_cons _ _ _ _ _ (pv 2) pa_nil (by rfl)) (by decide) (by decide) (by rfl) (by rfl)) (@paq_cons _ _ _ _ _ (@pe_op _ _ _ _ _ _ _ _ op_add_str (@pe_op _ _ _ _ _ _ _ _ op_add_str (pv 7) pe_str) (@pe_ix _ _ _ _ _ _ _ ix_tup (pv 8) pe_int (fun _ _ => rfl))) paq_nil star_B) star_K) star_S) star_N) star_N) star_N))))))), ?_⟩
  obtain ⟨vs, hO0, aO⟩ := id hO
  have vl := aO.1
  refine ⟨szl (by show 1 ≤ 1000000; decide), fun r1 hr1 => ?_⟩
  have s2 := same_new hr1 (.lst [V.str ""])
  have hO2 := s2 _ _ hO0
  refine ⟨_, rfl, o, rfl, ⟨_, SqL.of hO2⟩, ?_⟩
  refine comp_list (xs := vs) (fun i ys H' => H' = upd H r1 (.lst [V.str ""]) ∧ ys = ((ts.take i).map LpT.nm).map V.str) ⟨rfl, rfl⟩ (szl (by omega)) (fun i ys H' hi pp => ⟨by rw [pp.1]; exact SqL.of hO2, by rw [pp.2, List.length_map, List.length_map, List.length_take]; omega⟩) (fun i x ys H' hc pp => ?_) (fun ys H' pp r2 hr2 => ?_)
  · obtain ⟨rfl, rfl⟩ := pp
    obtain ⟨t, ht, p, xa, xb', rfl, hp, _, _⟩ := aO.get' hc
    refine ⟨_, rfl, p, _, 0, _, rfl, rfl, SqT.of (s2 _ _ hp), rfl, rfl, ?_⟩
    rw [take_snoc ht, List.map_append, List.map_append]
    rfl
  obtain ⟨rfl, rfl⟩ := pp
  rw [vl, List.take_length]
  have s3 := same_new hr2 (.lst ((ts.map LpT.nm).map V.str))
  refine ⟨r1, r2, _, _, rfl, rfl, s3 _ _ upd_same, upd_same, szl (by rw [List.length_map, List.length_map, List.length_singleton]; omega), fun kl hkl => ?_⟩
  have s4 := same_new hkl (.lst ([V.str ""] ++ (ts.map LpT.nm).map V.str))
  have hk : StrsAt (upd (upd (upd H r1 (.lst [V.str ""])) r2 (.lst ((ts.map LpT.nm).map V.str))) kl (.lst ([V.str ""] ++ (ts.map LpT.nm).map V.str))) kl ("" :: ts.map LpT.nm) (ts.length + 1) := ⟨upd_same, by rw [List.length_cons, List.length_map], fun z hz => by
    rcases List.mem_cons.mp hz with rfl | hz
    · rw [empty_len]; exact Nat.zero_le _
    · obtain ⟨t, ht, rfl⟩ := List.mem_map.mp hz
      exact (hok t ht).1⟩
  have e4 := (s2.trans s3).trans s4
  dsimp only [gName]
  generalize upd (upd (upd H r1 (.lst [V.str ""])) r2 (.lst ((ts.map LpT.nm).map V.str))) kl (.lst ([V.str ""] ++ (ts.map LpT.nm).map V.str)) = H4 at s4 hk e4
  -- the cell
  refine ⟨_, rfl, c, 5, rfl, by decide, by decide, fun rx H5 e5 hx => ?_⟩
  rw [show (5 : Int).toNat = 5 from rfl] at hx
  have e05 := e4.trans e5
  refine ⟨_, rfl, _, rfl, rx, kl, nl, strm c 5, _, ns, _, rfl, Nat.succ_le_succ (Nat.zero_le _), hx, strm_len c 5, fun y hy => strm_mem hy, hk.over e5, hn.over e05, fun r p H6 z sp e6 hr6 hp6 ok => ?_⟩
  refine ⟨r, _, rfl, SqT.of hr6, rfl, _, _, rfl, _, _, rfl, _, _, rfl, rfl, ?_⟩
  have e06 := e05.trans e6
  -- the term
  refine ⟨_, rfl, _, _, rfl, rfl, ⟨by decide, by decide⟩, _, rfl, _, rfl, _, kl, nl, _, ns, _, rfl, Nat.succ_le_succ (Nat.zero_le _), hk.over (e5.trans e6), hn.over e06, fun x H7 t e7 tp okt st => ?_⟩
  dsimp only [gName]
  obtain ⟨tt, y, rfl, htt, hy⟩ := tp
  have e07 := e06.trans e7
  have cl := celS_len ok.1 ok.2.1 ok.2.2
  have wl := Tw.wr_len okt
  have e3 : (" = " : Str).length = 3 := by decide +kernel
  refine ⟨_, rfl, _, rfl, _, rfl, _, rfl, tt, _, 2, _, rfl, rfl, SqT.of htt, rfl, _, rfl, pt, _, rfl, .inl ⟨SqL.of (e07 _ _ hpt), fun tp htp => ?_⟩⟩
  have s8 := same_new htp (.tup (path.map V.int))
  refine ⟨_, rfl, _, _, rfl, rfl, szl (by omega), _, rfl, tt, _, 0, _, rfl, rfl, SqT.of (s8 _ _ htt), rfl, _, _, rfl, rfl, szl (by rw [sLen]; omega), szl (by show 6 ≤ 1000000; decide), fun u hu => ?_⟩
  have s9 := same_new hu (.tup [V.ref o, V.str z, V.ref p, y, V.ref tp, V.str (celS z sp ++ " = " ++ t.wr)])
  have e89 := s8.trans s9
  exact q _ _ ⟨ts, z, sp, t, path⟩ (e07.trans e89) ⟨u, p, tp, y, rfl, upd_same, hO.over (e07.trans e89), (hp6.tk (Same.tk e7)).tk (Same.tk e89), hy.tk (Same.tk e89), s9 _ _ upd_same⟩ ⟨hok, hol, hpl, ok, okt, st⟩ rfl rfl

theorem ok_prog26 (T : Tx K mg a) : FnOk P w K mg base CX0 7 a.f_l_program a.d_l_program ["_law_cells", "_law_names_here"] (spProg26 K) := by
  have G_l_loop := ok_loop26 (P := P) (w := w) (base := base) T
  have G_l_spot_text := ok_stext (P := P) (w := w) (base := base) T
  have G_l_deed := ok_deed26 (P := P) (w := w) (base := base) T
  refine T.F_l_program.ok sc_l_program (fun vs H Q E h => ?_) (fun cdv A outer s H vs Q E hr h => ?_)
  · obtain ⟨_, _, _, _, rfl, _⟩ := h; rfl
  obtain ⟨cl, nl, cs, ns, rfl, hC, hcl, hn, hnd, q⟩ := h
  refine ⟨_, (@pss_cons _ _ _ _ _ (@ps_set _ _ (2) _ _ _ _ sc_l_program.nd rfl (Or.inl rfl) (@pe_lst _ _ _ _ pa_nil) (by rfl) (by first | exact .inl rfl | exact .inr rfl | assumption)) (@pss_cons _ _ _ _ _ (@ps_set _ _ (3) _ _ _ _ sc_l_program.nd rfl (Or.inl rfl) (@pe_lst _ _ _ _ (@pa_cons _ _ _ _ _ pe_int pa_nil (by rfl))) (by rfl) (by first | exact .inl rfl | exact .inr rfl | assumption)) (@pss_cons _ _ _ _ _ (@ps_set _ _ (4) _ _ _ _ sc_l_program.nd rfl (Or.inl rfl) (@pe_lst _ _ _ _ pa_nil) (by rfl) (by first | exact .inl rfl | exact .inr rfl | assumption)) (@pss_cons _ _ _ _ _ (@ps_set _ _ (5) _ _ _ _ sc_l_program.nd rfl (Or.inl rfl) (@pe_lst _ _ _ _ pa_nil) (by rfl) (by first | exact .inl rfl | exact .inr rfl | assumption)) (@pss_cons _ _ _ _ _ (@ps_set _ _ (6) _ _ _ _ sc_l_program.nd rfl (Or.inl rfl) (@pe_tupq _ _ _ _ _ (@paq_cons _ _ _ _ _ pe_str (@paq_cons _ _ _ _ _ (@pe_tup _ _ _ _ _ (@pa_cons _ _ _ _ _ pe_str (@pa_cons _ _ _ _ _ pe_int pa_nil (by rfl)) (by rfl))) (@paq_cons _ _ _ _ _ (@pe_tup _ _ _ _ _ (@pa_cons _ _ _ _ _ pe_str (@pa_cons _ _ _ _ _ pe_int pa_nil (by rfl)) (by rfl))) paq_nil star_T) star_T) star_C)) (by rfl) (by first | exact .inl rfl | exact .inr rfl | assumption)) (@pss_cons _ _ _ _ _ (@ps_for _ _ _ _ _ _ _ _ PassesOwn.never rfl (@pi_list _ _ _ _ (pv 0)) (pg_name (i := 7) sc_l_program.nd rfl (Or.inl rfl)) (@pss_cons _ _ _ _ _ (@ps_if _ _ _ _ _ _ _ _ (@pt_cmpR _ _ _ _ _ _ _ _ op_eq (@pe_callB _ _ _ _ _ _ _ _ _ call_len_seq (by rfl) T.z_len bt_len (@pa_cons _ _ _ _ _ (pv 5) pa_nil (by rfl)) (by decide) (by decide) (by rfl) (by rfl)) pe_int (@nomark _ _ (by decide) (by decide))) (@pss_one _ _ _ ps_break) pss_nil) (@pss_one _ _ _ (@ps_if _ _ _ _ _ _ _ _ ((@pw_and _ _ _ _ _ _ _ (@pt_cmpR _ _ _ _ _ _ _ _ op_lt (@pe_op _ _ _ _ _ _ _ _ op_mod (pv 7) pe_int) pe_int (@nomark _ _ (by decide) (by decide))) (@pw_and1 _ _ _ _ (@pt_cmpR _ _ _ _ _ _ _ _ op_lt (@pe_callB _ _ _ _ _ _ _ _ _ call_len_seq (by rfl) T.z_len bt_len (@pa_cons _ _ _ _ _ (pv 2) pa_nil (by rfl)) (by decide) (by decide) (by rfl) (by rfl)) pe_int (@nomark _ _ (by decide) (by decide)))))).pt (@pss_cons _ _ _ _ _ (@ps_set _ _ (8) _ _ _ _ sc_l_program.nd rfl (Or.inl rfl) (@pe_call _ _ _ _ _ _ _ _ _ _ _ _ _ _ _ _ G_l_loop (hr.mono (by omega)) (by rfl) T.m_l_loop T.F_l_loop.kp T.b_l_loop .nil pass0 (@pa_cons _ _ _ _ _ (@pe_op _ _ _ _ _ _ _ _ op_fdiv (pv 7) pe_int) (@pa_cons _ _ _ _ _ (pv 1) (@pa_cons _ _ _ _ _ (pv 2) (@pa_cons _ _ _ _ _ (pv 6) pa_nil (by rfl)) (by rfl)) (by rfl)) (by rfl)) (by decide) (by rfl) (by rfl)) (by rfl) (by first | exact .inl rfl | exact .inr rfl | assumption)) (@pss_cons _ _ _ _ _ (@ps_set _ _ (9) _ _ _ _ sc_l_program.nd rfl (Or.inl rfl) (@pe_op _ _ _ _ _ _ _ _ op_add_str (@pe_op _ _ _ _ _ _ _ _ op_add_str (@pe_op _ _ _ _ _ _ _ _ op_add_str pe_str (@pe_ix _ _ _ _ _ _ _ ix_tup (pv 8) pe_int (fun _ _ => rfl))) pe_str) (@pe_call _ _ _ _ _ _ _ _ _ _ _ _ _ _ _ _ G_l_spot_text (hr.mono (by omega)) (by rfl) T.m_l_spot_text T.F_l_spot_text.kp T.b_l_spot_text .nil pass0 (@pa_cons _ _ _ _ _ (@pe_ix _ _ _ _ _ _ _ ix_tup (pv 8) pe_int (fun _ _ => rfl)) pa_nil (by rfl)) (by decide) (by rfl) (by rfl))) (by rfl) (by first | exact .inl rfl | exact .inr rfl | assumption)) (@pss_cons _ _ _ _ _ (@ps_expr _ _ _ _ (@pe_bm _ _ _ _ _ _ _ _ _ _ _ _ PySem.F.plainAttrs_list PySem.F.slot_list_append PySem.F.type_list_append mt_append (pv 4) (@pa_cons _ _ _ _ _ (@pe_tup _ _ _ _ _ (@pa_cons _ _ _ _ _ (@pe_callB _ _ _ _ _ _ _ _ _ call_len_seq (by rfl) T.z_len bt_len (@pa_cons _ _ _ _ _ (pv 2) pa_nil (by rfl)) (by decide) (by decide) (by rfl) (by rfl)) (@pa_cons _ _ _ _ _ (@pe_op _ _ _ _ _ _ _ _ op_add_str (@pe_op _ _ _ _ _ _ _ _ op_add_str (pv 9) pe_str) (@pe_call _ _ _ _ _ _ _ _ _ _ _ _ _ _ _ _ G_l_spot_text (hr.mono (by omega)) (by rfl) T.m_l_spot_text T.F_l_spot_text.kp T.b_l_spot_text .nil pass0 (@pa_cons _ _ _ _ _ (@pe_ix _ _ _ _ _ _ _ ix_tup (pv 8) pe_int (fun _ _ => rfl)) pa_nil (by rfl)) (by decide) (by rfl) (by rfl))) pa_nil (by rfl)) (by rfl))) pa_nil (by rfl)) (by rfl) (by rfl) (by rfl) (by rfl) (by rfl)) (by rfl)) (@pss_cons _ _ _ _ _ (@ps_set _ _ (2) _ _ _ _ sc_l_program.nd rfl (Or.inl rfl) (@pe_op _ _ _ _ _ _ _ _ op_cat (pv 2) (@pe_lst _ _ _ _ (@pa_cons _ _ _ _ _ (pv 8) pa_nil (by rfl)))) (by rfl) (by first | exact .inl rfl | exact .inr rfl | assumption)) (@pss_one _ _ _ (@ps_set _ _ (3) _ _ _ _ sc_l_program.nd rfl (Or.inl rfl) (@pe_op _ _ _ _ _ _ _ _ op_cat (pv 3) (@pe_lst _ _ _ _ (@pa_cons _ _ _ _ _ pe_int pa_nil (by rfl)))) (by rfl) (by first | exact .inl rfl | exact .inr rfl | assumption))))))) (@pss_one _ _ _ (@ps_if _ _ _ _ _ _ _ _ ((@pw_and _ _ _ _ _ _ _ (@pt_cmpR _ _ _ _ _ _ _ _ op_eq (@pe_op _ _ _ _ _ _ _ _ op_mod (pv 7) pe_int) pe_int (@nomark _ _ (by decide) (by decide))) (@pw_and _ _ _ _ _ _ _ (@pt_cmpR _ _ _ _ _ _ _ _ (@op_neS _ (@hu64 _ _ hr)) (pv 2) (@pe_lst _ _ _ _ pa_nil) (@nomark _ _ (by decide) (by decide))) (@pw_and1 _ _ _ _ (@pt_cmpR _ _ _ _ _ _ _ _ op_gt (@pe_ix _ _ _ _ _ _ _ ix_list (pv 3) (@pe_un _ _ _ _ _ _ un_neg pe_int) (fun _ _ => rfl)) pe_int (@nomark _ _ (by decide) (by decide))))))).pt (@pss_cons _ _ _ _ _ (@ps_set _ _ (6) _ _ _ _ sc_l_program.nd rfl (Or.inl rfl) (@pe_ix _ _ _ _ _ _ _ ix_list (pv 2) (@pe_un _ _ _ _ _ _ un_neg pe_int) (fun _ _ => rfl)) (by rfl) (by first | exact .inl rfl | exact .inr rfl | assumption)) (@pss_cons _ _ _ _ _ (@ps_set _ _ (2) _ _ _ _ sc_l_program.nd rfl (Or.inl rfl) (@pe_slice _ _ _ _ _ _ _ _ _ _ sl_list (pv 2) po_none (@po_some _ _ _ (@pe_un _ _ _ _ _ _ un_neg pe_int))) (by rfl) (by first | exact .inl rfl | exact .inr rfl | assumption)) (@pss_cons _ _ _ _ _ (@ps_set _ _ (3) _ _ _ _ sc_l_program.nd rfl (Or.inl rfl) (@pe_op _ _ _ _ _ _ _ _ op_cat (@pe_slice _ _ _ _ _ _ _ _ _ _ sl_list (pv 3) po_none (@po_some _ _ _ (@pe_un _ _ _ _ _ _ un_neg pe_int))) (@pe_lst _ _ _ _ (@pa_cons _ _ _ _ _ (@pe_op _ _ _ _ _ _ _ _ op_add (@pe_ix _ _ _ _ _ _ _ ix_list (pv 3) (@pe_un _ _ _ _ _ _ un_neg pe_int) (fun _ _ => rfl)) pe_int) pa_nil (by rfl)))) (by rfl) (by first | exact .inl rfl | exact .inr rfl | assumption)) (@pss_one _ _ _ (@ps_expr _ _ _ _ (@pe_bm _ _ _ _ _ _ _ _ _ _ _ _ PySem.F.plainAttrs_list PySem.F.slot_list_append PySem.F.type_list_append mt_append (pv 4) (@pa_cons _ _ _ _ _ (@pe_tup _ _ _ _ _ (@pa_cons _ _ _ _ _ (@pe_callB _ _ _ _ _ _ _ _ _ call_len_seq (by rfl) T.z_len bt_len (@pa_cons _ _ _ _ _ (pv 2) pa_nil (by rfl)) (by decide) (by decide) (by rfl) (by rfl)) (@pa_cons _ _ _ _ _ pe_str pa_nil (by rfl)) (by rfl))) pa_nil (by rfl)) (by rfl) (by rfl) (by rfl) (by rfl) (by rfl)) (by rfl)))))) (@pss_cons _ _ _ _ _ (@ps_expr _ _ _ _ (@pe_bm _ _ _ _ _ _ _ _ _ _ _ _ PySem.F.plainAttrs_list PySem.F.slot_list_append PySem.F.type_list_append mt_append (pv 5) (@pa_cons _ _ _ _ _ (@pe_call _ _ _ _ _ _ _ _ _ _ _ _ _ _ _ _ G_l_deed (hr.mono (by omega)) (by rfl) T.m_l_deed T.F_l_deed.kp T.b_l_deed .nil pass0 (@pa_cons _ _ _ _ _ (@pe_op _ _ _ _ _ _ _ _ op_fdiv (pv 7) pe_int) (@pa_cons _ _ _ _ _ (pv 2) (@pa_cons _ _ _ _ _ (pv 3) (@pa_cons _ _ _ _ _ (pv 1) pa_nil (by rfl)) (by rfl)) (by rfl)) (by rfl)) (by decide) (by rfl) (by rfl)) pa_nil (by rfl)) (by rfl) (by rfl) (by rfl) (by rfl) (by rfl)) (by rfl)) (@pss_cons _ _ _ _ _ (@ps_expr _ _ _ _ (@pe_bm _ _ _ _ _ _ _ _ _ _ _ _ PySem.F.plainAttrs_list PySem.F.slot_list_append PySem.F.type_list_append mt_append (pv 4) (@pa_cons _ _ _ _ _ (@pe_tup _ _ _ _ _ (@pa_cons _ _ _ _ _ (@pe_callB _ _ _ _ _ _ _ _ _ call_len_seq (by rfl) T.z_len bt_len (@pa_cons _ _ _ _ _ (pv 2) pa_nil (by rfl)) (by decide) (by decide) (by rfl) (by rfl)) (@pa_cons _ _ _ _ _ (@pe_ix _ _ _ _ _ _ _ ix_tup (@pe_ix _ _ _ _ _ _ _ ix_list (pv 5) (@pe_un _ _ _ _ _ _ un_neg pe_int) (fun _ _ => rfl)) pe_int (fun _ _ => rfl)) pa_nil (by rfl)) (by rfl))) pa_nil (by rfl)) (by rfl) (by rfl) (by rfl) (by rfl) (by rfl)) (by rfl)) (@pss_one _ _ _ (@ps_set _ _ (3) _ _ _ _ sc_l_program.nd rfl (Or.inl rfl) (@pe_op _ _ _ _ _ _ _ _ op_cat (@pe_slice _ _ _ _ _ _ _ _ _ _ sl_list (pv 3) po_none (@po_some _ _ _ (@pe_un _ _ _ _ _ _ un_neg pe_int))) (@pe_lst _ _ _ _ (@pa_cons _ _ _ _ _ (@pe_op _ _ _ _ _ _ _ _ op_add (@pe_ix _ _ _ _ _ _ _ ix_list (pv 3) (@pe_un _ _ _ _ _ _ un_neg pe_int) (fun _ _ => rfl)) pe_int) pa_nil (by rfl)))) (by rfl) (by first | exact .inl rfl | exact .inr rfl | assumption)))))))))) (by intro _ ; rfl)) (@pss_cons _ _ _ _ _ (@ps_if _ _ _ _ _ _ _ _ (@pt_cmpR _ _ _ _ _ _ _ _ op_eq (@pe_ix _ _ _ _ _ _ _ ix_list (pv 3) (@pe_un _ _ _ _ _ _ un_neg pe_int) (fun _ _ => rfl)) pe_int (@nomark _ _ (by decide) (by decide))) (@pss_cons _ _ _ _ _ (@ps_expr _ _ _ _ (@pe_bm _ _ _ _ _ _ _ _ _ _ _ _ PySem.F.plainAttrs_list PySem.F.slot_list_append PySem.F.type_list_append mt_append (pv 5) (@pa_cons _ _ _ _ _ (@pe_call _ _ _ _ _ _ _ _ _ _ _ _ _ _ _ _ G_l_deed (hr.mono (by omega)) (by rfl) T.m_l_deed T.F_l_deed.kp T.b_l_deed .nil pass0 (@pa_cons _ _ _ _ _ (@pe_callB _ _ _ _ _ _ _ _ _ call_len_seq (by rfl) T.z_len bt_len (@pa_cons _ _ _ _ _ (pv 0) pa_nil (by rfl)) (by decide) (by decide) (by rfl) (by rfl)) (@pa_cons _ _ _ _ _ (pv 2) (@pa_cons _ _ _ _ _ (pv 3) (@pa_cons _ _ _ _ _ (pv 1) pa_nil (by rfl)) (by rfl)) (by rfl)) (by rfl)) (by decide) (by rfl) (by rfl)) pa_nil (by rfl)) (by rfl) (by rfl) (by rfl) (by rfl) (by rfl)) (by rfl)) (@pss_one _ _ _ (@ps_expr _ _ _ _ (@pe_bm _ _ _ _ _ _ _ _ _ _ _ _ PySem.F.plainAttrs_list PySem.F.slot_list_append PySem.F.type_list_append mt_append (pv 4) (@pa_cons _ _ _ _ _ (@pe_tup _ _ _ _ _ (@pa_cons _ _ _ _ _ (@pe_callB _ _ _ _ _ _ _ _ _ call_len_seq (by rfl) T.z_len bt_len (@pa_cons _ _ _ _ _ (pv 2) pa_nil (by rfl)) (by decide) (by decide) (by rfl) (by rfl)) (@pa_cons _ _ _ _ _ (@pe_ix _ _ _ _ _ _ _ ix_tup (@pe_ix _ _ _ _ _ _ _ ix_list (pv 5) (@pe_un _ _ _ _ _ _ un_neg pe_int) (fun _ _ => rfl)) pe_int (fun _ _ => rfl)) pa_nil (by rfl)) (by rfl))) pa_nil (by rfl)) (by rfl) (by rfl) (by rfl) (by rfl) (by rfl)) (by rfl)))) pss_nil) (@pss_cons _ _ _ _ _ (@ps_while _ _ _ _ _ _ PassesOwn.never (@pt_cmpR _ _ _ _ _ _ _ _ (@op_neS _ (@hu64 _ _ hr)) (pv 2) (@pe_lst _ _ _ _ pa_nil) (@nomark _ _ (by decide) (by decide))) (@pss_cons _ _ _ _ _ (@ps_set _ _ (2) _ _ _ _ sc_l_program.nd rfl (Or.inl rfl) (@pe_slice _ _ _ _ _ _ _ _ _ _ sl_list (pv 2) po_none (@po_some _ _ _ (@pe_un _ _ _ _ _ _ un_neg pe_int))) (by rfl) (by first | exact .inl rfl | exact .inr rfl | assumption)) (@pss_one _ _ _ (@ps_expr _ _ _ _ (@pe_bm _ _ _ _ _ _ _ _ _ _ _ _ PySem.F.plainAttrs_list PySem.F.slot_list_append PySem.F.type_list_append mt_append (pv 4) (@pa_cons _ _ _ _ _ (@pe_tup _ _ _ _ _ (@pa_cons _ _ _ _ _ (@pe_callB _ _ _ _ _ _ _ _ _ call_len_seq (by rfl) T.z_len bt_len (@pa_cons _ _ _ _ _ (pv 2) pa_nil (by rfl)) (by decide) (by decide) (by rfl) (by rfl)) (@pa_cons _ _ _ _ _ pe_str pa_nil (by rfl)) (by rfl))) pa_nil (by rfl)) (by rfl) (by rfl) (by rfl) (by rfl) (by rfl)) (by rfl))))) (@pss_one _ _ _ (@ps_ret _ _ _ _ (@pe_tup _ _ _ _ _ (@pa_cons _ _ _ _ _ (pv 4) (@pa_cons _ _ _ _ _ (pv 5) pa_nil (by rfl)) (by rfl))))))))))))), ?_⟩
  have f4 : ("for " : Str).length = 4 := by decide +kernel
  have f1 : (" " : Str).length = 1 := by decide +kernel
  have fe : ("end" : Str).length = 3 := by decide +kernel
  refine ⟨szl (by show 0 ≤ 1000000; decide), fun o0 ho0 => ?_⟩
  refine ⟨szl (by show 1 ≤ 1000000; decide), fun pt0 hpt0 => ?_⟩
  refine ⟨szl (by show 0 ≤ 1000000; decide), fun rl hrl => ?_⟩
  refine ⟨szl (by show 0 ≤ 1000000; decide), fun dl hdl => ?_⟩
  refine ⟨szl (by show 2 ≤ 1000000; decide), fun q1 hq1 => ?_⟩
  refine ⟨szl (by show 2 ≤ 1000000; decide), fun q2 hq2 => ?_⟩
  refine ⟨szl (by show 3 ≤ 1000000; decide), fun la0 hla0 => ?_⟩
  have start : HSt H _ rl dl o0 pt0 (.ref la0) [] [0] [] [] ⟨"", ("", 0), ("", 0)⟩ := HSt.start ho0 hpt0 hrl hdl hq1 hq2 hla0
  dsimp only [gName]
  generalize upd (upd (upd (upd (upd (upd (upd H o0 (HO.lst [])) pt0 (HO.lst [V.int 0])) rl (HO.lst [])) dl (HO.lst [])) q1 (HO.tup [V.str (Str.ofString ""), V.int 0])) q2 (HO.tup [V.str (Str.ofString ""), V.int 0])) la0 (HO.tup [V.str (Str.ofString ""), V.ref q1, V.ref q2]) = HS at start
  have ok0 : LpT.Ok ⟨"", ("", 0), ("", 0)⟩ := ⟨by rw [show (LpT.nm ⟨"", ("", 0), ("", 0)⟩).length = 0 from empty_len]; exact Nat.zero_le _, ⟨by show ("" : Str).length ≤ 20; rw [empty_len]; exact Nat.zero_le _, by decide, by decide⟩, ⟨by show ("" : Str).length ≤ 20; rw [empty_len]; exact Nat.zero_le _, by decide, by decide⟩⟩
  -- a deed more
  refine seq_any (fun σ' H' => ∃ (o pt : Addr) (la : V) (ts : List LpT) (path : List Int) (R : Pw.Rw LpT Str) (Ds : List Dw) (tl : LpT) (o7 o8 o9 : Option V), σ' = [some (.ref cl), some (.ref nl), some (.ref o), some (.ref pt), some (.ref rl), some (.ref dl), some la, o7, o8, o9] ∧ HSt H H' rl dl o pt la ts path R Ds tl ∧ Pw.Dft ts path R (Ds.map Dw.dd) ∧ (∀ t ∈ ts, t.Ok) ∧ ts.length ≤ 3 ∧ (∀ D ∈ Ds, D.Ok) ∧ Ds.length ≤ 6 ∧ R.length ≤ 63) (fun σ' H' m => ?_) (fun rest => ?_)
  · obtain ⟨o, pt, la, ts, path, R, Ds, tl, o7, o8, o9, rfl, N, C, tok, t3, dok, d6, r60⟩ := m
    obtain ⟨p, y, rfl, hp⟩ := snoc_of C.pl
    have hpt := wo2_same _ _ N.pa
    rw [List.map_append] at hpt
    refine seq_any (fun σ' H' => ∃ (o pt : Addr) (la : V) (ts : List LpT) (path : List Int) (R : Pw.Rw LpT Str) (Ds : List Dw) (tl : LpT) (o7 o8 o9 : Option V), σ' = [some (.ref cl), some (.ref nl), some (.ref o), some (.ref pt), some (.ref rl), some (.ref dl), some la, o7, o8, o9] ∧ HSt H H' rl dl o pt la ts path R Ds tl ∧ Pw.LinA 0 (Ds.map Dw.dd) (R ++ Pw.ends 0 ts.length) ∧ Pw.CC 0 (Ds.map Dw.dd) ∧ Ds ≠ [] ∧ ts.length ≤ 3 ∧ (∀ D ∈ Ds, D.Ok) ∧ Ds.length ≤ 7 ∧ R.length ≤ 64) (fun σ' H' m => ?_) (fun rest => ?_)
    · obtain ⟨o, pt, la, ts, path, R, Ds, tl, o7, o8, o9, rfl, N, lin, cc, dne, t3, dok, d7, r61⟩ := m
      show tSeq (tWhile _ _) (tRet _) _ _ _
      refine seq_any (fun σ' H' => ∃ (o pt : Addr) (la : V) (path : List Int) (R' : Pw.Rw LpT Str) (tl : LpT) (o7 o8 o9 : Option V), σ' = [some (.ref cl), some (.ref nl), some (.ref o), some (.ref pt), some (.ref rl), some (.ref dl), some la, o7, o8, o9] ∧ HSt H H' rl dl o pt la [] path R' Ds tl ∧ R' = R ++ Pw.ends 0 ts.length) (fun σ' H' m => ?_) (fun nx => ?_)
      · obtain ⟨o, pt, la, path, R', tl, o7, o8, o9, rfl, N, rfl⟩ := m
        refine ⟨_, rfl, _, rfl, szl (by show 2 ≤ 1000000; decide), fun t ht => ?_⟩
        have N2 := N.over (same_new ht (.tup [V.ref rl, V.ref dl]))
        obtain ⟨xs, hxs, ax⟩ := N2.rows
        obtain ⟨ys, hys, ay⟩ := N2.deeds
        exact q t rl dl _ xs ys _ Ds N2.same upd_same hxs ax hys (ay.mono fun _ _ z => z.over wo2_same) dok d7 dne cc lin
      refine while_ix 4 (fun j σ' H' => ∃ (o pt : Addr) (la : V) (us : List LpT) (path : List Int) (R' : Pw.Rw LpT Str) (tl : LpT) (o7 o8 o9 : Option V), σ' = [some (.ref cl), some (.ref nl), some (.ref o), some (.ref pt), some (.ref rl), some (.ref dl), some la, o7, o8, o9] ∧ HSt H H' rl dl o pt la us path R' Ds tl ∧ us.length + j ≤ 3 ∧ R'.length ≤ 64 + j ∧ R' ++ Pw.ends 0 us.length = R ++ Pw.ends 0 ts.length) ⟨o, pt, la, ts, path, R, tl, o7, o8, o9, rfl, N, by omega, by omega, rfl⟩ (fun j σ' H' hj pp => ?_) (MT.test (ME.op (MR.eqX _ _) (ME.var _) (ME.lst MA.nil)))
      obtain ⟨o, pt, la, us, path, R', tl, o7, o8, o9, rfl, N, uj, rj, eR⟩ := pp
      refine ⟨_, rfl, szl (by show 0 ≤ 1000000; decide), fun p0 hp0 => ?_⟩
      have sp := same_new hp0 (.lst [])
      have N2 := N.over sp
      obtain ⟨tr, ht, htl, htd⟩ := lps_tree (K := K) (N2.op.over wo2_same)
      refine ⟨.lst tr, .lst [], ht, .lst (SqL.of upd_same) .nil, ⟨_, rfl⟩, ⟨_, rfl⟩, (by cases tr <;> rfl), htd, _, rfl, ?_⟩
      show if (!eqT (.lst tr) (.lst [])) = true then _ else _
      rw [eq_nil]
      refine ite2 (fun c3 => ?_) (fun c3 => ?_)
      · have hne : 0 < us.length := by
          have : ¬ tr = [] := by simpa using c3
          have := List.length_pos_iff.mpr this
          omega
        obtain ⟨us', x, rfl, hu⟩ := snoc_of (l := us) (n := us.length - 1) (by omega)
        refine ⟨by omega, ?_⟩
        obtain ⟨vs, h0, a0⟩ := N2.op
        have vl := a0.1
        rw [List.length_append, List.length_singleton] at vl
        obtain ⟨vs', v, rfl, hv'⟩ := snoc_of vl
        refine ⟨_, rfl, _, rfl, _, rfl, o, _, rfl, SqL.of (wo2_same _ _ h0), fun p1 hp1 => ?_⟩
        have cv : cutV (vs' ++ [v]) none (some (-1)) = vs' := cutV_neg vs' [v] (Nat.succ_pos _) rfl
        rw [cv]
        have a1 : All2 (LptAt _) vs' us' := ⟨hv', fun i y t a b => (a0.2 i y t (by rw [List.getElem?_append_left (List.getElem?_eq_some_iff.mp a).1]; exact a) (by rw [List.getElem?_append_left (List.getElem?_eq_some_iff.mp b).1]; exact b)).tk (Same.tk wo2_same)⟩
        have N3 := N2.newO hp1 a1
        obtain ⟨vs2, h2, _⟩ := N3.op
        have hp1' : (upd (upd H' p0 (.lst [])) p1 (.lst vs')) p1 = some (.lst vs') := upd_same
        dsimp only [gName]
        generalize upd (upd H' p0 (.lst [])) p1 (.lst vs') = H3 at N3 hp1' h2
        obtain ⟨xs, hxs, ax⟩ := N3.rows
        have xl := ax.1
        refine ⟨_, rfl, .inl ⟨rfl, _, SqL.of hxs⟩, _, rfl, p1, _, rfl, .inl (SqL.of hp1'), szl (by show 2 ≤ 1000000; decide), fun t ht => ?_⟩
        have s4 := same_new ht (.tup [V.int ((vs'.length : Nat) : Int), V.str "end"])
        refine ⟨rl, _, _, rfl, rfl, s4 _ _ hxs, szlt (by omega), ?_⟩
        have N4 := (N3.over s4).row (p := (us'.length, .fin)) (s4 _ _ hxs) (by rw [upd_same, hv']; rfl)
        rw [List.length_append, List.length_singleton] at uj
        refine ⟨p1, pt, la, us', path, R' ++ [(us'.length, .fin)], tl, _, _, _, rfl, N4, by omega, by rw [List.length_append, List.length_singleton]; omega, ?_⟩
        rw [← eR, List.length_append, List.append_assoc]
        show R' ++ ((us'.length, Pw.Rr.fin) :: Pw.ends 0 us'.length) = R' ++ ((0 + us'.length, Pw.Rr.fin) :: Pw.ends 0 us'.length)
        rw [Nat.zero_add]
      · have u0 : us = [] := by
          have : tr = [] := by simpa using c3
          rw [this] at htl
          exact List.eq_nil_of_length_eq_zero htl.symm
        subst u0
        refine nx _ _ ⟨o, pt, la, path, R', tl, _, _, _, rfl, N2, ?_⟩
        rw [← eR]
        show R' = R' ++ []
        rw [List.append_nil]
    · refine ⟨_, rfl, _, rfl, pt, _, _, _, rfl, rfl, SqL.of hpt, atI_neg _ _ [] rfl, rfl, _, rfl, ?_⟩
      refine ite2 (fun cy => ?_) (fun cz => ?_)
      · have hlen := (N.op).over wo2_same
        refine ⟨_, rfl, .inl ⟨rfl, _, SqL.of (N.deeds.choose_spec.1)⟩, _, rfl, cl, _, rfl, .inl (N.same.seq hC), _, rfl, _, rfl, _, rfl, _, o, pt, nl, ns, ts, p ++ [y], rfl, hn.over N.same, hlen, t3, tok, wo2_same _ _ N.pa, C.pl, fun r H2 D e2 hD okD eL eP => ?_⟩
        have N2 := N.over e2
        obtain ⟨ys, hys, ay⟩ := N2.deeds
        obtain ⟨xs, hxs, ax⟩ := N2.rows
        have yl := ay.1
        have xl := ax.1
        refine ⟨dl, _, _, rfl, rfl, hys, szlt (by omega), ?_⟩
        have hDw : DtAt (wo2 H2 rl dl) r D := hD.wo2' hxs hys N2.op eL
        have N3 := N2.deed hys hDw
        obtain ⟨oD, pD, psD, ptD, shD, rfl, hpD, _⟩ := id hDw
        have hpD3 : (upd H2 dl (.lst (ys ++ [.ref pD]))) pD = some (.tup [.ref oD, .str D.tbl, .ref psD, shD, .ref ptD, .str D.txt]) := (TK.upd hys) _ _ (wo2_same _ _ hpD)
        have hdl3 : (upd H2 dl (.lst (ys ++ [.ref pD]))) dl = some (.lst (ys ++ [.ref pD])) := upd_same
        generalize upd H2 dl (.lst (ys ++ [.ref pD])) = H3 at N3 hpD3 hdl3
        obtain ⟨xs, hxs, ax⟩ := N3.rows
        obtain ⟨vs, hvs, av⟩ := N3.op
        have vl := av.1
        have xl := ax.1
        refine ⟨_, rfl, .inl ⟨rfl, _, SqL.of hxs⟩, _, rfl, o, _, rfl, .inl (SqL.of (wo2_same _ _ hvs)), _, rfl, _, rfl, dl, _, _, _, rfl, rfl, SqL.of hdl3, atI_neg _ _ [] rfl, pD, _, 5, _, rfl, rfl, SqT.of hpD3, rfl, szl (by show 2 ≤ 1000000; decide), fun t ht => ?_⟩
        have s4 := same_new ht (.tup [V.int ((vs.length : Nat) : Int), V.str D.txt])
        refine ⟨rl, _, _, rfl, rfl, s4 _ _ hxs, szlt (by omega), ?_⟩
        have N4 := (N3.over s4).row (p := (ts.length, .row D.txt)) (s4 _ _ hxs) (by rw [upd_same, vl]; rfl)
        have eD : (⟨ts, p ++ [y], D.txt⟩ : Pw.Dd LpT Str) = D.dd := by rw [← eL, ← eP]; rfl
        have C2 : Pw.Dft ts (p ++ [y + 1]) (R ++ [(ts.length, Pw.Rr.row D.txt)]) ((Ds ++ [D]).map Dw.dd) := by
          have := C.deed D.txt
          rw [eD] at this
          rw [List.map_append]
          exact this
        obtain ⟨lin, cc, dne⟩ := C2.all (by have := V.int.inj (dT cy); omega)
        exact rest _ _ ⟨o, pt, la, ts, p ++ [y], R ++ [(ts.length, .row D.txt)], Ds ++ [D], tl, _, _, _, rfl, N4, lin, cc, by simp, t3, fun D' hD' => by
          rcases List.mem_append.mp hD' with h | h
          · exact dok D' h
          · rw [List.mem_singleton.mp h]; exact okD, by rw [List.length_append, List.length_singleton]; omega, by rw [List.length_append, List.length_singleton]; omega⟩
      · obtain ⟨lin, cc, dne⟩ := C.all (fun e => dF cz (congrArg V.int e))
        exact rest _ _ ⟨o, pt, la, ts, p ++ [y], R, Ds, tl, _, _, _, rfl, N, lin, cc, fun e => dne (by rw [e]; rfl), t3, dok, by omega, by omega⟩
  · refine ⟨_, rfl, cl, rfl, ⟨_, start.same.seq hC⟩, ?_⟩
    refine for_list (xs := cs.map V.int) (fun i σ' H' => ∃ (o pt : Addr) (la : V) (ts : List LpT) (path : List Int) (R : Pw.Rw LpT Str) (Ds : List Dw) (tl : LpT) (o7 o8 o9 : Option V), σ' = [some (.ref cl), some (.ref nl), some (.ref o), some (.ref pt), some (.ref rl), some (.ref dl), some la, o7, o8, o9] ∧ HSt H H' rl dl o pt la ts path R Ds tl ∧ Pw.Dft ts path R (Ds.map Dw.dd) ∧ (∀ t ∈ ts, t.Ok) ∧ ts.length ≤ 3 ∧ (∀ D ∈ Ds, D.Ok) ∧ Ds.length ≤ 6 ∧ R.length ≤ i ∧ tl.Ok) ⟨o0, pt0, .ref la0, [], [0], [], [], _, _, _, _, rfl, start, Pw.Dft.start, fun t ht => (by cases ht), Nat.zero_le _, fun D hD => (by cases hD), Nat.zero_le _, Nat.le_refl _, ok0⟩ (fun i σ' H' _ p => by obtain ⟨_, _, _, _, _, _, _, _, _, _, _, _, N, _⟩ := p; exact N.same.seq hC) (fun i x σ' H' hx p => ?_) (fun σ' H' p => ?_)
    rotate_left
    · obtain ⟨o, pt, la, ts, path, R, Ds, tl, o7, o8, o9, rfl, N, C, tok, t3, dok, d6, ri, lok⟩ := p
      rw [List.length_map] at ri
      exact rest _ _ ⟨o, pt, la, ts, path, R, Ds, tl, _, _, _, rfl, N, C, tok, t3, dok, d6, by omega⟩
    obtain ⟨o, pt, la, ts, path, R, Ds, tl, o7, o8, o9, rfl, N, C, tok, t3, dok, d6, ri, lok⟩ := p
    have hi : i < cs.length := by have := (List.getElem?_eq_some_iff.mp hx).1; rwa [List.length_map] at this
    obtain ⟨c, rfl⟩ : ∃ c, x = V.int c := by
      rw [List.getElem?_map] at hx
      cases e : cs[i]? with
      | none => rw [e] at hx; cases hx
      | some z => rw [e] at hx; exact ⟨z, (Option.some.inj hx).symm⟩
    obtain ⟨ys0, hys0, ay0⟩ := N.deeds
    have yl0 := ay0.1
    dsimp only [gName]
    refine ⟨_, rfl, dl, _, rfl, .inl (SqL.of hys0), rfl, _, rfl, ?_⟩
    refine ite2 (fun _ => rest _ _ ⟨o, pt, la, ts, path, R, Ds, tl, _, _, _, rfl, N, C, tok, t3, dok, d6, by omega⟩) (fun c6 => ?_)
    have D5 : Ds.length ≤ 5 := by
      have := dF c6
      have h2 : ¬ ((ys0.length : Nat) : Int) = 6 := fun z => this (congrArg V.int z)
      omega
    dsimp only [tNext]
    refine if_any (fun H2 => H2 = H') (fun H2 e => ?_) (fun els => ?_)
    · subst e
      refine if_any (fun H3 => Same H2 H3) (fun H3 e2 => ?_) (fun els2 => ?_)
      · -- a deed
        have N2 := N.over e2
        obtain ⟨p, y, rfl, hp⟩ := snoc_of C.pl
        obtain ⟨ys1, hys1, _⟩ := N2.deeds
        refine ⟨_, rfl, .inl ⟨rfl, _, SqL.of hys1⟩, _, rfl, _, _, rfl, rfl, ⟨by decide, by decide⟩, _, rfl, _, rfl, _, rfl, _, o, pt, nl, ns, ts, p ++ [y], rfl, hn.over N2.same, N2.op.over wo2_same, t3, tok, wo2_same _ _ N2.pa, C.pl, fun r H4 D e4 hD okD eL eP => ?_⟩
        have N4 := N2.over e4
        obtain ⟨ys, hys, ay⟩ := N4.deeds
        obtain ⟨xs, hxs, ax⟩ := N4.rows
        have yl := ay.1
        refine ⟨dl, _, _, rfl, rfl, hys, szlt (by omega), ?_⟩
        have hDw : DtAt (wo2 H4 rl dl) r D := hD.wo2' hxs hys N4.op eL
        have N5 := N4.deed hys hDw
        obtain ⟨oD, pD, psD, ptD, shD, rfl, hpD, _⟩ := id hDw
        have hpD3 : (upd H4 dl (.lst (ys ++ [.ref pD]))) pD = some (.tup [.ref oD, .str D.tbl, .ref psD, shD, .ref ptD, .str D.txt]) := (TK.upd hys) _ _ (wo2_same _ _ hpD)
        have hdl3 : (upd H4 dl (.lst (ys ++ [.ref pD]))) dl = some (.lst (ys ++ [.ref pD])) := upd_same
        generalize upd H4 dl (.lst (ys ++ [.ref pD])) = H5 at N5 hpD3 hdl3
        obtain ⟨xs, hxs, ax⟩ := N5.rows
        obtain ⟨vs, hvs, av⟩ := N5.op
        have vl := av.1
        have xl := ax.1
        refine ⟨_, rfl, .inl ⟨rfl, _, SqL.of hxs⟩, _, rfl, o, _, rfl, .inl (SqL.of (wo2_same _ _ hvs)), _, rfl, _, rfl, dl, _, _, _, rfl, rfl, SqL.of hdl3, atI_neg _ _ [] rfl, pD, _, 5, _, rfl, rfl, SqT.of hpD3, rfl, szl (by show 2 ≤ 1000000; decide), fun t ht => ?_⟩
        have s6 := same_new ht (.tup [V.int ((vs.length : Nat) : Int), V.str D.txt])
        refine ⟨rl, _, _, rfl, rfl, s6 _ _ hxs, szlt (by omega), ?_⟩
        have N6 := (N5.over s6).row (p := (ts.length, .row D.txt)) (s6 _ _ hxs) (by rw [upd_same, vl]; rfl)
        have eD : (⟨ts, p ++ [y], D.txt⟩ : Pw.Dd LpT Str) = D.dd := by rw [← eL, ← eP]; rfl
        have C2 : Pw.Dft ts (p ++ [y + 1]) (R ++ [(ts.length, Pw.Rr.row D.txt)]) ((Ds ++ [D]).map Dw.dd) := by
          have := C.deed D.txt
          rw [eD] at this
          rw [List.map_append]
          exact this
        generalize upd (upd H5 t (.tup [V.int ((vs.length : Nat) : Int), V.str D.txt])) rl (.lst (xs ++ [.ref t])) = H6 at N6
        have hpt := wo2_same _ _ N6.pa
        rw [List.map_append] at hpt
        refine ⟨_, rfl, _, rfl, _, rfl, pt, _, rfl, SqL.of hpt, fun p1 hp1 => ?_⟩
        have cc : cutV (List.map V.int p ++ List.map V.int [y]) none (some (-1)) = p.map V.int := cutV_neg (p.map V.int) [V.int y] (Nat.succ_pos _) rfl
        rw [cc]
        have s7 := same_new hp1 (.lst (p.map V.int))
        refine ⟨_, rfl, _, rfl, pt, _, _, _, rfl, rfl, SqL.of (s7 _ _ hpt), atI_neg _ _ [] rfl, _, _, rfl, rfl, szl (by show 1 ≤ 1000000; decide), fun p2 hp2 => ?_⟩
        have s8 := same_new hp2 (.lst [V.int (y + 1)])
        refine ⟨p1, p2, _, _, rfl, rfl, s8 _ _ upd_same, upd_same, szl (by rw [List.length_map, hp]; show ts.length + 1 ≤ 1000000; omega), fun p3 hp3 => ?_⟩
        have N9 := ((N6.over s7).over s8).newP (path' := p ++ [y + 1]) hp3
        rw [List.map_append] at N9
        exact ⟨o, p3, la, ts, p ++ [y + 1], _, _, tl, _, _, _, rfl, N9, C2, tok, t3, fun D' hD' => by
          rcases List.mem_append.mp hD' with h | h
          · exact dok D' h
          · rw [List.mem_singleton.mp h]; exact okD, by rw [List.length_append, List.length_singleton]; omega, by rw [List.length_append, List.length_singleton]; omega, lok⟩
      · refine ⟨_, rfl, _, _, rfl, rfl, (by show (0 : Int) < 5; decide), rfl, _, rfl, ?_⟩
        refine ite2 (fun _ => ?_) (fun _ => iteF (els2 _ (Same.refl _)))
        refine ⟨_, rfl, szl (by show 0 ≤ 1000000; decide), fun p0 hp0 => ?_⟩
        have sp := same_new hp0 (.lst [])
        have N2 := N.over sp
        obtain ⟨tr, ht, htl, htd⟩ := lps_tree (K := K) (N2.op.over wo2_same)
        refine ⟨.lst tr, .lst [], ht, .lst (SqL.of upd_same) .nil, ⟨_, rfl⟩, ⟨_, rfl⟩, (by cases tr <;> rfl), htd, _, rfl, ?_⟩
        show if (!eqT (.lst tr) (.lst [])) = true then _ else _
        rw [eq_nil]
        refine ite2 (fun c3 => ?_) (fun _ => iteF (els2 _ sp))
        have hne : 0 < ts.length := by
          have : ¬ tr = [] := by simpa using c3
          have := List.length_pos_iff.mpr this
          omega
        obtain ⟨ts', x, rfl, hu⟩ := snoc_of (l := ts) (n := ts.length - 1) (by omega)
        have pl := C.pl
        rw [List.length_append, List.length_singleton] at pl
        obtain ⟨p', z, rfl, hp'⟩ := snoc_of pl
        obtain ⟨p, y, rfl, hp⟩ := snoc_of hp'
        rw [List.append_assoc] at N N2 C
        have N2 : HSt H _ rl dl o pt la (ts' ++ [x]) (p ++ [y, z]) R Ds tl := N2
        have C : Pw.Dft (ts' ++ [x]) (p ++ [y, z]) R (Ds.map Dw.dd) := C
        have hpt := wo2_same _ _ N2.pa
        rw [List.map_append] at hpt
        have hat1 : atI (p.map V.int ++ List.map V.int [y, z]) (-1) = some (V.int z) := by
          have := atI_neg (p.map V.int ++ [V.int y]) (V.int z) [] (n := -1) rfl
          rw [List.append_assoc] at this
          exact this
        have hat2 : atI (p.map V.int ++ List.map V.int [y, z]) (-2) = some (V.int y) := atI_neg (p.map V.int) (V.int y) [V.int z] rfl
        have hcut : cutV (p.map V.int ++ List.map V.int [y, z]) none (some (-2)) = p.map V.int := cutV_neg (p.map V.int) [V.int y, V.int z] (Nat.succ_pos _) rfl
        refine ⟨_, rfl, _, rfl, pt, _, _, _, rfl, rfl, SqL.of hpt, hat1, _, _, rfl, rfl, _, rfl, ?_⟩
        refine ite2 (fun cz => ?_) (fun _ => els2 _ sp)
        have z0 : z ≠ 0 := by have := dT cz; omega
        obtain ⟨vs, h0, a0⟩ := N2.op
        have vl := a0.1
        rw [List.length_append, List.length_singleton] at vl
        obtain ⟨vs', v, rfl, hv'⟩ := snoc_of vl
        have hLv : LptAt _ v x := (a0.2 ts'.length v x (by rw [← hv', List.getElem?_append_right (Nat.le_refl _), Nat.sub_self]; rfl) (by rw [List.getElem?_append_right (Nat.le_refl _), Nat.sub_self]; rfl)).tk (Same.tk wo2_same)
        have okx := tok x (by simp)
        rw [List.length_append, List.length_singleton] at t3
        refine ⟨_, rfl, _, rfl, o, _, _, _, rfl, rfl, SqL.of (wo2_same _ _ h0), atI_neg _ _ [] rfl, ?_⟩
        dsimp only [gName]
        refine ⟨_, rfl, _, rfl, _, rfl, o, _, rfl, SqL.of (wo2_same _ _ h0), fun p1 hp1 => ?_⟩
        have cv : cutV (vs' ++ [v]) none (some (-1)) = vs' := cutV_neg vs' [v] (Nat.succ_pos _) rfl
        rw [cv]
        have a1 : All2 (LptAt _) vs' ts' := ⟨hv', fun i y t a b => (a0.2 i y t (by rw [List.getElem?_append_left (List.getElem?_eq_some_iff.mp a).1]; exact a) (by rw [List.getElem?_append_left (List.getElem?_eq_some_iff.mp b).1]; exact b)).tk (Same.tk wo2_same)⟩
        have N2' : HSt H _ rl dl o pt v (ts' ++ [x]) (p ++ [y, z]) R Ds x := ⟨N2.same, N2.op, N2.pa, hLv, N2.rows, N2.deeds, N2.rne, N2.h0r, N2.h0d⟩
        have s7 := same_new hp1 (.lst vs')
        have N3 := N2'.newO hp1 a1
        have hpt3 := s7 _ _ hpt
        have hp1' : (upd (upd H2 p0 (.lst [])) p1 (.lst vs')) p1 = some (.lst vs') := upd_same
        dsimp only [gName]
        generalize upd (upd H2 p0 (.lst [])) p1 (.lst vs') = H3 at N3 hp1' hpt3
        refine ⟨_, rfl, _, rfl, _, rfl, pt, _, rfl, SqL.of hpt3, fun p2 hp2 => ?_⟩
        rw [hcut]
        have s8 := same_new hp2 (.lst (p.map V.int))
        refine ⟨_, rfl, _, rfl, pt, _, _, _, rfl, rfl, SqL.of (s8 _ _ hpt3), hat2, _, _, rfl, rfl, szl (by show 1 ≤ 1000000; decide), fun p3 hp3 => ?_⟩
        have s9 := same_new hp3 (.lst [V.int (y + 1)])
        refine ⟨p2, p3, _, _, rfl, rfl, s9 _ _ upd_same, upd_same, szl (by rw [List.length_map]; show p.length + 1 ≤ 1000000; omega), fun p4 hp4 => ?_⟩
        have N4 : HSt H (upd (upd (upd H3 p2 (.lst (p.map V.int))) p3 (.lst [V.int (y + 1)])) p4 (.lst (List.map V.int p ++ [V.int (y + 1)]))) rl dl p1 p4 v ts' (p ++ [y + 1]) R Ds x := by
          have := ((N3.over s8).over s9).newP (path' := p ++ [y + 1]) hp4
          rw [List.map_append] at this
          exact this
        have hp14 := ((s8.trans s9).trans (same_new hp4 (.lst (List.map V.int p ++ [V.int (y + 1)])))) _ _ hp1'
        dsimp only [gName]
        generalize upd (upd (upd H3 p2 (.lst (p.map V.int))) p3 (.lst [V.int (y + 1)])) p4 (.lst (List.map V.int p ++ [V.int (y + 1)])) = H5 at N4 hp14
        obtain ⟨xs, hxs, ax⟩ := N4.rows
        have xl := ax.1
        refine ⟨_, rfl, .inl ⟨rfl, _, SqL.of hxs⟩, _, rfl, p1, _, rfl, .inl (SqL.of hp14), szl (by show 2 ≤ 1000000; decide), fun t ht => ?_⟩
        have s10 := same_new ht (.tup [V.int ((vs'.length : Nat) : Int), V.str "end"])
        refine ⟨rl, _, _, rfl, rfl, s10 _ _ hxs, szlt (by omega), ?_⟩
        have N6 := (N4.over s10).row (p := (ts'.length, .fin)) (s10 _ _ hxs) (by rw [upd_same, hv']; rfl)
        exact ⟨p1, p4, v, ts', p ++ [y + 1], _, Ds, x, _, _, _, rfl, N6, C.fin z0, fun t ht => tok t (List.mem_append_left _ ht), by omega, dok, by omega, by rw [List.length_append, List.length_singleton]; omega, okx⟩
    · refine ⟨_, rfl, _, _, rfl, rfl, (by show (0 : Int) < 5; decide), _, _, rfl, rfl, _, rfl, ?_⟩
      refine ite2 (fun _ => ?_) (fun _ => iteF (els _ rfl))
      obtain ⟨vs, h0, a0⟩ := N.op
      have vl := a0.1
      refine ⟨_, rfl, o, _, rfl, .inl (SqL.of (wo2_same _ _ h0)), _, _, rfl, rfl, _, rfl, ?_⟩
      refine ite2 (fun c3 => ?_) (fun _ => els _ rfl)
      have hi3 : ts.length < 3 := by have := dT c3; omega
      refine ⟨_, rfl, _, _, rfl, rfl, ⟨by decide, by decide⟩, _, rfl, _, rfl, _, rfl, _, nl, o, la, ns, ts, tl, rfl, hn.over N.same, hnd, N.op.over wo2_same, by omega, tok, N.la, lok, fun r H2 t e2 hL okt => ?_⟩
      dsimp only [gName]
      obtain ⟨pr, xa, xb, rfl, hpr, ⟨qa, rfl, hqa⟩, ⟨qb, rfl, hqb⟩⟩ := id hL
      obtain ⟨o1, o2, o3⟩ := id okt
      have l2 := spS_len o2
      have l3 := spS_len o3
      refine ⟨_, rfl, pr, _, 0, _, rfl, rfl, SqT.of hpr, rfl, _, _, rfl, rfl, szl (by omega), _, _, rfl, rfl, szl (by rw [sLen]; omega), _, rfl, pr, _, 1, _, rfl, rfl, SqT.of hpr, rfl, .ref qa, t.lo, rfl, ⟨qa, rfl, hqa⟩, o2, _, _, rfl, rfl, szl (by rw [sLen, sLen]; omega), ?_⟩
      dsimp only [gName]
      have N2 := N.over e2
      obtain ⟨xs, hxs, ax⟩ := N2.rows
      obtain ⟨vs2, hvs2, a2⟩ := N2.op
      have vl2 := a2.1
      have xl := ax.1
      refine ⟨_, rfl, .inl ⟨rfl, _, SqL.of hxs⟩, _, rfl, o, _, rfl, .inl (SqL.of (wo2_same _ _ hvs2)), _, rfl, _, _, rfl, rfl, szl (by rw [sLen, sLen, sLen]; omega), _, rfl, pr, _, 2, _, rfl, rfl, SqT.of hpr, rfl, .ref qb, t.hi, rfl, ⟨qb, rfl, hqb⟩, o3, _, _, rfl, rfl, szl (by rw [sLen, sLen, sLen, sLen]; omega), szl (by show 2 ≤ 1000000; decide), fun u hu => ?_⟩
      have s3 := same_new hu (.tup [V.int ((vs2.length : Nat) : Int), V.str (("for " : Str) ++ t.nm ++ " " ++ spS t.lo ++ " " ++ spS t.hi)])
      refine ⟨rl, _, _, rfl, rfl, s3 _ _ hxs, szlt (by omega), ?_⟩
      have N3 := (N2.over s3).row (p := (ts.length, .opn t)) (s3 _ _ hxs) (by rw [upd_same, vl2]; rfl)
      have hL3 : LptAt (upd (upd H2 u (.tup [V.int ((vs2.length : Nat) : Int), V.str (("for " : Str) ++ t.nm ++ " " ++ spS t.lo ++ " " ++ spS t.hi)])) rl (.lst (xs ++ [.ref u]))) (.ref pr) t := hL.tk ((Same.tk s3).trans (TK.upd (s3 _ _ hxs)))
      generalize upd (upd H2 u (.tup [V.int ((vs2.length : Nat) : Int), V.str (("for " : Str) ++ t.nm ++ " " ++ spS t.lo ++ " " ++ spS t.hi)])) rl (.lst (xs ++ [.ref u])) = H3 at N3 hL3
      refine ⟨_, rfl, _, rfl, szl (by show 1 ≤ 1000000; decide), fun p1 hp1 => ?_⟩
      have s4 := same_new hp1 (.lst [V.ref pr])
      have N4 := N3.over s4
      obtain ⟨vs4, hvs4, a4⟩ := N4.op
      have vl4 := a4.1
      refine ⟨o, p1, vs4, [.ref pr], rfl, rfl, wo2_same _ _ hvs4, upd_same, szl (by show vs4.length + 1 ≤ 1000000; omega), fun p2 hp2 => ?_⟩
      have N5 := N4.newO (ts' := ts ++ [t]) hp2 ((a4.mono fun _ _ z => z.tk (Same.tk wo2_same)).snoc (hL3.tk (Same.tk s4)))
      dsimp only [gName]
      generalize upd (upd H3 p1 (.lst [V.ref pr])) p2 (.lst (vs4 ++ [.ref pr])) = H5 at N5
      refine ⟨_, rfl, szl (by show 1 ≤ 1000000; decide), fun p3 hp3 => ?_⟩
      have N6 := N5.over (same_new hp3 (.lst [V.int 0]))
      have hpt := wo2_same _ _ N6.pa
      have pb := C.pl
      refine ⟨pt, p3, _, _, rfl, rfl, hpt, upd_same, szl (by rw [List.length_map]; show path.length + 1 ≤ 1000000; omega), fun p4 hp4 => ?_⟩
      have N7 := N6.newP (path' := path ++ [0]) hp4
      rw [List.map_append] at N7
      exact ⟨p2, p4, la, _, _, _, Ds, tl, _, _, _, rfl, N7, C.opn t, fun t' ht' => by
        rcases List.mem_append.mp ht' with h | h
        · exact tok t' h
        · rw [List.mem_singleton.mp h]; exact okt, by rw [List.length_append, List.length_singleton]; omega, dok, d6, by rw [List.length_append, List.length_singleton]; omega, lok⟩

theorem ok_plain (T : Tx K mg a) : FnOk P w K mg base CX0 1 a.f_l_plain a.d_l_plain ["_law_rows", "_law_size"] spPlain := by
  refine T.F_l_plain.ok sc_l_plain (fun vs H Q E h => ?_) (fun cdv A outer s H vs Q E hr h => ?_)
  · obtain ⟨_, _, _, _, rfl, _⟩ := h; rfl
  obtain ⟨rl, n, xs, R, rfl, hrl, ax, Rl, rok, n0, n1, q⟩ := h
  refine ⟨_, (@pss_one _ _ _ (@ps_ret _ _ _ _ (@pe_bm _ _ _ _ _ _ _ _ _ _ _ _ PySem.F.plainAttrs_str PySem.F.slot_str_join PySem.F.type_str_join mt_join pe_str (@pa_cons _ _ _ _ _ (@pe_op _ _ _ _ _ _ _ _ op_cat (@pe_lst _ _ _ _ (@pa_cons _ _ _ _ _ (@pe_op _ _ _ _ _ _ _ _ op_add_str pe_str (@pe_callTy _ _ _ _ _ _ _ _ _ call_str_int (by rfl) T.z_str bt_str (@pa_cons _ _ _ _ _ (pv 1) pa_nil (by rfl)) (by decide) (by decide) (by rfl) (by rfl))) pa_nil (by rfl))) (@pe_compB _ _ _ _ _ _ _ ["_law_deep", "_law_text"] [none, none] _ _ _ _ (by rfl) (@pi_list _ _ _ _ (pv 0)) c_l_plain_0 (fun _ _ _ _ _ _ => ⟨(show PG _ _ (gTup K 2 _) from (pg_tup rfl (pgs_cons (pg_name (i := 0) c_l_plain_0n rfl (Or.inl rfl)) (pgs_cons (pg_name (i := 1) c_l_plain_0n rfl (Or.inl rfl)) pgs_nil)))), @pts_nil _, (@pe_op _ _ _ _ _ _ _ _ op_add_str (@pe_op _ _ _ _ _ _ _ _ op_mulS pe_str (pv 0)) (pv 1))⟩) (by intro _ ; rfl))) pa_nil (by rfl)) (by rfl) (by rfl) (by rfl) (by rfl) (by rfl)))), ?_⟩
  have nl := nS_len (i := n) (by omega) n1
  unfold nS at nl
  have e5 : ("size " : Str).length = 5 := by decide +kernel
  have e1 : (" " : Str).length = 1 := by decide +kernel
  have xl := ax.1
  have rb : ∀ p ∈ R, (rowS p).length ≤ 1300 := fun p hp => rowB_of (rok p hp)
  refine ⟨rfl, _, rfl, _, rfl, log_small (by omega) n1, _, _, rfl, rfl, szl (by omega), szl (by show 1 ≤ 1000000; decide), fun r1 hr1 => ?_⟩
  have s1 := same_new hr1 (.lst [V.str ("size " ++ Str.ofString (toString n))])
  have hr11 : (upd H r1 (.lst [V.str ("size " ++ Str.ofString (toString n))])) r1 = some (.lst [V.str ("size " ++ nS n)]) := upd_same
  generalize upd H r1 (.lst [V.str ("size " ++ Str.ofString (toString n))]) = H1 at s1 hr11
  refine ⟨_, rfl, rl, rfl, ⟨_, SqL.of (s1 _ _ hrl)⟩, ?_⟩
  refine comp_listG (xs := xs) (fun i ys H' => H' = H1 ∧ ys = ((R.take i).map rowS).map V.str) ⟨rfl, rfl⟩ (szl (by omega)) (fun i ys H' hi pp => ⟨by rw [pp.1]; exact SqL.of (s1 _ _ hrl), by rw [pp.2, List.length_map, List.length_map, List.length_take]; omega⟩) (fun i x ys H' hx pp => ?_) (fun ys H' pp r2 hr2 => ?_)
  · obtain ⟨rfl, rfl⟩ := pp
    obtain ⟨p, hp, t, rfl, ht⟩ := ax.get' hx
    have hb := rb p (List.mem_of_getElem? hp)
    unfold rowS at hb
    rw [sLen] at hb
    have h3 := (rok p (List.mem_of_getElem? hp)).1
    refine ⟨t, _, rfl, SqT.of (s1 _ _ ht), rfl, _, _, rfl, _, _, rfl, rfl, outs2 (ρ := []) _ _, ?_⟩
    refine ⟨_, rfl, _, _, rfl, rfl, by omega, by omega, by rw [e1]; decide, ?_⟩
    rw [mul_blk]
    refine ⟨_, rfl, _, _, rfl, rfl, szl (by omega), rfl, ?_⟩
    rw [take_snoc hp, List.map_append, List.map_append]
    rfl
  obtain ⟨rfl, rfl⟩ := pp
  rw [List.take_of_length_le (by omega)]
  have s2 := same_new hr2 (.lst ((R.map rowS).map V.str))
  refine ⟨r1, r2, _, _, rfl, rfl, s2 _ _ hr11, upd_same, szl (by rw [List.length_map, List.length_map, List.length_singleton]; omega), fun p hp => ?_⟩
  have hC : (upd (upd H' r2 (.lst ((R.map rowS).map V.str))) p (.lst ([V.str ("size " ++ nS n)] ++ (R.map rowS).map V.str))) p = some (.lst ((("size " ++ nS n) :: R.map rowS).map V.str)) := upd_same
  have eC := s2.trans (same_new hp (.lst ([V.str ("size " ++ nS n)] ++ (R.map rowS).map V.str)))
  generalize upd (upd H' r2 (.lst ((R.map rowS).map V.str))) p (.lst ([V.str ("size " ++ nS n)] ++ (R.map rowS).map V.str)) = HC at eC hC
  exact ⟨_, p, _, rfl, rfl, .inl (SqL.of hC), Nat.le_trans (rows_sum ⟨n0, n1⟩ (by omega) rb) (by decide), q _ (s1.trans eC)⟩

theorem ok_told (T : Tx K mg a) : FnOk P w K mg base CX0 8 a.f_l_told a.d_l_told ["_law_row"] (spTold a.c_Deed (csOf a)) := by
  have G_Deed_init := ok_dinit (P := P) (w := w) (base := base) T
  have G_l_made := ok_made (P := P) (w := w) (base := base) T 5
  refine T.F_l_told.ok sc_l_told (fun vs H Q E h => ?_) (fun cdv A outer s H vs Q E hr h => ?_)
  · obtain ⟨_, _, rfl, _⟩ := h; rfl
  obtain ⟨x, D, rfl, ⟨o, p, ps, pt, sh, rfl, h0, ⟨vs, g0, av⟩, hsp, hsh, hpt⟩, ok, q⟩ := h
  refine ⟨_, (@pss_cons _ _ _ _ _ (@ps_set _ _ (1) _ _ _ _ sc_l_told.nd rfl (Or.inl rfl) (@pe_callTy _ _ _ _ _ _ _ _ _ call_tuple_of (by rfl) T.z_tuple bt_tuple (@pa_cons _ _ _ _ _ (@pe_compB _ _ _ _ _ _ _ ["_law_one"] [none] _ _ _ _ (by rfl) (@pi_list _ _ _ _ (@pe_ix _ _ _ _ _ _ _ ix_tup (pv 0) pe_int (fun _ _ => rfl))) c_l_told_0 (fun _ _ _ _ _ _ => ⟨(pg_name (i := 0) c_l_told_0n rfl (Or.inl rfl)), @pts_nil _, (@pe_ix _ _ _ _ _ _ _ (show IxR _ (rIxT K) from ix_tup) (pv 0) pe_int (fun _ _ => rfl))⟩) (by intro _ ; rfl)) pa_nil (by rfl)) (by decide) (by decide) (by rfl) (by rfl)) (by rfl) (by first | exact .inl rfl | exact .inr rfl | assumption)) (@pss_cons _ _ _ _ _ (@ps_set _ _ (2) _ _ _ _ sc_l_told.nd rfl (Or.inl rfl) (@pe_callTy _ _ _ _ _ _ _ _ _ call_tuple_of (by rfl) T.z_tuple bt_tuple (@pa_cons _ _ _ _ _ (@pe_compB _ _ _ _ _ _ _ ["_law_one"] [none] _ _ _ _ (by rfl) (@pi_list _ _ _ _ (@pe_ix _ _ _ _ _ _ _ ix_tup (pv 0) pe_int (fun _ _ => rfl))) c_l_told_1 (fun _ _ _ _ _ _ => ⟨(pg_name (i := 0) c_l_told_1n rfl (Or.inl rfl)), @pts_nil _, (@pe_ix _ _ _ _ _ _ _ (show IxR _ (rIxT K) from ix_tup) (pv 0) pe_int (fun _ _ => rfl))⟩) (by intro _ ; rfl)) pa_nil (by rfl)) (by decide) (by decide) (by rfl) (by rfl)) (by rfl) (by first | exact .inl rfl | exact .inr rfl | assumption)) (@pss_cons _ _ _ _ _ (@ps_set _ _ (3) _ _ _ _ sc_l_told.nd rfl (Or.inl rfl) (@pe_callTy _ _ _ _ _ _ _ _ _ call_tuple_of (by rfl) T.z_tuple bt_tuple (@pa_cons _ _ _ _ _ (@pe_compB _ _ _ _ _ _ _ ["_law_one"] [none] _ _ _ _ (by rfl) (@pi_list _ _ _ _ (@pe_ix _ _ _ _ _ _ _ ix_tup (pv 0) pe_int (fun _ _ => rfl))) c_l_told_2 (fun _ _ _ _ _ _ => ⟨(pg_name (i := 0) c_l_told_2n rfl (Or.inl rfl)), @pts_nil _, (@pe_ix _ _ _ _ _ _ _ (show IxR _ (rIxT K) from ix_tup) (pv 0) pe_int (fun _ _ => rfl))⟩) (by intro _ ; rfl)) pa_nil (by rfl)) (by decide) (by decide) (by rfl) (by rfl)) (by rfl) (by first | exact .inl rfl | exact .inr rfl | assumption)) (@pss_one _ _ _ (@ps_ret _ _ _ _ (@pe_make _ _ _ _ _ _ _ _ _ _ _ _ _ _ _ _ _ T.mk_Deed G_Deed_init (hr.mono (by omega)) (by rfl) T.mc_Deed T.b_Deed_init .nil pass0 (@pa_cons _ _ _ _ _ (pv 1) (@pa_cons _ _ _ _ _ (pv 2) (@pa_cons _ _ _ _ _ (pv 3) (@pa_cons _ _ _ _ _ (@pe_ix _ _ _ _ _ _ _ ix_tup (pv 0) pe_int (fun _ _ => rfl)) (@pa_cons _ _ _ _ _ (@pe_ix _ _ _ _ _ _ _ ix_tup (pv 0) pe_int (fun _ _ => rfl)) (@pa_cons _ _ _ _ _ (@pe_call _ _ _ _ _ _ _ _ _ _ _ _ _ _ _ _ G_l_made (hr.mono (by omega)) (by rfl) T.m_l_made T.F_l_made.kp T.b_l_made .nil pass0 (@pa_cons _ _ _ _ _ (@pe_ix _ _ _ _ _ _ _ ix_tup (pv 0) pe_int (fun _ _ => rfl)) pa_nil (by rfl)) (by decide) (by rfl) (by rfl)) (@pa_cons _ _ _ _ _ (@pe_ix _ _ _ _ _ _ _ ix_tup (pv 0) pe_int (fun _ _ => rfl)) pa_nil (by rfl)) (by rfl)) (by rfl)) (by rfl)) (by rfl)) (by rfl)) (by rfl)) (by decide) (by rfl) (by rfl))))))), ?_⟩
  have vl := av.1
  have ll := ok.ll
  -- the names
  refine ⟨_, rfl, p, _, 0, _, rfl, rfl, SqT.of h0, rfl, o, rfl, ⟨_, SqL.of g0⟩, ?_⟩
  refine comp_list (xs := vs) (fun i ys H' => H' = H ∧ ys = (D.loops.take i).map fun t => V.str t.nm) ⟨rfl, rfl⟩ (szl (by omega)) (fun i ys H' hi pp => ⟨by rw [pp.1]; exact SqL.of g0, by rw [pp.2, List.length_map, List.length_take]; omega⟩) (fun i x ys H' hc pp => ?_) (fun ys1 H1 pp r1 hr1 => ?_)
  · obtain ⟨rfl, rfl⟩ := pp
    obtain ⟨t, ht, q0, xa, xb, rfl, hq0, _, _⟩ := av.get' hc
    refine ⟨_, rfl, q0, _, 0, _, rfl, rfl, SqT.of hq0, rfl, rfl, ?_⟩
    rw [take_snoc ht, List.map_append]
    rfl
  obtain ⟨rfl, rfl⟩ := pp
  rw [List.take_of_length_le (by omega)]
  refine ⟨r1, _, rfl, .inl ⟨SqL.of upd_same, fun t1 ht1 => ?_⟩⟩
  have e1 := (same_new hr1 (.lst (D.loops.map fun t => V.str t.nm))).trans (same_new ht1 (.tup (D.loops.map fun t => V.str t.nm)))
  have f1 : (upd (upd H1 r1 (HO.lst (D.loops.map fun t => V.str t.nm))) t1 (HO.tup (D.loops.map fun t => V.str t.nm))) t1 = some (.tup (D.loops.map fun t => V.str t.nm)) := upd_same
  dsimp only [gName]
  generalize upd (upd H1 r1 (HO.lst (D.loops.map fun t => V.str t.nm))) t1 (HO.tup (D.loops.map fun t => V.str t.nm)) = H2 at e1 f1
  -- the lows
  refine ⟨_, rfl, p, _, 0, _, rfl, rfl, SqT.of (e1 _ _ h0), rfl, o, rfl, ⟨_, SqL.of (e1 _ _ g0)⟩, ?_⟩
  refine comp_list (xs := vs) (fun i ys H' => H' = H2 ∧ All2 (fun v t => SpoAt H2 v (LpT.lo t)) ys (D.loops.take i)) ⟨rfl, .nil⟩ (szl (by omega)) (fun i ys H' hi pp => ⟨by rw [pp.1]; exact SqL.of (e1 _ _ g0), by rw [pp.2.1, List.length_take]; omega⟩) (fun i x ys H' hc pp => ?_) (fun ys2 H3 pp r2 hr2 => ?_)
  · obtain ⟨rfl, ay⟩ := pp
    obtain ⟨t, ht, q0, xa, xb, rfl, hq0, ha, hb⟩ := av.get' hc
    refine ⟨_, rfl, q0, _, 1, _, rfl, rfl, SqT.of (e1 _ _ hq0), rfl, rfl, ?_⟩
    rw [take_snoc ht]
    exact ay.snoc (ha.tk (Same.tk e1))
  obtain ⟨rfl, ay2⟩ := pp
  rw [List.take_of_length_le (by omega)] at ay2
  refine ⟨r2, _, rfl, .inl ⟨SqL.of upd_same, fun t2 ht2 => ?_⟩⟩
  have s2 := (same_new hr2 (.lst ys2)).trans (same_new ht2 (.tup ys2))
  have f2 : (upd (upd H3 r2 (HO.lst ys2)) t2 (HO.tup ys2)) t2 = some (.tup ys2) := upd_same
  have ay2 := ay2.mono fun _ _ z => SpoAt.tk (Same.tk s2) z
  have e2 := e1.trans s2
  have f1 := s2 _ _ f1
  dsimp only [gName]
  generalize upd (upd H3 r2 (HO.lst ys2)) t2 (HO.tup ys2) = H4 at s2 f2 ay2 e2 f1
  -- the highs
  refine ⟨_, rfl, p, _, 0, _, rfl, rfl, SqT.of (e2 _ _ h0), rfl, o, rfl, ⟨_, SqL.of (e2 _ _ g0)⟩, ?_⟩
  refine comp_list (xs := vs) (fun i ys H' => H' = H4 ∧ All2 (fun v t => SpoAt H4 v (LpT.hi t)) ys (D.loops.take i)) ⟨rfl, .nil⟩ (szl (by omega)) (fun i ys H' hi pp => ⟨by rw [pp.1]; exact SqL.of (e2 _ _ g0), by rw [pp.2.1, List.length_take]; omega⟩) (fun i x ys H' hc pp => ?_) (fun ys3 H5 pp r3 hr3 => ?_)
  · obtain ⟨rfl, ay⟩ := pp
    obtain ⟨t, ht, q0, xa, xb, rfl, hq0, ha, hb⟩ := av.get' hc
    refine ⟨_, rfl, q0, _, 2, _, rfl, rfl, SqT.of (e2 _ _ hq0), rfl, rfl, ?_⟩
    rw [take_snoc ht]
    exact ay.snoc (hb.tk (Same.tk e2))
  obtain ⟨rfl, ay3⟩ := pp
  rw [List.take_of_length_le (by omega)] at ay3
  refine ⟨r3, _, rfl, .inl ⟨SqL.of upd_same, fun t3 ht3 => ?_⟩⟩
  have s3 := (same_new hr3 (.lst ys3)).trans (same_new ht3 (.tup ys3))
  have f3 : (upd (upd H5 r3 (HO.lst ys3)) t3 (HO.tup ys3)) t3 = some (.tup ys3) := upd_same
  have ay2 := ay2.mono fun _ _ z => SpoAt.tk (Same.tk s3) z
  have ay3 := ay3.mono fun _ _ z => SpoAt.tk (Same.tk s3) z
  have e3 := e2.trans s3
  have f1 := s3 _ _ f1
  have f2 := s3 _ _ f2
  dsimp only [gName]
  generalize upd (upd H5 r3 (HO.lst ys3)) t3 (HO.tup ys3) = H6 at s3 f3 ay2 ay3 e3 f1 f2
  -- the deed
  have h06 := e3 _ _ h0
  refine ⟨_, rfl, _, rfl, _, rfl, _, rfl, p, _, 1, _, rfl, rfl, SqT.of h06, rfl, _, rfl, p, _, 2, _, rfl, rfl, SqT.of h06, rfl, _, rfl, p, _, 3, _, rfl, rfl, SqT.of h06, rfl, sh, D.tm, rfl, hsh.tk (Same.tk e3), ok.t, ok.s, fun ob H7 e7 tb => ?_⟩
  refine ⟨_, rfl, p, _, 4, _, rfl, rfl, SqT.of (e7 _ _ h06), rfl, ?_⟩
  intro d dd hd hdd hne2
  refine ⟨d, dd, _, _, _, _, _, _, _, rfl, upd_same, fun H8 k8 hd8 => ⟨rfl, ?_⟩⟩
  have e8 := made_same hd hdd k8
  obtain ⟨dx8, hd8⟩ := hd8
  have e78 := e7.trans e8
  have e38 := e3.trans e78
  exact q _ _ e38 ⟨d, dx8, t1, t2, t3, ps, pt, ob, ys2, ys3, rfl, hd8, e78 _ _ f1, e78 _ _ f2, ay2.mono fun _ _ z => SpoAt.tk (Same.tk e78) z, e78 _ _ f3, ay3.mono fun _ _ z => SpoAt.tk (Same.tk e78) z, hsp.tk (Same.tk e38), tb.over e8, e38 _ _ hpt⟩

theorem ok_law (T : Tx K mg a) : FnOk P w K mg base CX0 23 a.f_law a.d_law ["_law_script"] (spLaw K) := by
  have G_l_cell_at := ok_cell_at (P := P) (w := w) (base := base) T
  have G_l_names := ok_names (P := P) (w := w) (base := base) T
  have G_l_program := ok_prog26 (P := P) (w := w) (base := base) T
  have G_l_told := ok_told (P := P) (w := w) (base := base) T
  have G_Program_init := ok_pini (P := P) (w := w) (base := base) T
  have G_written := ok_written (P := P) (w := w) (base := base) T
  have G_l_plain := ok_plain (P := P) (w := w) (base := base) T
  refine T.F_law.ok sc_law (fun vs H Q E h => ?_) (fun cdv A outer s H vs Q E hr h => ?_)
  · obtain ⟨_, _, rfl, _⟩ := h; rfl
  obtain ⟨p, ns, rfl, hp, h63, _, q⟩ := h
  refine ⟨_, (@pss_cons _ _ _ _ _ (@ps_set _ _ (1) _ _ _ _ sc_law.nd rfl (Or.inl rfl) (@pe_call _ _ _ _ _ _ _ _ _ _ _ _ _ _ _ _ G_l_names (hr.mono (by omega)) (by rfl) T.m_l_names T.F_l_names.kp T.b_l_names .nil pass0 (@pa_cons _ _ _ _ _ (@pe_call _ _ _ _ _ _ _ _ _ _ _ _ _ _ _ _ G_l_cell_at (hr.mono (by omega)) (by rfl) T.m_l_cell_at T.F_l_cell_at.kp T.b_l_cell_at .nil pass0 (@pa_cons _ _ _ _ _ (pv 0) (@pa_cons _ _ _ _ _ pe_int pa_nil (by rfl)) (by rfl)) (by decide) (by rfl) (by rfl)) (@pa_cons _ _ _ _ _ pe_int pa_nil (by rfl)) (by rfl)) (by decide) (by rfl) (by rfl)) (by rfl) (by first | exact .inl rfl | exact .inr rfl | assumption)) (@pss_cons _ _ _ _ _ (@ps_set _ _ (2) _ _ _ _ sc_law.nd rfl (Or.inl rfl) (@pe_op _ _ _ _ _ _ _ _ op_add pe_int (@pe_op _ _ _ _ _ _ _ _ op_mod (@pe_call _ _ _ _ _ _ _ _ _ _ _ _ _ _ _ _ G_l_cell_at (hr.mono (by omega)) (by rfl) T.m_l_cell_at T.F_l_cell_at.kp T.b_l_cell_at .nil pass0 (@pa_cons _ _ _ _ _ (pv 0) (@pa_cons _ _ _ _ _ pe_int pa_nil (by rfl)) (by rfl)) (by decide) (by rfl) (by rfl)) (@pe_op _ _ _ _ _ _ _ _ op_sub (@pe_op _ _ _ _ _ _ _ _ op_pow pe_int pe_int) pe_int))) (by rfl) (by first | exact .inl rfl | exact .inr rfl | assumption)) (@pss_cons _ _ _ _ _ (@ps_asg _ _ _ _ _ _ (@pe_call _ _ _ _ _ _ _ _ _ _ _ _ _ _ _ _ G_l_program (hr.mono (by omega)) (by rfl) T.m_l_program T.F_l_program.kp T.b_l_program .nil pass0 (@pa_cons _ _ _ _ _ (@pe_slice _ _ _ _ _ _ _ _ _ _ sl_list (pv 0) (@po_some _ _ _ pe_int) (@po_some _ _ _ pe_int)) (@pa_cons _ _ _ _ _ (pv 1) pa_nil (by rfl)) (by rfl)) (by decide) (by rfl) (by rfl)) (pg_tup rfl (pgs_cons (pg_name (i := 3) sc_law.nd rfl (Or.inl rfl)) (pgs_cons (pg_name (i := 4) sc_law.nd rfl (Or.inl rfl)) pgs_nil))) (by rfl) (by rfl) (by rfl)) (@pss_cons _ _ _ _ _ (@ps_setcompB _ _ _ _ _ _ _ _ _ (5) _ ["_law_row"] [none] _ _ _ _ sc_law.nd rfl (Or.inl rfl) (by rfl) (@pi_list _ _ _ _ (pv 4)) c_law_0 (fun _ _ _ _ _ _ => ⟨(pg_name (i := 0) c_law_0n rfl (Or.inl rfl)), @pts_nil _, (@pe_call _ _ _ _ _ _ _ _ _ _ _ _ _ _ _ _ G_l_told (hr.mono (by omega)) (by rfl) T.m_l_told T.F_l_told.kp T.b_l_told .nil pass0 (@pa_cons _ _ _ _ _ (pv 0) pa_nil (by rfl)) (by decide) (by rfl) (by rfl))⟩) (by rfl) (by intro _ ; rfl) (by first | exact .inl rfl | exact .inr rfl | assumption)) (@pss_cons _ _ _ _ _ (@ps_set _ _ (6) _ _ _ _ sc_law.nd rfl (Or.inl rfl) (@pe_make _ _ _ _ _ _ _ _ _ _ _ _ _ _ _ _ _ T.mk_Program G_Program_init (hr.mono (by omega)) (by rfl) T.mc_Program T.b_Program_init .nil pass0 (@pa_cons _ _ _ _ _ (pv 2) (@pa_cons _ _ _ _ _ (pv 5) pa_nil (by rfl)) (by rfl)) (by decide) (by rfl) (by rfl)) (by rfl) (by first | exact .inl rfl | exact .inr rfl | assumption)) (@pss_cons _ _ _ _ _ (@ps_set _ _ (7) _ _ _ _ sc_law.nd rfl (Or.inl rfl) (@pe_call _ _ _ _ _ _ _ _ _ _ _ _ _ _ _ _ G_written (hr.mono (by omega)) (by rfl) T.m_written T.F_written.kp T.b_written .nil pass0 (@pa_cons _ _ _ _ _ (pv 6) pa_nil (by rfl)) (by decide) (by rfl) (by rfl)) (by rfl) (by first | exact .inl rfl | exact .inr rfl | assumption)) (@pss_cons _ _ _ _ _ (@ps_set _ _ (8) _ _ _ _ sc_law.nd rfl (Or.inl rfl) (@pe_call _ _ _ _ _ _ _ _ _ _ _ _ _ _ _ _ G_l_plain (hr.mono (by omega)) (by rfl) T.m_l_plain T.F_l_plain.kp T.b_l_plain .nil pass0 (@pa_cons _ _ _ _ _ (pv 3) (@pa_cons _ _ _ _ _ (pv 2) pa_nil (by rfl)) (by rfl)) (by decide) (by rfl) (by rfl)) (by rfl) (by first | exact .inl rfl | exact .inr rfl | assumption)) (@pss_cons _ _ _ _ _ (@ps_if _ _ _ _ _ _ _ _ ((@pw_or _ _ _ _ _ _ _ (@pt_not _ _ _ _ (@pt_val _ _ _ (@pe_callB _ _ _ _ _ _ _ _ _ call_isi (by rfl) T.z_isinstance bt_isinstance (@pa_cons _ _ _ _ _ (pv 7) (@pa_cons _ _ _ _ _ (@pe_bltn _ _ (.ty "str") _ _ (by rfl) T.z_str bt_str rfl (by decide) (by decide)) pa_nil (by rfl)) (by rfl)) (by decide) (by decide) (by rfl) (by rfl)) (by intro _ ; rfl))) (@pw_or _ _ _ _ _ _ _ (@pt_cmpR _ _ _ _ _ _ _ _ op_ne (pv 7) (pv 8) (@nomark _ _ (by decide) (by decide))) (@pw_or1 _ _ _ _ (@pt_cmpR _ _ _ _ _ _ _ _ op_ne (@pe_call _ _ _ _ _ _ _ _ _ _ _ _ _ _ _ _ G_written (hr.mono (by omega)) (by rfl) T.m_written T.F_written.kp T.b_written .nil pass0 (@pa_cons _ _ _ _ _ (pv 6) pa_nil (by rfl)) (by decide) (by rfl) (by rfl)) (pv 8) (@nomark _ _ (by decide) (by decide))))))).pt (@pss_one _ _ _ (@ps_ret _ _ _ _ pe_bl)) pss_nil) (@pss_cons _ _ _ _ _ (@ps_if _ _ _ _ _ _ _ _ (@pt_cmpR _ _ _ _ _ _ _ _ op_eq (@pe_callB _ _ _ _ _ _ _ _ _ call_len_seq (by rfl) T.z_len bt_len (@pa_cons _ _ _ _ _ (pv 5) pa_nil (by rfl)) (by decide) (by decide) (by rfl) (by rfl)) pe_int (@nomark _ _ (by decide) (by decide))) (@pss_one _ _ _ (@ps_ret _ _ _ _ pe_bl)) pss_nil) (@pss_cons _ _ _ _ _ (@ps_expr _ _ _ _ (@pe_bm0 _ _ _ _ _ _ _ _ _ PySem.F.plainAttrs_list PySem.F.slot_list_pop PySem.F.type_list_pop mt_pop (@pe_fld _ _ _ _ _ (pv 6) rfl) (by rfl) (by rfl)) (by rfl)) (@pss_one _ _ _ (@ps_ret _ _ _ _ (@pe_and _ _ _ _ _ _ _ (@pe_cmpR _ _ _ _ _ _ _ _ op_eq (@pe_call _ _ _ _ _ _ _ _ _ _ _ _ _ _ _ _ G_written (hr.mono (by omega)) (by rfl) T.m_written T.F_written.kp T.b_written .nil pass0 (@pa_cons _ _ _ _ _ (pv 6) pa_nil (by rfl)) (by decide) (by rfl) (by rfl)) (@pe_call _ _ _ _ _ _ _ _ _ _ _ _ _ _ _ _ G_written (hr.mono (by omega)) (by rfl) T.m_written T.F_written.kp T.b_written .nil pass0 (@pa_cons _ _ _ _ _ (@pe_make _ _ _ _ _ _ _ _ _ _ _ _ _ _ _ _ _ T.mk_Program G_Program_init (hr.mono (by omega)) (by rfl) T.mc_Program T.b_Program_init .nil pass0 (@pa_cons _ _ _ _ _ (pv 2) (@pa_cons _ _ _ _ _ (@pe_slice _ _ _ _ _ _ _ _ _ _ sl_list (pv 5) po_none (@po_some _ _ _ (@pe_un _ _ _ _ _ _ un_neg pe_int))) pa_nil (by rfl)) (by rfl)) (by decide) (by rfl) (by rfl)) pa_nil (by rfl)) (by decide) (by rfl) (by rfl)) (@nomark _ _ (by decide) (by decide))) (@pe_one _ _ _ _ _ (@pe_cmpR _ _ _ _ _ _ _ _ op_eq (@pe_call _ _ _ _ _ _ _ _ _ _ _ _ _ _ _ _ G_written (hr.mono (by omega)) (by rfl) T.m_written T.F_written.kp T.b_written .nil pass0 (@pa_cons _ _ _ _ _ (@pe_make _ _ _ _ _ _ _ _ _ _ _ _ _ _ _ _ _ T.mk_Program G_Program_init (hr.mono (by omega)) (by rfl) T.mc_Program T.b_Program_init .nil pass0 (@pa_cons _ _ _ _ _ (pv 2) (@pa_cons _ _ _ _ _ (pv 5) pa_nil (by rfl)) (by rfl)) (by decide) (by rfl) (by rfl)) pa_nil (by rfl)) (by decide) (by rfl) (by rfl)) (pv 8) (@nomark _ _ (by decide) (by decide))))))))))))))))), ?_⟩
  refine ⟨_, rfl, p, ns, 0, rfl, hp, by decide, _, rfl, fun nl H1 zs e1 hn hnd => ?_⟩
  dsimp only [gName]
  refine ⟨_, rfl, p, ns, 1, rfl, e1.seq hp, by decide, _, _, rfl, rfl, ⟨by decide, by decide, by decide⟩, _, _, rfl, rfl, _, _, rfl, rfl, (by show (0 : Int) < 10 ^ (18 : Int).toNat - 2; decide), _, _, rfl, rfl, ?_⟩
  dsimp only [gName]
  obtain ⟨n, en, n0, n1⟩ : ∃ n : Int, 2 + ns.getD (1 : Int).toNat 0 % (10 ^ (18 : Int).toNat - 2) = n ∧ 0 ≤ n ∧ n ≤ 999999999999999999 := ⟨_, rfl, by
    have := Int.emod_nonneg (ns.getD (1 : Int).toNat 0) (show (10 ^ (18 : Int).toNat - 2 : Int) ≠ 0 by decide)
    omega, by
    have := Int.emod_lt_of_pos (ns.getD (1 : Int).toNat 0) (show (0 : Int) < 10 ^ (18 : Int).toNat - 2 by decide)
    have e : (10 ^ (18 : Int).toNat - 2 : Int) = 999999999999999998 := by decide
    omega⟩
  rw [en]
  refine ⟨_, rfl, _, rfl, _, rfl, p, _, rfl, e1.seq hp, fun p1 hp1 => ?_⟩
  rw [cutV_map]
  have s2 := same_new hp1 (.lst ((cutC ns (some 4) (some 59)).map V.int))
  refine ⟨_, rfl, p1, nl, cutC ns (some 4) (some 59), zs, rfl, SqL.of upd_same, Nat.le_trans (cutC_le _ _ _) (by omega), hn.over s2, hnd, fun t rl dl H3 xs ys R Ds e3 ht hrl ax hdl ay dok d7 dne cc lin => ?_⟩
  refine ⟨t, _, rfl, SqT.of ht, rfl, _, _, rfl, _, _, rfl, rfl, ?_⟩
  have yl := ay.1
  have xl := ax.1
  have rok := row_ok dok
  have Rl := lin.len fun y hy => (rok y hy).1
  rw [List.length_map] at Rl
  have rows_ok := lin.ok (Pt := LpT.Ok) (Ps := fun s : Str => s.length ≤ 1200) rok
  have okD : OkD Ds := ⟨dok, by omega, cc⟩
  -- told
  refine ⟨_, rfl, dl, rfl, ⟨_, SqL.of hdl⟩, ?_⟩
  refine comp_list (xs := ys) (fun i ws H' => Same H3 H' ∧ All2 (DoAt a.c_Deed (csOf a) H') ws (Ds.take i)) ⟨Same.refl _, .nil⟩ (szl (by omega)) (fun i ws H' hi pp => ⟨SqL.of (pp.1 _ _ hdl), by rw [pp.2.1, List.length_take]; omega⟩) (fun i x ws H' hc pp => ?_) (fun ws H4 pp tl htl => ?_)
  · obtain ⟨e, aw⟩ := pp
    obtain ⟨D, hD, hDt⟩ := ay.get' hc
    refine ⟨_, rfl, x, D, rfl, hDt.over e, dok D (List.mem_of_getElem? hD), fun d H'' e2 hd => ⟨e.trans e2, ?_⟩⟩
    rw [take_snoc hD]
    exact (aw.mono fun y R z => z.over e2).snoc hd
  obtain ⟨e4, aw⟩ := pp
  rw [List.take_of_length_le (by omega)] at aw
  have wl := aw.1
  have s5 := same_new htl (.lst ws)
  have htl5 : (upd H4 tl (HO.lst ws)) tl = some (.lst ws) := upd_same
  have aw5 := aw.mono fun y R z => DoAt.over s5 z
  have e5 := e4.trans s5
  dsimp only [gName]
  generalize upd H4 tl (HO.lst ws) = H5 at s5 htl5 aw5 e5
  -- the program
  refine ⟨_, rfl, _, rfl, ?_⟩
  intro x dx hx hdx hxd
  have ntx : tl ≠ x := ne_of_none htl5 hx
  have ntd : tl ≠ dx := ne_of_none htl5 hdx
  refine ⟨x, dx, _, tl, ws, rfl, upd_same, SqL.of (by rw [upd_ne ntx, upd_ne ntd]; exact htl5), fun d5 H6 hd5 k6 hd6 hx6 => ⟨rfl, ?_⟩⟩
  obtain ⟨dx6, hx6⟩ := hx6
  have e6 := made_same hx hdx k6
  have aw6 := aw5.mono fun y R z => DoAt.over e6 z
  have htl6 := e6 _ _ htl5
  have d50 : H5 d5 = none := by
    have nx5 : d5 ≠ x := fun z => by rw [z, upd_same] at hd5; cases hd5
    rw [upd_ne nx5] at hd5
    by_cases c : d5 = dx
    · rw [c, upd_same] at hd5; cases hd5
    · rw [upd_ne c] at hd5; exact hd5
  have ntd5 : tl ≠ d5 := ne_of_none htl5 d50
  have hP6 : PrgW a.c_Program a.c_Deed (csOf a) H6 (.ref x) n Ds := ⟨x, dx6, d5, rfl, hx6, ws, hd6, aw6⟩
  dsimp only [gName]
  -- written
  refine ⟨_, rfl, .ref x, n, Ds, rfl, hP6, okD, n0, n1, fun H7 R7 e7 lin7 => ?_⟩
  have eR := lin7.one lin
  subst eR
  dsimp only [gName]
  have hP7 : PrgW a.c_Program a.c_Deed (csOf a) H7 (.ref x) n Ds := ⟨x, dx6, d5, rfl, e7 _ _ hx6, ws, e7 _ _ hd6, aw6.mono fun _ _ z => DoAt.over e7 z⟩
  have e37 := e5.trans (e6.trans e7)
  refine ⟨_, rfl, _, rfl, rl, n, xs, R7, rfl, e37 _ _ hrl, ax.mono fun _ _ z => z.tk (Same.tk e37), by omega, rows_ok, n0, n1, fun H8 e8 => ?_⟩
  dsimp only [gName]
  have hP8 : PrgW a.c_Program a.c_Deed (csOf a) H8 (.ref x) n Ds := ⟨x, dx6, d5, rfl, e8 _ _ (e7 _ _ hx6), ws, e8 _ _ (e7 _ _ hd6), aw6.mono fun _ _ z => DoAt.over (e7.trans e8) z⟩
  refine seq_any (fun σ' H9 => Same H8 H9 ∧ σ' = [some (.ref p), some (.ref nl), some (.int n), some (.ref rl), some (.ref dl), some (.ref tl), some (.ref x), some (.str (prgS n R7)), some (.str (prgS n R7))]) (fun σ' H9 pp => ?_) (fun nx => ?_)
  rotate_left
  · refine ⟨_, rfl, _, _, _, _, _, rfl, rfl, .str _, rfl, _, rfl, iteF ?_⟩
    refine ⟨_, rfl, _, rfl, rfl, _, rfl, iteE (ndF rfl) (iteF ?_)⟩
    refine ⟨_, rfl, .ref x, n, Ds, rfl, hP8, okD, n0, n1, fun H9 R9 e9 lin9 => ?_⟩
    rw [lin9.one lin7]
    exact ⟨_, rfl, rfl, _, rfl, iteE (ndF rfl) (iteF (nx _ _ ⟨e9, rfl⟩))⟩
  obtain ⟨e9, rfl⟩ := pp
  have e69 := (e7.trans e8).trans e9
  have htl9 := e69 _ _ htl6
  refine ⟨_, rfl, tl, _, rfl, .inl (SqL.of htl9), rfl, _, rfl, ?_⟩
  refine ite2 (fun c1 => ?_) (fun c1 => ?_)
  · exact q _
  have c1 : ¬ ((ws.length : Nat) : Int) = 1 := fun z => dF c1 (congrArg V.int z)
  have wpos : 0 < ws.length := by
    rw [wl]
    exact List.length_pos_iff.mpr dne
  obtain ⟨ws', w0, rfl, wl'⟩ := snoc_of (l := ws) (n := ws.length - 1) (by omega)
  obtain ⟨Ds', D0, rfl, dl'⟩ := snoc_of (l := Ds) (n := ws'.length) (by rw [← wl, List.length_append, List.length_singleton])
  have hd9 := e69 _ _ hd6
  have hx9 := e69 _ _ hx6
  have aw9 := aw6.mono fun _ _ z => DoAt.over e69 z
  refine ⟨_, rfl, x, _, dx6, _, _, rfl, hx9, T.cl_Program, T.n_Program_deeds, rfl, .inl ⟨rfl, _, SqL.of hd9⟩, d5, _, w0, rfl, rfl, hd9, pop_last.1, ?_⟩
  rw [pop_last.2]
  have nl9 : NL H9 (upd H9 d5 (.lst ws')) := NL.upd hd9
  have hd10 : (upd H9 d5 (.lst ws')) d5 = some (.lst ws') := upd_same
  have hx10 := nl9 _ _ hx9 (fun _ z => by cases z)
  have htl10 : (upd H9 d5 (.lst ws')) tl = some (.lst (ws' ++ [w0])) := by rw [upd_ne ntd5]; exact htl9
  have aw10 := aw9.mono fun _ _ z => DoAt.nl nl9 z
  generalize upd H9 d5 (.lst ws') = H10 at nl9 hd10 hx10 htl10 aw10
  have awp : All2 (DoAt a.c_Deed (csOf a) H10) ws' Ds' := ⟨dl'.symm, fun i y D h1 h2 => aw10.2 i y D (by rw [List.getElem?_append_left (List.getElem?_eq_some_iff.mp h1).1]; exact h1) (by rw [List.getElem?_append_left (List.getElem?_eq_some_iff.mp h2).1]; exact h2)⟩
  have okD' : OkD Ds' := ⟨fun D hD => dok D (List.mem_append_left _ hD), by have := okD.2.1; rw [List.length_append] at this; omega, by have := okD.2.2; rw [List.map_append] at this; exact Pw.CC.left this⟩
  have hP10 : PrgW a.c_Program a.c_Deed (csOf a) H10 (.ref x) n Ds' := ⟨x, dx6, d5, rfl, hx10, ws', hd10, awp⟩
  refine ⟨_, rfl, .ref x, n, Ds', rfl, hP10, okD', n0, n1, fun H11 R11 e11 lin11 => ?_⟩
  -- another program
  have htl11 := e11 _ _ htl10
  refine ⟨_, rfl, _, rfl, _, rfl, _, rfl, tl, _, rfl, SqL.of htl11, fun l2 hl2 => ?_⟩
  have cv : cutV (ws' ++ [w0]) none (some (-1)) = ws' := cutV_neg ws' [w0] (Nat.succ_pos _) rfl
  rw [cv]
  have s12 := same_new hl2 (.lst ws')
  have hl212 : (upd H11 l2 (.lst ws')) l2 = some (.lst ws') := upd_same
  have e12 := e11.trans s12
  generalize upd H11 l2 (.lst ws') = H12 at s12 hl212 e12
  intro x2 dx2 hx2 hdx2 hxd2
  have nlx2 : l2 ≠ x2 := ne_of_none hl212 hx2
  have nld2 : l2 ≠ dx2 := ne_of_none hl212 hdx2
  refine ⟨x2, dx2, _, l2, ws', rfl, upd_same, SqL.of (by rw [upd_ne nlx2, upd_ne nld2]; exact hl212), fun d13 H13 hd13 k13 hd13' hx13 => ⟨rfl, ?_⟩⟩
  obtain ⟨dx13, hx13⟩ := hx13
  have e13 := e12.trans (made_same hx2 hdx2 k13)
  refine ⟨.ref x2, n, Ds', rfl, ⟨x2, dx13, d13, rfl, hx13, ws', hd13', awp.mono fun _ _ z => DoAt.over e13 z⟩, okD', n0, n1, fun H14 R14 e14 lin14 => ?_⟩
  rw [lin14.one lin11]
  refine ⟨rfl, _, rfl, iteE (v := true) (decide_eq_true rfl) (iteT ?_)⟩
  have e1014 := e13.trans e14
  have htl14 := e1014 _ _ htl10
  refine ⟨_, rfl, _, rfl, ?_⟩
  intro x3 dx3 hx3 hdx3 hxd3
  have nlx3 : tl ≠ x3 := ne_of_none htl14 hx3
  have nld3 : tl ≠ dx3 := ne_of_none htl14 hdx3
  refine ⟨x3, dx3, _, tl, _, rfl, upd_same, SqL.of (by rw [upd_ne nlx3, upd_ne nld3]; exact htl14), fun d15 H15 hd15 k15 hd15' hx15 => ⟨rfl, ?_⟩⟩
  obtain ⟨dx15, hx15⟩ := hx15
  have e15 := e1014.trans (made_same hx3 hdx3 k15)
  refine ⟨.ref x3, n, Ds' ++ [D0], rfl, ⟨x3, dx15, d15, rfl, hx15, _, hd15', aw10.mono fun _ _ z => DoAt.over e15 z⟩, okD, n0, n1, fun H16 R16 e16 lin16 => ?_⟩
  rw [lin16.one lin7]
  refine ⟨_, rfl, rfl, ?_⟩
  rw [show decide (V.str (prgS n R7) = V.str (prgS n R7)) = true from decide_eq_true rfl]
  exact q _

end
theorem len_1 {us : List Value} (h : us.length = 1) : ∃ x0, us = [x0] := by
  rcases us with _ | ⟨x0, us⟩
  · cases h
  rcases us with _ | ⟨y, us⟩
  · exact ⟨x0, rfl⟩
  · simp only [List.length_cons] at h; omega
theorem len_2 {us : List Value} (h : us.length = 2) : ∃ x0 x1, us = [x0, x1] := by
  rcases us with _ | ⟨x0, us⟩
  · cases h
  rcases us with _ | ⟨x1, us⟩
  · cases h
  rcases us with _ | ⟨y, us⟩
  · exact ⟨x0, x1, rfl⟩
  · simp only [List.length_cons] at h; omega
theorem len_3 {us : List Value} (h : us.length = 3) : ∃ x0 x1 x2, us = [x0, x1, x2] := by
  rcases us with _ | ⟨x0, us⟩
  · cases h
  rcases us with _ | ⟨x1, us⟩
  · cases h
  rcases us with _ | ⟨x2, us⟩
  · cases h
  rcases us with _ | ⟨y, us⟩
  · exact ⟨x0, x1, x2, rfl⟩
  · simp only [List.length_cons] at h; omega
theorem len_4 {us : List Value} (h : us.length = 4) : ∃ x0 x1 x2 x3, us = [x0, x1, x2, x3] := by
  rcases us with _ | ⟨x0, us⟩
  · cases h
  rcases us with _ | ⟨x1, us⟩
  · cases h
  rcases us with _ | ⟨x2, us⟩
  · cases h
  rcases us with _ | ⟨x3, us⟩
  · cases h
  rcases us with _ | ⟨y, us⟩
  · exact ⟨x0, x1, x2, x3, rfl⟩
  · simp only [List.length_cons] at h; omega
theorem len_8 {us : List Value} (h : us.length = 8) : ∃ x0 x1 x2 x3 x4 x5 x6 x7, us = [x0, x1, x2, x3, x4, x5, x6, x7] := by
  rcases us with _ | ⟨x0, us⟩
  · cases h
  rcases us with _ | ⟨x1, us⟩
  · cases h
  rcases us with _ | ⟨x2, us⟩
  · cases h
  rcases us with _ | ⟨x3, us⟩
  · cases h
  rcases us with _ | ⟨x4, us⟩
  · cases h
  rcases us with _ | ⟨x5, us⟩
  · cases h
  rcases us with _ | ⟨x6, us⟩
  · cases h
  rcases us with _ | ⟨x7, us⟩
  · cases h
  rcases us with _ | ⟨y, us⟩
  · exact ⟨x0, x1, x2, x3, x4, x5, x6, x7, rfl⟩
  · simp only [List.length_cons] at h; omega
theorem bd_Number_init {kV doc pm : Value} {an : Option Addr} {cdv ct : Value} {us : List Value} (h : us.length = 2) : bindArgs (PySem.W.fnOf "__init__" "Number.__init__" (defArgs s_Number_init) (defBody s_Number_init) (defScope s_Number_init) .none kV doc pm an cdv ct) ⟨us, []⟩ = pure ((["self", "n"] : List Str).zip us) := by
  obtain ⟨_, _, rfl⟩ := len_2 h
  rfl
theorem bd_Value_init {kV doc pm : Value} {an : Option Addr} {cdv ct : Value} {us : List Value} (h : us.length = 2) : bindArgs (PySem.W.fnOf "__init__" "Value.__init__" (defArgs s_Value_init) (defBody s_Value_init) (defScope s_Value_init) .none kV doc pm an cdv ct) ⟨us, []⟩ = pure ((["self", "name"] : List Str).zip us) := by
  obtain ⟨_, _, rfl⟩ := len_2 h
  rfl
theorem bd_Cell_init {kV doc pm : Value} {an : Option Addr} {cdv ct : Value} {us : List Value} (h : us.length = 3) : bindArgs (PySem.W.fnOf "__init__" "Cell.__init__" (defArgs s_Cell_init) (defBody s_Cell_init) (defScope s_Cell_init) .none kV doc pm an cdv ct) ⟨us, []⟩ = pure ((["self", "table", "spots"] : List Str).zip us) := by
  obtain ⟨_, _, _, rfl⟩ := len_3 h
  rfl
theorem bd_Joined_init {kV doc pm : Value} {an : Option Addr} {cdv ct : Value} {us : List Value} (h : us.length = 4) : bindArgs (PySem.W.fnOf "__init__" "Joined.__init__" (defArgs s_Joined_init) (defBody s_Joined_init) (defScope s_Joined_init) .none kV doc pm an cdv ct) ⟨us, []⟩ = pure ((["self", "sign", "left", "right"] : List Str).zip us) := by
  obtain ⟨_, _, _, _, rfl⟩ := len_4 h
  rfl
theorem bd_Deed_init {kV doc pm : Value} {an : Option Addr} {cdv ct : Value} {us : List Value} (h : us.length = 8) : bindArgs (PySem.W.fnOf "__init__" "Deed.__init__" (defArgs s_Deed_init) (defBody s_Deed_init) (defScope s_Deed_init) .none kV doc pm an cdv ct) ⟨us, []⟩ = pure ((["self", "names", "lows", "highs", "table", "spots", "term", "path"] : List Str).zip us) := by
  obtain ⟨_, _, _, _, _, _, _, _, rfl⟩ := len_8 h
  rfl
theorem bd_Program_init {kV doc pm : Value} {an : Option Addr} {cdv ct : Value} {us : List Value} (h : us.length = 3) : bindArgs (PySem.W.fnOf "__init__" "Program.__init__" (defArgs s_Program_init) (defBody s_Program_init) (defScope s_Program_init) .none kV doc pm an cdv ct) ⟨us, []⟩ = pure ((["self", "size", "deeds"] : List Str).zip us) := by
  obtain ⟨_, _, _, rfl⟩ := len_3 h
  rfl
theorem bd_nested {kV doc pm : Value} {an : Option Addr} {cdv ct : Value} {us : List Value} (h : us.length = 1) : bindArgs (PySem.W.fnOf "nested" "nested" (defArgs s_nested) (defBody s_nested) (defScope s_nested) .none kV doc pm an cdv ct) ⟨us, []⟩ = pure ((["deeds"] : List Str).zip us) := by
  obtain ⟨_, rfl⟩ := len_1 h
  rfl
theorem bd_items_within {kV doc pm : Value} {an : Option Addr} {cdv ct : Value} {us : List Value} (h : us.length = 3) : bindArgs (PySem.W.fnOf "items_within" "items_within" (defArgs s_items_within) (defBody s_items_within) (defScope s_items_within) .none kV doc pm an cdv ct) ⟨us, []⟩ = pure ((["deeds", "numbers", "depth"] : List Str).zip us) := by
  obtain ⟨_, _, _, rfl⟩ := len_3 h
  rfl
theorem bd_neighbours {kV doc pm : Value} {an : Option Addr} {cdv ct : Value} {us : List Value} (h : us.length = 3) : bindArgs (PySem.W.fnOf "neighbours" "neighbours" (defArgs s_neighbours) (defBody s_neighbours) (defScope s_neighbours) .none kV doc pm an cdv ct) ⟨us, []⟩ = pure ((["deeds", "numbers", "depth"] : List Str).zip us) := by
  obtain ⟨_, _, _, rfl⟩ := len_3 h
  rfl
theorem bd_written {kV doc pm : Value} {an : Option Addr} {cdv ct : Value} {us : List Value} (h : us.length = 1) : bindArgs (PySem.W.fnOf "written" "written" (defArgs s_written) (defBody s_written) (defScope s_written) .none kV doc pm an cdv ct) ⟨us, []⟩ = pure ((["program"] : List Str).zip us) := by
  obtain ⟨_, rfl⟩ := len_1 h
  rfl
theorem bd_written_items {kV doc pm : Value} {an : Option Addr} {cdv ct : Value} {us : List Value} (h : us.length = 3) : bindArgs (PySem.W.fnOf "written_items" "written_items" (defArgs s_written_items) (defBody s_written_items) (defScope s_written_items) .none kV doc pm an cdv ct) ⟨us, []⟩ = pure ((["deeds", "items", "depth"] : List Str).zip us) := by
  obtain ⟨_, _, _, rfl⟩ := len_3 h
  rfl
theorem bd_written_loop {kV doc pm : Value} {an : Option Addr} {cdv ct : Value} {us : List Value} (h : us.length = 2) : bindArgs (PySem.W.fnOf "written_loop" "written_loop" (defArgs s_written_loop) (defBody s_written_loop) (defScope s_written_loop) .none kV doc pm an cdv ct) ⟨us, []⟩ = pure ((["deed", "e"] : List Str).zip us) := by
  obtain ⟨_, _, rfl⟩ := len_2 h
  rfl
theorem bd_written_deed {kV doc pm : Value} {an : Option Addr} {cdv ct : Value} {us : List Value} (h : us.length = 1) : bindArgs (PySem.W.fnOf "written_deed" "written_deed" (defArgs s_written_deed) (defBody s_written_deed) (defScope s_written_deed) .none kV doc pm an cdv ct) ⟨us, []⟩ = pure ((["deed"] : List Str).zip us) := by
  obtain ⟨_, rfl⟩ := len_1 h
  rfl
theorem bd_written_cell {kV doc pm : Value} {an : Option Addr} {cdv ct : Value} {us : List Value} (h : us.length = 2) : bindArgs (PySem.W.fnOf "written_cell" "written_cell" (defArgs s_written_cell) (defBody s_written_cell) (defScope s_written_cell) .none kV doc pm an cdv ct) ⟨us, []⟩ = pure ((["table", "spots"] : List Str).zip us) := by
  obtain ⟨_, _, rfl⟩ := len_2 h
  rfl
theorem bd_written_spot {kV doc pm : Value} {an : Option Addr} {cdv ct : Value} {us : List Value} (h : us.length = 1) : bindArgs (PySem.W.fnOf "written_spot" "written_spot" (defArgs s_written_spot) (defBody s_written_spot) (defScope s_written_spot) .none kV doc pm an cdv ct) ⟨us, []⟩ = pure ((["spot"] : List Str).zip us) := by
  obtain ⟨_, rfl⟩ := len_1 h
  rfl
theorem bd_written_term {kV doc pm : Value} {an : Option Addr} {cdv ct : Value} {us : List Value} (h : us.length = 1) : bindArgs (PySem.W.fnOf "written_term" "written_term" (defArgs s_written_term) (defBody s_written_term) (defScope s_written_term) .none kV doc pm an cdv ct) ⟨us, []⟩ = pure ((["term"] : List Str).zip us) := by
  obtain ⟨_, rfl⟩ := len_1 h
  rfl
theorem bd_bracketed {kV doc pm : Value} {an : Option Addr} {cdv ct : Value} {us : List Value} (h : us.length = 2) : bindArgs (PySem.W.fnOf "bracketed" "bracketed" (defArgs s_bracketed) (defBody s_bracketed) (defScope s_bracketed) .none kV doc pm an cdv ct) ⟨us, []⟩ = pure ((["term", "needed"] : List Str).zip us) := by
  obtain ⟨_, _, rfl⟩ := len_2 h
  rfl
theorem bd_left_needs {kV doc pm : Value} {an : Option Addr} {cdv ct : Value} {us : List Value} (h : us.length = 1) : bindArgs (PySem.W.fnOf "left_needs" "left_needs" (defArgs s_left_needs) (defBody s_left_needs) (defScope s_left_needs) .none kV doc pm an cdv ct) ⟨us, []⟩ = pure ((["term"] : List Str).zip us) := by
  obtain ⟨_, rfl⟩ := len_1 h
  rfl
theorem bd_right_needs {kV doc pm : Value} {an : Option Addr} {cdv ct : Value} {us : List Value} (h : us.length = 1) : bindArgs (PySem.W.fnOf "right_needs" "right_needs" (defArgs s_right_needs) (defBody s_right_needs) (defScope s_right_needs) .none kV doc pm an cdv ct) ⟨us, []⟩ = pure ((["term"] : List Str).zip us) := by
  obtain ⟨_, rfl⟩ := len_1 h
  rfl
theorem bd_is_sum {kV doc pm : Value} {an : Option Addr} {cdv ct : Value} {us : List Value} (h : us.length = 1) : bindArgs (PySem.W.fnOf "is_sum" "is_sum" (defArgs s_is_sum) (defBody s_is_sum) (defScope s_is_sum) .none kV doc pm an cdv ct) ⟨us, []⟩ = pure ((["term"] : List Str).zip us) := by
  obtain ⟨_, rfl⟩ := len_1 h
  rfl
theorem bd_l_cell_at {kV doc pm : Value} {an : Option Addr} {cdv ct : Value} {us : List Value} (h : us.length = 2) : bindArgs (PySem.W.fnOf "_law_cell_at" "_law_cell_at" (defArgs s_l_cell_at) (defBody s_l_cell_at) (defScope s_l_cell_at) .none kV doc pm an cdv ct) ⟨us, []⟩ = pure ((["_law_script", "_law_k"] : List Str).zip us) := by
  obtain ⟨_, _, rfl⟩ := len_2 h
  rfl
theorem bd_l_stream {kV doc pm : Value} {an : Option Addr} {cdv ct : Value} {us : List Value} (h : us.length = 2) : bindArgs (PySem.W.fnOf "_law_stream" "_law_stream" (defArgs s_l_stream) (defBody s_l_stream) (defScope s_l_stream) .none kV doc pm an cdv ct) ⟨us, []⟩ = pure ((["_law_cell_here", "_law_many"] : List Str).zip us) := by
  obtain ⟨_, _, rfl⟩ := len_2 h
  rfl
theorem bd_l_names {kV doc pm : Value} {an : Option Addr} {cdv ct : Value} {us : List Value} (h : us.length = 2) : bindArgs (PySem.W.fnOf "_law_names" "_law_names" (defArgs s_l_names) (defBody s_l_names) (defScope s_l_names) .none kV doc pm an cdv ct) ⟨us, []⟩ = pure ((["_law_cell_here", "_law_many"] : List Str).zip us) := by
  obtain ⟨_, _, rfl⟩ := len_2 h
  rfl
theorem bd_l_number {kV doc pm : Value} {an : Option Addr} {cdv ct : Value} {us : List Value} (h : us.length = 2) : bindArgs (PySem.W.fnOf "_law_number" "_law_number" (defArgs s_l_number) (defBody s_l_number) (defScope s_l_number) .none kV doc pm an cdv ct) ⟨us, []⟩ = pure ((["_law_cell_here", "_law_far"] : List Str).zip us) := by
  obtain ⟨_, _, rfl⟩ := len_2 h
  rfl
theorem bd_l_spot_text {kV doc pm : Value} {an : Option Addr} {cdv ct : Value} {us : List Value} (h : us.length = 1) : bindArgs (PySem.W.fnOf "_law_spot_text" "_law_spot_text" (defArgs s_l_spot_text) (defBody s_l_spot_text) (defScope s_l_spot_text) .none kV doc pm an cdv ct) ⟨us, []⟩ = pure ((["_law_spot_here"] : List Str).zip us) := by
  obtain ⟨_, rfl⟩ := len_1 h
  rfl
theorem bd_l_spot {kV doc pm : Value} {an : Option Addr} {cdv ct : Value} {us : List Value} (h : us.length = 3) : bindArgs (PySem.W.fnOf "_law_spot" "_law_spot" (defArgs s_l_spot) (defBody s_l_spot) (defScope s_l_spot) .none kV doc pm an cdv ct) ⟨us, []⟩ = pure ((["_law_one", "_law_other", "_law_known"] : List Str).zip us) := by
  obtain ⟨_, _, _, rfl⟩ := len_3 h
  rfl
theorem bd_l_cell {kV doc pm : Value} {an : Option Addr} {cdv ct : Value} {us : List Value} (h : us.length = 3) : bindArgs (PySem.W.fnOf "_law_cell" "_law_cell" (defArgs s_l_cell) (defBody s_l_cell) (defScope s_l_cell) .none kV doc pm an cdv ct) ⟨us, []⟩ = pure ((["_law_xs", "_law_known", "_law_names_here"] : List Str).zip us) := by
  obtain ⟨_, _, _, rfl⟩ := len_3 h
  rfl
theorem bd_l_leaf {kV doc pm : Value} {an : Option Addr} {cdv ct : Value} {us : List Value} (h : us.length = 3) : bindArgs (PySem.W.fnOf "_law_leaf" "_law_leaf" (defArgs s_l_leaf) (defBody s_l_leaf) (defScope s_l_leaf) .none kV doc pm an cdv ct) ⟨us, []⟩ = pure ((["_law_cell_here", "_law_known", "_law_names_here"] : List Str).zip us) := by
  obtain ⟨_, _, _, rfl⟩ := len_3 h
  rfl
theorem bd_l_both {kV doc pm : Value} {an : Option Addr} {cdv ct : Value} {us : List Value} (h : us.length = 3) : bindArgs (PySem.W.fnOf "_law_both" "_law_both" (defArgs s_l_both) (defBody s_l_both) (defScope s_l_both) .none kV doc pm an cdv ct) ⟨us, []⟩ = pure ((["_law_sign", "_law_left", "_law_right"] : List Str).zip us) := by
  obtain ⟨_, _, _, rfl⟩ := len_3 h
  rfl
theorem bd_l_term {kV doc pm : Value} {an : Option Addr} {cdv ct : Value} {us : List Value} (h : us.length = 3) : bindArgs (PySem.W.fnOf "_law_term" "_law_term" (defArgs s_l_term) (defBody s_l_term) (defScope s_l_term) .none kV doc pm an cdv ct) ⟨us, []⟩ = pure ((["_law_cell_here", "_law_known", "_law_names_here"] : List Str).zip us) := by
  obtain ⟨_, _, _, rfl⟩ := len_3 h
  rfl
theorem bd_l_loop {kV doc pm : Value} {an : Option Addr} {cdv ct : Value} {us : List Value} (h : us.length = 4) : bindArgs (PySem.W.fnOf "_law_loop" "_law_loop" (defArgs s_l_loop) (defBody s_l_loop) (defScope s_l_loop) .none kV doc pm an cdv ct) ⟨us, []⟩ = pure ((["_law_cell_here", "_law_names_here", "_law_opened", "_law_last"] : List Str).zip us) := by
  obtain ⟨_, _, _, _, rfl⟩ := len_4 h
  rfl
theorem bd_l_deed {kV doc pm : Value} {an : Option Addr} {cdv ct : Value} {us : List Value} (h : us.length = 4) : bindArgs (PySem.W.fnOf "_law_deed" "_law_deed" (defArgs s_l_deed) (defBody s_l_deed) (defScope s_l_deed) .none kV doc pm an cdv ct) ⟨us, []⟩ = pure ((["_law_cell_here", "_law_opened", "_law_path", "_law_names_here"] : List Str).zip us) := by
  obtain ⟨_, _, _, _, rfl⟩ := len_4 h
  rfl
theorem bd_l_program {kV doc pm : Value} {an : Option Addr} {cdv ct : Value} {us : List Value} (h : us.length = 2) : bindArgs (PySem.W.fnOf "_law_program" "_law_program" (defArgs s_l_program) (defBody s_l_program) (defScope s_l_program) .none kV doc pm an cdv ct) ⟨us, []⟩ = pure ((["_law_cells", "_law_names_here"] : List Str).zip us) := by
  obtain ⟨_, _, rfl⟩ := len_2 h
  rfl
theorem bd_l_plain {kV doc pm : Value} {an : Option Addr} {cdv ct : Value} {us : List Value} (h : us.length = 2) : bindArgs (PySem.W.fnOf "_law_plain" "_law_plain" (defArgs s_l_plain) (defBody s_l_plain) (defScope s_l_plain) .none kV doc pm an cdv ct) ⟨us, []⟩ = pure ((["_law_rows", "_law_size"] : List Str).zip us) := by
  obtain ⟨_, _, rfl⟩ := len_2 h
  rfl
theorem bd_l_made {kV doc pm : Value} {an : Option Addr} {cdv ct : Value} {us : List Value} (h : us.length = 1) : bindArgs (PySem.W.fnOf "_law_made" "_law_made" (defArgs s_l_made) (defBody s_l_made) (defScope s_l_made) .none kV doc pm an cdv ct) ⟨us, []⟩ = pure ((["_law_shape"] : List Str).zip us) := by
  obtain ⟨_, rfl⟩ := len_1 h
  rfl
theorem bd_l_told {kV doc pm : Value} {an : Option Addr} {cdv ct : Value} {us : List Value} (h : us.length = 1) : bindArgs (PySem.W.fnOf "_law_told" "_law_told" (defArgs s_l_told) (defBody s_l_told) (defScope s_l_told) .none kV doc pm an cdv ct) ⟨us, []⟩ = pure ((["_law_row"] : List Str).zip us) := by
  obtain ⟨_, rfl⟩ := len_1 h
  rfl
theorem bd_law {kV doc pm : Value} {an : Option Addr} {cdv ct : Value} {us : List Value} (h : us.length = 1) : bindArgs (PySem.W.fnOf "law" "law" (defArgs s_law) (defBody s_law) (defScope s_law) .none kV doc pm an cdv ct) ⟨us, []⟩ = pure ((["_law_script"] : List Str).zip us) := by
  obtain ⟨_, rfl⟩ := len_1 h
  rfl
theorem txt_mk {K : PySem.W.Frag} {h : Heap} {mg : Str → Option Value} {fa : Addr} (X : K.In h) (G : h.Ns mainGlobals mg) (hfa : mg "law" = some (.ref fa))
    {C_Term : Addr} {C_Number : Addr} {C_Value : Addr} {C_Cell : Addr} {C_Joined : Addr} {C_Deed : Addr} {C_Program : Addr} {f1 : Addr} {od1 an1 : Option Addr} {sl1 : Array (Option Value)} {oc1 kV1 dc1 pm1 cd1 ct1 : Value} {f2 : Addr} {od2 an2 : Option Addr} {sl2 : Array (Option Value)} {oc2 kV2 dc2 pm2 cd2 ct2 : Value} {f3 : Addr} {od3 an3 : Option Addr} {sl3 : Array (Option Value)} {oc3 kV3 dc3 pm3 cd3 ct3 : Value} {f4 : Addr} {od4 an4 : Option Addr} {sl4 : Array (Option Value)} {oc4 kV4 dc4 pm4 cd4 ct4 : Value} {f5 : Addr} {od5 an5 : Option Addr} {sl5 : Array (Option Value)} {oc5 kV5 dc5 pm5 cd5 ct5 : Value} {f6 : Addr} {od6 an6 : Option Addr} {sl6 : Array (Option Value)} {oc6 kV6 dc6 pm6 cd6 ct6 : Value} {f7 : Addr} {od7 an7 : Option Addr} {sl7 : Array (Option Value)} {oc7 kV7 dc7 pm7 cd7 ct7 : Value} {f8 : Addr} {od8 an8 : Option Addr} {sl8 : Array (Option Value)} {oc8 kV8 dc8 pm8 cd8 ct8 : Value} {f9 : Addr} {od9 an9 : Option Addr} {sl9 : Array (Option Value)} {oc9 kV9 dc9 pm9 cd9 ct9 : Value} {f10 : Addr} {od10 an10 : Option Addr} {sl10 : Array (Option Value)} {oc10 kV10 dc10 pm10 cd10 ct10 : Value} {f11 : Addr} {od11 an11 : Option Addr} {sl11 : Array (Option Value)} {oc11 kV11 dc11 pm11 cd11 ct11 : Value} {f12 : Addr} {od12 an12 : Option Addr} {sl12 : Array (Option Value)} {oc12 kV12 dc12 pm12 cd12 ct12 : Value} {f13 : Addr} {od13 an13 : Option Addr} {sl13 : Array (Option Value)} {oc13 kV13 dc13 pm13 cd13 ct13 : Value} {f14 : Addr} {od14 an14 : Option Addr} {sl14 : Array (Option Value)} {oc14 kV14 dc14 pm14 cd14 ct14 : Value} {f15 : Addr} {od15 an15 : Option Addr} {sl15 : Array (Option Value)} {oc15 kV15 dc15 pm15 cd15 ct15 : Value} {f16 : Addr} {od16 an16 : Option Addr} {sl16 : Array (Option Value)} {oc16 kV16 dc16 pm16 cd16 ct16 : Value} {f17 : Addr} {od17 an17 : Option Addr} {sl17 : Array (Option Value)} {oc17 kV17 dc17 pm17 cd17 ct17 : Value} {f18 : Addr} {od18 an18 : Option Addr} {sl18 : Array (Option Value)} {oc18 kV18 dc18 pm18 cd18 ct18 : Value} {f19 : Addr} {od19 an19 : Option Addr} {sl19 : Array (Option Value)} {oc19 kV19 dc19 pm19 cd19 ct19 : Value} {f20 : Addr} {od20 an20 : Option Addr} {sl20 : Array (Option Value)} {oc20 kV20 dc20 pm20 cd20 ct20 : Value} {f21 : Addr} {od21 an21 : Option Addr} {sl21 : Array (Option Value)} {oc21 kV21 dc21 pm21 cd21 ct21 : Value} {f22 : Addr} {od22 an22 : Option Addr} {sl22 : Array (Option Value)} {oc22 kV22 dc22 pm22 cd22 ct22 : Value} {f23 : Addr} {od23 an23 : Option Addr} {sl23 : Array (Option Value)} {oc23 kV23 dc23 pm23 cd23 ct23 : Value} {f24 : Addr} {od24 an24 : Option Addr} {sl24 : Array (Option Value)} {oc24 kV24 dc24 pm24 cd24 ct24 : Value} {f25 : Addr} {od25 an25 : Option Addr} {sl25 : Array (Option Value)} {oc25 kV25 dc25 pm25 cd25 ct25 : Value} {f26 : Addr} {od26 an26 : Option Addr} {sl26 : Array (Option Value)} {oc26 kV26 dc26 pm26 cd26 ct26 : Value} {f27 : Addr} {od27 an27 : Option Addr} {sl27 : Array (Option Value)} {oc27 kV27 dc27 pm27 cd27 ct27 : Value} {f28 : Addr} {od28 an28 : Option Addr} {sl28 : Array (Option Value)} {oc28 kV28 dc28 pm28 cd28 ct28 : Value} {f29 : Addr} {od29 an29 : Option Addr} {sl29 : Array (Option Value)} {oc29 kV29 dc29 pm29 cd29 ct29 : Value} {f30 : Addr} {od30 an30 : Option Addr} {sl30 : Array (Option Value)} {oc30 kV30 dc30 pm30 cd30 ct30 : Value} {f31 : Addr} {od31 an31 : Option Addr} {sl31 : Array (Option Value)} {oc31 kV31 dc31 pm31 cd31 ct31 : Value} {f32 : Addr} {od32 an32 : Option Addr} {sl32 : Array (Option Value)} {oc32 kV32 dc32 pm32 cd32 ct32 : Value} {f33 : Addr} {od33 an33 : Option Addr} {sl33 : Array (Option Value)} {oc33 kV33 dc33 pm33 cd33 ct33 : Value} {f34 : Addr} {od34 an34 : Option Addr} {sl34 : Array (Option Value)} {oc34 kV34 dc34 pm34 cd34 ct34 : Value} {f35 : Addr} {od35 an35 : Option Addr} {sl35 : Array (Option Value)} {oc35 kV35 dc35 pm35 cd35 ct35 : Value} {f36 : Addr} {od36 an36 : Option Addr} {sl36 : Array (Option Value)} {oc36 kV36 dc36 pm36 cd36 ct36 : Value} {f37 : Addr} {od37 an37 : Option Addr} {sl37 : Array (Option Value)} {oc37 kV37 dc37 pm37 cd37 ct37 : Value}
    (a_Term : PySem.W.nsIn K mainGlobals "Term" = some (some (.ref C_Term)))
    (a_Number : PySem.W.nsIn K mainGlobals "Number" = some (some (.ref C_Number)))
    (a_Value : PySem.W.nsIn K mainGlobals "Value" = some (some (.ref C_Value)))
    (a_Cell : PySem.W.nsIn K mainGlobals "Cell" = some (some (.ref C_Cell)))
    (a_Joined : PySem.W.nsIn K mainGlobals "Joined" = some (some (.ref C_Joined)))
    (a_Deed : PySem.W.nsIn K mainGlobals "Deed" = some (some (.ref C_Deed)))
    (a_Program : PySem.W.nsIn K mainGlobals "Program" = some (some (.ref C_Program)))
    (a1 : PySem.W.findIn K (.ref C_Number) "__init__" = some (some (.ref f1))) (i1 : PySem.W.isFn K (.ref f1) = true)
    (l1 : K.lookup f1 = some ⟨oc1, od1, .func (PySem.W.fnOf "__init__" "Number.__init__" (defArgs s_Number_init) (defBody s_Number_init) (defScope s_Number_init) .none kV1 dc1 pm1 an1 cd1 ct1), sl1⟩) (c1 : PySem.W.codeIn K cd1 "Number.__init__" = true) (k1 : PySem.W.keepIn K (.ref f1) = true)
    (a2 : PySem.W.findIn K (.ref C_Value) "__init__" = some (some (.ref f2))) (i2 : PySem.W.isFn K (.ref f2) = true)
    (l2 : K.lookup f2 = some ⟨oc2, od2, .func (PySem.W.fnOf "__init__" "Value.__init__" (defArgs s_Value_init) (defBody s_Value_init) (defScope s_Value_init) .none kV2 dc2 pm2 an2 cd2 ct2), sl2⟩) (c2 : PySem.W.codeIn K cd2 "Value.__init__" = true) (k2 : PySem.W.keepIn K (.ref f2) = true)
    (a3 : PySem.W.findIn K (.ref C_Cell) "__init__" = some (some (.ref f3))) (i3 : PySem.W.isFn K (.ref f3) = true)
    (l3 : K.lookup f3 = some ⟨oc3, od3, .func (PySem.W.fnOf "__init__" "Cell.__init__" (defArgs s_Cell_init) (defBody s_Cell_init) (defScope s_Cell_init) .none kV3 dc3 pm3 an3 cd3 ct3), sl3⟩) (c3 : PySem.W.codeIn K cd3 "Cell.__init__" = true) (k3 : PySem.W.keepIn K (.ref f3) = true)
    (a4 : PySem.W.findIn K (.ref C_Joined) "__init__" = some (some (.ref f4))) (i4 : PySem.W.isFn K (.ref f4) = true)
    (l4 : K.lookup f4 = some ⟨oc4, od4, .func (PySem.W.fnOf "__init__" "Joined.__init__" (defArgs s_Joined_init) (defBody s_Joined_init) (defScope s_Joined_init) .none kV4 dc4 pm4 an4 cd4 ct4), sl4⟩) (c4 : PySem.W.codeIn K cd4 "Joined.__init__" = true) (k4 : PySem.W.keepIn K (.ref f4) = true)
    (a5 : PySem.W.findIn K (.ref C_Deed) "__init__" = some (some (.ref f5))) (i5 : PySem.W.isFn K (.ref f5) = true)
    (l5 : K.lookup f5 = some ⟨oc5, od5, .func (PySem.W.fnOf "__init__" "Deed.__init__" (defArgs s_Deed_init) (defBody s_Deed_init) (defScope s_Deed_init) .none kV5 dc5 pm5 an5 cd5 ct5), sl5⟩) (c5 : PySem.W.codeIn K cd5 "Deed.__init__" = true) (k5 : PySem.W.keepIn K (.ref f5) = true)
    (a6 : PySem.W.findIn K (.ref C_Program) "__init__" = some (some (.ref f6))) (i6 : PySem.W.isFn K (.ref f6) = true)
    (l6 : K.lookup f6 = some ⟨oc6, od6, .func (PySem.W.fnOf "__init__" "Program.__init__" (defArgs s_Program_init) (defBody s_Program_init) (defScope s_Program_init) .none kV6 dc6 pm6 an6 cd6 ct6), sl6⟩) (c6 : PySem.W.codeIn K cd6 "Program.__init__" = true) (k6 : PySem.W.keepIn K (.ref f6) = true)
    (a7 : PySem.W.nsIn K mainGlobals "nested" = some (some (.ref f7)))
    (l7 : K.lookup f7 = some ⟨oc7, od7, .func (PySem.W.fnOf "nested" "nested" (defArgs s_nested) (defBody s_nested) (defScope s_nested) .none kV7 dc7 pm7 an7 cd7 ct7), sl7⟩) (c7 : PySem.W.codeIn K cd7 "nested" = true) (k7 : PySem.W.keepIn K (.ref f7) = true)
    (a8 : PySem.W.nsIn K mainGlobals "items_within" = some (some (.ref f8)))
    (l8 : K.lookup f8 = some ⟨oc8, od8, .func (PySem.W.fnOf "items_within" "items_within" (defArgs s_items_within) (defBody s_items_within) (defScope s_items_within) .none kV8 dc8 pm8 an8 cd8 ct8), sl8⟩) (c8 : PySem.W.codeIn K cd8 "items_within" = true) (k8 : PySem.W.keepIn K (.ref f8) = true)
    (a9 : PySem.W.nsIn K mainGlobals "neighbours" = some (some (.ref f9)))
    (l9 : K.lookup f9 = some ⟨oc9, od9, .func (PySem.W.fnOf "neighbours" "neighbours" (defArgs s_neighbours) (defBody s_neighbours) (defScope s_neighbours) .none kV9 dc9 pm9 an9 cd9 ct9), sl9⟩) (c9 : PySem.W.codeIn K cd9 "neighbours" = true) (k9 : PySem.W.keepIn K (.ref f9) = true)
    (a10 : PySem.W.nsIn K mainGlobals "written" = some (some (.ref f10)))
    (l10 : K.lookup f10 = some ⟨oc10, od10, .func (PySem.W.fnOf "written" "written" (defArgs s_written) (defBody s_written) (defScope s_written) .none kV10 dc10 pm10 an10 cd10 ct10), sl10⟩) (c10 : PySem.W.codeIn K cd10 "written" = true) (k10 : PySem.W.keepIn K (.ref f10) = true)
    (a11 : PySem.W.nsIn K mainGlobals "written_items" = some (some (.ref f11)))
    (l11 : K.lookup f11 = some ⟨oc11, od11, .func (PySem.W.fnOf "written_items" "written_items" (defArgs s_written_items) (defBody s_written_items) (defScope s_written_items) .none kV11 dc11 pm11 an11 cd11 ct11), sl11⟩) (c11 : PySem.W.codeIn K cd11 "written_items" = true) (k11 : PySem.W.keepIn K (.ref f11) = true)
    (a12 : PySem.W.nsIn K mainGlobals "written_loop" = some (some (.ref f12)))
    (l12 : K.lookup f12 = some ⟨oc12, od12, .func (PySem.W.fnOf "written_loop" "written_loop" (defArgs s_written_loop) (defBody s_written_loop) (defScope s_written_loop) .none kV12 dc12 pm12 an12 cd12 ct12), sl12⟩) (c12 : PySem.W.codeIn K cd12 "written_loop" = true) (k12 : PySem.W.keepIn K (.ref f12) = true)
    (a13 : PySem.W.nsIn K mainGlobals "written_deed" = some (some (.ref f13)))
    (l13 : K.lookup f13 = some ⟨oc13, od13, .func (PySem.W.fnOf "written_deed" "written_deed" (defArgs s_written_deed) (defBody s_written_deed) (defScope s_written_deed) .none kV13 dc13 pm13 an13 cd13 ct13), sl13⟩) (c13 : PySem.W.codeIn K cd13 "written_deed" = true) (k13 : PySem.W.keepIn K (.ref f13) = true)
    (a14 : PySem.W.nsIn K mainGlobals "written_cell" = some (some (.ref f14)))
    (l14 : K.lookup f14 = some ⟨oc14, od14, .func (PySem.W.fnOf "written_cell" "written_cell" (defArgs s_written_cell) (defBody s_written_cell) (defScope s_written_cell) .none kV14 dc14 pm14 an14 cd14 ct14), sl14⟩) (c14 : PySem.W.codeIn K cd14 "written_cell" = true) (k14 : PySem.W.keepIn K (.ref f14) = true)
    (a15 : PySem.W.nsIn K mainGlobals "written_spot" = some (some (.ref f15)))
    (l15 : K.lookup f15 = some ⟨oc15, od15, .func (PySem.W.fnOf "written_spot" "written_spot" (defArgs s_written_spot) (defBody s_written_spot) (defScope s_written_spot) .none kV15 dc15 pm15 an15 cd15 ct15), sl15⟩) (c15 : PySem.W.codeIn K cd15 "written_spot" = true) (k15 : PySem.W.keepIn K (.ref f15) = true)
    (a16 : PySem.W.nsIn K mainGlobals "written_term" = some (some (.ref f16)))
    (l16 : K.lookup f16 = some ⟨oc16, od16, .func (PySem.W.fnOf "written_term" "written_term" (defArgs s_written_term) (defBody s_written_term) (defScope s_written_term) .none kV16 dc16 pm16 an16 cd16 ct16), sl16⟩) (c16 : PySem.W.codeIn K cd16 "written_term" = true) (k16 : PySem.W.keepIn K (.ref f16) = true)
    (a17 : PySem.W.nsIn K mainGlobals "bracketed" = some (some (.ref f17)))
    (l17 : K.lookup f17 = some ⟨oc17, od17, .func (PySem.W.fnOf "bracketed" "bracketed" (defArgs s_bracketed) (defBody s_bracketed) (defScope s_bracketed) .none kV17 dc17 pm17 an17 cd17 ct17), sl17⟩) (c17 : PySem.W.codeIn K cd17 "bracketed" = true) (k17 : PySem.W.keepIn K (.ref f17) = true)
    (a18 : PySem.W.nsIn K mainGlobals "left_needs" = some (some (.ref f18)))
    (l18 : K.lookup f18 = some ⟨oc18, od18, .func (PySem.W.fnOf "left_needs" "left_needs" (defArgs s_left_needs) (defBody s_left_needs) (defScope s_left_needs) .none kV18 dc18 pm18 an18 cd18 ct18), sl18⟩) (c18 : PySem.W.codeIn K cd18 "left_needs" = true) (k18 : PySem.W.keepIn K (.ref f18) = true)
    (a19 : PySem.W.nsIn K mainGlobals "right_needs" = some (some (.ref f19)))
    (l19 : K.lookup f19 = some ⟨oc19, od19, .func (PySem.W.fnOf "right_needs" "right_needs" (defArgs s_right_needs) (defBody s_right_needs) (defScope s_right_needs) .none kV19 dc19 pm19 an19 cd19 ct19), sl19⟩) (c19 : PySem.W.codeIn K cd19 "right_needs" = true) (k19 : PySem.W.keepIn K (.ref f19) = true)
    (a20 : PySem.W.nsIn K mainGlobals "is_sum" = some (some (.ref f20)))
    (l20 : K.lookup f20 = some ⟨oc20, od20, .func (PySem.W.fnOf "is_sum" "is_sum" (defArgs s_is_sum) (defBody s_is_sum) (defScope s_is_sum) .none kV20 dc20 pm20 an20 cd20 ct20), sl20⟩) (c20 : PySem.W.codeIn K cd20 "is_sum" = true) (k20 : PySem.W.keepIn K (.ref f20) = true)
    (a21 : PySem.W.nsIn K mainGlobals "_law_cell_at" = some (some (.ref f21)))
    (l21 : K.lookup f21 = some ⟨oc21, od21, .func (PySem.W.fnOf "_law_cell_at" "_law_cell_at" (defArgs s_l_cell_at) (defBody s_l_cell_at) (defScope s_l_cell_at) .none kV21 dc21 pm21 an21 cd21 ct21), sl21⟩) (c21 : PySem.W.codeIn K cd21 "_law_cell_at" = true) (k21 : PySem.W.keepIn K (.ref f21) = true)
    (a22 : PySem.W.nsIn K mainGlobals "_law_stream" = some (some (.ref f22)))
    (l22 : K.lookup f22 = some ⟨oc22, od22, .func (PySem.W.fnOf "_law_stream" "_law_stream" (defArgs s_l_stream) (defBody s_l_stream) (defScope s_l_stream) .none kV22 dc22 pm22 an22 cd22 ct22), sl22⟩) (c22 : PySem.W.codeIn K cd22 "_law_stream" = true) (k22 : PySem.W.keepIn K (.ref f22) = true)
    (a23 : PySem.W.nsIn K mainGlobals "_law_names" = some (some (.ref f23)))
    (l23 : K.lookup f23 = some ⟨oc23, od23, .func (PySem.W.fnOf "_law_names" "_law_names" (defArgs s_l_names) (defBody s_l_names) (defScope s_l_names) .none kV23 dc23 pm23 an23 cd23 ct23), sl23⟩) (c23 : PySem.W.codeIn K cd23 "_law_names" = true) (k23 : PySem.W.keepIn K (.ref f23) = true)
    (a24 : PySem.W.nsIn K mainGlobals "_law_number" = some (some (.ref f24)))
    (l24 : K.lookup f24 = some ⟨oc24, od24, .func (PySem.W.fnOf "_law_number" "_law_number" (defArgs s_l_number) (defBody s_l_number) (defScope s_l_number) .none kV24 dc24 pm24 an24 cd24 ct24), sl24⟩) (c24 : PySem.W.codeIn K cd24 "_law_number" = true) (k24 : PySem.W.keepIn K (.ref f24) = true)
    (a25 : PySem.W.nsIn K mainGlobals "_law_spot_text" = some (some (.ref f25)))
    (l25 : K.lookup f25 = some ⟨oc25, od25, .func (PySem.W.fnOf "_law_spot_text" "_law_spot_text" (defArgs s_l_spot_text) (defBody s_l_spot_text) (defScope s_l_spot_text) .none kV25 dc25 pm25 an25 cd25 ct25), sl25⟩) (c25 : PySem.W.codeIn K cd25 "_law_spot_text" = true) (k25 : PySem.W.keepIn K (.ref f25) = true)
    (a26 : PySem.W.nsIn K mainGlobals "_law_spot" = some (some (.ref f26)))
    (l26 : K.lookup f26 = some ⟨oc26, od26, .func (PySem.W.fnOf "_law_spot" "_law_spot" (defArgs s_l_spot) (defBody s_l_spot) (defScope s_l_spot) .none kV26 dc26 pm26 an26 cd26 ct26), sl26⟩) (c26 : PySem.W.codeIn K cd26 "_law_spot" = true) (k26 : PySem.W.keepIn K (.ref f26) = true)
    (a27 : PySem.W.nsIn K mainGlobals "_law_cell" = some (some (.ref f27)))
    (l27 : K.lookup f27 = some ⟨oc27, od27, .func (PySem.W.fnOf "_law_cell" "_law_cell" (defArgs s_l_cell) (defBody s_l_cell) (defScope s_l_cell) .none kV27 dc27 pm27 an27 cd27 ct27), sl27⟩) (c27 : PySem.W.codeIn K cd27 "_law_cell" = true) (k27 : PySem.W.keepIn K (.ref f27) = true)
    (a28 : PySem.W.nsIn K mainGlobals "_law_leaf" = some (some (.ref f28)))
    (l28 : K.lookup f28 = some ⟨oc28, od28, .func (PySem.W.fnOf "_law_leaf" "_law_leaf" (defArgs s_l_leaf) (defBody s_l_leaf) (defScope s_l_leaf) .none kV28 dc28 pm28 an28 cd28 ct28), sl28⟩) (c28 : PySem.W.codeIn K cd28 "_law_leaf" = true) (k28 : PySem.W.keepIn K (.ref f28) = true)
    (a29 : PySem.W.nsIn K mainGlobals "_law_both" = some (some (.ref f29)))
    (l29 : K.lookup f29 = some ⟨oc29, od29, .func (PySem.W.fnOf "_law_both" "_law_both" (defArgs s_l_both) (defBody s_l_both) (defScope s_l_both) .none kV29 dc29 pm29 an29 cd29 ct29), sl29⟩) (c29 : PySem.W.codeIn K cd29 "_law_both" = true) (k29 : PySem.W.keepIn K (.ref f29) = true)
    (a30 : PySem.W.nsIn K mainGlobals "_law_term" = some (some (.ref f30)))
    (l30 : K.lookup f30 = some ⟨oc30, od30, .func (PySem.W.fnOf "_law_term" "_law_term" (defArgs s_l_term) (defBody s_l_term) (defScope s_l_term) .none kV30 dc30 pm30 an30 cd30 ct30), sl30⟩) (c30 : PySem.W.codeIn K cd30 "_law_term" = true) (k30 : PySem.W.keepIn K (.ref f30) = true)
    (a31 : PySem.W.nsIn K mainGlobals "_law_loop" = some (some (.ref f31)))
    (l31 : K.lookup f31 = some ⟨oc31, od31, .func (PySem.W.fnOf "_law_loop" "_law_loop" (defArgs s_l_loop) (defBody s_l_loop) (defScope s_l_loop) .none kV31 dc31 pm31 an31 cd31 ct31), sl31⟩) (c31 : PySem.W.codeIn K cd31 "_law_loop" = true) (k31 : PySem.W.keepIn K (.ref f31) = true)
    (a32 : PySem.W.nsIn K mainGlobals "_law_deed" = some (some (.ref f32)))
    (l32 : K.lookup f32 = some ⟨oc32, od32, .func (PySem.W.fnOf "_law_deed" "_law_deed" (defArgs s_l_deed) (defBody s_l_deed) (defScope s_l_deed) .none kV32 dc32 pm32 an32 cd32 ct32), sl32⟩) (c32 : PySem.W.codeIn K cd32 "_law_deed" = true) (k32 : PySem.W.keepIn K (.ref f32) = true)
    (a33 : PySem.W.nsIn K mainGlobals "_law_program" = some (some (.ref f33)))
    (l33 : K.lookup f33 = some ⟨oc33, od33, .func (PySem.W.fnOf "_law_program" "_law_program" (defArgs s_l_program) (defBody s_l_program) (defScope s_l_program) .none kV33 dc33 pm33 an33 cd33 ct33), sl33⟩) (c33 : PySem.W.codeIn K cd33 "_law_program" = true) (k33 : PySem.W.keepIn K (.ref f33) = true)
    (a34 : PySem.W.nsIn K mainGlobals "_law_plain" = some (some (.ref f34)))
    (l34 : K.lookup f34 = some ⟨oc34, od34, .func (PySem.W.fnOf "_law_plain" "_law_plain" (defArgs s_l_plain) (defBody s_l_plain) (defScope s_l_plain) .none kV34 dc34 pm34 an34 cd34 ct34), sl34⟩) (c34 : PySem.W.codeIn K cd34 "_law_plain" = true) (k34 : PySem.W.keepIn K (.ref f34) = true)
    (a35 : PySem.W.nsIn K mainGlobals "_law_made" = some (some (.ref f35)))
    (l35 : K.lookup f35 = some ⟨oc35, od35, .func (PySem.W.fnOf "_law_made" "_law_made" (defArgs s_l_made) (defBody s_l_made) (defScope s_l_made) .none kV35 dc35 pm35 an35 cd35 ct35), sl35⟩) (c35 : PySem.W.codeIn K cd35 "_law_made" = true) (k35 : PySem.W.keepIn K (.ref f35) = true)
    (a36 : PySem.W.nsIn K mainGlobals "_law_told" = some (some (.ref f36)))
    (l36 : K.lookup f36 = some ⟨oc36, od36, .func (PySem.W.fnOf "_law_told" "_law_told" (defArgs s_l_told) (defBody s_l_told) (defScope s_l_told) .none kV36 dc36 pm36 an36 cd36 ct36), sl36⟩) (c36 : PySem.W.codeIn K cd36 "_law_told" = true) (k36 : PySem.W.keepIn K (.ref f36) = true)
    (a37 : PySem.W.nsIn K mainGlobals "law" = some (some (.ref f37)))
    (l37 : K.lookup f37 = some ⟨oc37, od37, .func (PySem.W.fnOf "law" "law" (defArgs s_law) (defBody s_law) (defScope s_law) .none kV37 dc37 pm37 an37 cd37 ct37), sl37⟩) (c37 : PySem.W.codeIn K cd37 "law" = true) (k37 : PySem.W.keepIn K (.ref f37) = true)
    (pg_Term : PySem.W.plainGet K C_Term Str.empty = true) (hd_Term : PySem.W.hasDictIn K C_Term = true) (po_Term : PySem.W.plainOver K C_Term = true) (sa_Term : PySem.W.findIn K (.ref C_Term) "__setattr__" = some (some (.builtin "object.__setattr__"))) (mk_Term : PySem.W.makesIn K C_Term = true) (kc_Term : PySem.W.keepIn K (.ref C_Term) = true)
    (pg_Number : PySem.W.plainGet K C_Number Str.empty = true) (hd_Number : PySem.W.hasDictIn K C_Number = true) (po_Number : PySem.W.plainOver K C_Number = true) (sa_Number : PySem.W.findIn K (.ref C_Number) "__setattr__" = some (some (.builtin "object.__setattr__"))) (mk_Number : PySem.W.makesIn K C_Number = true) (kc_Number : PySem.W.keepIn K (.ref C_Number) = true)
    (n_Number_n : PySem.W.findIn K (.ref C_Number) "n" = some none)
    (pg_Value : PySem.W.plainGet K C_Value Str.empty = true) (hd_Value : PySem.W.hasDictIn K C_Value = true) (po_Value : PySem.W.plainOver K C_Value = true) (sa_Value : PySem.W.findIn K (.ref C_Value) "__setattr__" = some (some (.builtin "object.__setattr__"))) (mk_Value : PySem.W.makesIn K C_Value = true) (kc_Value : PySem.W.keepIn K (.ref C_Value) = true)
    (n_Value_name : PySem.W.findIn K (.ref C_Value) "name" = some none)
    (pg_Cell : PySem.W.plainGet K C_Cell Str.empty = true) (hd_Cell : PySem.W.hasDictIn K C_Cell = true) (po_Cell : PySem.W.plainOver K C_Cell = true) (sa_Cell : PySem.W.findIn K (.ref C_Cell) "__setattr__" = some (some (.builtin "object.__setattr__"))) (mk_Cell : PySem.W.makesIn K C_Cell = true) (kc_Cell : PySem.W.keepIn K (.ref C_Cell) = true)
    (n_Cell_table : PySem.W.findIn K (.ref C_Cell) "table" = some none)
    (n_Cell_spots : PySem.W.findIn K (.ref C_Cell) "spots" = some none)
    (pg_Joined : PySem.W.plainGet K C_Joined Str.empty = true) (hd_Joined : PySem.W.hasDictIn K C_Joined = true) (po_Joined : PySem.W.plainOver K C_Joined = true) (sa_Joined : PySem.W.findIn K (.ref C_Joined) "__setattr__" = some (some (.builtin "object.__setattr__"))) (mk_Joined : PySem.W.makesIn K C_Joined = true) (kc_Joined : PySem.W.keepIn K (.ref C_Joined) = true)
    (n_Joined_sign : PySem.W.findIn K (.ref C_Joined) "sign" = some none)
    (n_Joined_left : PySem.W.findIn K (.ref C_Joined) "left" = some none)
    (n_Joined_right : PySem.W.findIn K (.ref C_Joined) "right" = some none)
    (pg_Deed : PySem.W.plainGet K C_Deed Str.empty = true) (hd_Deed : PySem.W.hasDictIn K C_Deed = true) (po_Deed : PySem.W.plainOver K C_Deed = true) (sa_Deed : PySem.W.findIn K (.ref C_Deed) "__setattr__" = some (some (.builtin "object.__setattr__"))) (mk_Deed : PySem.W.makesIn K C_Deed = true) (kc_Deed : PySem.W.keepIn K (.ref C_Deed) = true)
    (n_Deed_names : PySem.W.findIn K (.ref C_Deed) "names" = some none)
    (n_Deed_lows : PySem.W.findIn K (.ref C_Deed) "lows" = some none)
    (n_Deed_highs : PySem.W.findIn K (.ref C_Deed) "highs" = some none)
    (n_Deed_table : PySem.W.findIn K (.ref C_Deed) "table" = some none)
    (n_Deed_spots : PySem.W.findIn K (.ref C_Deed) "spots" = some none)
    (n_Deed_term : PySem.W.findIn K (.ref C_Deed) "term" = some none)
    (n_Deed_path : PySem.W.findIn K (.ref C_Deed) "path" = some none)
    (pg_Program : PySem.W.plainGet K C_Program Str.empty = true) (hd_Program : PySem.W.hasDictIn K C_Program = true) (po_Program : PySem.W.plainOver K C_Program = true) (sa_Program : PySem.W.findIn K (.ref C_Program) "__setattr__" = some (some (.builtin "object.__setattr__"))) (mk_Program : PySem.W.makesIn K C_Program = true) (kc_Program : PySem.W.keepIn K (.ref C_Program) = true)
    (n_Program_size : PySem.W.findIn K (.ref C_Program) "size" = some none)
    (n_Program_deeds : PySem.W.findIn K (.ref C_Program) "deeds" = some none)
    (hn0 : PySem.W.specialIn K (.builtin "object.__class__") "__get__" = some (some (.builtin "getset_descriptor.__get__"))) (ht0 : PySem.W.takesIn K (.builtin "object.__class__") = some true)
    (ha_Number : PySem.W.findIn K (.ref C_Number) "__class__" = some (some (.builtin "object.__class__"))) (hm_Number : PySem.W.mroIn K C_Number (.type "object") = some true)
    (is_Number_Term : PySem.W.kitOne K (.ref C_Number) (.ref C_Term) = some true)
    (is_Number_Number : PySem.W.kitOne K (.ref C_Number) (.ref C_Number) = some true)
    (is_Number_Value : PySem.W.kitOne K (.ref C_Number) (.ref C_Value) = some false)
    (is_Number_Cell : PySem.W.kitOne K (.ref C_Number) (.ref C_Cell) = some false)
    (is_Number_Joined : PySem.W.kitOne K (.ref C_Number) (.ref C_Joined) = some false)
    (is_Number_Deed : PySem.W.kitOne K (.ref C_Number) (.ref C_Deed) = some false)
    (is_Number_Program : PySem.W.kitOne K (.ref C_Number) (.ref C_Program) = some false)
    (ha_Value : PySem.W.findIn K (.ref C_Value) "__class__" = some (some (.builtin "object.__class__"))) (hm_Value : PySem.W.mroIn K C_Value (.type "object") = some true)
    (is_Value_Term : PySem.W.kitOne K (.ref C_Value) (.ref C_Term) = some true)
    (is_Value_Number : PySem.W.kitOne K (.ref C_Value) (.ref C_Number) = some false)
    (is_Value_Value : PySem.W.kitOne K (.ref C_Value) (.ref C_Value) = some true)
    (is_Value_Cell : PySem.W.kitOne K (.ref C_Value) (.ref C_Cell) = some false)
    (is_Value_Joined : PySem.W.kitOne K (.ref C_Value) (.ref C_Joined) = some false)
    (is_Value_Deed : PySem.W.kitOne K (.ref C_Value) (.ref C_Deed) = some false)
    (is_Value_Program : PySem.W.kitOne K (.ref C_Value) (.ref C_Program) = some false)
    (ha_Cell : PySem.W.findIn K (.ref C_Cell) "__class__" = some (some (.builtin "object.__class__"))) (hm_Cell : PySem.W.mroIn K C_Cell (.type "object") = some true)
    (is_Cell_Term : PySem.W.kitOne K (.ref C_Cell) (.ref C_Term) = some true)
    (is_Cell_Number : PySem.W.kitOne K (.ref C_Cell) (.ref C_Number) = some false)
    (is_Cell_Value : PySem.W.kitOne K (.ref C_Cell) (.ref C_Value) = some false)
    (is_Cell_Cell : PySem.W.kitOne K (.ref C_Cell) (.ref C_Cell) = some true)
    (is_Cell_Joined : PySem.W.kitOne K (.ref C_Cell) (.ref C_Joined) = some false)
    (is_Cell_Deed : PySem.W.kitOne K (.ref C_Cell) (.ref C_Deed) = some false)
    (is_Cell_Program : PySem.W.kitOne K (.ref C_Cell) (.ref C_Program) = some false)
    (ha_Joined : PySem.W.findIn K (.ref C_Joined) "__class__" = some (some (.builtin "object.__class__"))) (hm_Joined : PySem.W.mroIn K C_Joined (.type "object") = some true)
    (is_Joined_Term : PySem.W.kitOne K (.ref C_Joined) (.ref C_Term) = some true)
    (is_Joined_Number : PySem.W.kitOne K (.ref C_Joined) (.ref C_Number) = some false)
    (is_Joined_Value : PySem.W.kitOne K (.ref C_Joined) (.ref C_Value) = some false)
    (is_Joined_Cell : PySem.W.kitOne K (.ref C_Joined) (.ref C_Cell) = some false)
    (is_Joined_Joined : PySem.W.kitOne K (.ref C_Joined) (.ref C_Joined) = some true)
    (is_Joined_Deed : PySem.W.kitOne K (.ref C_Joined) (.ref C_Deed) = some false)
    (is_Joined_Program : PySem.W.kitOne K (.ref C_Joined) (.ref C_Program) = some false)
    (ha_Deed : PySem.W.findIn K (.ref C_Deed) "__class__" = some (some (.builtin "object.__class__"))) (hm_Deed : PySem.W.mroIn K C_Deed (.type "object") = some true)
    (is_Deed_Term : PySem.W.kitOne K (.ref C_Deed) (.ref C_Term) = some false)
    (is_Deed_Number : PySem.W.kitOne K (.ref C_Deed) (.ref C_Number) = some false)
    (is_Deed_Value : PySem.W.kitOne K (.ref C_Deed) (.ref C_Value) = some false)
    (is_Deed_Cell : PySem.W.kitOne K (.ref C_Deed) (.ref C_Cell) = some false)
    (is_Deed_Joined : PySem.W.kitOne K (.ref C_Deed) (.ref C_Joined) = some false)
    (is_Deed_Deed : PySem.W.kitOne K (.ref C_Deed) (.ref C_Deed) = some true)
    (is_Deed_Program : PySem.W.kitOne K (.ref C_Deed) (.ref C_Program) = some false)
    (ha_Program : PySem.W.findIn K (.ref C_Program) "__class__" = some (some (.builtin "object.__class__"))) (hm_Program : PySem.W.mroIn K C_Program (.type "object") = some true)
    (is_Program_Term : PySem.W.kitOne K (.ref C_Program) (.ref C_Term) = some false)
    (is_Program_Number : PySem.W.kitOne K (.ref C_Program) (.ref C_Number) = some false)
    (is_Program_Value : PySem.W.kitOne K (.ref C_Program) (.ref C_Value) = some false)
    (is_Program_Cell : PySem.W.kitOne K (.ref C_Program) (.ref C_Cell) = some false)
    (is_Program_Joined : PySem.W.kitOne K (.ref C_Program) (.ref C_Joined) = some false)
    (is_Program_Deed : PySem.W.kitOne K (.ref C_Program) (.ref C_Deed) = some false)
    (is_Program_Program : PySem.W.kitOne K (.ref C_Program) (.ref C_Program) = some true)
    (z_abs : PySem.W.nsIn K mainGlobals "abs" = some none)
    (z_int : PySem.W.nsIn K mainGlobals "int" = some none)
    (z_isinstance : PySem.W.nsIn K mainGlobals "isinstance" = some none)
    (z_len : PySem.W.nsIn K mainGlobals "len" = some none)
    (z_list : PySem.W.nsIn K mainGlobals "list" = some none)
    (z_range : PySem.W.nsIn K mainGlobals "range" = some none)
    (z_str : PySem.W.nsIn K mainGlobals "str" = some none)
    (z_tuple : PySem.W.nsIn K mainGlobals "tuple" = some none) :
    ∃ a : Ad, Tx K mg a ∧ fa = a.f_law ∧ (∀ (s : Shared) (v : Value), BindsTo s a.d_law ⟨[v], []⟩ [("_law_script", v)]) := by
  have e := hfa.symm.trans (PySem.W.mg_of X G a37)
  cases e
  exact ⟨⟨f1, PySem.W.fnOf "__init__" "Number.__init__" (defArgs s_Number_init) (defBody s_Number_init) (defScope s_Number_init) .none kV1 dc1 pm1 an1 cd1 ct1, f2, PySem.W.fnOf "__init__" "Value.__init__" (defArgs s_Value_init) (defBody s_Value_init) (defScope s_Value_init) .none kV2 dc2 pm2 an2 cd2 ct2, f3, PySem.W.fnOf "__init__" "Cell.__init__" (defArgs s_Cell_init) (defBody s_Cell_init) (defScope s_Cell_init) .none kV3 dc3 pm3 an3 cd3 ct3, f4, PySem.W.fnOf "__init__" "Joined.__init__" (defArgs s_Joined_init) (defBody s_Joined_init) (defScope s_Joined_init) .none kV4 dc4 pm4 an4 cd4 ct4, f5, PySem.W.fnOf "__init__" "Deed.__init__" (defArgs s_Deed_init) (defBody s_Deed_init) (defScope s_Deed_init) .none kV5 dc5 pm5 an5 cd5 ct5, f6, PySem.W.fnOf "__init__" "Program.__init__" (defArgs s_Program_init) (defBody s_Program_init) (defScope s_Program_init) .none kV6 dc6 pm6 an6 cd6 ct6, f7, PySem.W.fnOf "nested" "nested" (defArgs s_nested) (defBody s_nested) (defScope s_nested) .none kV7 dc7 pm7 an7 cd7 ct7, f8, PySem.W.fnOf "items_within" "items_within" (defArgs s_items_within) (defBody s_items_within) (defScope s_items_within) .none kV8 dc8 pm8 an8 cd8 ct8, f9, PySem.W.fnOf "neighbours" "neighbours" (defArgs s_neighbours) (defBody s_neighbours) (defScope s_neighbours) .none kV9 dc9 pm9 an9 cd9 ct9, f10, PySem.W.fnOf "written" "written" (defArgs s_written) (defBody s_written) (defScope s_written) .none kV10 dc10 pm10 an10 cd10 ct10, f11, PySem.W.fnOf "written_items" "written_items" (defArgs s_written_items) (defBody s_written_items) (defScope s_written_items) .none kV11 dc11 pm11 an11 cd11 ct11, f12, PySem.W.fnOf "written_loop" "written_loop" (defArgs s_written_loop) (defBody s_written_loop) (defScope s_written_loop) .none kV12 dc12 pm12 an12 cd12 ct12, f13, PySem.W.fnOf "written_deed" "written_deed" (defArgs s_written_deed) (defBody s_written_deed) (defScope s_written_deed) .none kV13 dc13 pm13 an13 cd13 ct13, f14, PySem.W.fnOf "written_cell" "written_cell" (defArgs s_written_cell) (defBody s_written_cell) (defScope s_written_cell) .none kV14 dc14 pm14 an14 cd14 ct14, f15, PySem.W.fnOf "written_spot" "written_spot" (defArgs s_written_spot) (defBody s_written_spot) (defScope s_written_spot) .none kV15 dc15 pm15 an15 cd15 ct15, f16, PySem.W.fnOf "written_term" "written_term" (defArgs s_written_term) (defBody s_written_term) (defScope s_written_term) .none kV16 dc16 pm16 an16 cd16 ct16, f17, PySem.W.fnOf "bracketed" "bracketed" (defArgs s_bracketed) (defBody s_bracketed) (defScope s_bracketed) .none kV17 dc17 pm17 an17 cd17 ct17, f18, PySem.W.fnOf "left_needs" "left_needs" (defArgs s_left_needs) (defBody s_left_needs) (defScope s_left_needs) .none kV18 dc18 pm18 an18 cd18 ct18, f19, PySem.W.fnOf "right_needs" "right_needs" (defArgs s_right_needs) (defBody s_right_needs) (defScope s_right_needs) .none kV19 dc19 pm19 an19 cd19 ct19, f20, PySem.W.fnOf "is_sum" "is_sum" (defArgs s_is_sum) (defBody s_is_sum) (defScope s_is_sum) .none kV20 dc20 pm20 an20 cd20 ct20, f21, PySem.W.fnOf "_law_cell_at" "_law_cell_at" (defArgs s_l_cell_at) (defBody s_l_cell_at) (defScope s_l_cell_at) .none kV21 dc21 pm21 an21 cd21 ct21, f22, PySem.W.fnOf "_law_stream" "_law_stream" (defArgs s_l_stream) (defBody s_l_stream) (defScope s_l_stream) .none kV22 dc22 pm22 an22 cd22 ct22, f23, PySem.W.fnOf "_law_names" "_law_names" (defArgs s_l_names) (defBody s_l_names) (defScope s_l_names) .none kV23 dc23 pm23 an23 cd23 ct23, f24, PySem.W.fnOf "_law_number" "_law_number" (defArgs s_l_number) (defBody s_l_number) (defScope s_l_number) .none kV24 dc24 pm24 an24 cd24 ct24, f25, PySem.W.fnOf "_law_spot_text" "_law_spot_text" (defArgs s_l_spot_text) (defBody s_l_spot_text) (defScope s_l_spot_text) .none kV25 dc25 pm25 an25 cd25 ct25, f26, PySem.W.fnOf "_law_spot" "_law_spot" (defArgs s_l_spot) (defBody s_l_spot) (defScope s_l_spot) .none kV26 dc26 pm26 an26 cd26 ct26, f27, PySem.W.fnOf "_law_cell" "_law_cell" (defArgs s_l_cell) (defBody s_l_cell) (defScope s_l_cell) .none kV27 dc27 pm27 an27 cd27 ct27, f28, PySem.W.fnOf "_law_leaf" "_law_leaf" (defArgs s_l_leaf) (defBody s_l_leaf) (defScope s_l_leaf) .none kV28 dc28 pm28 an28 cd28 ct28, f29, PySem.W.fnOf "_law_both" "_law_both" (defArgs s_l_both) (defBody s_l_both) (defScope s_l_both) .none kV29 dc29 pm29 an29 cd29 ct29, f30, PySem.W.fnOf "_law_term" "_law_term" (defArgs s_l_term) (defBody s_l_term) (defScope s_l_term) .none kV30 dc30 pm30 an30 cd30 ct30, f31, PySem.W.fnOf "_law_loop" "_law_loop" (defArgs s_l_loop) (defBody s_l_loop) (defScope s_l_loop) .none kV31 dc31 pm31 an31 cd31 ct31, f32, PySem.W.fnOf "_law_deed" "_law_deed" (defArgs s_l_deed) (defBody s_l_deed) (defScope s_l_deed) .none kV32 dc32 pm32 an32 cd32 ct32, f33, PySem.W.fnOf "_law_program" "_law_program" (defArgs s_l_program) (defBody s_l_program) (defScope s_l_program) .none kV33 dc33 pm33 an33 cd33 ct33, f34, PySem.W.fnOf "_law_plain" "_law_plain" (defArgs s_l_plain) (defBody s_l_plain) (defScope s_l_plain) .none kV34 dc34 pm34 an34 cd34 ct34, f35, PySem.W.fnOf "_law_made" "_law_made" (defArgs s_l_made) (defBody s_l_made) (defScope s_l_made) .none kV35 dc35 pm35 an35 cd35 ct35, f36, PySem.W.fnOf "_law_told" "_law_told" (defArgs s_l_told) (defBody s_l_told) (defScope s_l_told) .none kV36 dc36 pm36 an36 cd36 ct36, fa, PySem.W.fnOf "law" "law" (defArgs s_law) (defBody s_law) (defScope s_law) .none kV37 dc37 pm37 an37 cd37 ct37, C_Term, C_Number, C_Value, C_Cell, C_Joined, C_Deed, C_Program⟩, ⟨fun_mk (st := s_Number_init) l1 c1 k1, 
    (fun_mk (st := s_Number_init) l1 c1 k1).binds (ps := ["self", "n"]) (fun _ _ _ _ _ _ us hl => bd_Number_init hl), 
    fun_mk (st := s_Value_init) l2 c2 k2, 
    (fun_mk (st := s_Value_init) l2 c2 k2).binds (ps := ["self", "name"]) (fun _ _ _ _ _ _ us hl => bd_Value_init hl), 
    fun_mk (st := s_Cell_init) l3 c3 k3, 
    (fun_mk (st := s_Cell_init) l3 c3 k3).binds (ps := ["self", "table", "spots"]) (fun _ _ _ _ _ _ us hl => bd_Cell_init hl), 
    fun_mk (st := s_Joined_init) l4 c4 k4, 
    (fun_mk (st := s_Joined_init) l4 c4 k4).binds (ps := ["self", "sign", "left", "right"]) (fun _ _ _ _ _ _ us hl => bd_Joined_init hl), 
    fun_mk (st := s_Deed_init) l5 c5 k5, 
    (fun_mk (st := s_Deed_init) l5 c5 k5).binds (ps := ["self", "names", "lows", "highs", "table", "spots", "term", "path"]) (fun _ _ _ _ _ _ us hl => bd_Deed_init hl), 
    fun_mk (st := s_Program_init) l6 c6 k6, 
    (fun_mk (st := s_Program_init) l6 c6 k6).binds (ps := ["self", "size", "deeds"]) (fun _ _ _ _ _ _ us hl => bd_Program_init hl), 
    fun_mk (st := s_nested) l7 c7 k7, 
    (fun_mk (st := s_nested) l7 c7 k7).binds (ps := ["deeds"]) (fun _ _ _ _ _ _ us hl => bd_nested hl), 
    PySem.W.mg_of X G a7, 
    fun_mk (st := s_items_within) l8 c8 k8, 
    (fun_mk (st := s_items_within) l8 c8 k8).binds (ps := ["deeds", "numbers", "depth"]) (fun _ _ _ _ _ _ us hl => bd_items_within hl), 
    PySem.W.mg_of X G a8, 
    fun_mk (st := s_neighbours) l9 c9 k9, 
    (fun_mk (st := s_neighbours) l9 c9 k9).binds (ps := ["deeds", "numbers", "depth"]) (fun _ _ _ _ _ _ us hl => bd_neighbours hl), 
    PySem.W.mg_of X G a9, 
    fun_mk (st := s_written) l10 c10 k10, 
    (fun_mk (st := s_written) l10 c10 k10).binds (ps := ["program"]) (fun _ _ _ _ _ _ us hl => bd_written hl), 
    PySem.W.mg_of X G a10, 
    fun_mk (st := s_written_items) l11 c11 k11, 
    (fun_mk (st := s_written_items) l11 c11 k11).binds (ps := ["deeds", "items", "depth"]) (fun _ _ _ _ _ _ us hl => bd_written_items hl), 
    PySem.W.mg_of X G a11, 
    fun_mk (st := s_written_loop) l12 c12 k12, 
    (fun_mk (st := s_written_loop) l12 c12 k12).binds (ps := ["deed", "e"]) (fun _ _ _ _ _ _ us hl => bd_written_loop hl), 
    PySem.W.mg_of X G a12, 
    fun_mk (st := s_written_deed) l13 c13 k13, 
    (fun_mk (st := s_written_deed) l13 c13 k13).binds (ps := ["deed"]) (fun _ _ _ _ _ _ us hl => bd_written_deed hl), 
    PySem.W.mg_of X G a13, 
    fun_mk (st := s_written_cell) l14 c14 k14, 
    (fun_mk (st := s_written_cell) l14 c14 k14).binds (ps := ["table", "spots"]) (fun _ _ _ _ _ _ us hl => bd_written_cell hl), 
    PySem.W.mg_of X G a14, 
    fun_mk (st := s_written_spot) l15 c15 k15, 
    (fun_mk (st := s_written_spot) l15 c15 k15).binds (ps := ["spot"]) (fun _ _ _ _ _ _ us hl => bd_written_spot hl), 
    PySem.W.mg_of X G a15, 
    fun_mk (st := s_written_term) l16 c16 k16, 
    (fun_mk (st := s_written_term) l16 c16 k16).binds (ps := ["term"]) (fun _ _ _ _ _ _ us hl => bd_written_term hl), 
    PySem.W.mg_of X G a16, 
    fun_mk (st := s_bracketed) l17 c17 k17, 
    (fun_mk (st := s_bracketed) l17 c17 k17).binds (ps := ["term", "needed"]) (fun _ _ _ _ _ _ us hl => bd_bracketed hl), 
    PySem.W.mg_of X G a17, 
    fun_mk (st := s_left_needs) l18 c18 k18, 
    (fun_mk (st := s_left_needs) l18 c18 k18).binds (ps := ["term"]) (fun _ _ _ _ _ _ us hl => bd_left_needs hl), 
    PySem.W.mg_of X G a18, 
    fun_mk (st := s_right_needs) l19 c19 k19, 
    (fun_mk (st := s_right_needs) l19 c19 k19).binds (ps := ["term"]) (fun _ _ _ _ _ _ us hl => bd_right_needs hl), 
    PySem.W.mg_of X G a19, 
    fun_mk (st := s_is_sum) l20 c20 k20, 
    (fun_mk (st := s_is_sum) l20 c20 k20).binds (ps := ["term"]) (fun _ _ _ _ _ _ us hl => bd_is_sum hl), 
    PySem.W.mg_of X G a20, 
    fun_mk (st := s_l_cell_at) l21 c21 k21, 
    (fun_mk (st := s_l_cell_at) l21 c21 k21).binds (ps := ["_law_script", "_law_k"]) (fun _ _ _ _ _ _ us hl => bd_l_cell_at hl), 
    PySem.W.mg_of X G a21, 
    fun_mk (st := s_l_stream) l22 c22 k22, 
    (fun_mk (st := s_l_stream) l22 c22 k22).binds (ps := ["_law_cell_here", "_law_many"]) (fun _ _ _ _ _ _ us hl => bd_l_stream hl), 
    PySem.W.mg_of X G a22, 
    fun_mk (st := s_l_names) l23 c23 k23, 
    (fun_mk (st := s_l_names) l23 c23 k23).binds (ps := ["_law_cell_here", "_law_many"]) (fun _ _ _ _ _ _ us hl => bd_l_names hl), 
    PySem.W.mg_of X G a23, 
    fun_mk (st := s_l_number) l24 c24 k24, 
    (fun_mk (st := s_l_number) l24 c24 k24).binds (ps := ["_law_cell_here", "_law_far"]) (fun _ _ _ _ _ _ us hl => bd_l_number hl), 
    PySem.W.mg_of X G a24, 
    fun_mk (st := s_l_spot_text) l25 c25 k25, 
    (fun_mk (st := s_l_spot_text) l25 c25 k25).binds (ps := ["_law_spot_here"]) (fun _ _ _ _ _ _ us hl => bd_l_spot_text hl), 
    PySem.W.mg_of X G a25, 
    fun_mk (st := s_l_spot) l26 c26 k26, 
    (fun_mk (st := s_l_spot) l26 c26 k26).binds (ps := ["_law_one", "_law_other", "_law_known"]) (fun _ _ _ _ _ _ us hl => bd_l_spot hl), 
    PySem.W.mg_of X G a26, 
    fun_mk (st := s_l_cell) l27 c27 k27, 
    (fun_mk (st := s_l_cell) l27 c27 k27).binds (ps := ["_law_xs", "_law_known", "_law_names_here"]) (fun _ _ _ _ _ _ us hl => bd_l_cell hl), 
    PySem.W.mg_of X G a27, 
    fun_mk (st := s_l_leaf) l28 c28 k28, 
    (fun_mk (st := s_l_leaf) l28 c28 k28).binds (ps := ["_law_cell_here", "_law_known", "_law_names_here"]) (fun _ _ _ _ _ _ us hl => bd_l_leaf hl), 
    PySem.W.mg_of X G a28, 
    fun_mk (st := s_l_both) l29 c29 k29, 
    (fun_mk (st := s_l_both) l29 c29 k29).binds (ps := ["_law_sign", "_law_left", "_law_right"]) (fun _ _ _ _ _ _ us hl => bd_l_both hl), 
    PySem.W.mg_of X G a29, 
    fun_mk (st := s_l_term) l30 c30 k30, 
    (fun_mk (st := s_l_term) l30 c30 k30).binds (ps := ["_law_cell_here", "_law_known", "_law_names_here"]) (fun _ _ _ _ _ _ us hl => bd_l_term hl), 
    PySem.W.mg_of X G a30, 
    fun_mk (st := s_l_loop) l31 c31 k31, 
    (fun_mk (st := s_l_loop) l31 c31 k31).binds (ps := ["_law_cell_here", "_law_names_here", "_law_opened", "_law_last"]) (fun _ _ _ _ _ _ us hl => bd_l_loop hl), 
    PySem.W.mg_of X G a31, 
    fun_mk (st := s_l_deed) l32 c32 k32, 
    (fun_mk (st := s_l_deed) l32 c32 k32).binds (ps := ["_law_cell_here", "_law_opened", "_law_path", "_law_names_here"]) (fun _ _ _ _ _ _ us hl => bd_l_deed hl), 
    PySem.W.mg_of X G a32, 
    fun_mk (st := s_l_program) l33 c33 k33, 
    (fun_mk (st := s_l_program) l33 c33 k33).binds (ps := ["_law_cells", "_law_names_here"]) (fun _ _ _ _ _ _ us hl => bd_l_program hl), 
    PySem.W.mg_of X G a33, 
    fun_mk (st := s_l_plain) l34 c34 k34, 
    (fun_mk (st := s_l_plain) l34 c34 k34).binds (ps := ["_law_rows", "_law_size"]) (fun _ _ _ _ _ _ us hl => bd_l_plain hl), 
    PySem.W.mg_of X G a34, 
    fun_mk (st := s_l_made) l35 c35 k35, 
    (fun_mk (st := s_l_made) l35 c35 k35).binds (ps := ["_law_shape"]) (fun _ _ _ _ _ _ us hl => bd_l_made hl), 
    PySem.W.mg_of X G a35, 
    fun_mk (st := s_l_told) l36 c36 k36, 
    (fun_mk (st := s_l_told) l36 c36 k36).binds (ps := ["_law_row"]) (fun _ _ _ _ _ _ us hl => bd_l_told hl), 
    PySem.W.mg_of X G a36, 
    fun_mk (st := s_law) l37 c37 k37, 
    (fun_mk (st := s_law) l37 c37 k37).binds (ps := ["_law_script"]) (fun _ _ _ _ _ _ us hl => bd_law hl), 
    PySem.W.mg_of X G a37, 
    ⟨pg_Term, hd_Term, po_Term, sa_Term⟩, 
    PySem.W.mg_of X G a_Term, 
    ⟨pg_Number, hd_Number, po_Number, sa_Number⟩, 
    PySem.W.mg_of X G a_Number, 
    ⟨mk_Number, a1, i1, kc_Number⟩, 
    n_Number_n, 
    ⟨pg_Value, hd_Value, po_Value, sa_Value⟩, 
    PySem.W.mg_of X G a_Value, 
    ⟨mk_Value, a2, i2, kc_Value⟩, 
    n_Value_name, 
    ⟨pg_Cell, hd_Cell, po_Cell, sa_Cell⟩, 
    PySem.W.mg_of X G a_Cell, 
    ⟨mk_Cell, a3, i3, kc_Cell⟩, 
    n_Cell_table, 
    n_Cell_spots, 
    ⟨pg_Joined, hd_Joined, po_Joined, sa_Joined⟩, 
    PySem.W.mg_of X G a_Joined, 
    ⟨mk_Joined, a4, i4, kc_Joined⟩, 
    n_Joined_sign, 
    n_Joined_left, 
    n_Joined_right, 
    ⟨pg_Deed, hd_Deed, po_Deed, sa_Deed⟩, 
    PySem.W.mg_of X G a_Deed, 
    ⟨mk_Deed, a5, i5, kc_Deed⟩, 
    n_Deed_names, 
    n_Deed_lows, 
    n_Deed_highs, 
    n_Deed_table, 
    n_Deed_spots, 
    n_Deed_term, 
    n_Deed_path, 
    ⟨pg_Program, hd_Program, po_Program, sa_Program⟩, 
    PySem.W.mg_of X G a_Program, 
    ⟨mk_Program, a6, i6, kc_Program⟩, 
    n_Program_size, 
    n_Program_deeds, 
    fun H x dx fs e => .ins e ⟨pg_Number, hd_Number, po_Number, sa_Number⟩ ha_Number hn0 ht0 hm_Number, 
    is_Number_Term, 
    is_Number_Number, 
    is_Number_Value, 
    is_Number_Cell, 
    is_Number_Joined, 
    is_Number_Deed, 
    is_Number_Program, 
    fun H x dx fs e => .ins e ⟨pg_Value, hd_Value, po_Value, sa_Value⟩ ha_Value hn0 ht0 hm_Value, 
    is_Value_Term, 
    is_Value_Number, 
    is_Value_Value, 
    is_Value_Cell, 
    is_Value_Joined, 
    is_Value_Deed, 
    is_Value_Program, 
    fun H x dx fs e => .ins e ⟨pg_Cell, hd_Cell, po_Cell, sa_Cell⟩ ha_Cell hn0 ht0 hm_Cell, 
    is_Cell_Term, 
    is_Cell_Number, 
    is_Cell_Value, 
    is_Cell_Cell, 
    is_Cell_Joined, 
    is_Cell_Deed, 
    is_Cell_Program, 
    fun H x dx fs e => .ins e ⟨pg_Joined, hd_Joined, po_Joined, sa_Joined⟩ ha_Joined hn0 ht0 hm_Joined, 
    is_Joined_Term, 
    is_Joined_Number, 
    is_Joined_Value, 
    is_Joined_Cell, 
    is_Joined_Joined, 
    is_Joined_Deed, 
    is_Joined_Program, 
    fun H x dx fs e => .ins e ⟨pg_Deed, hd_Deed, po_Deed, sa_Deed⟩ ha_Deed hn0 ht0 hm_Deed, 
    is_Deed_Term, 
    is_Deed_Number, 
    is_Deed_Value, 
    is_Deed_Cell, 
    is_Deed_Joined, 
    is_Deed_Deed, 
    is_Deed_Program, 
    fun H x dx fs e => .ins e ⟨pg_Program, hd_Program, po_Program, sa_Program⟩ ha_Program hn0 ht0 hm_Program, 
    is_Program_Term, 
    is_Program_Number, 
    is_Program_Value, 
    is_Program_Cell, 
    is_Program_Joined, 
    is_Program_Deed, 
    is_Program_Program, 
    PySem.W.mg_none_of X G z_abs, 
    PySem.W.mg_none_of X G z_int, 
    PySem.W.mg_none_of X G z_isinstance, 
    PySem.W.mg_none_of X G z_len, 
    PySem.W.mg_none_of X G z_list, 
    PySem.W.mg_none_of X G z_range, 
    PySem.W.mg_none_of X G z_str, 
    PySem.W.mg_none_of X G z_tuple⟩, rfl, fun s v => .of_eq rfl⟩
end Fw
open PySem PySem.W PyProof.Rows
def PySem.W.Fast.tw10001422292738946771 : Nat := 0
def PySem.W.Fast.tw10073191442617860413 : Nat := 0
def PySem.W.Fast.tw10075395877143622888 : Nat := 0
def PySem.W.Fast.tw10136636077494882817 : Nat := 0
def PySem.W.Fast.tw10148071102688698433 : Nat := 0
def PySem.W.Fast.tw10155467574618139579 : Nat := 0
def PySem.W.Fast.tw1021374464198205735 : Nat := 0
def PySem.W.Fast.tw10215631052982479154 : Nat := 0
def PySem.W.Fast.tw10313422738212896665 : Nat := 0
def PySem.W.Fast.tw10367777197794840617 : Nat := 0
def PySem.W.Fast.tw103871193633778879 : Nat := 0
def PySem.W.Fast.tw10429235761262235509 : Nat := 0
def PySem.W.Fast.tw10503163003712127355 : Nat := 0
def PySem.W.Fast.tw10562509245273576792 : Nat := 0
def PySem.W.Fast.tw10633700983449221081 : Nat := 0
def PySem.W.Fast.tw10767796837383083346 : Nat := 0
def PySem.W.Fast.tw1078114811254941946 : Nat := 0
def PySem.W.Fast.tw10802258065310616730 : Nat := 0
def PySem.W.Fast.tw10877196377749113042 : Nat := 0
def PySem.W.Fast.tw11019433396759891040 : Nat := 0
def PySem.W.Fast.tw11039068778741804602 : Nat := 0
def PySem.W.Fast.tw11124091685561955994 : Nat := 0
def PySem.W.Fast.tw11250954480880233170 : Nat := 0
def PySem.W.Fast.tw1125837382308006436 : Nat := 0
def PySem.W.Fast.tw11280188953820612307 : Nat := 0
def PySem.W.Fast.tw11286253212438662858 : Nat := 0
def PySem.W.Fast.tw11348982957299854720 : Nat := 0
def PySem.W.Fast.tw11371097182065853790 : Nat := 0
def PySem.W.Fast.tw11387908166975724774 : Nat := 0
def PySem.W.Fast.tw11477544983411520318 : Nat := 0
def PySem.W.Fast.tw11481518269624742880 : Nat := 0
def PySem.W.Fast.tw11521342547961720909 : Nat := 0
def PySem.W.Fast.tw11532719519064321821 : Nat := 0
def PySem.W.Fast.tw1153693862265679678 : Nat := 0
def PySem.W.Fast.tw11540192434644621252 : Nat := 0
def PySem.W.Fast.tw11550054562498917193 : Nat := 0
def PySem.W.Fast.tw1156898668661706274 : Nat := 0
def PySem.W.Fast.tw11600248111909920629 : Nat := 0
def PySem.W.Fast.tw11687447604932951278 : Nat := 0
def PySem.W.Fast.tw11723884432086732186 : Nat := 0
def PySem.W.Fast.tw11738545628856925170 : Nat := 0
def PySem.W.Fast.tw11746383666574457173 : Nat := 0
def PySem.W.Fast.tw1176388425896132811 : Nat := 0
def PySem.W.Fast.tw11870490524325560797 : Nat := 0
def PySem.W.Fast.tw11880156239872363771 : Nat := 0
def PySem.W.Fast.tw11938597995749827700 : Nat := 0
def PySem.W.Fast.tw11974928074166124250 : Nat := 0
def PySem.W.Fast.tw11992541452458481566 : Nat := 0
def PySem.W.Fast.tw12016557991648639156 : Nat := 0
def PySem.W.Fast.tw12049478680764564844 : Nat := 0
def PySem.W.Fast.tw12064820047965793677 : Nat := 0
def PySem.W.Fast.tw12077834155721665735 : Nat := 0
def PySem.W.Fast.tw12147512163790541850 : Nat := 0
def PySem.W.Fast.tw12189870043098631863 : Nat := 0
def PySem.W.Fast.tw12242889612917306747 : Nat := 0
def PySem.W.Fast.tw1224454179294731863 : Nat := 0
def PySem.W.Fast.tw12249937142302510513 : Nat := 0
def PySem.W.Fast.tw12268058375268062352 : Nat := 0
def PySem.W.Fast.tw12355619489088486925 : Nat := 0
def PySem.W.Fast.tw12412211655563073656 : Nat := 0
def PySem.W.Fast.tw12469724231450436078 : Nat := 0
def PySem.W.Fast.tw12500522349420148493 : Nat := 0
def PySem.W.Fast.tw12503740637957404615 : Nat := 0
def PySem.W.Fast.tw12604139750651933213 : Nat := 0
def PySem.W.Fast.tw12691243043908296478 : Nat := 0
def PySem.W.Fast.tw12869167051429384368 : Nat := 0
def PySem.W.Fast.tw12905994433566121228 : Nat := 0
def PySem.W.Fast.tw13040538524344149113 : Nat := 0
def PySem.W.Fast.tw13089980402342895451 : Nat := 0
def PySem.W.Fast.tw13092074433829717275 : Nat := 0
def PySem.W.Fast.tw13104291361194224308 : Nat := 0
def PySem.W.Fast.tw13111334587619162957 : Nat := 0
def PySem.W.Fast.tw13121617296088184752 : Nat := 0
def PySem.W.Fast.tw13124362888260645793 : Nat := 0
def PySem.W.Fast.tw13147689866766503744 : Nat := 0
def PySem.W.Fast.tw13227784360702912611 : Nat := 0
def PySem.W.Fast.tw13237982956187685895 : Nat := 0
def PySem.W.Fast.tw13260071897829626349 : Nat := 0
def PySem.W.Fast.tw13323297809570954600 : Nat := 0
def PySem.W.Fast.tw13523874837233746113 : Nat := 0
def PySem.W.Fast.tw13601364013835648859 : Nat := 0
def PySem.W.Fast.tw13606049676941281305 : Nat := 0
def PySem.W.Fast.tw13611632750268198944 : Nat := 0
def PySem.W.Fast.tw13641003578925403574 : Nat := 0
def PySem.W.Fast.tw13657099724888701701 : Nat := 0
def PySem.W.Fast.tw13737894526185530295 : Nat := 0
def PySem.W.Fast.tw13760570828856510341 : Nat := 0
def PySem.W.Fast.tw13777896424435478589 : Nat := 0
def PySem.W.Fast.tw13819171946501344968 : Nat := 0
def PySem.W.Fast.tw13912649927929343251 : Nat := 0
def PySem.W.Fast.tw14028148942757027238 : Nat := 0
def PySem.W.Fast.tw14058995354482484849 : Nat := 0
def PySem.W.Fast.tw14190722891248444595 : Nat := 0
def PySem.W.Fast.tw14464930391853702656 : Nat := 0
def PySem.W.Fast.tw14573519029623707517 : Nat := 0
def PySem.W.Fast.tw14573728720779074648 : Nat := 0
def PySem.W.Fast.tw14639213205329237986 : Nat := 0
def PySem.W.Fast.tw14655285927797208173 : Nat := 0
def PySem.W.Fast.tw14668009759791515277 : Nat := 0
def PySem.W.Fast.tw14737882061111575756 : Nat := 0
def PySem.W.Fast.tw14764511434956798194 : Nat := 0
def PySem.W.Fast.tw1478035213985712282 : Nat := 0
def PySem.W.Fast.tw14826914496896711492 : Nat := 0
def PySem.W.Fast.tw14895252072790120770 : Nat := 0
def PySem.W.Fast.tw15019836648819873264 : Nat := 0
def PySem.W.Fast.tw15099767139946361092 : Nat := 0
def PySem.W.Fast.tw15146059697631920287 : Nat := 0
def PySem.W.Fast.tw15253824060415602895 : Nat := 0
def PySem.W.Fast.tw15290650532467955690 : Nat := 0
def PySem.W.Fast.tw15418982459534481902 : Nat := 0
def PySem.W.Fast.tw15427340461698923962 : Nat := 0
def PySem.W.Fast.tw15468398209350443242 : Nat := 0
def PySem.W.Fast.tw15514271712968154702 : Nat := 0
def PySem.W.Fast.tw15563084922800526284 : Nat := 0
def PySem.W.Fast.tw15571720710563597112 : Nat := 0
def PySem.W.Fast.tw15633516431380818666 : Nat := 0
def PySem.W.Fast.tw15634338139176272485 : Nat := 0
def PySem.W.Fast.tw15662551126225999288 : Nat := 0
def PySem.W.Fast.tw15671521566135667590 : Nat := 0
def PySem.W.Fast.tw15690031548203648246 : Nat := 0
def PySem.W.Fast.tw15707571384789235814 : Nat := 0
def PySem.W.Fast.tw15795082391682514348 : Nat := 0
def PySem.W.Fast.tw15836143757549427114 : Nat := 0
def PySem.W.Fast.tw15850544445101982907 : Nat := 0
def PySem.W.Fast.tw15893292622478473740 : Nat := 0
def PySem.W.Fast.tw15905319547706817315 : Nat := 0
def PySem.W.Fast.tw15984408121354041427 : Nat := 0
def PySem.W.Fast.tw15985742051691857767 : Nat := 0
def PySem.W.Fast.tw16010996100237309412 : Nat := 0
def PySem.W.Fast.tw16020455387217247886 : Nat := 0
def PySem.W.Fast.tw1603174744256199145 : Nat := 0
def PySem.W.Fast.tw16032016479789596683 : Nat := 0
def PySem.W.Fast.tw16054455280843413449 : Nat := 0
def PySem.W.Fast.tw16125981139272505731 : Nat := 0
def PySem.W.Fast.tw16128842812072849984 : Nat := 0
def PySem.W.Fast.tw162877384456558340 : Nat := 0
def PySem.W.Fast.tw16289449306747051835 : Nat := 0
def PySem.W.Fast.tw16302639827666088103 : Nat := 0
def PySem.W.Fast.tw16341836013092880571 : Nat := 0
def PySem.W.Fast.tw1635127920362845909 : Nat := 0
def PySem.W.Fast.tw1639248521168797417 : Nat := 0
def PySem.W.Fast.tw16398142540015783107 : Nat := 0
def PySem.W.Fast.tw16550742285424454950 : Nat := 0
def PySem.W.Fast.tw16570084907988703518 : Nat := 0
def PySem.W.Fast.tw16603374614746822942 : Nat := 0
def PySem.W.Fast.tw16628607357835456921 : Nat := 0
def PySem.W.Fast.tw16635286624357502409 : Nat := 0
def PySem.W.Fast.tw16738035076651837960 : Nat := 0
def PySem.W.Fast.tw16740658937668389242 : Nat := 0
def PySem.W.Fast.tw16765918870676488988 : Nat := 0
def PySem.W.Fast.tw16812543555665618058 : Nat := 0
def PySem.W.Fast.tw16875080117152594628 : Nat := 0
def PySem.W.Fast.tw16881165607556351028 : Nat := 0
def PySem.W.Fast.tw16908021010943293257 : Nat := 0
def PySem.W.Fast.tw17000724043799996935 : Nat := 0
def PySem.W.Fast.tw1705083580004831255 : Nat := 0
def PySem.W.Fast.tw17051979820798055446 : Nat := 0
def PySem.W.Fast.tw17081488116620638166 : Nat := 0
def PySem.W.Fast.tw17118990402868142462 : Nat := 0
def PySem.W.Fast.tw1713046482015835665 : Nat := 0
def PySem.W.Fast.tw1714212889599750550 : Nat := 0
def PySem.W.Fast.tw17164311584343144691 : Nat := 0
def PySem.W.Fast.tw17210380732250730486 : Nat := 0
def PySem.W.Fast.tw17252129006372214552 : Nat := 0
def PySem.W.Fast.tw17307978340809023043 : Nat := 0
def PySem.W.Fast.tw17337104017785939562 : Nat := 0
def PySem.W.Fast.tw17343770821975290428 : Nat := 0
def PySem.W.Fast.tw17434585679953590605 : Nat := 0
def PySem.W.Fast.tw17442642835231531590 : Nat := 0
def PySem.W.Fast.tw17457741287756729676 : Nat := 0
def PySem.W.Fast.tw17463379056094514281 : Nat := 0
def PySem.W.Fast.tw17481573621446688059 : Nat := 0
def PySem.W.Fast.tw17549433063043904935 : Nat := 0
def PySem.W.Fast.tw17587581318818416075 : Nat := 0
def PySem.W.Fast.tw17589940145814719415 : Nat := 0
def PySem.W.Fast.tw17622614048070394235 : Nat := 0
def PySem.W.Fast.tw17736149542426654390 : Nat := 0
def PySem.W.Fast.tw17775904036060121515 : Nat := 0
def PySem.W.Fast.tw17819459106304767054 : Nat := 0
def PySem.W.Fast.tw17868128967947844263 : Nat := 0
def PySem.W.Fast.tw17912776836215411859 : Nat := 0
def PySem.W.Fast.tw17955190508628567348 : Nat := 0
def PySem.W.Fast.tw18016667094607840418 : Nat := 0
def PySem.W.Fast.tw18021978644749509455 : Nat := 0
def PySem.W.Fast.tw18022023125892736649 : Nat := 0
def PySem.W.Fast.tw18069607887507587021 : Nat := 0
def PySem.W.Fast.tw18162920375469949553 : Nat := 0
def PySem.W.Fast.tw1816864850343853454 : Nat := 0
def PySem.W.Fast.tw18275635643821902737 : Nat := 0
def PySem.W.Fast.tw18347812498397354380 : Nat := 0
def PySem.W.Fast.tw18429431965815295891 : Nat := 0
def PySem.W.Fast.tw1962538383947772127 : Nat := 0
def PySem.W.Fast.tw1997468915927655618 : Nat := 0
def PySem.W.Fast.tw216654337370905862 : Nat := 0
def PySem.W.Fast.tw2201450454929214358 : Nat := 0
def PySem.W.Fast.tw220349755745740791 : Nat := 0
def PySem.W.Fast.tw2235528180809422309 : Nat := 0
def PySem.W.Fast.tw2235904343453009470 : Nat := 0
def PySem.W.Fast.tw2247960490926413448 : Nat := 0
def PySem.W.Fast.tw2258082725469241924 : Nat := 0
def PySem.W.Fast.tw2263251066535417072 : Nat := 0
def PySem.W.Fast.tw2277450461682989453 : Nat := 0
def PySem.W.Fast.tw2307482214289591206 : Nat := 0
def PySem.W.Fast.tw2312367715167655752 : Nat := 0
def PySem.W.Fast.tw2357806699504582998 : Nat := 0
def PySem.W.Fast.tw2515106713543767696 : Nat := 0
def PySem.W.Fast.tw2524982198793800899 : Nat := 0
def PySem.W.Fast.tw2552351331142256252 : Nat := 0
def PySem.W.Fast.tw2596212262205452418 : Nat := 0
def PySem.W.Fast.tw2815612052766283675 : Nat := 0
def PySem.W.Fast.tw2821045005125511821 : Nat := 0
def PySem.W.Fast.tw282573153911519577 : Nat := 0
def PySem.W.Fast.tw2870207592927229932 : Nat := 0
def PySem.W.Fast.tw2907883407924824144 : Nat := 0
def PySem.W.Fast.tw2909920203805636806 : Nat := 0
def PySem.W.Fast.tw2921503166629511025 : Nat := 0
def PySem.W.Fast.tw2952119516683777629 : Nat := 0
def PySem.W.Fast.tw2975319883949703903 : Nat := 0
def PySem.W.Fast.tw3001099104941127359 : Nat := 0
def PySem.W.Fast.tw3030886018658604082 : Nat := 0
def PySem.W.Fast.tw3033205899372478241 : Nat := 0
def PySem.W.Fast.tw3052116417137798724 : Nat := 0
def PySem.W.Fast.tw3085517587722999589 : Nat := 0
def PySem.W.Fast.tw31068610155304608 : Nat := 0
def PySem.W.Fast.tw3122610580354053822 : Nat := 0
def PySem.W.Fast.tw312312451335121583 : Nat := 0
def PySem.W.Fast.tw3179186517322262041 : Nat := 0
def PySem.W.Fast.tw3270807684238229432 : Nat := 0
def PySem.W.Fast.tw3285137081957752552 : Nat := 0
def PySem.W.Fast.tw3296503264512908074 : Nat := 0
def PySem.W.Fast.tw3299696644735561134 : Nat := 0
def PySem.W.Fast.tw3300802267961861798 : Nat := 0
def PySem.W.Fast.tw3398421809397262526 : Nat := 0
def PySem.W.Fast.tw3428837485289711931 : Nat := 0
def PySem.W.Fast.tw3443222177566783131 : Nat := 0
def PySem.W.Fast.tw3520066196510341012 : Nat := 0
def PySem.W.Fast.tw3530924202626704331 : Nat := 0
def PySem.W.Fast.tw3540410500369583426 : Nat := 0
def PySem.W.Fast.tw3542605334052250881 : Nat := 0
def PySem.W.Fast.tw3545107342906886655 : Nat := 0
def PySem.W.Fast.tw3616399925688674511 : Nat := 0
def PySem.W.Fast.tw362841348927410023 : Nat := 0
def PySem.W.Fast.tw3645369704220478642 : Nat := 0
def PySem.W.Fast.tw3665853215617653530 : Nat := 0
def PySem.W.Fast.tw3726077590531848010 : Nat := 0
def PySem.W.Fast.tw3747090823844081234 : Nat := 0
def PySem.W.Fast.tw3760290342784308395 : Nat := 0
def PySem.W.Fast.tw3761589385033030905 : Nat := 0
def PySem.W.Fast.tw3774362452966494370 : Nat := 0
def PySem.W.Fast.tw3876567944297661093 : Nat := 0
def PySem.W.Fast.tw4002589035230964582 : Nat := 0
def PySem.W.Fast.tw4021706609526374804 : Nat := 0
def PySem.W.Fast.tw4123599146891019186 : Nat := 0
def PySem.W.Fast.tw4146274059678885339 : Nat := 0
def PySem.W.Fast.tw4225199405192022455 : Nat := 0
def PySem.W.Fast.tw4237314622102988966 : Nat := 0
def PySem.W.Fast.tw4258517319141779341 : Nat := 0
def PySem.W.Fast.tw4263190716574286713 : Nat := 0
def PySem.W.Fast.tw4383181339601125857 : Nat := 0
def PySem.W.Fast.tw4463109300514647660 : Nat := 0
def PySem.W.Fast.tw4540768722681390898 : Nat := 0
def PySem.W.Fast.tw4588237396934099910 : Nat := 0
def PySem.W.Fast.tw4593548306220957 : Nat := 0
def PySem.W.Fast.tw4626457547599903392 : Nat := 0
def PySem.W.Fast.tw4662760232694405391 : Nat := 0
def PySem.W.Fast.tw4763403182543369205 : Nat := 0
def PySem.W.Fast.tw4796341305294162075 : Nat := 0
def PySem.W.Fast.tw4804726301233599931 : Nat := 0
def PySem.W.Fast.tw4808343961871802190 : Nat := 0
def PySem.W.Fast.tw4859483189778208989 : Nat := 0
def PySem.W.Fast.tw4899186860902260925 : Nat := 0
def PySem.W.Fast.tw4932353537992709424 : Nat := 0
def PySem.W.Fast.tw4989662411752573884 : Nat := 0
def PySem.W.Fast.tw5012151942649128364 : Nat := 0
def PySem.W.Fast.tw5066924100308465473 : Nat := 0
def PySem.W.Fast.tw5074869883784086410 : Nat := 0
def PySem.W.Fast.tw5081572179681763427 : Nat := 0
def PySem.W.Fast.tw5260852022248929738 : Nat := 0
def PySem.W.Fast.tw5407370626397363683 : Nat := 0
def PySem.W.Fast.tw5437077463425844514 : Nat := 0
def PySem.W.Fast.tw5451035703034364611 : Nat := 0
def PySem.W.Fast.tw545333387637394727 : Nat := 0
def PySem.W.Fast.tw5455556682514162020 : Nat := 0
def PySem.W.Fast.tw5510392389280623507 : Nat := 0
def PySem.W.Fast.tw554318693078308426 : Nat := 0
def PySem.W.Fast.tw5591515425257768954 : Nat := 0
def PySem.W.Fast.tw5640199557727972737 : Nat := 0
def PySem.W.Fast.tw5662483188181655626 : Nat := 0
def PySem.W.Fast.tw5777547947690485005 : Nat := 0
def PySem.W.Fast.tw5787764055785974896 : Nat := 0
def PySem.W.Fast.tw5829795852637465796 : Nat := 0
def PySem.W.Fast.tw6012202157767167973 : Nat := 0
def PySem.W.Fast.tw6037469707340891545 : Nat := 0
def PySem.W.Fast.tw6139630972672220104 : Nat := 0
def PySem.W.Fast.tw6243835910791656812 : Nat := 0
def PySem.W.Fast.tw6247812151574985122 : Nat := 0
def PySem.W.Fast.tw636009416487279211 : Nat := 0
def PySem.W.Fast.tw6383990663642557939 : Nat := 0
def PySem.W.Fast.tw6415772865458844165 : Nat := 0
def PySem.W.Fast.tw6444226311585756047 : Nat := 0
def PySem.W.Fast.tw6672604348102220215 : Nat := 0
def PySem.W.Fast.tw6711864282746325864 : Nat := 0
def PySem.W.Fast.tw6712212809436306035 : Nat := 0
def PySem.W.Fast.tw6784647247561035267 : Nat := 0
def PySem.W.Fast.tw6827033119371562329 : Nat := 0
def PySem.W.Fast.tw6828081027321465792 : Nat := 0
def PySem.W.Fast.tw6870094609607902342 : Nat := 0
def PySem.W.Fast.tw7024205675127768542 : Nat := 0
def PySem.W.Fast.tw7029778670239449512 : Nat := 0
def PySem.W.Fast.tw7063972058953442085 : Nat := 0
def PySem.W.Fast.tw7216665789223900577 : Nat := 0
def PySem.W.Fast.tw7232859679899677728 : Nat := 0
def PySem.W.Fast.tw7278116888358574669 : Nat := 0
def PySem.W.Fast.tw7281927048045488798 : Nat := 0
def PySem.W.Fast.tw7322332008725461567 : Nat := 0
def PySem.W.Fast.tw7401914665851584604 : Nat := 0
def PySem.W.Fast.tw7460783891001966644 : Nat := 0
def PySem.W.Fast.tw7462176584717892045 : Nat := 0
def PySem.W.Fast.tw7486041702714008482 : Nat := 0
def PySem.W.Fast.tw7489540420622259010 : Nat := 0
def PySem.W.Fast.tw7503798673968630855 : Nat := 0
def PySem.W.Fast.tw7522038837793037802 : Nat := 0
def PySem.W.Fast.tw7534670152432426540 : Nat := 0
def PySem.W.Fast.tw7648363606644380002 : Nat := 0
def PySem.W.Fast.tw76754724563643856 : Nat := 0
def PySem.W.Fast.tw7720581622351237287 : Nat := 0
def PySem.W.Fast.tw7731933452606514700 : Nat := 0
def PySem.W.Fast.tw775080896506892291 : Nat := 0
def PySem.W.Fast.tw7859004391044287016 : Nat := 0
def PySem.W.Fast.tw7867529656589478150 : Nat := 0
def PySem.W.Fast.tw7901994960042419301 : Nat := 0
def PySem.W.Fast.tw7972770384194393276 : Nat := 0
def PySem.W.Fast.tw8016852312802543047 : Nat := 0
def PySem.W.Fast.tw8045981651080012705 : Nat := 0
def PySem.W.Fast.tw8047075369727277235 : Nat := 0
def PySem.W.Fast.tw8066131273420081533 : Nat := 0
def PySem.W.Fast.tw8067215715907221650 : Nat := 0
def PySem.W.Fast.tw8099264429213609372 : Nat := 0
def PySem.W.Fast.tw8102990913618239758 : Nat := 0
def PySem.W.Fast.tw8146152027732096360 : Nat := 0
def PySem.W.Fast.tw8149437937106198371 : Nat := 0
def PySem.W.Fast.tw8245332033619860522 : Nat := 0
def PySem.W.Fast.tw8326203463021640281 : Nat := 0
def PySem.W.Fast.tw8351452351628957411 : Nat := 0
def PySem.W.Fast.tw8361183629501819878 : Nat := 0
def PySem.W.Fast.tw8431291740973351185 : Nat := 0
def PySem.W.Fast.tw8434026033255135463 : Nat := 0
def PySem.W.Fast.tw8444090322241943123 : Nat := 0
def PySem.W.Fast.tw8495949421568110747 : Nat := 0
def PySem.W.Fast.tw8503700271588156409 : Nat := 0
def PySem.W.Fast.tw8508982469892542246 : Nat := 0
def PySem.W.Fast.tw8518507665730825670 : Nat := 0
def PySem.W.Fast.tw8581094458536148106 : Nat := 0
def PySem.W.Fast.tw8623479182715051451 : Nat := 0
def PySem.W.Fast.tw8623635380960191630 : Nat := 0
def PySem.W.Fast.tw8647994006920952146 : Nat := 0
def PySem.W.Fast.tw8688607957148331894 : Nat := 0
def PySem.W.Fast.tw8791725852882831631 : Nat := 0
def PySem.W.Fast.tw8823603912116438952 : Nat := 0
def PySem.W.Fast.tw8827411146494721844 : Nat := 0
def PySem.W.Fast.tw8866988620829624581 : Nat := 0
def PySem.W.Fast.tw8885925235635041573 : Nat := 0
def PySem.W.Fast.tw8895595613503904516 : Nat := 0
def PySem.W.Fast.tw8904224453441936109 : Nat := 0
def PySem.W.Fast.tw8948416731098577083 : Nat := 0
def PySem.W.Fast.tw8961053356409287801 : Nat := 0
def PySem.W.Fast.tw901315262185529012 : Nat := 0
def PySem.W.Fast.tw911279809510457085 : Nat := 0
def PySem.W.Fast.tw9131403178007707113 : Nat := 0
def PySem.W.Fast.tw9171263621579434701 : Nat := 0
def PySem.W.Fast.tw9182810620238780331 : Nat := 0
def PySem.W.Fast.tw9366659703365083143 : Nat := 0
def PySem.W.Fast.tw9377115629943773547 : Nat := 0
def PySem.W.Fast.tw9416186640723263445 : Nat := 0
def PySem.W.Fast.tw9441554040818156594 : Nat := 0
def PySem.W.Fast.tw9473568278785455880 : Nat := 0
def PySem.W.Fast.tw9610327175562695613 : Nat := 0
def PySem.W.Fast.tw9665275721847485823 : Nat := 0
def PySem.W.Fast.tw9719370452704758747 : Nat := 0
def PySem.W.Fast.tw9731277460747624968 : Nat := 0
def PySem.W.Fast.tw9832183611088396940 : Nat := 0
def PySem.W.Fast.tw9835366228457264868 : Nat := 0
def PySem.W.Fast.tw9918684320045107675 : Nat := 0
def PySem.W.Fast.tw9981571504622828397 : Nat := 0
def PySem.W.Fast.tw9993306797541938385 : Nat := 0
set_option maxRecDepth 100000 in
set_option maxHeartbeats 0 in
theorem PySem.Challenge.cw_furrow_k26_programs_written_holds : PySem.Challenge.rw_furrow_k26_programs_written.Holds := by
  w_on; o_law; k_head; (case hw => w_witness2)
  k_fill
  refine L2.law_walk (l := PySem.Challenge.rw_furrow_k26_programs_written) (x := "_law_script") 23 (by decide) rfl rfl (fun w h Y => PySem.W.kIn_of Y) ?F
  case F =>
    intro w mg fa h KX G hmg
    suffices hh : ∃ a : Fw.Ad, Fw.Tx _ mg a ∧ fa = a.f_law ∧ (∀ (s : Shared) (v : Value), BindsTo s a.d_law ⟨[v], []⟩ [("_law_script", v)]) by
      obtain ⟨a, T, e, b⟩ := hh
      subst e
      exact ⟨a.d_law, b, fun base _ _ => Fw.ok_law T⟩
    refine' Fw.txt_mk KX G hmg ?a_Term ?a_Number ?a_Value ?a_Cell ?a_Joined ?a_Deed ?a_Program ?a1 ?i1 ?l1 ?c1 ?k1 ?a2 ?i2 ?l2 ?c2 ?k2 ?a3 ?i3 ?l3 ?c3 ?k3 ?a4 ?i4 ?l4 ?c4 ?k4 ?a5 ?i5 ?l5 ?c5 ?k5 ?a6 ?i6 ?l6 ?c6 ?k6 ?a7 ?l7 ?c7 ?k7 ?a8 ?l8 ?c8 ?k8 ?a9 ?l9 ?c9 ?k9 ?a10 ?l10 ?c10 ?k10 ?a11 ?l11 ?c11 ?k11 ?a12 ?l12 ?c12 ?k12 ?a13 ?l13 ?c13 ?k13 ?a14 ?l14 ?c14 ?k14 ?a15 ?l15 ?c15 ?k15 ?a16 ?l16 ?c16 ?k16 ?a17 ?l17 ?c17 ?k17 ?a18 ?l18 ?c18 ?k18 ?a19 ?l19 ?c19 ?k19 ?a20 ?l20 ?c20 ?k20 ?a21 ?l21 ?c21 ?k21 ?a22 ?l22 ?c22 ?k22 ?a23 ?l23 ?c23 ?k23 ?a24 ?l24 ?c24 ?k24 ?a25 ?l25 ?c25 ?k25 ?a26 ?l26 ?c26 ?k26 ?a27 ?l27 ?c27 ?k27 ?a28 ?l28 ?c28 ?k28 ?a29 ?l29 ?c29 ?k29 ?a30 ?l30 ?c30 ?k30 ?a31 ?l31 ?c31 ?k31 ?a32 ?l32 ?c32 ?k32 ?a33 ?l33 ?c33 ?k33 ?a34 ?l34 ?c34 ?k34 ?a35 ?l35 ?c35 ?k35 ?a36 ?l36 ?c36 ?k36 ?a37 ?l37 ?c37 ?k37 ?pg_Term ?hd_Term ?po_Term ?sa_Term ?mk_Term ?kc_Term ?pg_Number ?hd_Number ?po_Number ?sa_Number ?mk_Number ?kc_Number ?n_Number_n ?pg_Value ?hd_Value ?po_Value ?sa_Value ?mk_Value ?kc_Value ?n_Value_name ?pg_Cell ?hd_Cell ?po_Cell ?sa_Cell ?mk_Cell ?kc_Cell ?n_Cell_table ?n_Cell_spots ?pg_Joined ?hd_Joined ?po_Joined ?sa_Joined ?mk_Joined ?kc_Joined ?n_Joined_sign ?n_Joined_left ?n_Joined_right ?pg_Deed ?hd_Deed ?po_Deed ?sa_Deed ?mk_Deed ?kc_Deed ?n_Deed_names ?n_Deed_lows ?n_Deed_highs ?n_Deed_table ?n_Deed_spots ?n_Deed_term ?n_Deed_path ?pg_Program ?hd_Program ?po_Program ?sa_Program ?mk_Program ?kc_Program ?n_Program_size ?n_Program_deeds ?hn0 ?ht0 ?ha_Number ?hm_Number ?is_Number_Term ?is_Number_Number ?is_Number_Value ?is_Number_Cell ?is_Number_Joined ?is_Number_Deed ?is_Number_Program ?ha_Value ?hm_Value ?is_Value_Term ?is_Value_Number ?is_Value_Value ?is_Value_Cell ?is_Value_Joined ?is_Value_Deed ?is_Value_Program ?ha_Cell ?hm_Cell ?is_Cell_Term ?is_Cell_Number ?is_Cell_Value ?is_Cell_Cell ?is_Cell_Joined ?is_Cell_Deed ?is_Cell_Program ?ha_Joined ?hm_Joined ?is_Joined_Term ?is_Joined_Number ?is_Joined_Value ?is_Joined_Cell ?is_Joined_Joined ?is_Joined_Deed ?is_Joined_Program ?ha_Deed ?hm_Deed ?is_Deed_Term ?is_Deed_Number ?is_Deed_Value ?is_Deed_Cell ?is_Deed_Joined ?is_Deed_Deed ?is_Deed_Program ?ha_Program ?hm_Program ?is_Program_Term ?is_Program_Number ?is_Program_Value ?is_Program_Cell ?is_Program_Joined ?is_Program_Deed ?is_Program_Program ?z_abs ?z_int ?z_isinstance ?z_len ?z_list ?z_range ?z_str ?z_tuple
    (case a_Term => k_is)
    (case a_Number => k_is)
    (case a_Value => k_is)
    (case a_Cell => k_is)
    (case a_Joined => k_is)
    (case a_Deed => k_is)
    (case a_Program => k_is)
    (case a1 => k_is)
    (case i1 => k_is)
    (case l1 => k_is)
    (case c1 => k_is)
    (case k1 => k_is)
    (case a2 => k_is)
    (case i2 => k_is)
    (case l2 => k_is)
    (case c2 => k_is)
    (case k2 => k_is)
    (case a3 => k_is)
    (case i3 => k_is)
    (case l3 => k_is)
    (case c3 => k_is)
    (case k3 => k_is)
    (case a4 => k_is)
    (case i4 => k_is)
    (case l4 => k_is)
    (case c4 => k_is)
    (case k4 => k_is)
    (case a5 => k_is)
    (case i5 => k_is)
    (case l5 => k_is)
    (case c5 => k_is)
    (case k5 => k_is)
    (case a6 => k_is)
    (case i6 => k_is)
    (case l6 => k_is)
    (case c6 => k_is)
    (case k6 => k_is)
    (case a7 => k_is)
    (case l7 => k_is)
    (case c7 => k_is)
    (case k7 => k_is)
    (case a8 => k_is)
    (case l8 => k_is)
    (case c8 => k_is)
    (case k8 => k_is)
    (case a9 => k_is)
    (case l9 => k_is)
    (case c9 => k_is)
    (case k9 => k_is)
    (case a10 => k_is)
    (case l10 => k_is)
    (case c10 => k_is)
    (case k10 => k_is)
    (case a11 => k_is)
    (case l11 => k_is)
    (case c11 => k_is)
    (case k11 => k_is)
    (case a12 => k_is)
    (case l12 => k_is)
    (case c12 => k_is)
    (case k12 => k_is)
    (case a13 => k_is)
    (case l13 => k_is)
    (case c13 => k_is)
    (case k13 => k_is)
    (case a14 => k_is)
    (case l14 => k_is)
    (case c14 => k_is)
    (case k14 => k_is)
    (case a15 => k_is)
    (case l15 => k_is)
    (case c15 => k_is)
    (case k15 => k_is)
    (case a16 => k_is)
    (case l16 => k_is)
    (case c16 => k_is)
    (case k16 => k_is)
    (case a17 => k_is)
    (case l17 => k_is)
    (case c17 => k_is)
    (case k17 => k_is)
    (case a18 => k_is)
    (case l18 => k_is)
    (case c18 => k_is)
    (case k18 => k_is)
    (case a19 => k_is)
    (case l19 => k_is)
    (case c19 => k_is)
    (case k19 => k_is)
    (case a20 => k_is)
    (case l20 => k_is)
    (case c20 => k_is)
    (case k20 => k_is)
    (case a21 => k_is)
    (case l21 => k_is)
    (case c21 => k_is)
    (case k21 => k_is)
    (case a22 => k_is)
    (case l22 => k_is)
    (case c22 => k_is)
    (case k22 => k_is)
    (case a23 => k_is)
    (case l23 => k_is)
    (case c23 => k_is)
    (case k23 => k_is)
    (case a24 => k_is)
    (case l24 => k_is)
    (case c24 => k_is)
    (case k24 => k_is)
    (case a25 => k_is)
    (case l25 => k_is)
    (case c25 => k_is)
    (case k25 => k_is)
    (case a26 => k_is)
    (case l26 => k_is)
    (case c26 => k_is)
    (case k26 => k_is)
    (case a27 => k_is)
    (case l27 => k_is)
    (case c27 => k_is)
    (case k27 => k_is)
    (case a28 => k_is)
    (case l28 => k_is)
    (case c28 => k_is)
    (case k28 => k_is)
    (case a29 => k_is)
    (case l29 => k_is)
    (case c29 => k_is)
    (case k29 => k_is)
    (case a30 => k_is)
    (case l30 => k_is)
    (case c30 => k_is)
    (case k30 => k_is)
    (case a31 => k_is)
    (case l31 => k_is)
    (case c31 => k_is)
    (case k31 => k_is)
    (case a32 => k_is)
    (case l32 => k_is)
    (case c32 => k_is)
    (case k32 => k_is)
    (case a33 => k_is)
    (case l33 => k_is)
    (case c33 => k_is)
    (case k33 => k_is)
    (case a34 => k_is)
    (case l34 => k_is)
    (case c34 => k_is)
    (case k34 => k_is)
    (case a35 => k_is)
    (case l35 => k_is)
    (case c35 => k_is)
    (case k35 => k_is)
    (case a36 => k_is)
    (case l36 => k_is)
    (case c36 => k_is)
    (case k36 => k_is)
    (case a37 => k_is)
    (case l37 => k_is)
    (case c37 => k_is)
    (case k37 => k_is)
    (case pg_Term => k_is)
    (case hd_Term => k_is)
    (case po_Term => k_is)
    (case sa_Term => k_is)
    (case mk_Term => k_is)
    (case kc_Term => k_is)
    (case pg_Number => k_is)
    (case hd_Number => k_is)
    (case po_Number => k_is)
    (case sa_Number => k_is)
    (case mk_Number => k_is)
    (case kc_Number => k_is)
    (case n_Number_n => k_is)
    (case pg_Value => k_is)
    (case hd_Value => k_is)
    (case po_Value => k_is)
    (case sa_Value => k_is)
    (case mk_Value => k_is)
    (case kc_Value => k_is)
    (case n_Value_name => k_is)
    (case pg_Cell => k_is)
    (case hd_Cell => k_is)
    (case po_Cell => k_is)
    (case sa_Cell => k_is)
    (case mk_Cell => k_is)
    (case kc_Cell => k_is)
    (case n_Cell_table => k_is)
    (case n_Cell_spots => k_is)
    (case pg_Joined => k_is)
    (case hd_Joined => k_is)
    (case po_Joined => k_is)
    (case sa_Joined => k_is)
    (case mk_Joined => k_is)
    (case kc_Joined => k_is)
    (case n_Joined_sign => k_is)
    (case n_Joined_left => k_is)
    (case n_Joined_right => k_is)
    (case pg_Deed => k_is)
    (case hd_Deed => k_is)
    (case po_Deed => k_is)
    (case sa_Deed => k_is)
    (case mk_Deed => k_is)
    (case kc_Deed => k_is)
    (case n_Deed_names => k_is)
    (case n_Deed_lows => k_is)
    (case n_Deed_highs => k_is)
    (case n_Deed_table => k_is)
    (case n_Deed_spots => k_is)
    (case n_Deed_term => k_is)
    (case n_Deed_path => k_is)
    (case pg_Program => k_is)
    (case hd_Program => k_is)
    (case po_Program => k_is)
    (case sa_Program => k_is)
    (case mk_Program => k_is)
    (case kc_Program => k_is)
    (case n_Program_size => k_is)
    (case n_Program_deeds => k_is)
    (case hn0 => k_is)
    (case ht0 => k_is)
    (case ha_Number => k_is)
    (case hm_Number => k_is)
    (case is_Number_Term => kit_is)
    (case is_Number_Number => kit_is)
    (case is_Number_Value => kit_is)
    (case is_Number_Cell => kit_is)
    (case is_Number_Joined => kit_is)
    (case is_Number_Deed => kit_is)
    (case is_Number_Program => kit_is)
    (case ha_Value => k_is)
    (case hm_Value => k_is)
    (case is_Value_Term => kit_is)
    (case is_Value_Number => kit_is)
    (case is_Value_Value => kit_is)
    (case is_Value_Cell => kit_is)
    (case is_Value_Joined => kit_is)
    (case is_Value_Deed => kit_is)
    (case is_Value_Program => kit_is)
    (case ha_Cell => k_is)
    (case hm_Cell => k_is)
    (case is_Cell_Term => kit_is)
    (case is_Cell_Number => kit_is)
    (case is_Cell_Value => kit_is)
    (case is_Cell_Cell => kit_is)
    (case is_Cell_Joined => kit_is)
    (case is_Cell_Deed => kit_is)
    (case is_Cell_Program => kit_is)
    (case ha_Joined => k_is)
    (case hm_Joined => k_is)
    (case is_Joined_Term => kit_is)
    (case is_Joined_Number => kit_is)
    (case is_Joined_Value => kit_is)
    (case is_Joined_Cell => kit_is)
    (case is_Joined_Joined => kit_is)
    (case is_Joined_Deed => kit_is)
    (case is_Joined_Program => kit_is)
    (case ha_Deed => k_is)
    (case hm_Deed => k_is)
    (case is_Deed_Term => kit_is)
    (case is_Deed_Number => kit_is)
    (case is_Deed_Value => kit_is)
    (case is_Deed_Cell => kit_is)
    (case is_Deed_Joined => kit_is)
    (case is_Deed_Deed => kit_is)
    (case is_Deed_Program => kit_is)
    (case ha_Program => k_is)
    (case hm_Program => k_is)
    (case is_Program_Term => kit_is)
    (case is_Program_Number => kit_is)
    (case is_Program_Value => kit_is)
    (case is_Program_Cell => kit_is)
    (case is_Program_Joined => kit_is)
    (case is_Program_Deed => kit_is)
    (case is_Program_Program => kit_is)
    (case z_abs => k_is)
    (case z_int => k_is)
    (case z_isinstance => k_is)
    (case z_len => k_is)
    (case z_list => k_is)
    (case z_range => k_is)
    (case z_str => k_is)
    (case z_tuple => k_is)
#print axioms PySem.Challenge.cw_furrow_k26_programs_written_holds
