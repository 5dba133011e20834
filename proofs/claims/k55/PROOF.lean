import PyProof.Rows.All
import Wide.All
import OpenK.AllK
import Wide.FinOn
import Lean
import PyProof.EqAt
import PyProof.EqKinds
import PyProof.TupleCall
import PyProof.ListMulRoad
import PySem.Challenge.RW_furrow_k55_meets
set_option Elab.async false
set_option linter.all false
set_option maxRecDepth 100000
namespace L2
open PySem PySem.Spec PyProof.Rows

noncomputable abbrev Key := Sum Int Str
noncomputable def keyIs : Key → Value → Bool
  | .inl k, v => Value.isInt k v
  | .inr x, v => Value.isStrOf x v
noncomputable def keyH (w : World) : Key → Int
  | .inl k => hashInt k
  | .inr x => hashStr w x
theorem keyIs_shape : ∀ {k : Key} {v : Value}, keyIs k v = true → (∃ i t, k = Sum.inl i ∧ v = Value.int i t) ∨ (∃ x t, k = Sum.inr x ∧ v = Value.str x t)
  | .inl i, v, h => by
    obtain ⟨t, e⟩ := Value.isInt_shape (k := i) (v := v) h
    exact .inl ⟨i, t, rfl, e⟩
  | .inr x, v, h => by
    obtain ⟨t, e⟩ := Value.isStrOf_shape (x := x) (v := v) h
    exact .inr ⟨x, t, rfl, e⟩
theorem key_ll (a b : Int) : decide ((Sum.inl a : Key) = Sum.inl b) = (a == b) := by
  by_cases e : a = b
  · subst e; simp
  · have h : ¬ (Sum.inl a : Key) = Sum.inl b := fun q => e (Sum.inl.inj q)
    rw [decide_eq_false h]
    exact (beq_eq_false_iff_ne.mpr e).symm
theorem key_rr (a b : Str) : decide ((Sum.inr a : Key) = Sum.inr b) = decide (a = b) := by
  by_cases e : a = b
  · subst e; simp
  · have h : ¬ (Sum.inr a : Key) = Sum.inr b := fun q => e (Sum.inr.inj q)
    rw [decide_eq_false h, decide_eq_false e]
theorem key_lr (a : Int) (b : Str) : decide ((Sum.inl a : Key) = Sum.inr b) = false := decide_eq_false (fun q => nomatch q)
theorem key_rl (a : Str) (b : Int) : decide ((Sum.inr a : Key) = Sum.inl b) = false := decide_eq_false (fun q => nomatch q)

noncomputable def mixKind (prog : Program) (w : World) : PySem.KeyKind prog w Key where
  is := keyIs
  hash := keyH w
  inj := fun v a b ha hb => by
    rcases keyIs_shape ha with ⟨i, t, rfl, rfl⟩ | ⟨x, t, rfl, rfl⟩
    · rcases keyIs_shape hb with ⟨j, u, rfl, e⟩ | ⟨y, u, rfl, e⟩
      · injection e with e1 _; rw [e1]
      · exact nomatch e
    · rcases keyIs_shape hb with ⟨j, u, rfl, e⟩ | ⟨y, u, rfl, e⟩
      · exact nomatch e
      · injection e with e1 _; rw [e1]
  byValue := fun k v h => by
    rcases keyIs_shape h with ⟨i, t, rfl, rfl⟩ | ⟨x, t, rfl, rfl⟩ <;> rfl
  pyHash := fun hv h => by
    rcases keyIs_shape hv with ⟨i, t, rfl, rfl⟩ | ⟨x, t, rfl, rfl⟩
    · exact wpAny_pyHash_int h
    · exact wpAny_pyHash_str h
  eqBool := fun hu hv h => by
    rcases keyIs_shape hu with ⟨i, t, rfl, rfl⟩ | ⟨x, t, rfl, rfl⟩
    · rcases keyIs_shape hv with ⟨j, u, rfl, rfl⟩ | ⟨y, u, rfl, rfl⟩
      · rw [key_ll] at h; exact wpAny_eqBool_int h
      · rw [key_lr] at h; exact SeqAt.EqAt.int_str i t y u _ _ _ _ h
    · rcases keyIs_shape hv with ⟨j, u, rfl, rfl⟩ | ⟨y, u, rfl, rfl⟩
      · rw [key_rl] at h; exact SeqAt.EqAt.str_int x t j u _ _ _ _ h
      · rw [key_rr] at h; exact wpAny_eqBool_str h
  «strs» := fun k x t v h => by
    rcases keyIs_shape h with ⟨i, u, rfl, e⟩ | ⟨y, u, rfl, e⟩
    · exact nomatch e
    · injection e with e1 _
      subst e1
      cases v <;> rfl

end L2

namespace L2
open PySem PySem.Spec PyProof.Rows

inductive V where
  | non | bl (b : Bool) | int (i : Int) | str (x : Str) | byt (b : Array UInt8) | flt (b : UInt64) | ref (a : Addr) | ty (n : String)
  deriving DecidableEq

noncomputable def RelV : V → Value → Prop
  | .non, u => u = Value.none
  | .bl b, u => u = Value.bool b
  | .int i, u => ∃ t, u = Value.int i t
  | .str x, u => ∃ t, u = Value.str x t
  | .byt b, u => ∃ t, u = Value.bytes b t
  | .flt b, u => ∃ t, u = Value.float b t
  | .ref a, u => u = Value.ref a
  | .ty n, u => u = Value.type n

noncomputable abbrev Vals : List V → List Value → Prop := Paired RelV
theorem Vals.length {xs : List V} {us : List Value} (r : Vals xs us) : xs.length = us.length := Paired.length r
theorem Vals.get : ∀ {xs : List V} {us : List Value} {i : Nat} {x : V}, Vals xs us → xs[i]? = some x → ∃ u, us[i]? = some u ∧ RelV x u
  | _, _, _, _, .nil, e => by simp at e
  | _, _, 0, _, .cons r _, e => by simp at e; subst e; exact ⟨_, rfl, r⟩
  | _, _, i + 1, x, .cons _ t, e => by
    obtain ⟨u, h1, h2⟩ := Vals.get (i := i) (x := x) t (by simpa using e)
    exact ⟨u, by simpa using h1, h2⟩
theorem Vals.append : ∀ {xs ys : List V} {us ws : List Value}, Vals xs us → Vals ys ws → Vals (xs ++ ys) (us ++ ws)
  | _, _, _, _, .nil, s => s
  | _, _, _, _, .cons r t, s => .cons r (Vals.append t s)
theorem Vals.take : ∀ {xs : List V} {us : List Value} (n : Nat), Vals xs us → Vals (xs.take n) (us.take n)
  | _, _, 0, _ => .nil
  | _, _, _ + 1, .nil => .nil
  | _, _, n + 1, .cons r t => .cons r (Vals.take n t)
theorem Vals.drop : ∀ {xs : List V} {us : List Value} (n : Nat), Vals xs us → Vals (xs.drop n) (us.drop n)
  | _, _, 0, r => r
  | _, _, _ + 1, .nil => .nil
  | _, _, n + 1, .cons _ t => Vals.drop n t
noncomputable def RelO : Option V → Option Value → Prop
  | some v, some u => RelV v u
  | none, none => True
  | _, _ => False
noncomputable def KV {κ : Type} : List (κ × V) → List (κ × Value) → Prop := Paired fun (p : κ × V) (q : κ × Value) => p.1 = q.1 ∧ RelV p.2 q.2

noncomputable def kV : Key → V
  | .inl i => .int i
  | .inr x => .str x

inductive HO where
  /-- a list -/
  | lst (xs : List V)
  /-- a tuple (never changes) -/
  | tup (xs : List V)
  /-- a dict whose keys are ints and texts; one whose keys are tuples of ints and texts (the empty one is both) -/
  | dK (kvs : List (Key × V)) | dT (kvs : List (List Key × V))
  /-- a set of ints: its members, its size -/
  | set (S : Int → Bool) (n : Nat)
  /-- an instance of the class at C, its dict at dx, its attributes -/
  | ins (C dx : Addr) (fs : List (Str × V))
  /-- the dict of the instance at x -/
  | own (x : Addr)
  /-- the dict of an exception -/
  | xd (fs : List (Str × V))
  /-- a bound method, f of x -/
  | met (f x : Addr)
  /-- a range object lo, lo + 1, .. below hi -/
  | rng (lo hi : Int)
  /-- a thing that is known to the object (the script; a dict while a loop walks it): read, never written while it is so -/
  | frz (o : Obj) (u : HO)
  /-- a code object's table -/
  | tbl (ps : Array Value)
  /-- any other thing, by what is true of its one object (a def of one's own: SetO a S n := HO.ext fun h => ..) -/
  | ext (φ : Heap → Prop)

noncomputable abbrev Hp := Addr → Option HO
noncomputable def upd (H : Hp) (a : Addr) (o : HO) : Hp := fun b => if b = a then some o else H b
theorem upd_same {H : Hp} {a : Addr} {o : HO} : upd H a o a = some o := by unfold upd; rw [if_pos rfl]
theorem upd_ne {H : Hp} {a b : Addr} {o : HO} (h : b ≠ a) : upd H a o b = H b := by unfold upd; rw [if_neg h]
theorem ne_of {H : Hp} {a b : Addr} {o u : HO} (h : H a = some o) (h' : H b = some u) (d : o ≠ u) : a ≠ b := by
  intro e; subst e; rw [h] at h'; exact d (Option.some.inj h')
theorem ne_of_none {H : Hp} {a b : Addr} {o : HO} (h : H a = some o) (h' : H b = none) : a ≠ b := by
  intro e; subst e; rw [h] at h'; cases h'

section
variable (P : Program) (w : World)
noncomputable def IsTupN (h : Heap) (a : Addr) (its : Array Value) : Prop := ∃ o, h.get? a = some o ∧ o.cls = .type "tuple" ∧ (∃ n, o.data = .seq its n) ∧ o.dict = none
theorem IsTupN.tup {h : Heap} {a : Addr} {its : Array Value} (x : IsTupN h a its) : IsTup h a its := let ⟨o, e, c, d, _⟩ := x; ⟨o, e, c, d⟩
theorem IsTupN.new (h : Heap) (its : Array Value) : IsTupN (h.push { cls := .type "tuple", data := .seq its }) h.objs.size its := ⟨_, Heap.get?_push_size _ rfl, rfl, ⟨_, rfl⟩, rfl⟩
noncomputable def ObjOk (H : Hp) (h : Heap) (a : Addr) : HO → Prop
  | .lst xs => xs.length ≤ sizeLine ∧ ∃ (its : List Value) (n : Nat), Vals xs its ∧ h.get? a = some { cls := .type "list", data := .seq its.toArray n }
  | .tup xs => xs.length ≤ sizeLine ∧ ∃ its : List Value, Vals xs its ∧ IsTupN h a its.toArray
  | .dK kvs => kvs.length ≤ sizeLine ∧ (a == sysModules) = false ∧ ∃ vs, KV kvs vs ∧ h.DictOf (mixKind P w) a vs
  | .dT kvs => kvs.length ≤ sizeLine ∧ (a == sysModules) = false ∧ ∃ xs : List (List Key × Addr × Value),
      Paired (fun (p : List Key × V) (q : List Key × Addr × Value) => p.1 = q.1 ∧ H q.2.1 = some (.tup (p.1.map kV)) ∧ RelV p.2 q.2.2) kvs xs ∧
      ∃ o es ep, h.get? a = some o ∧ o.ExactDict ∧ o.data = .dict es ep ∧ es.toList = xs.map (entryOfKey (tupleKind (mixKind P w))) ∧ (xs.map (·.1)).Nodup
  | .set S n => h.SetOf (intKind P w) a S n
  | .ins C dx fs => H dx = some (.own a) ∧ fs.length ≤ 1000 ∧ dx ≠ a ∧ h.get? a = some (PySem.W.instObj C dx) ∧
      ∃ mA, h.Ns1 dx mA ∧ (∀ f, RelO (fs.lookup f) (mA f)) ∧ PySem.Within mA (fs.map (·.1))
  | .own _ => ∃ o, h.get? a = some o
  | .xd fs => ∃ mA, h.Ns1 a mA ∧ ∀ f, RelO (fs.lookup f) (mA f)
  | .rng lo hi => ∃ t u v, h.get? a = some { cls := .type "range", data := .fields #[.int lo t, .int hi u, .int 1 v] }
  | .frz o u => h.get? a = some o ∧ ObjOk H h a u
  | .tbl ps => h.get? a = some { cls := .none, data := .fields ps }
  | .met f x => h.get? a = some (PySem.W.methodObj (.ref f) (.ref x))
  | .ext φ => φ h ∧ (∃ o, h.get? a = some o) ∧ ∀ h1 h2 : Heap, φ h1 → (∀ o, h1.get? a = some o → h2.get? a = some o) → φ h2
noncomputable def HOk (H : Hp) (h : Heap) : Prop := ∀ a o, H a = some o → ObjOk P w H h a o
end

section
variable {P : Program} {w : World} {H H' : Hp} {h h' : Heap} {a : Addr} {o : HO}
theorem ObjOk.lt (x : ObjOk P w H h a o) : a < h.objs.size := by
  cases o with
  | lst xs => obtain ⟨_, _, _, _, e⟩ := x; exact Heap.lt_size e
  | tup xs => obtain ⟨_, _, _, p⟩ := x; exact p.tup.lt
  | dK kvs => obtain ⟨_, _, _, _, o, _, _, e, _⟩ := x; exact Heap.lt_size e
  | dT kvs => obtain ⟨_, _, _, _, o, _, _, e, _⟩ := x; exact Heap.lt_size e
  | set S n => obtain ⟨o, _, _, _, e, _⟩ := x; exact Heap.lt_size e
  | ins C dx fs => obtain ⟨_, _, _, e, _⟩ := x; exact Heap.lt_size e
  | own y => obtain ⟨_, e⟩ := x; exact Heap.lt_size e
  | xd fs => obtain ⟨_, ⟨_, _, _, e, _⟩, _⟩ := x; exact Heap.lt_size e
  | rng lo hi => obtain ⟨_, _, _, e⟩ := x; exact Heap.lt_size e
  | frz ob u => obtain ⟨e, _⟩ := x; exact Heap.lt_size e
  | tbl ps => exact Heap.lt_size (show h.get? a = some _ from x)
  | met f y => exact Heap.lt_size (show h.get? a = some _ from x)
  | ext φ => obtain ⟨_, ⟨_, e⟩, _⟩ := x; exact Heap.lt_size e
theorem Paired.mapP {α β : Type} {F G : α → β → Prop} : ∀ {l₁ : List α} {l₂ : List β}, Paired F l₁ l₂ → (∀ a b, F a b → G a b) → Paired G l₁ l₂
  | _, _, .nil, _ => .nil
  | _, _, .cons r t, f => .cons (f _ _ r) (Paired.mapP t f)
theorem ObjOk.stay (x : ObjOk P w H h a o) (k : ∀ b u, (b = a ∨ H b = some (.own a)) → h.get? b = some u → h'.get? b = some u)
    (ho : ∀ b, H b = some (.own a) → H' b = some (.own a)) (ht : ∀ b xs, H b = some (.tup xs) → H' b = some (.tup xs)) : ObjOk P w H' h' a o := by
  induction o with
  | lst xs => obtain ⟨z, its, n, r, e⟩ := x; exact ⟨z, its, n, r, k _ _ (.inl rfl) e⟩
  | tup xs => obtain ⟨z, its, r, ob, e, c⟩ := x; exact ⟨z, its, r, ob, k _ _ (.inl rfl) e, c⟩
  | dK kvs => obtain ⟨z, y, vs, r, ob, es, ep, e, c⟩ := x; exact ⟨z, y, vs, r, ob, es, ep, k _ _ (.inl rfl) e, c⟩
  | dT kvs =>
    obtain ⟨z, y, xs, r, ob, es, ep, e, c⟩ := x
    exact ⟨z, y, xs, Paired.mapP r fun p q z => ⟨z.1, ht _ _ z.2.1, z.2.2⟩, ob, es, ep, k _ _ (.inl rfl) e, c⟩
  | set S n => obtain ⟨ob, es, ep, t, e, c⟩ := x; exact ⟨ob, es, ep, t, k _ _ (.inl rfl) e, c⟩
  | ins C dx fs =>
    obtain ⟨d, z, ne, e, mA, ⟨od, es, ep, e2, c⟩, r⟩ := x
    exact ⟨ho _ d, z, ne, k _ _ (.inl rfl) e, mA, ⟨od, es, ep, k _ _ (.inr d) e2, c⟩, r⟩
  | own y => obtain ⟨ob, e⟩ := x; exact ⟨ob, k _ _ (.inl rfl) e⟩
  | xd fs => obtain ⟨mA, ⟨od, es, ep, e, c⟩, r⟩ := x; exact ⟨mA, ⟨od, es, ep, k _ _ (.inl rfl) e, c⟩, r⟩
  | rng lo hi => obtain ⟨t, u, v, e⟩ := x; exact ⟨t, u, v, k _ _ (.inl rfl) e⟩
  | frz ob u ih => obtain ⟨e, q⟩ := x; exact ⟨k _ _ (.inl rfl) e, ih q⟩
  | tbl ps =>
    have e : h.get? a = some { cls := .none, data := .fields ps } := x
    show h'.get? a = some { cls := .none, data := .fields ps }
    exact k a _ (.inl rfl) e
  | met f y =>
    have e : h.get? a = some (PySem.W.methodObj (.ref f) (.ref y)) := x
    show h'.get? a = some (PySem.W.methodObj (.ref f) (.ref y))
    exact k a _ (.inl rfl) e
  | ext φ => obtain ⟨p, ⟨o, e⟩, st⟩ := x; exact ⟨st _ _ p fun o q => k _ _ (.inl rfl) q, ⟨o, k _ _ (.inl rfl) e⟩, st⟩
theorem HOk.lt (x : HOk P w H h) (e : H a = some o) : a < h.objs.size := (x a o e).lt
theorem HOk.fresh (x : HOk P w H h) (e : h.objs.size ≤ a) : H a = none := by
  cases q : H a with
  | none => rfl
  | some u => exact absurd (Nat.lt_of_lt_of_le (x.lt q) e) (Nat.lt_irrefl _)
theorem HOk.kept (x : HOk P w H h) (k : ∀ b u, h.get? b = some u → h'.get? b = some u) : HOk P w H h' := fun a o e =>
  (x a o e).stay (fun b u _ q => k b u q) (fun _ q => q) fun _ _ q => q
theorem HOk.laid (x : HOk P w H h) (k : ∀ b u, h.get? b = some u → h'.get? b = some u) (hp : h.objs.size ≤ a) (new : ObjOk P w (upd H a o) h' a o) : HOk P w (upd H a o) h' := fun b u e => by
  have hn := x.fresh hp
  by_cases hb : b = a
  · subst hb; rw [upd_same] at e; cases e; exact new
  · rw [upd_ne hb] at e
    exact (x b u e).stay (fun c v _ q => k c v q) (fun c q => by rw [upd_ne (ne_of_none q hn)]; exact q) fun c xs q => by rw [upd_ne (ne_of_none q hn)]; exact q
end

noncomputable def Rd (H : Hp) (a : Addr) (u : HO) : Prop := H a = some u ∨ ∃ o, H a = some (.frz o u)
theorem Rd.ok {P : Program} {w : World} {H : Hp} {h : Heap} {a : Addr} {u : HO} (r : Rd H a u) (x : HOk P w H h) : ObjOk P w H h a u := by
  rcases r with r | ⟨o, r⟩
  · exact x a u r
  · obtain ⟨_, q⟩ := x a _ r
    exact q
noncomputable def Mut : Option HO → Prop
  | some (.lst _) => True
  | some (.dK _) => True
  | some (.dT _) => True
  | some (.set _ _) => True
  | some (.ins _ _ _) => True
  | some (.ext _) => True
  | _ => False
section
variable {P : Program} {w : World} {H : Hp} {h h' : Heap} {x e : Addr} {o' : HO}
theorem HOk.write (ok : HOk P w H h) (mu : Mut (H x)) (he : e = x ∨ H e = some (.own x)) (k : ∀ b u, b ≠ e → h.get? b = some u → h'.get? b = some u) (heo : ∃ u, h'.get? e = some u)
    (new : ObjOk P w (upd H x o') h' x o') : HOk P w (upd H x o') h' := fun b u q => by
  have nown : ∀ c y, H c = some (.own y) → c ≠ x := fun c y r z => by subst z; rw [r] at mu; exact mu
  have ntup : ∀ c xs, H c = some (.tup xs) → c ≠ x := fun c xs r z => by subst z; rw [r] at mu; exact mu
  by_cases hb : b = x
  · subst hb; rw [upd_same] at q; cases q; exact new
  · rw [upd_ne hb] at q
    by_cases hbe : b = e
    · have q' : H b = some (.own x) := by
        rcases he with z | z
        · exact absurd (hbe.trans z) hb
        · rw [hbe]; exact z
      rw [q] at q'; cases q'
      obtain ⟨v, hv⟩ := heo
      exact ⟨v, by rw [hbe]; exact hv⟩
    · refine (ok b u q).stay (fun c v hc r => k c v ?_ r) (fun c r => by rw [upd_ne (nown c b r)]; exact r) fun c xs r => by rw [upd_ne (ntup c xs r)]; exact r
      rcases hc with rfl | hc
      · exact hbe
      · rintro rfl
        rcases he with z | z
        · exact nown c b hc z
        · rw [hc] at z; cases z; exact hb rfl
end

structure Un (fs ex : List Addr) (H H' : Hp) (h h' : Heap) : Prop where
  keep : ∀ b o, h.get? b = some o → H b = none → b ∉ fs → b ∉ ex → h'.get? b = some o
  slot : ∀ b o, h.get? b = some o → H b = none → b ∈ fs → b ∉ ex → ∃ sl, h'.get? b = some { o with slots := sl }
  free : ∀ b o, h.get? b = some o → H b = none → b ∉ ex → H' b = none
  there : ∀ b o, h.get? b = some o → b ∉ ex → ∃ o', h'.get? b = some o'
  tups : ∀ b xs, H b = some (.tup xs) → H' b = some (.tup xs)
  frzs : ∀ b o u, H b = some (.frz o u) → H' b = some (.frz o u)
  tbls : ∀ b ps, H b = some (.tbl ps) → ∃ more, H' b = some (.tbl (ps ++ more))
section
variable {fs fs' ex ex' : List Addr} {H H1 H2 : Hp} {h h1 h2 h' : Heap} {a x e : Addr} {o : HO}
theorem Un.any (u : Un fs ex H H1 h h1) {b : Addr} {ob : Obj} (q : h.get? b = some ob) (n : H b = none) (hx : b ∉ ex) : ∃ sl, h1.get? b = some { ob with slots := sl } := by
  by_cases hb : b ∈ fs
  · exact u.slot b ob q n hb hx
  · exact ⟨ob.slots, u.keep b ob q n hb hx⟩
theorem Un.kept (k : ∀ b u, h.get? b = some u → h'.get? b = some u) : Un fs ex H H h h' :=
  ⟨fun b ob q _ _ _ => k b ob q, fun b ob q _ _ _ => ⟨ob.slots, k b ob q⟩, fun _ _ _ n _ => n, fun b ob q _ => ⟨ob, k b ob q⟩, fun _ _ q => q, fun _ _ _ q => q, fun _ ps q => ⟨#[], by rw [q]; simp⟩⟩
theorem Un.refl : Un fs ex H H h h := Un.kept fun _ _ q => q
theorem Un.laid (k : ∀ b u, h.get? b = some u → h'.get? b = some u) (hp : h.objs.size ≤ a) (hn : H a = none) : Un fs ex H (upd H a o) h h' where
  keep := fun b u q _ _ _ => k b u q
  slot := fun b u q _ _ _ => ⟨u.slots, k b u q⟩
  free := fun b u q n _ => by rw [upd_ne (Nat.ne_of_lt (Nat.lt_of_lt_of_le (Heap.lt_size q) hp))]; exact n
  there := fun b u q _ => ⟨u, k b u q⟩
  tups := fun b xs q => by rw [upd_ne (ne_of_none q hn)]; exact q
  frzs := fun b u xs q => by rw [upd_ne (ne_of_none q hn)]; exact q
  tbls := fun b ps q => ⟨#[], by rw [upd_ne (ne_of_none q hn), q]; simp⟩
theorem Un.write (mu : Mut (H x)) (he : e = x ∨ H e = some (.own x)) (k : ∀ b u, b ≠ e → h.get? b = some u → h'.get? b = some u) (heo : ∃ u, h'.get? e = some u) : Un fs ex H (upd H x o) h h' := by
  have hx : ∀ b, H b = none → b ≠ x := fun b n z => by subst z; rw [n] at mu; exact mu
  have hb : ∀ b, H b = none → b ≠ e := fun b n z => by
    subst z
    rcases he with r | r
    · exact hx b n r
    · rw [n] at r; cases r
  have hm : ∀ b u, H b = some u → ¬ Mut (some u) → b ≠ x := fun b u q nm z => by subst z; rw [q] at mu; exact nm mu
  refine ⟨fun b u q n _ _ => k b u (hb b n) q, fun b u q n _ _ => ⟨u.slots, k b u (hb b n) q⟩, fun b u q n _ => by rw [upd_ne (hx b n)]; exact n, fun b u q _ => ?_,
    fun b xs q => by rw [upd_ne (hm b _ q fun z => z)]; exact q, fun b u xs q => by rw [upd_ne (hm b _ q fun z => z)]; exact q, fun b ps q => ⟨#[], by rw [upd_ne (hm b _ q fun z => z), q]; simp⟩⟩
  by_cases hbe : b = e
  · subst hbe; exact heo
  · exact ⟨u, k b u hbe q⟩
end

noncomputable def trk (h : Heap) (H : Hp) : List Addr := (List.range h.objs.size).filter fun a => (H a).isSome
noncomputable def hidT (h : Heap) (H : Hp) : Heap := PySem.W.hideAll h (trk h H)
theorem hidT_size (h : Heap) (H : Hp) : (hidT h H).objs.size = h.objs.size := PySem.W.hideAll_size _ _
theorem hidT_get {h : Heap} {H : Hp} {b : Addr} {o : Obj} (e : h.get? b = some o) (n : H b = none) : (hidT h H).get? b = some o :=
  PySem.W.hideAll_get _ e fun hm => by
    have q : (H b).isSome = true := (List.mem_filter.mp hm).2
    rw [n] at q; simp at q
theorem of_hidT {h : Heap} {H : Hp} {b : Addr} {o : Obj} (e : (hidT h H).get? b = some o) : h.get? b = some o ∧ H b = none := by
  have e' : h.get? b = some o := PySem.W.of_hideAll (trk h H) e
  refine ⟨e', ?_⟩
  cases q : H b with
  | none => rfl
  | some x =>
    have hm : b ∈ trk h H := List.mem_filter.mpr ⟨List.mem_range.mpr (Heap.lt_size e'), by simp [q]⟩
    have z : (hidT h H).get? b = none := PySem.W.hideAll_none (trk h H) hm
    rw [z] at e; cases e

end L2

namespace L2
open PySem PySem.Spec PyProof.Rows

structure Mod (K : PySem.W.Frag) (mg : Str → Option Value) (base : Heap) : Prop where
  kin : K.In base
  glob : base.Ns mainGlobals mg
  blt : ∃ mb, base.Ns builtinsNs mb ∧ ∀ x : Str, x ≠ "__name__" → mb x = bootBuiltins x
  nolimit : base.NoLimit

structure Cx where
  prog : Program
  w : World
  K : PySem.W.Frag
  mg : Str → Option Value
  base : Heap
  A : Around
  N : List Str
  s₀ : Shared
  H₀ : Hp
  env : Env
  outer : List Env
  stack : List Env
  ex : List Addr
  fn : Str → Bool
  calm : Bool
  pn : List (Addr × Obj)
  xe : Value → Shared → Prop
noncomputable def frs (l : List Env) : List Addr := l.filterMap (·.frame)
noncomputable abbrev Cx.fs (X : Cx) : List Addr := frs X.outer

noncomputable def Vis (sc : Scope) (x : Str) : Prop := sc.names.lookup x = some .local ∨ sc.names.lookup x = some .cell ∨ sc.names.lookup x = some .free
noncomputable def Loc (sc : Scope) (x : Str) : Prop := sc.names.lookup x = some .local ∨ sc.names.lookup x = some .cell
noncomputable def Look (env : Env) (h : Heap) (m : Str → Option Value) (x : Str) (u : Value) : Prop :=
  (env.kindOf x = some .local ∧ m x = some u) ∨ ((env.kindOf x = some .cell ∨ env.kindOf x = some .free) ∧ ∃ c, env.cells.lookup x = some c ∧ h.IsCell c (some u))

structure Cx.Ok (X : Cx) : Prop where
  mod : Mod X.K X.mg X.base
  kind : X.env.scope.kind = .function
  glob : X.env.globals = mainGlobals
  blt : X.env.builtins = builtinsNs
  above : X.s₀.heap.objs.size ≤ X.env.locals
  inj : ∀ x y c, X.env.cells.lookup x = some c → X.env.cells.lookup y = some c → x = y
  has : ∀ x, (X.env.kindOf x = some .cell ∨ X.env.kindOf x = some .free) → ∃ c, X.env.cells.lookup x = some c
  cab : ∀ x c, X.fn x = true → X.env.cells.lookup x = some c → X.s₀.heap.objs.size ≤ c
  hd : X.calm = true → X.A.handled = none
  frames : X.A.frames = some X.stack
  stk : X.stack = X.outer ∨ (X.stack = X.env :: X.outer ∧ X.env.frame = some X.env.locals)
  exf : ∀ b ∈ X.ex, b ≠ X.env.locals ∧ ∀ x c, X.env.cells.lookup x = some c → c ≠ b
  bs : ∀ b o, X.base.get? b = some o → X.s₀.heap.get? b = some o ∧ X.H₀ b = none
  bsz : X.base.objs.size ≤ X.s₀.heap.objs.size
  noex : ∀ b o, X.base.get? b = some o → b ∉ X.ex
  exfs : ∀ b ∈ X.ex, b ∉ X.fs
  funs : X.s₀.heap.FunFrames X.base X.outer
  frf : ∀ b ∈ X.fs, X.H₀ b = none

structure Inv (X : Cx) (pins : List (Addr × Obj)) (σ : List (Option V)) (H : Hp) (s : Shared) : Prop where
  ok : X.Ok
  os : s.os = X.s₀.os
  bare : AllBare s.gens
  base : Un X.fs X.ex X.H₀ H X.s₀.heap s.heap
  loc : ∃ m, s.heap.Ns X.env.locals m ∧ ∀ (i : Nat) (x : Str) (v : V), X.N[i]? = some x → σ[i]? = some (some v) → Vis X.env.scope x → ∃ u, RelV v u ∧ Look X.env s.heap m x u
  cell : ∀ x c, X.env.cells.lookup x = some c → ∃ v, s.heap.IsCell c v
  free : H X.env.locals = none
  freeC : ∀ x c, X.env.cells.lookup x = some c → H c = none
  pin : ∀ p ∈ X.pn ++ pins, s.heap.get? p.1 = some p.2 ∧ H p.1 = none ∧ p.1 ≠ X.env.locals ∧ p.1 ∉ X.fs ∧ ∀ v, p.2.data ≠ .cell v
  hok : HOk X.prog X.w H s.heap
  len : σ.length = X.N.length

section
variable {X : Cx} {pins : List (Addr × Obj)} {σ : List (Option V)} {H H' : Hp} {s : Shared} {h' : Heap}

theorem Cx.Ok.nofr (ok : X.Ok) {b : Addr} {o : Obj} (e : X.base.get? b = some o) : b ∉ X.fs := fun hb => by
  have := (ok.funs.mem hb).1
  rw [e] at this; cases this
theorem Inv.bs (I : Inv X pins σ H s) : ∀ b o, X.base.get? b = some o → s.heap.get? b = some o ∧ H b = none := fun b o e =>
  ⟨I.base.keep b o (I.ok.bs b o e).1 (I.ok.bs b o e).2 (I.ok.nofr e) (I.ok.noex b o e), I.base.free b o (I.ok.bs b o e).1 (I.ok.bs b o e).2 (I.ok.noex b o e)⟩
theorem Inv.bk (I : Inv X pins σ H s) : ∀ b o, X.base.get? b = some o → s.heap.get? b = some o := fun b o e => (I.bs b o e).1
theorem Inv.mod (I : Inv X pins σ H s) : Mod X.K X.mg X.base := I.ok.mod
theorem Inv.kIn (I : Inv X pins σ H s) : X.K.In s.heap := I.ok.mod.kin.keeps I.bk
theorem Inv.lt (I : Inv X pins σ H s) : X.env.locals < s.heap.objs.size := let ⟨_, hn, _⟩ := I.loc; hn.lt
theorem Inv.sz (I : Inv X pins σ H s) : X.s₀.heap.objs.size ≤ s.heap.objs.size := Nat.le_trans I.ok.above (Nat.le_of_lt I.lt)
theorem Inv.nofs (I : Inv X pins σ H s) {a : Addr} (h : s.heap.objs.size ≤ a) : a ∉ X.fs := fun hb => by
  obtain ⟨_, o, ho, _⟩ := I.ok.funs.mem hb
  exact absurd (Nat.lt_of_lt_of_le (Heap.lt_size ho) (Nat.le_trans I.sz h)) (Nat.lt_irrefl _)
theorem Inv.cne (I : Inv X pins σ H s) : ∀ x c, X.env.cells.lookup x = some c → c ≠ X.env.locals := fun x c e z => by
  obtain ⟨v, o, ho, hd⟩ := I.cell x c e
  obtain ⟨m, ⟨o', es, ep, ho', hd', _⟩, _⟩ := I.loc
  rw [z, ho'] at ho; cases ho; rw [hd'] at hd; cases hd
theorem Inv.funs (I : Inv X pins σ H s) : s.heap.FunFrames X.base X.outer := by
  have all : ∀ (l : List Env), (∀ b ∈ frs l, b ∈ X.fs) → X.s₀.heap.FunFrames X.base l → s.heap.FunFrames X.base l := by
    intro l
    induction l with
    | nil => intro _ _; trivial
    | cons env r ih =>
      intro hs hl
      obtain ⟨hk, ⟨L, o, hf, hn, ho, hd⟩, hr⟩ := hl
      have hL : L ∈ X.fs := hs L (by unfold frs; rw [List.filterMap_cons, hf]; exact List.mem_cons_self)
      obtain ⟨sl, e⟩ := I.base.slot L o ho (I.ok.frf L hL) hL fun z => I.ok.exfs L z hL
      exact ⟨hk, ⟨L, _, hf, hn, e, hd⟩, ih (fun b hb => hs b (by unfold frs; rw [List.filterMap_cons, hf]; exact List.mem_cons_of_mem _ hb)) hr⟩
  exact all X.outer (fun _ hb => hb) I.ok.funs

theorem Inv.stack (I : Inv X pins σ H s) : s.heap.FunFrames X.base X.stack := by
  rcases I.ok.stk with e | ⟨e, hf⟩
  · rw [e]; exact I.funs
  · rw [e]
    obtain ⟨m, hn, _⟩ := I.loc
    refine .cons (by rw [I.ok.kind]; decide) hf hn ?_ I.funs
    exact Heap.get?_none_of_le (Nat.le_trans I.ok.bsz I.ok.above)
theorem Inv.stkSub (I : Inv X pins σ H s) : ∀ b ∈ frs X.stack, b ∈ X.env.locals :: X.fs := fun b hb => by
  rcases I.ok.stk with e | ⟨e, hf⟩
  · rw [e] at hb; exact List.mem_cons_of_mem _ hb
  · rw [e] at hb
    unfold frs at hb
    rw [List.filterMap_cons, hf] at hb
    exact hb
theorem Inv.stkFree (I : Inv X pins σ H s) : ∀ b ∈ frs X.stack, H b = none := fun b hb => by
  rcases List.mem_cons.mp (I.stkSub b hb) with e | hb
  · rw [e]; exact I.free
  · obtain ⟨_, o, ho, _⟩ := I.ok.funs.mem hb
    exact I.base.free b o ho (I.ok.frf b hb) fun z => I.ok.exfs b z hb

theorem Inv.step {g' : Array GenState} {t' : Nat} {d' : Drawn} {ch : List Addr} (I : Inv X pins σ H s)
    (hch : ∀ b ∈ ch, (b ∈ X.ex ∨ X.s₀.heap.objs.size ≤ b) ∧ b ≠ X.env.locals ∧ (∀ x c, X.env.cells.lookup x = some c → c ≠ b) ∧ ∀ p ∈ X.pn ++ pins, p.1 ≠ b)
    (keep : ∀ b o, b ≠ X.env.locals → b ∉ X.fs → b ∉ ch → s.heap.get? b = some o → H b = none → h'.get? b = some o)
    (slot : ∀ b o, b ≠ X.env.locals → b ∈ X.fs → b ∉ ch → s.heap.get? b = some o → H b = none → ∃ sl, h'.get? b = some { o with slots := sl }) (free : ∀ b o, b ∉ ch → s.heap.get? b = some o → H b = none → H' b = none)
    (there : ∀ b o, b ∉ ch → s.heap.get? b = some o → ∃ o', h'.get? b = some o')
    (tups : ∀ b xs, H b = some (.tup xs) → H' b = some (.tup xs)) (frzs : ∀ b o u, H b = some (.frz o u) → H' b = some (.frz o u)) (tbls : ∀ b ps, H b = some (.tbl ps) → ∃ more, H' b = some (.tbl (ps ++ more)))
    (ns : ∀ m, s.heap.Ns X.env.locals m → h'.Ns X.env.locals m) (hok : HOk X.prog X.w H' h') (hg : AllBare g') :
    Inv X pins σ H' { s with heap := h', gens := g', drawn := d', toks := t' } := by
  have neL : ∀ b o, X.s₀.heap.get? b = some o → b ≠ X.env.locals := fun b o e => Nat.ne_of_lt (Nat.lt_of_lt_of_le (Heap.lt_size e) I.ok.above)
  have neC : ∀ b o, X.s₀.heap.get? b = some o → b ∉ X.ex → b ∉ ch := fun b o e hx hb => by
    rcases (hch b hb).1 with z | z
    · exact hx z
    · exact absurd (Nat.lt_of_lt_of_le (Heap.lt_size e) z) (Nat.lt_irrefl _)
  have cellK : ∀ x c, X.env.cells.lookup x = some c → ∀ v, s.heap.IsCell c v → h'.IsCell c v := fun x c e v ⟨o, ho, hd⟩ => by
    have nch : c ∉ ch := fun z => (hch c z).2.2.1 x c e rfl
    by_cases hc : c ∈ X.fs
    · obtain ⟨sl, q⟩ := slot c o (I.cne x c e) hc nch ho (I.freeC x c e)
      exact ⟨_, q, hd⟩
    · exact ⟨o, keep c o (I.cne x c e) hc nch ho (I.freeC x c e), hd⟩
  refine ⟨I.ok, I.os, hg, ⟨fun b o e n hb hx => ?_, fun b o e n hb hx => ?_, fun b o e n hx => ?_, fun b o e hx => ?_, fun b xs e => tups b xs (I.base.tups b xs e), fun b o xs e => frzs b o xs (I.base.frzs b o xs e), fun b ps e => ?_⟩, ?_, fun x c e => ?_, ?_, fun x c e => ?_, fun p hp => ?_, hok, I.len⟩
  · exact keep b o (neL b o e) hb (neC b o e hx) (I.base.keep b o e n hb hx) (I.base.free b o e n hx)
  · obtain ⟨sl, e1⟩ := I.base.slot b o e n hb hx
    obtain ⟨sl', e2⟩ := slot b _ (neL b o e) hb (neC b o e hx) e1 (I.base.free b o e n hx)
    exact ⟨sl', e2⟩
  · obtain ⟨o', e1⟩ := I.base.there b o e hx
    exact free b o' (neC b o e hx) e1 (I.base.free b o e n hx)
  · obtain ⟨o', e1⟩ := I.base.there b o e hx
    exact there b o' (neC b o e hx) e1
  · obtain ⟨m1, e1⟩ := I.base.tbls b ps e
    obtain ⟨m2, e2⟩ := tbls b _ e1
    exact ⟨m1 ++ m2, by rw [e2, Array.append_assoc]⟩
  · obtain ⟨m, hn, hl⟩ := I.loc
    refine ⟨m, ns m hn, fun i x v e1 e2 e3 => ?_⟩
    obtain ⟨u, r, l⟩ := hl i x v e1 e2 e3
    refine ⟨u, r, ?_⟩
    rcases l with l | ⟨k, c, e, z⟩
    · exact .inl l
    · exact .inr ⟨k, c, e, cellK x c e _ z⟩
  · obtain ⟨v, z⟩ := I.cell x c e
    exact ⟨v, cellK x c e v z⟩
  · obtain ⟨m, ⟨o, _, _, ho, _⟩, _⟩ := I.loc
    exact free _ o (fun z => (hch _ z).2.1 rfl) ho I.free
  · obtain ⟨v, o, ho, hd⟩ := I.cell x c e
    exact free c o (fun z => (hch c z).2.2.1 x c e rfl) ho (I.freeC x c e)
  · obtain ⟨e, n, ne, nf, d⟩ := I.pin p hp
    have nch : p.1 ∉ ch := fun z => (hch p.1 z).2.2.2 p hp rfl
    exact ⟨keep p.1 p.2 ne nf nch e n, free p.1 p.2 nch e n, ne, nf, d⟩
theorem Inv.un {t' : Nat} (I : Inv X pins σ H s) (u : Un X.fs [] H H' s.heap h') (hok : HOk X.prog X.w H' h') : Inv X pins σ H' { s with heap := h', toks := t' } := by
  obtain ⟨m, ⟨o, es, ep, ho, r⟩, _⟩ := id I.loc
  obtain ⟨sl, hL⟩ := u.any ho I.free (by simp)
  exact I.step (g' := s.gens) (d' := s.drawn) (ch := []) (fun _ z => nomatch z) (fun b o _ hb _ e n => u.keep b o e n hb (by simp)) (fun b o _ hb _ e n => u.slot b o e n hb (by simp)) (fun b o _ e n => u.free b o e n (by simp)) (fun b o _ e => u.there b o e (by simp)) u.tups u.frzs u.tbls (fun m' hm => by
    obtain ⟨o', es', ep', ho', r'⟩ := hm
    rw [ho] at ho'; cases ho'
    exact ⟨_, es', ep', hL, r'⟩) hok I.bare
theorem Inv.call {g' : Array GenState} {t' : Nat} {d' : Drawn} {ch : List Addr} (I : Inv X pins σ H s) (u : Un (frs X.stack) ch H H' s.heap h') (hok : HOk X.prog X.w H' h') (hg : AllBare g')
    (hch : ∀ b ∈ ch, (b ∈ X.ex ∨ X.s₀.heap.objs.size ≤ b) ∧ b ≠ X.env.locals ∧ (∀ x c, X.env.cells.lookup x = some c → c ≠ b) ∧ ∀ p ∈ X.pn ++ pins, p.1 ≠ b) :
    Inv X pins σ H' { s with heap := h', gens := g', drawn := d', toks := t' } := by
  obtain ⟨m, ⟨o, es, ep, ho, r⟩, _⟩ := id I.loc
  obtain ⟨sl, hL⟩ := u.any ho I.free fun z => (hch _ z).2.1 rfl
  exact I.step (ch := ch) hch (fun b o hL hb hc e n => u.keep b o e n (fun z => (List.mem_cons.mp (I.stkSub b z)).elim hL hb) hc) (fun b o _ _ hc e n => u.any e n hc) (fun b o hc e n => u.free b o e n hc) (fun b o hc e => u.there b o e hc) u.tups u.frzs u.tbls (fun m' hm => by
    obtain ⟨o', es', ep', ho', r'⟩ := hm
    rw [ho] at ho'; cases ho'
    exact ⟨_, es', ep', hL, r'⟩) hok hg
theorem Inv.turned {t' : Nat} {it : Addr} (I : Inv X pins σ H s) (k : ∀ b o, b ≠ it → s.heap.get? b = some o → h'.get? b = some o) (hn : H it = none) (hL : it ≠ X.env.locals)
    (h1 : it ∈ X.ex ∨ X.s₀.heap.objs.size ≤ it) (h2 : ∀ x c, X.env.cells.lookup x = some c → c ≠ it) (h3 : ∀ p ∈ X.pn ++ pins, p.1 ≠ it) : Inv X pins σ H { s with heap := h', toks := t' } := by
  have nit : ∀ b u, H b = some u → b ≠ it := fun b u e z => by rw [z, hn] at e; cases e
  refine I.step (g' := s.gens) (d' := s.drawn) (ch := [it]) (fun b hb => ?_) (fun b o _ _ hc e _ => k b o (fun z => hc (by simp [z])) e) (fun b o _ _ hc e _ => ⟨o.slots, k b o (fun z => hc (by simp [z])) e⟩) (fun _ _ _ _ n => n)
    (fun b o hc e => ⟨o, k b o (fun z => hc (by simp [z])) e⟩) (fun _ _ e => e) (fun _ _ _ e => e) (fun b ps e => ⟨#[], by rw [e]; simp⟩) (fun m hm => ?_) (fun b u e => ?_) I.bare
  · have e : b = it := by simpa using hb
    subst e
    exact ⟨h1, hL, h2, h3⟩
  · obtain ⟨o, es, ep, ho, r⟩ := hm
    exact ⟨o, es, ep, k _ o (Ne.symm hL) ho, r⟩
  · refine (I.hok b u e).stay (fun c v hc q => k c v ?_ q) (fun _ q => q) fun _ _ q => q
    rcases hc with z | z
    · rw [z]; exact nit b u e
    · exact nit c _ z
theorem Inv.tok (I : Inv X pins σ H s) (t : Nat) : Inv X pins σ H { s with toks := t } := I.un (h' := s.heap) (t' := t) Un.refl I.hok
theorem Inv.kept {t' : Nat} (I : Inv X pins σ H s) (k : ∀ b u, s.heap.get? b = some u → h'.get? b = some u) : Inv X pins σ H { s with heap := h', toks := t' } := I.un (Un.kept k) (I.hok.kept k)
theorem Inv.laid {a : Addr} {o : HO} {t' : Nat} (I : Inv X pins σ H s) (k : ∀ b u, s.heap.get? b = some u → h'.get? b = some u) (hp : s.heap.objs.size ≤ a) (new : ObjOk X.prog X.w (upd H a o) h' a o) :
    Inv X pins σ (upd H a o) { s with heap := h', toks := t' } := I.un (Un.laid k hp (I.hok.fresh hp)) (I.hok.laid k hp new)
theorem Inv.write {x e : Addr} {o : HO} {t' : Nat} (I : Inv X pins σ H s) (mu : Mut (H x)) (he : e = x ∨ H e = some (.own x)) (k : ∀ b u, b ≠ e → s.heap.get? b = some u → h'.get? b = some u) (heo : ∃ u, h'.get? e = some u)
    (new : ObjOk X.prog X.w (upd H x o) h' x o) : Inv X pins σ (upd H x o) { s with heap := h', toks := t' } := I.un (Un.write mu he k heo) (I.hok.write mu he k heo new)
theorem Inv.weak {σ' : List (Option V)} (I : Inv X pins σ H s) (hl : σ'.length = σ.length) (w : ∀ (i : Nat) v, σ'[i]? = some (some v) → σ[i]? = some (some v)) : Inv X pins σ' H s :=
  ⟨I.ok, I.os, I.bare, I.base, let ⟨m, hn, hl'⟩ := I.loc; ⟨m, hn, fun i x v e1 e2 e3 => hl' i x v e1 (w i v e2) e3⟩, I.cell, I.free, I.freeC, I.pin, I.hok, hl.trans I.len⟩
theorem Inv.pins_of {pins' : List (Addr × Obj)} (I : Inv X pins σ H s) (h : ∀ p ∈ pins', s.heap.get? p.1 = some p.2 ∧ H p.1 = none ∧ p.1 ≠ X.env.locals ∧ p.1 ∉ X.fs ∧ ∀ v, p.2.data ≠ .cell v) : Inv X pins' σ H s :=
  ⟨I.ok, I.os, I.bare, I.base, I.loc, I.cell, I.free, I.freeC, fun p hp => (List.mem_append.mp hp).elim (fun z => I.pin p (List.mem_append_left _ z)) (h p), I.hok, I.len⟩

theorem nodup_ix {N : List Str} (hN : N.Nodup) {i j : Nat} {x : Str} (a : N[i]? = some x) (b : N[j]? = some x) : i = j := by
  obtain ⟨h1, e1⟩ := List.getElem?_eq_some_iff.mp a
  obtain ⟨h2, e2⟩ := List.getElem?_eq_some_iff.mp b
  exact (List.getElem_inj hN).mp (e1.trans e2.symm)

theorem store_ok2 {M : Model} {A : Around} {E : Value → Shared → Prop} {i : Nat} {x : Str} {v : V} {u : Value} {Q : Unit → Shared → Prop} (I : Inv X pins σ H s) (hN : X.N.Nodup) (hi : X.N[i]? = some x) (hx : Loc X.env.scope x) (r : RelV v u)
    (h : ∀ s', Inv X pins (σ.set i (some v)) H s' → (∃ a, Heap.SameBut a s.heap s'.heap ∧ (a = X.env.locals ∨ X.env.cells.lookup x = some a)) → Q () s') (hf : X.fn x = true ∨ X.env.scope.names.lookup x = some .local := by first | exact .inl rfl | exact .inr rfl | assumption) : wpAny M A (storeName X.env x u) Q E s := by
  obtain ⟨m, hn, hl⟩ := id I.loc
  have hcls : (X.env.scope.kind == .class || (X.env.scope.kind == .module && X.env.locals != X.env.globals)) = false := by rw [I.ok.kind]; rfl
  have hiσ : i < σ.length := by rw [I.len]; exact (List.getElem?_eq_some_iff.mp hi).1
  have cne := I.cne
  have tracked : ∀ {a : Addr} {h' : Heap}, (∃ o, s.heap.get? a = some o ∧ H a = none) → Heap.SameBut a s.heap h' → HOk X.prog X.w H h' := fun {a h'} ha hs b ob e => by
    obtain ⟨_, _, hfree⟩ := ha
    refine (I.hok b ob e).stay (fun c w' hc q => (hs.2 c ?_).trans q) (fun _ q => q) fun _ _ q => q
    rintro rfl
    rcases hc with rfl | hc
    · rw [hfree] at e; cases e
    · rw [hfree] at hc; cases hc
  rcases hx with hk | hk
  · refine wpAny_storeName_local hk hn (fun h' hn' hs => ?_) hcls
    obtain ⟨oL, _, _, hoL, _⟩ := id hn
    refine h _ ⟨I.ok, I.os, I.bare, ⟨fun b o e n hb hx => ?_, fun b o e n hb hx => ?_, I.base.free, fun b o e hx => ?_, I.base.tups, I.base.frzs, I.base.tbls⟩, ⟨_, hn', fun j y v' e1 e2 e3 => ?_⟩, fun y c e => ?_, I.free, I.freeC, fun p hp => ?_, tracked ⟨oL, hoL, I.free⟩ hs, by simpa using I.len⟩ ⟨_, hs, .inl rfl⟩
    · exact (hs.2 b (Nat.ne_of_lt (Nat.lt_of_lt_of_le (Heap.lt_size e) I.ok.above))).trans (I.base.keep b o e n hb hx)
    · obtain ⟨sl, e1⟩ := I.base.slot b o e n hb hx
      exact ⟨sl, (hs.2 b (Nat.ne_of_lt (Nat.lt_of_lt_of_le (Heap.lt_size e) I.ok.above))).trans e1⟩
    · obtain ⟨o', e1⟩ := I.base.there b o e hx
      exact ⟨o', (hs.2 b (Nat.ne_of_lt (Nat.lt_of_lt_of_le (Heap.lt_size e) I.ok.above))).trans e1⟩
    · by_cases hj : j = i
      · subst hj
        rw [hi] at e1; cases e1
        rw [List.getElem?_set_self hiσ] at e2
        cases e2
        exact ⟨u, r, .inl ⟨hk, by simp⟩⟩
      · rw [List.getElem?_set_ne (Ne.symm hj)] at e2
        obtain ⟨u', r', q⟩ := hl j y v' e1 e2 e3
        refine ⟨u', r', ?_⟩
        rcases q with ⟨k, e⟩ | ⟨k, c, e, z⟩
        · refine .inl ⟨k, ?_⟩
          have : y ≠ x := fun e => hj (nodup_ix hN e1 (e ▸ hi))
          simp [this, e]
        · exact .inr ⟨k, c, e, z.sameBut hs (cne y c e)⟩
    · obtain ⟨w', z⟩ := I.cell y c e
      exact ⟨w', z.sameBut hs (cne y c e)⟩
    · obtain ⟨e, n, ne, nf, d⟩ := I.pin p hp
      exact ⟨(hs.2 p.1 ne).trans e, n, ne, nf, d⟩
  · have hfn : X.fn x = true := by
      rcases hf with z | z
      · exact z
      · rw [z] at hk; cases hk
    obtain ⟨c, hc⟩ := I.ok.has x (.inl hk)
    obtain ⟨w', z⟩ := I.cell x c hc
    refine wpAny_storeName_cell I.ok.kind hk hc z (fun h' hc' hs => ?_)
    obtain ⟨oc, hoc, hocd⟩ := id z
    refine h { s with heap := h' } ⟨I.ok, I.os, I.bare, ⟨fun b o e n hb hx => ?_, fun b o e n hb hx => ?_, I.base.free, fun b o e hx => ?_, I.base.tups, I.base.frzs, I.base.tbls⟩, ⟨m, hn.sameBut hs (Ne.symm (cne x c hc)), fun j y v' e1 e2 e3 => ?_⟩, fun y c' e => ?_, I.free, I.freeC, fun p hp => ?_, tracked ⟨oc, hoc, I.freeC x c hc⟩ hs, by simpa using I.len⟩ ⟨c, hs, .inr hc⟩
    · exact (hs.2 b (Nat.ne_of_lt (Nat.lt_of_lt_of_le (Heap.lt_size e) (I.ok.cab x c hfn hc)))).trans (I.base.keep b o e n hb hx)
    · obtain ⟨sl, e1⟩ := I.base.slot b o e n hb hx
      exact ⟨sl, (hs.2 b (Nat.ne_of_lt (Nat.lt_of_lt_of_le (Heap.lt_size e) (I.ok.cab x c hfn hc)))).trans e1⟩
    · obtain ⟨o', e1⟩ := I.base.there b o e hx
      exact ⟨o', (hs.2 b (Nat.ne_of_lt (Nat.lt_of_lt_of_le (Heap.lt_size e) (I.ok.cab x c hfn hc)))).trans e1⟩
    · by_cases hj : j = i
      · subst hj
        rw [hi] at e1; cases e1
        rw [List.getElem?_set_self hiσ] at e2
        cases e2
        exact ⟨u, r, .inr ⟨.inl hk, c, hc, hc'⟩⟩
      · rw [List.getElem?_set_ne (Ne.symm hj)] at e2
        obtain ⟨u', r', q⟩ := hl j y v' e1 e2 e3
        refine ⟨u', r', ?_⟩
        rcases q with q | ⟨k, c', e, z'⟩
        · exact .inl q
        · refine .inr ⟨k, c', e, z'.sameBut hs ?_⟩
          rintro rfl
          exact hj (nodup_ix hN e1 (I.ok.inj _ _ _ e hc ▸ hi))
    · by_cases hcc : c' = c
      · subst hcc; exact ⟨_, hc'⟩
      · obtain ⟨w2, z2⟩ := I.cell y c' e
        exact ⟨w2, z2.sameBut hs hcc⟩
    · obtain ⟨e, n, ne, nf, d⟩ := I.pin p hp
      refine ⟨(hs.2 p.1 ?_).trans e, n, ne, nf, d⟩
      intro q
      rw [q, hoc] at e
      have q' : oc = p.2 := Option.some.inj e
      exact d w' (by rw [← q']; exact hocd)
theorem store_ok {M : Model} {A : Around} {E : Value → Shared → Prop} {i : Nat} {x : Str} {v : V} {u : Value} {Q : Unit → Shared → Prop} (I : Inv X pins σ H s) (hN : X.N.Nodup) (hi : X.N[i]? = some x) (hx : Loc X.env.scope x) (r : RelV v u)
    (h : ∀ s', Inv X pins (σ.set i (some v)) H s' → Q () s') (hf : X.fn x = true ∨ X.env.scope.names.lookup x = some .local := by first | exact .inl rfl | exact .inr rfl | assumption) : wpAny M A (storeName X.env x u) Q E s :=
  store_ok2 I hN hi hx r (fun s' I' _ => h s' I') hf
theorem Inv.call' {s' : Shared} {ch : List Addr} (I : Inv X pins σ H s) (ho : s'.os = s.os) (u : Un (frs X.stack) ch H H' s.heap s'.heap) (hok : HOk X.prog X.w H' s'.heap) (hg : AllBare s'.gens)
    (hch : ∀ b ∈ ch, (b ∈ X.ex ∨ X.s₀.heap.objs.size ≤ b) ∧ b ≠ X.env.locals ∧ (∀ x c, X.env.cells.lookup x = some c → c ≠ b) ∧ ∀ p ∈ X.pn ++ pins, p.1 ≠ b) : Inv X pins σ H' s' := by
  obtain ⟨h', g', d', t', o'⟩ := s'
  have e : o' = s.os := ho
  subst e
  exact I.call (g' := g') (t' := t') (d' := d') u hok hg hch
end

noncomputable abbrev XK := Value → Option Addr → Hp → Prop
noncomputable abbrev St := List (Option V)
noncomputable abbrev VK := V → Hp → Prop
noncomputable abbrev TE := St → Hp → VK → Prop
noncomputable abbrev TT := St → Hp → (Bool → Hp → Prop) → Prop
noncomputable abbrev TA := St → Hp → (List V → Hp → Prop) → Prop
structure Ends where
  nx : St → Hp → Prop
  rt : VK
  bk : St → Hp → Prop := fun _ _ => False
  ct : St → Hp → Prop := fun _ _ => False
noncomputable abbrev TS := Ends → St → Hp → Prop

noncomputable def EP (X : Cx) (pins : List (Addr × Obj)) (σ : St) (Q : VK) (u : Value) (s' : Shared) : Prop := ∃ v H', Inv X pins σ H' s' ∧ RelV v u ∧ Q v H'
noncomputable def TP (X : Cx) (pins : List (Addr × Obj)) (σ : St) (Q : Bool → Hp → Prop) (b : Bool) (s' : Shared) : Prop := ∃ H', Inv X pins σ H' s' ∧ Q b H'
noncomputable def AP (X : Cx) (pins : List (Addr × Obj)) (σ : St) (Q : List V → Hp → Prop) (us : List Value) (s' : Shared) : Prop := ∃ vs H', Inv X pins σ H' s' ∧ Vals vs us ∧ Q vs H'
noncomputable def SP (X : Cx) (pins : List (Addr × Obj)) (D : Ends) (f : Flow) (s' : Shared) : Prop :=
  match f with
  | .next => ∃ σ' H', Inv X pins σ' H' s' ∧ D.nx σ' H'
  | .brk => ∃ σ' H', Inv X pins σ' H' s' ∧ D.bk σ' H'
  | .cont => ∃ σ' H', Inv X pins σ' H' s' ∧ D.ct σ' H'
  | .ret u => ∃ v σ' H', Inv X pins σ' H' s' ∧ RelV v u ∧ D.rt v H'

noncomputable def PE (X : Cx) (e : Expr) (t : TE) : Prop :=
  ∀ (pins : List (Addr × Obj)) (s : Shared) (σ : St) (H : Hp) (Q : VK), Inv X pins σ H s → t σ H Q → wpAny (model X.prog X.w) X.A (eval e X.env) (EP X pins σ Q) X.xe s
noncomputable def PT (X : Cx) (e : Expr) (t : TT) : Prop :=
  ∀ (pins : List (Addr × Obj)) (s : Shared) (σ : St) (H : Hp) (Q : Bool → Hp → Prop), Inv X pins σ H s → t σ H Q → wpAny (model X.prog X.w) X.A (isTrue e X.env (eval e X.env)) (TP X pins σ Q) X.xe s
noncomputable def PW (X : Cx) (e : Expr) (t : TT) : Prop :=
  ∀ (whole : Sem Value) (pins : List (Addr × Obj)) (s : Shared) (σ : St) (H : Hp) (Q : Bool → Hp → Prop), Inv X pins σ H s → t σ H Q → wpAny (model X.prog X.w) X.A (isTrue e X.env whole) (TP X pins σ Q) X.xe s
theorem PW.pt {X : Cx} {e : Expr} {t : TT} (h : PW X e t) : PT X e t := h _
noncomputable def PA (X : Cx) (es : List Expr) (t : TA) : Prop :=
  ∀ (pos : Pos) (pins : List (Addr × Obj)) (s : Shared) (σ : St) (H : Hp) (Q : List V → Hp → Prop), Inv X pins σ H s → t σ H Q → wpAny (model X.prog X.w) X.A (spliced (backTo pos (starEach es X.env))) (AP X pins σ Q) X.xe s
noncomputable def PS (X : Cx) (st : Stmt) (t : TS) : Prop :=
  ∀ (pins : List (Addr × Obj)) (s : Shared) (σ : St) (H : Hp) (D : Ends), Inv X pins σ H s → t D σ H → wpAny (model X.prog X.w) X.A (exec st X.env) (SP X pins D) X.xe s
noncomputable def PSs (X : Cx) (st : List Stmt) (t : TS) : Prop :=
  ∀ (pins : List (Addr × Obj)) (s : Shared) (σ : St) (H : Hp) (D : Ends), Inv X pins σ H s → t D σ H → wpAny (model X.prog X.w) X.A (execs st X.env) (SP X pins D) X.xe s
theorem thn {α : Type} {t : Sem α} {Q Q' : α → Shared → Prop} {M : Model} {A : Around} {E : Value → Shared → Prop} {s : Shared} (h : wpAny M A t Q E s) (hQ : ∀ a s, Q a s → Q' a s) : wpAny M A t Q' E s := wpAny_mono h hQ fun _ _ x => x
end L2

namespace L2
open PySem PySem.Spec PyProof.Rows
section
variable {X : Cx}

noncomputable def tVar (i : Nat) : TE := fun σ H Q => ∃ v, σ[i]? = some (some v) ∧ Q v H
noncomputable def tC (v : V) : TE := fun _ H Q => Q v H
theorem pe_var {i : Nat} {x : Str} {pos : Pos} (hN : X.N[i]? = some x) (hv : Vis X.env.scope x) (hd : (x == ("__debug__" : Str)) = false := by decide) (hcd : (x == ("__classdict__" : Str)) = false := by decide) : PE X (.Name x pos) (tVar i) := by
  intro pins s σ H Q I h
  obtain ⟨v, e, h⟩ := h
  obtain ⟨m, hn, hl⟩ := I.loc
  obtain ⟨u, r, l⟩ := hl i x v hN e hv
  have fin : EP X pins σ Q u s := ⟨v, H, I, r, h⟩
  rcases l with ⟨hk, hm⟩ | ⟨hk, c, hc, hcell⟩
  · exact wpAny_Name (wpAny_loadName_local I.ok.kind hk hn hm fin) hd
  · rcases hk with hk | hk
    · exact wpAny_Name (wpAny_loadName_cell I.ok.kind hk hc hcell fin) hd
    · exact wpAny_Name (wpAny_loadName_free I.ok.kind hk hc hcell fin hcd) hd
theorem pe_int {i j pos} : PE X (.Constant (.int i) j pos) (tC (.int i)) := fun _ _ _ H _ I h => wpAny_Constant_int ⟨.int i, H, I.tok _, ⟨_, rfl⟩, h⟩
theorem pe_bl {b j pos} : PE X (.Constant (.bool b) j pos) (tC (.bl b)) := fun _ _ _ H _ I h => Constant_bool ⟨.bl b, H, I, rfl, h⟩
theorem pe_non {j pos} : PE X (.Constant .none j pos) (tC .non) := fun _ _ _ H _ I h => Constant_none ⟨.non, H, I, rfl, h⟩
theorem pe_str {x j pos} : PE X (.Constant (.str x) j pos) (tC (.str x)) := fun _ _ _ H _ I h => Calls.Constant_str ⟨.str x, H, I.tok _, ⟨_, rfl⟩, h⟩

noncomputable def Gl (X : Cx) (x : Str) : Prop := X.env.kindOf x = some .globalImplicit
theorem ld_glob {E : Value → Shared → Prop} {pins : List (Addr × Obj)} {s : Shared} {σ : St} {H : Hp} {x : Str} {u : Value} {pos : Pos} {Q : Value → Shared → Prop} (I : Inv X pins σ H s) (hg : Gl X x) (hm : X.mg x = some u) (h : Q u s)
    (hd : (x == ("__debug__" : Str)) = false := by decide) : wpAny (model X.prog X.w) X.A (eval (.Name x pos) X.env) Q E s :=
  Calls.Name_function_global I.ok.kind hg (Calls.loadGlobal_global (by rw [I.ok.glob]; exact I.mod.glob.keeps I.bk) hm h) hd
theorem ld_blt {E : Value → Shared → Prop} {pins : List (Addr × Obj)} {s : Shared} {σ : St} {H : Hp} {x : Str} {u : Value} {pos : Pos} {Q : Value → Shared → Prop} (I : Inv X pins σ H s) (hg : Gl X x) (hm : X.mg x = none) (hv : bootBuiltins x = some u) (h : Q u s)
    (hn : x ≠ "__name__" := by decide) (hd : (x == ("__debug__" : Str)) = false := by decide) : wpAny (model X.prog X.w) X.A (eval (.Name x pos) X.env) Q E s := by
  obtain ⟨mb, h1, h2⟩ := I.mod.blt
  exact Calls.Name_function_global I.ok.kind hg (Calls.loadGlobal_builtin (by rw [I.ok.glob]; exact I.mod.glob.keeps I.bk) hm (by rw [I.ok.blt]; exact h1.keeps I.bk) ((h2 x hn).trans hv) h) hd
theorem pe_bltn {x : Str} {v : V} {u : Value} {pos : Pos} (hg : Gl X x) (hm : X.mg x = none) (hv : bootBuiltins x = some u) (r : RelV v u) (hn : x ≠ "__name__" := by decide) (hd : (x == ("__debug__" : Str)) = false := by decide) : PE X (.Name x pos) (tC v) :=
  fun _ _ _ H _ I h => ld_blt I hg hm hv ⟨v, H, I, r, h⟩ hn hd

variable {a b : Expr} {ta tb : TE} {pos : Pos}
noncomputable def tB (t : TE) : TT := fun σ H Q => t σ H fun x H1 => ∃ c, x = .bl c ∧ Q c H1
theorem pt_val {e : Expr} {t : TE} (h : PE X e t) (he : ∀ whole, isTrue e X.env whole = (do let v ← whole; standAt e.pos; holding [v] (truthy v)) := by intro _; rfl) : PT X e (tB t) := by
  intro pins s σ H Q I hw
  refine isTrue_plain (thn (h pins s σ H _ I hw) fun v s1 ⟨x, H1, I1, r1, q1⟩ => ?_) (he _)
  obtain ⟨d, rfl, q⟩ := q1
  cases r1
  exact wpAny_truthy_bool ⟨H1, I1, q⟩

variable {tA tB' : TT} {rest : List Expr}
noncomputable def tAnd (t u : TT) : TT := fun σ H Q => t σ H fun c H1 => if c = true then u σ H1 Q else Q false H1
noncomputable def tOr (t u : TT) : TT := fun σ H Q => t σ H fun c H1 => if c = true then Q true H1 else u σ H1 Q
noncomputable def tNot (t : TT) : TT := fun σ H Q => t σ H fun c H1 => Q (!c) H1
theorem pw_and1 (ha : PT X a tA) : PW X (.BoolOp .And [a] pos) tA := by
  intro wh pins s σ H Q I h
  refine isTrue_and (thn (ha pins s σ H Q I h) fun c s1 e => ?_)
  cases c with
  | true => exact isTrue_and_nil e
  | false => exact e
theorem pw_or1 (ha : PT X a tA) : PW X (.BoolOp .Or [a] pos) tA := by
  intro wh pins s σ H Q I h
  refine isTrue_or (thn (ha pins s σ H Q I h) fun c s1 e => ?_)
  cases c with
  | false => exact isTrue_or_nil e
  | true => exact e
theorem pw_and (ha : PT X a tA) (hb : PW X (.BoolOp .And (b :: rest) pos) tB') : PW X (.BoolOp .And (a :: b :: rest) pos) (tAnd tA tB') := by
  intro wh pins s σ H Q I h
  refine isTrue_and (thn (ha pins s σ H _ I h) fun c s1 ⟨H1, I1, q1⟩ => ?_)
  cases c with
  | true => exact hb wh pins s1 σ H1 Q I1 q1
  | false => exact ⟨H1, I1, q1⟩
theorem pw_or (ha : PT X a tA) (hb : PW X (.BoolOp .Or (b :: rest) pos) tB') : PW X (.BoolOp .Or (a :: b :: rest) pos) (tOr tA tB') := by
  intro wh pins s σ H Q I h
  refine isTrue_or (thn (ha pins s σ H _ I h) fun c s1 ⟨H1, I1, q1⟩ => ?_)
  cases c with
  | true => exact ⟨H1, I1, q1⟩
  | false => exact hb wh pins s1 σ H1 Q I1 q1
theorem pt_not (ha : PT X a tA) : PT X (.UnaryOp .Not a pos) (tNot tA) := by
  intro pins s σ H Q I h
  exact isTrue_not (ha pins s σ H (fun c H1 => Q (!c) H1) I h)
noncomputable def tAndV (ta tb : TE) : TE := fun σ H Q => ta σ H fun x H1 => ∃ c, x = .bl c ∧ if c = true then tb σ H1 Q else Q (.bl false) H1
noncomputable def tNotV (ta : TE) : TE := fun σ H Q => ta σ H fun x H1 => ∃ c, x = .bl c ∧ Q (.bl (!c)) H1
theorem pe_one {op} {t : TE} (h : PE X a t) : PE X (.BoolOp op [a] pos) t := fun pins s σ H Q I hw => BoolOp_one (h pins s σ H Q I hw)
theorem pe_and (ha : PE X a ta) (hb : PE X (.BoolOp .And (b :: rest) pos) tb) : PE X (.BoolOp .And (a :: b :: rest) pos) (tAndV ta tb) := by
  intro pins s σ H Q I h
  refine BoolOp_and (thn (ha pins s σ H _ I h) fun v s1 ⟨x, H1, I1, r1, q1⟩ => ?_)
  obtain ⟨c, rfl, q1⟩ := q1
  cases r1
  refine wpAny_truthy_bool ?_
  cases c with
  | true => exact hb pins s1 σ H1 Q I1 q1
  | false => exact ⟨.bl false, H1, I1, rfl, q1⟩
theorem pe_not (ha : PE X a ta) : PE X (.UnaryOp .Not a pos) (tNotV ta) := by
  intro pins s σ H Q I h
  refine UnaryOp_ (thn (ha pins s σ H _ I h) fun v s1 ⟨x, H1, I1, r1, q1⟩ => ?_)
  obtain ⟨c, rfl, q1⟩ := q1
  cases r1
  exact not_of (wpAny_truthy_bool ⟨.bl (!c), H1, I1, rfl, q1⟩)
end
end L2

namespace L2
open PySem PySem.Spec PyProof.Rows

noncomputable def SqL (K : PySem.W.Frag) (H : Hp) (a : Addr) (xs : List V) : Prop :=
  Rd H a (.lst xs) ∨
    ∃ (o : Obj) (its : Array Value) (n : Nat), K.lookup a = some o ∧ o.cls = .type "list" ∧ o.dict = none ∧ o.data = .seq its n ∧ its.size ≤ sizeLine ∧ Vals xs its.toList
noncomputable def SqT (K : PySem.W.Frag) (H : Hp) (a : Addr) (xs : List V) : Prop :=
  Rd H a (.tup xs) ∨
    ∃ (o : Obj) (its : Array Value) (n : Nat), K.lookup a = some o ∧ o.cls = .type "tuple" ∧ o.data = .seq its n ∧ its.size ≤ sizeLine ∧ Vals xs its.toList
noncomputable def absV : Value → Option V
  | .none => some .non
  | .bool b => some (.bl b)
  | .int i _ => some (.int i)
  | .str x _ => some (.str x)
  | .bytes b _ => some (.byt b)
  | .float b _ => some (.flt b)
  | .ref a => some (.ref a)
  | .type n => some (.ty n)
  | _ => none
theorem RelV.abs {x : V} {u : Value} (r : RelV x u) : absV u = some x := by
  cases x with
  | non => cases r; rfl
  | bl _ => cases r; rfl
  | int _ => obtain ⟨t, rfl⟩ := r; rfl
  | str _ => obtain ⟨t, rfl⟩ := r; rfl
  | byt _ => obtain ⟨t, rfl⟩ := r; rfl
  | flt _ => obtain ⟨t, rfl⟩ := r; rfl
  | ref _ => cases r; rfl
  | ty _ => cases r; rfl
theorem RelV.inj {x y : V} {u : Value} (r : RelV x u) (q : RelV y u) : x = y := Option.some.inj (r.abs.symm.trans q.abs)
theorem Vals.inj : ∀ {xs ys : List V} {us : List Value}, Vals xs us → Vals ys us → xs = ys
  | _, _, _, .nil, .nil => rfl
  | _, _, _, .cons r t, .cons r' t' => by rw [r.inj r', Vals.inj t t']
section
variable {X : Cx} {pins : List (Addr × Obj)} {σ : St} {H : Hp} {s : Shared} {a : Addr} {xs ys : List V}
theorem SqL.of {K : PySem.W.Frag} (h : H a = some (.lst xs)) : SqL K H a xs := .inl (.inl h)
theorem SqT.of {K : PySem.W.Frag} (h : H a = some (.tup xs)) : SqT K H a xs := .inl (.inl h)
theorem Inv.list (I : Inv X pins σ H s) (h : SqL X.K H a xs) : ∃ its : List Value, Vals xs its ∧ PlainL s.heap a its.toArray ∧ xs.length ≤ sizeLine := by
  rcases h with h | ⟨o, its, n, hk, hc, hd, hs, hz, r⟩
  · obtain ⟨z, its, n, r, e⟩ := h.ok I.hok
    exact ⟨its, r, ⟨_, n, e, rfl, rfl, rfl⟩, z⟩
  · refine ⟨its.toList, r, ⟨o, n, I.kIn a o hk, hc, hd, by simpa using hs⟩, ?_⟩
    have e := r.length
    simp only [Array.length_toList] at e
    omega
theorem Inv.tuple (I : Inv X pins σ H s) (h : SqT X.K H a xs) : ∃ its : List Value, Vals xs its ∧ IsTup s.heap a its.toArray ∧ xs.length ≤ sizeLine := by
  rcases h with h | ⟨o, its, n, hk, hc, hs, hz, r⟩
  · obtain ⟨z, its, r, p⟩ := h.ok I.hok
    exact ⟨its, r, p.tup, z⟩
  · refine ⟨its.toList, r, ⟨o, I.kIn a o hk, hc, n, by simpa using hs⟩, ?_⟩
    have e := r.length
    simp only [Array.length_toList] at e
    omega
theorem Inv.list_inj (I : Inv X pins σ H s) (h : SqL X.K H a xs) (h' : SqL X.K H a ys) : xs = ys := by
  obtain ⟨its, r, ⟨o, n, e, _, _, d⟩, _⟩ := I.list h
  obtain ⟨its', r', ⟨o', n', e', _, _, d'⟩, _⟩ := I.list h'
  rw [e] at e'; cases e'
  rw [d] at d'
  injection d' with d1 _
  have : its = its' := by simpa using congrArg Array.toList d1
  subst this
  exact r.inj r'
theorem Inv.tuple_inj (I : Inv X pins σ H s) (h : SqT X.K H a xs) (h' : SqT X.K H a ys) : xs = ys := by
  obtain ⟨its, r, ⟨o, e, _, n, d⟩, _⟩ := I.tuple h
  obtain ⟨its', r', ⟨o', e', _, n', d'⟩, _⟩ := I.tuple h'
  rw [e] at e'; cases e'
  rw [d] at d'
  injection d' with d1 _
  have : its = its' := by simpa using congrArg Array.toList d1
  subst this
  exact r.inj r'
end

noncomputable abbrev Cx.wish (X : Cx) (E : Value → Shared → Prop) : Cx := { X with xe := E }
noncomputable abbrev Cx.nox (X : Cx) : Cx := X.wish fun _ _ => False
theorem Cx.Ok.wish {X : Cx} (ok : X.Ok) (E : Value → Shared → Prop) : (X.wish E).Ok :=
  ⟨ok.mod, ok.kind, ok.glob, ok.blt, ok.above, ok.inj, ok.has, ok.cab, ok.hd, ok.frames, ok.stk, ok.exf, ok.bs, ok.bsz, ok.noex, ok.exfs, ok.funs, ok.frf⟩
theorem Cx.Ok.unwish {X : Cx} {E : Value → Shared → Prop} (ok : (X.wish E).Ok) : X.Ok :=
  ⟨ok.mod, ok.kind, ok.glob, ok.blt, ok.above, ok.inj, ok.has, ok.cab, ok.hd, ok.frames, ok.stk, ok.exf, ok.bs, ok.bsz, ok.noex, ok.exfs, ok.funs, ok.frf⟩
section
variable {X : Cx} {pins : List (Addr × Obj)} {σ : St} {H : Hp} {s : Shared} {E : Value → Shared → Prop}
theorem Inv.wish (I : Inv X pins σ H s) (E : Value → Shared → Prop) : Inv (X.wish E) pins σ H s := ⟨I.ok.wish E, I.os, I.bare, I.base, I.loc, I.cell, I.free, I.freeC, I.pin, I.hok, I.len⟩
theorem Inv.unwish (I : Inv (X.wish E) pins σ H s) : Inv X pins σ H s := ⟨I.ok.unwish, I.os, I.bare, I.base, I.loc, I.cell, I.free, I.freeC, I.pin, I.hok, I.len⟩
theorem SP.unwish {D : Ends} {f : Flow} {s' : Shared} (h : SP (X.wish E) pins D f s') : SP X pins D f s' := by
  cases f with
  | next => obtain ⟨σ', H', I, q⟩ := h; exact ⟨σ', H', I.unwish, q⟩
  | brk => obtain ⟨σ', H', I, q⟩ := h; exact ⟨σ', H', I.unwish, q⟩
  | cont => obtain ⟨σ', H', I, q⟩ := h; exact ⟨σ', H', I.unwish, q⟩
  | ret u => obtain ⟨v, σ', H', I, r, q⟩ := h; exact ⟨v, σ', H', I.unwish, r, q⟩
theorem PSs.nox {st : List Stmt} {t : TS} (h : PSs X.nox st t) : PSs X st t := fun pins s σ H D I hw =>
  wpAny_mono (h pins s σ H D (I.wish _) hw) (fun _ _ q => q.unwish) fun _ _ z => False.elim z
end

section
variable {X : Cx} {st : Stmt} {rest : List Stmt} {t u : TS} {e : Expr} {te : TE} {pos : Pos}
noncomputable def tNext : TS := fun D σ H => D.nx σ H
noncomputable def tSeq (t u : TS) : TS := fun D σ H => t { D with nx := u D } σ H
theorem pss_nil : PSs X [] tNext := fun _ _ σ H _ I h => wpAny_execs_nil ⟨σ, H, I, h⟩
theorem pss_cons (h1 : PS X st t) (h2 : PSs X rest u) : PSs X (st :: rest) (tSeq t u) := by
  intro pins s σ H D I h
  refine wpAny_execs_cons (thn (h1 pins s σ H { D with nx := u D } I h) fun f s1 q => ?_)
  cases f with
  | next =>
    obtain ⟨σ', H', I', q⟩ := q
    exact h2 pins s1 σ' H' D I' q
  | ret v => exact q
  | brk => exact q
  | cont => exact q
theorem pss_one (h1 : PS X st t) : PSs X [st] t := by
  intro pins s σ H D I h
  refine wpAny_execs_cons (thn (h1 pins s σ H D I h) fun f s1 q => ?_)
  cases f with
  | next => exact wpAny_execs_nil q
  | ret v => exact q
  | brk => exact q
  | cont => exact q
theorem Inv.quiet {pins : List (Addr × Obj)} {σ : St} {H : Hp} {s : Shared} (I : Inv X pins σ H s) : interactive X.env = false := by simp [interactive, I.ok.kind]
noncomputable def tDrop (te : TE) : TS := fun D σ H => te σ H fun _ H1 => D.nx σ H1
theorem ps_expr (he : PE X e te) (hs : swapsWith e none pos.line X.env = pure false := by rfl) : PS X (.Expr e pos) (tDrop te) := by
  intro pins s σ H D I h
  exact wpAny_Expr_any (thn (he pins s σ H _ I h) fun v s1 ⟨x, H1, I1, r1, q1⟩ => ⟨σ, H1, I1, q1⟩) I.quiet hs
noncomputable def tRet (te : TE) : TS := fun D σ H => te σ H D.rt
theorem ps_ret (he : PE X e te) : PS X (.Return (some e) pos) (tRet te) := by
  intro pins s σ H D I h
  exact wpAny_Return_some (thn (he pins s σ H _ I h) fun v s1 ⟨x, H1, I1, r1, q1⟩ => ⟨x, σ, H1, I1, r1, q1⟩)
noncomputable def tIfS (c : TT) (t u : TS) : TS := fun D σ H => c σ H fun b H1 => if b = true then t D σ H1 else u D σ H1
theorem ps_if {c : Expr} {a b : List Stmt} {tc : TT} (hc : PT X c tc) (ha : PSs X a t) (hb : PSs X b u) : PS X (.If c a b pos) (tIfS tc t u) := by
  intro pins s σ H D I h
  refine wpAny_If (thn (hc pins s σ H _ I h) fun d s1 ⟨H1, I1, q1⟩ => ?_)
  cases d with
  | true => exact ha pins s1 σ H1 D I1 q1
  | false => exact hb pins s1 σ H1 D I1 q1
end

noncomputable abbrev TG := V → St → Hp → (St → Hp → Prop) → Prop
noncomputable abbrev TGs := List V → St → Hp → (St → Hp → Prop) → Prop
noncomputable def PG (X : Cx) (target : Expr) (t : TG) : Prop :=
  ∀ (pins : List (Addr × Obj)) (s : Shared) (σ : St) (H : Hp) (v : V) (u : Value) (Q : St → Hp → Prop), Inv X pins σ H s → RelV v u → t v σ H Q →
    wpAny (model X.prog X.w) X.A (assign target X.env u) (fun _ s' => ∃ σ' H', Inv X pins σ' H' s' ∧ Q σ' H') X.xe s
noncomputable def PGs (X : Cx) (ts : List Expr) (t : TGs) : Prop :=
  ∀ (pins : List (Addr × Obj)) (s : Shared) (σ : St) (H : Hp) (vs : List V) (us : List Value) (Q : St → Hp → Prop), Inv X pins σ H s → Vals vs us → t vs σ H Q →
    wpAny (model X.prog X.w) X.A (assignInOrder ((assignEach ts X.env).map (·.2)) us) (fun _ s' => ∃ σ' H', Inv X pins σ' H' s' ∧ Q σ' H') X.xe s
noncomputable abbrev TIp := V → V → Hp → VK → Prop
noncomputable def PIp (X : Cx) (op : Operator) (t : TIp) : Prop :=
  ∀ (pins : List (Addr × Obj)) (s : Shared) (σ : St) (H : Hp) (x y : V) (v u : Value) (Q : VK), Inv X pins σ H s → RelV x v → RelV y u → t x y H Q →
    wpAny (model X.prog X.w) X.A (inplaceOp op v u) (EP X pins σ Q) X.xe s
section
variable {X : Cx} {pos : Pos}
noncomputable def gName (i : Nat) : TG := fun v σ H Q => Q (σ.set i (some v)) H
theorem pg_name {i : Nat} {x : Str} (hN : X.N.Nodup) (hi : X.N[i]? = some x) (hx : Loc X.env.scope x) (hf : X.fn x = true ∨ X.env.scope.names.lookup x = some .local := by first | exact .inl rfl | exact .inr rfl | assumption) : PG X (.Name x pos) (gName i) := by
  intro pins s σ H v u Q I r h
  exact wpAny_assign_Name (store_ok I hN hi hx r (fun s' I' => ⟨_, H, I', h⟩) hf)
noncomputable def gNil : TGs := fun vs σ H Q => vs = [] ∧ Q σ H
noncomputable def gCons (t : TG) (u : TGs) : TGs := fun vs σ H Q => ∃ v r, vs = v :: r ∧ t v σ H fun σ' H' => u r σ' H' Q
theorem pgs_nil : PGs X [] gNil := by
  intro pins s σ H vs us Q I r h
  obtain ⟨e, h⟩ := h
  subst e
  cases r
  exact assignInOrder_nil ⟨σ, H, I, h⟩
theorem pgs_cons {e : Expr} {es : List Expr} {t : TG} {u : TGs} (h1 : PG X e t) (h2 : PGs X es u)
    (hs : (assignEach (e :: es) X.env).map (·.2) = assign e X.env :: (assignEach es X.env).map (·.2) := by rfl) : PGs X (e :: es) (gCons t u) := by
  intro pins s σ H vs us Q I r h
  obtain ⟨v, vr, e1, h⟩ := h
  subst e1
  cases r with
  | cons r rr =>
    rw [hs]
    refine assignInOrder_cons (thn (h1 pins s σ H _ _ _ I r h) fun _ s1 ⟨σ1, H1, I1, q1⟩ => ?_)
    exact h2 pins s1 σ1 H1 _ _ Q I1 rr q1
noncomputable def gTup (K : PySem.W.Frag) (n : Nat) (t : TGs) : TG := fun v σ H Q => ∃ a xs, v = .ref a ∧ SqT K H a xs ∧ xs.length = n ∧ t xs σ H Q
theorem pg_tup {es : List Expr} {k : Nat} {t : TGs} {n : Nat} (hc : X.calm = true) (h : PGs X es t)
    (hn : (assignEach es X.env).length = n := by rfl) (hst : (assignEach es X.env).findIdx? (·.1) = none := by rfl) : PG X (.Tuple es k pos) (gTup X.K n t) := by
  intro pins s σ H v u Q I r hw
  obtain ⟨a, xs, e1, hq, hl, hw⟩ := hw
  subst e1
  cases r
  obtain ⟨its, rv, ht, hz⟩ := I.tuple hq
  refine assign_Tuple_tuple (I.ok.hd hc) ht (by simp [hn, ← hl, rv.length]) hst fun h' hx => ?_
  have I1 : Inv X pins σ H { s with heap := h' } := I.kept (t' := s.toks) fun b o e => hx b o (Nat.ne_of_lt (Heap.lt_size e)) e
  exact h pins _ σ H xs _ Q I1 (by simpa using rv) hw
noncomputable def tAsg (te : TE) (g : TG) : TS := fun D σ H => te σ H fun x H1 => g x σ H1 D.nx
theorem ps_asg {tg e : Expr} {te : TE} {g : TG} (he : PE X e te) (hg : PG X tg g) (hs : swapsWithSole [tg] e pos.line X.env = pure false := by rfl) (hw : swappedStores [tg] e X.env = pure none := by rfl)
    (h1 : (assignEach [tg] X.env).map (·.2) = [assign tg X.env] := by rfl) : PS X (.Assign [tg] e pos) (tAsg te g) := by
  intro pins s σ H D I h
  refine wpAny_Assign_stores (thn (he pins s σ H _ I h) fun v s1 ⟨x, H1, I1, r1, q1⟩ => ?_) hs hw
  rw [h1]
  exact thn (hg pins s1 σ H1 x v _ I1 r1 q1) fun _ s2 q => q
theorem ps_set {i : Nat} {x : Str} {e : Expr} {te : TE} {pos' : Pos} (hN : X.N.Nodup) (hi : X.N[i]? = some x) (hx : Loc X.env.scope x) (he : PE X e te) (hs : swapsWith e (some (.Name x pos')) pos.line X.env = pure false := by rfl) (hf : X.fn x = true ∨ X.env.scope.names.lookup x = some .local := by first | exact .inl rfl | exact .inr rfl | assumption) :
    PS X (.Assign [.Name x pos'] e pos) (tAsg te (gName i)) := by
  intro pins s σ H D I h
  refine wpAny_Assign_Name (thn (he pins s σ H _ I h) fun v s1 ⟨y, H1, I1, r1, q1⟩ => ?_) hs
  exact store_ok I1 hN hi hx r1 (fun s2 I2 => ⟨_, H1, I2, q1⟩) hf
noncomputable def tAug (i : Nat) (te : TE) (ti : TIp) : TS := fun D σ H => ∃ x, σ[i]? = some (some x) ∧ te σ H fun y H1 => ti x y H1 fun z H2 => D.nx (σ.set i (some z)) H2
theorem ps_aug {i : Nat} {x : Str} {e : Expr} {te : TE} {op : Operator} {ti : TIp} {pos' : Pos} (hN : X.N.Nodup) (hi : X.N[i]? = some x) (hx : Loc X.env.scope x) (he : PE X e te) (ho : PIp X op ti) (hf : X.fn x = true ∨ X.env.scope.names.lookup x = some .local := by first | exact .inl rfl | exact .inr rfl | assumption) :
    PS X (.AugAssign (.Name x pos') op e pos) (tAug i te ti) := by
  intro pins s σ H D I h
  obtain ⟨v, e1, h⟩ := h
  obtain ⟨m, hn, hl⟩ := I.loc
  have vis : Vis X.env.scope x := by rcases hx with k | k; exact .inl k; exact .inr (.inl k)
  obtain ⟨u, r, l⟩ := hl i x v hi e1 vis
  refine wpAny_AugAssign_Name ?_
  have go : wpAny (model X.prog X.w) X.A (eval e X.env) (fun w s₂ => wpAny (model X.prog X.w) X.A (inplaceOp op u w) (fun r s₃ => wpAny (model X.prog X.w) X.A (storeName X.env x r) (fun _ => SP X pins D .next) X.xe s₃) X.xe s₂) X.xe s := by
    refine thn (he pins s σ H _ I h) fun w s1 ⟨y, H1, I1, r1, q1⟩ => ?_
    refine thn (ho pins s1 σ H1 v y u w _ I1 r r1 q1) fun z s2 ⟨zv, H2, I2, r2, q2⟩ => ?_
    exact store_ok I2 hN hi hx r2 (fun s3 I3 => ⟨_, H2, I3, q2⟩) hf
  rcases l with ⟨hk, hm⟩ | ⟨hk, c, hc, hcell⟩
  · exact wpAny_loadName_local I.ok.kind hk hn hm go
  · rcases hk with hk | hk
    · exact wpAny_loadName_cell I.ok.kind hk hc hcell go
    · rcases hx with k | k
      · have : X.env.scope.names.lookup x = some .free := hk
        rw [k] at this; cases this
      · have : X.env.scope.names.lookup x = some .free := hk
        rw [k] at this; cases this
noncomputable def ipI (f : Int → Int → Int) : TIp := fun x y H Q => ∃ i j, x = .int i ∧ y = .int j ∧ Q (.int (f i j)) H
theorem ip_add : PIp X .Add (ipI fun i j => i + j) := by
  intro pins s σ H x y v u Q I r1 r2 h
  obtain ⟨i, j, e1, e2, q⟩ := h
  subst e1; subst e2
  obtain ⟨t, rfl⟩ := r1
  obtain ⟨t', rfl⟩ := r2
  exact iadd_int ⟨.int _, H, I.tok _, ⟨_, rfl⟩, q⟩
end

section
variable {X : Cx} {pos : Pos}
noncomputable def tWhile (c : TT) (tb : TS) : TS := fun D σ H => ∃ W : Nat → St → Hp → Prop, (∃ m, W m σ H) ∧ ∀ m σ H, W m σ H →
  c σ H fun b H1 => if b = true then ∃ N : St → Hp → Prop, (∀ σ' H', N σ' H' → ∃ m', m' < m ∧ W m' σ' H') ∧ tb { D with nx := N, ct := N, bk := D.nx } σ H1 else D.nx σ H1
theorem ps_while {c : Expr} {body : List Stmt} {tc : TT} {tb : TS} (hp : PassesOwn (model X.prog X.w) X.A X.env X.xe) (hc : PT X c tc) (hb : PSs X body tb) : PS X (.While c body [] pos) (tWhile tc tb) := by
  intro pins s σ H D I h
  obtain ⟨W, ⟨m0, w0⟩, turn⟩ := h
  refine wpAny_While (codeAny_whileLoop (fun n s' => ∃ σ' H', Inv X pins σ' H' s' ∧ W n σ' H') ?_ m0 ⟨σ, H, I, w0⟩)
  rintro n s1 ⟨σ1, H1, I1, w1⟩
  refine wpAny_passesOwn hp (thn (hc pins s1 σ1 H1 _ I1 (turn n σ1 H1 w1)) fun b s2 ⟨H2, I2, q2⟩ => ?_)
  cases b with
  | true =>
    obtain ⟨N, hN, q2⟩ := q2
    rw [if_pos rfl]
    refine wpAny_passesOwn hp (thn (hb pins s2 σ1 H2 _ I2 q2) fun f s3 q3 => ?_)
    cases f with
    | next =>
      obtain ⟨σ3, H3, I3, n3⟩ := q3
      obtain ⟨m', hm, w3⟩ := hN σ3 H3 n3
      exact ⟨m', hm, σ3, H3, I3, w3⟩
    | cont =>
      obtain ⟨σ3, H3, I3, n3⟩ := q3
      obtain ⟨m', hm, w3⟩ := hN σ3 H3 n3
      exact ⟨m', hm, σ3, H3, I3, w3⟩
    | brk => exact q3
    | ret v => exact q3
  | false =>
    rw [if_neg Bool.false_ne_true]
    exact wpAny_execs_nil ⟨σ1, H2, I2, q2⟩
end

structure It where
  go : Nat → Hp → Prop
  yld : Nat → Hp → V → Hp → Prop
  stop : Nat → Hp → Prop
noncomputable def FpOk (X : Cx) (pins : List (Addr × Obj)) (H : Hp) (b : Addr) : Prop :=
  H b = none ∧ b ≠ X.env.locals ∧ b ∉ X.fs ∧ (b ∈ X.ex ∨ X.s₀.heap.objs.size ≤ b) ∧ (∀ x c, X.env.cells.lookup x = some c → c ≠ b) ∧ ∀ p ∈ X.pn ++ pins, p.1 ≠ b
theorem Inv.fpOk {X : Cx} {pins : List (Addr × Obj)} {σ : St} {H H' : Hp} {s : Shared} {b : Addr} (I : Inv X pins σ H s) (hb : s.heap.objs.size ≤ b) (hn : H' b = none) : FpOk X pins H' b := by
  refine ⟨hn, Nat.ne_of_gt (Nat.lt_of_lt_of_le I.lt hb), I.nofs hb, .inr (Nat.le_trans I.sz hb), fun x c e z => ?_, fun p hp z => ?_⟩
  · obtain ⟨v, q⟩ := I.cell x c e
    exact absurd (Nat.lt_of_lt_of_le q.lt (by rw [z]; exact hb)) (Nat.lt_irrefl _)
  · exact absurd (Nat.lt_of_lt_of_le (Heap.lt_size (I.pin p hp).1) (by rw [z]; exact hb)) (Nat.lt_irrefl _)
structure Turn (P : Program) (w : World) (K : PySem.W.Frag) (tg : Expr) (J : It) (fp : List Addr) (it : Addr) (tn : Nat → Heap → Prop) : Prop where
  mem : it ∈ fp
  obj : ∀ i h, tn i h → ∀ b ∈ fp, ∃ o, h.get? b = some o ∧ ∀ v, o.data ≠ .cell v
  keep : ∀ i h h', tn i h → (∀ b ∈ fp, ∀ o, h.get? b = some o → h'.get? b = some o) → tn i h'
  item : ∀ (X : Cx), X.prog = P → X.w = w → X.K = K → X.calm = true → ∀ (i : Nat) (pins : List (Addr × Obj)) (s : Shared) (σ : St) (H : Hp) (E : Value → Shared → Prop), Inv X pins σ H s → (∀ b ∈ fp, FpOk X pins H b) → tn i s.heap → J.go i H →
    wpAny (model P w) X.A (pyNext (.ref it)) (fun r s1 => ∃ u, r = some u ∧
      wpAny (model P w) X.A (letOwnedTupleGo tg (.ref it) u) (fun _ s2 => ∃ x H', Inv X pins σ H' s2 ∧ RelV x u ∧ J.yld i H x H' ∧ tn (i + 1) s2.heap ∧ ∀ b ∈ fp, H' b = none) E s1) E s
  done : ∀ (X : Cx), X.prog = P → X.w = w → X.K = K → X.calm = true → ∀ (i : Nat) (pins : List (Addr × Obj)) (s : Shared) (σ : St) (H : Hp) (E : Value → Shared → Prop), Inv X pins σ H s → (∀ b ∈ fp, FpOk X pins H b) → tn i s.heap → J.stop i H →
    wpAny (model P w) X.A (pyNext (.ref it)) (fun r s1 => r = none ∧ Inv X pins σ H s1) E s
  self : ∀ (A : Around) (i : Nat) (s : Shared) (Q : Value → Shared → Prop) (E : Value → Shared → Prop), tn i s.heap → Q (.ref it) s → wpAny (model P w) A (pyIter (.ref it)) Q E s
noncomputable abbrev TI := St → Hp → (It → Hp → Prop) → Prop
noncomputable def PIE (X : Cx) (pins : List (Addr × Obj)) (σ : St) (tg : Expr) (R : It → Hp → Prop) (itv : Value) (s2 : Shared) : Prop :=
  ∃ (it : Addr) (fp : List Addr) (tn : Nat → Heap → Prop) (J : It) (H' : Hp), itv = .ref it ∧ Inv X pins σ H' s2 ∧ Turn X.prog X.w X.K tg J fp it tn ∧ tn 0 s2.heap ∧ (∀ b ∈ fp, FpOk X pins H' b) ∧ R J H'
noncomputable def PI (X : Cx) (tg iter : Expr) (wi : TI) : Prop :=
  ∀ (pins : List (Addr × Obj)) (s : Shared) (σ : St) (H : Hp) (R : It → Hp → Prop), Inv X pins σ H s → wi σ H R →
    wpAny (model X.prog X.w) X.A (eval iter X.env) (fun v s1 => wpAny (model X.prog X.w) X.A (pyIter v) (PIE X pins σ tg R) X.xe s1) X.xe s

theorem go_of {M : Model} {A : Around} {E : Value → Shared → Prop} {s : Shared} {tg : Expr} {it : Addr} {u : Value} {o : Obj} {n : String} {vs : Array Value} {Q : Unit → Shared → Prop} (ho : s.heap.get? it = some o) (hc : o.cls = .type n) (hd : o.data = .fields vs)
    (hn : ["enumerate", "zip", "dict_itemiterator", "dict_reverseitemiterator", "odict_iterator", "itertools.zip_longest", "itertools.pairwise"].contains n = false) (hQ : Q () s) : wpAny M A (letOwnedTupleGo tg (.ref it) u) Q E s := by
  unfold letOwnedTupleGo
  cases tg <;> first
    | exact wpAny_pure hQ
    | (cases u <;> first
        | exact wpAny_pure hQ
        | (refine wpAny_bind (wpAny_load ho ?_)
           rw [hc, hd]
           show wpAny M A (if (["enumerate", "zip", "dict_itemiterator", "dict_reverseitemiterator", "odict_iterator", "itertools.zip_longest", "itertools.pairwise"].contains n && vs[0]? == some (rawInt _)) = true then _ else _) Q E s
           rw [if_neg (by intro h; rw [hn, Bool.false_and] at h; cases h)]
           exact wpAny_pure hQ))

noncomputable def Itl (K : PySem.W.Frag) (a : Addr) : It :=
  ⟨fun i H => ∃ xs x, SqL K H a xs ∧ xs[i]? = some x, fun i H x H' => H' = H ∧ ∀ xs, SqL K H a xs → xs[i]? = some x, fun i H => ∃ xs, SqL K H a xs ∧ xs.length ≤ i⟩
noncomputable def Itt (K : PySem.W.Frag) (a : Addr) : It :=
  ⟨fun i H => ∃ xs x, SqT K H a xs ∧ xs[i]? = some x, fun i H x H' => H' = H ∧ ∀ xs, SqT K H a xs → xs[i]? = some x, fun i H => ∃ xs, SqT K H a xs ∧ xs.length ≤ i⟩
noncomputable def Itr (lo : Int) (n : Nat) : It := ⟨fun i _ => i < n, fun i H x H' => H' = H ∧ x = .int (lo + i), fun i _ => n ≤ i⟩
theorem turn_list {P : Program} {w : World} {K : PySem.W.Frag} {tg : Expr} (a it : Addr) : Turn P w K tg (Itl K a) [it] it (fun i h => h.IsListIter it a i) where
  mem := by simp
  obj := fun i h st b hb => by
    have e : b = it := by simpa using hb
    subst e
    obtain ⟨o, e, c, d⟩ := st
    exact ⟨o, e, fun v z => by rw [d] at z; cases z⟩
  keep := fun i h h' st k => st.at fun o e => k it (by simp) o e
  item := by
    intro X hP hw hK hc i pins s σ H E I hf st hg
    subst hP hw hK
    obtain ⟨xs, x, hq, hx⟩ := hg
    obtain ⟨its, rv, p, hz⟩ := I.list hq
    obtain ⟨u, hu, ru⟩ := rv.get hx
    obtain ⟨f0, f1, f2, f3, f4, f5⟩ := hf it (by simp)
    refine wpAny_pyNext_list_item st p.isList (x := u) (by simpa using hu) fun h' st' sb => ?_
    have I1 : Inv X pins σ H { s with heap := h' } := I.turned (t' := s.toks) (fun b o hb e => (sb.2 b hb).trans e) f0 f1 f3 f4 f5
    obtain ⟨o, e, c, d⟩ := id st'
    exact ⟨u, rfl, go_of (s := { s with heap := h' }) e c d (by decide) ⟨x, H, I1, ru, ⟨rfl, fun ys hy => by rw [I.list_inj hy hq]; exact hx⟩, st', fun b hb => (hf b hb).1⟩⟩
  done := by
    intro X hP hw hK hc i pins s σ H E I hf st hg
    subst hP hw hK
    obtain ⟨xs, hq, hx⟩ := hg
    obtain ⟨its, rv, p, hz⟩ := I.list hq
    obtain ⟨f0, f1, f2, f3, f4, f5⟩ := hf it (by simp)
    have hl := rv.length
    exact wpAny_pyNext_list_end (I.ok.hd hc) st p.isList (by simp; omega) fun h' eb => ⟨rfl, I.turned (t' := s.toks) (fun b o hb e => eb b o hb e) f0 f1 f3 f4 f5⟩
  self := fun _ _ _ _ _ st h => wpAny_pyIter_listiter st h
theorem turn_tuple {P : Program} {w : World} {K : PySem.W.Frag} {tg : Expr} (a it : Addr) : Turn P w K tg (Itt K a) [it] it (fun i h => h.IsTupleIter it a i) where
  mem := by simp
  obj := fun i h st b hb => by
    have e : b = it := by simpa using hb
    subst e
    obtain ⟨o, e, c, d⟩ := st
    exact ⟨o, e, fun v z => by rw [d] at z; cases z⟩
  keep := fun i h h' st k => st.at fun o e => k it (by simp) o e
  item := by
    intro X hP hw hK hc i pins s σ H E I hf st hg
    subst hP hw hK
    obtain ⟨xs, x, hq, hx⟩ := hg
    obtain ⟨its, rv, p, hz⟩ := I.tuple hq
    obtain ⟨u, hu, ru⟩ := rv.get hx
    obtain ⟨f0, f1, f2, f3, f4, f5⟩ := hf it (by simp)
    refine wpAny_pyNext_tuple_item st (show s.heap.IsTuple a its.toArray from p) (x := u) (by simpa using hu) fun h' st' sb => ?_
    have I1 : Inv X pins σ H { s with heap := h' } := I.turned (t' := s.toks) (fun b o hb e => (sb.2 b hb).trans e) f0 f1 f3 f4 f5
    obtain ⟨o, e, c, d⟩ := id st'
    exact ⟨u, rfl, go_of (s := { s with heap := h' }) e c d (by decide) ⟨x, H, I1, ru, ⟨rfl, fun ys hy => by rw [I.tuple_inj hy hq]; exact hx⟩, st', fun b hb => (hf b hb).1⟩⟩
  done := by
    intro X hP hw hK hc i pins s σ H E I hf st hg
    subst hP hw hK
    obtain ⟨xs, hq, hx⟩ := hg
    obtain ⟨its, rv, p, hz⟩ := I.tuple hq
    obtain ⟨f0, f1, f2, f3, f4, f5⟩ := hf it (by simp)
    have hl := rv.length
    exact wpAny_pyNext_tuple_end (I.ok.hd hc) st (show s.heap.IsTuple a its.toArray from p) (by simp; omega) fun h' eb => ⟨rfl, I.turned (t' := s.toks) (fun b o hb e => eb b o hb e) f0 f1 f3 f4 f5⟩
  self := fun _ _ _ _ _ st h => wpAny_pyIter_tupleiter st h
theorem turn_range {P : Program} {w : World} {K : PySem.W.Frag} {tg : Expr} (it : Addr) (lo : Int) (n : Nat) : Turn P w K tg (Itr lo n) [it] it (fun i h => IsRangeIter h it (lo + (i : Nat) * 1) ((n : Int) - (i : Nat)) 1) where
  mem := by simp
  obj := fun i h st b hb => by
    have e : b = it := by simpa using hb
    subst e
    exact ⟨_, st, fun v z => by
      have z' : Data.fields _ = Data.cell v := z
      cases z'⟩
  keep := fun i h h' st k => k it (by simp) _ st
  item := by
    intro X hP hw hK hc i pins s σ H E I hf st hg
    subst hP hw hK
    obtain ⟨f0, f1, f2, f3, f4, f5⟩ := hf it (by simp)
    have W := Walks.range (prog := X.prog) (w := X.w) (I.ok.hd hc) it lo 1 n
    refine W.item i s _ _ hg st fun v h' tk hv st' kk => ?_
    obtain ⟨t, rfl⟩ := hv
    have I1 : Inv X pins σ H { s with heap := h', toks := tk } := I.turned (fun b o hb e => kk b o (by simpa using hb) e) f0 f1 f3 f4 f5
    refine ⟨_, rfl, go_of (s := { s with heap := h', toks := tk }) (n := "range_iterator") st' rfl rfl (by decide) ⟨.int (lo + i), H, I1, ⟨t, ?_⟩, ⟨rfl, rfl⟩, st', fun b hb => (hf b hb).1⟩⟩
    rw [Int.mul_one]
  done := by
    intro X hP hw hK hc i pins s σ H E I hf st hg
    subst hP hw hK
    obtain ⟨f0, f1, f2, f3, f4, f5⟩ := hf it (by simp)
    exact wpAny_pyNext_range_end (I.ok.hd hc) st (by have : n ≤ i := hg; omega) fun h' eb => ⟨rfl, I.turned (t' := s.toks) (fun b o hb e => eb b o hb e) f0 f1 f3 f4 f5⟩
  self := fun _ _ _ _ _ st h => wpAny_pyIter_rangeiter st h
end L2

namespace L2
open PySem PySem.Spec PyProof.Rows
section
variable {X : Cx} {tg : Expr}
noncomputable def iList (K : PySem.W.Frag) (tl : TE) : TI := fun σ H R => tl σ H fun x H1 => ∃ a, x = .ref a ∧ (∃ xs, SqL K H1 a xs) ∧ R (Itl K a) H1
noncomputable def iTup (K : PySem.W.Frag) (tl : TE) : TI := fun σ H R => tl σ H fun x H1 => ∃ a, x = .ref a ∧ (∃ xs, SqT K H1 a xs) ∧ R (Itt K a) H1
theorem pi_list {l : Expr} {tl : TE} (hl : PE X l tl) : PI X tg l (iList X.K tl) := by
  intro pins s σ H R I h
  refine thn (hl pins s σ H _ I h) fun v s1 ⟨x, H1, I1, r1, q1⟩ => ?_
  obtain ⟨a, e, ⟨xs, hq⟩, q⟩ := q1
  subst e
  cases r1
  obtain ⟨its, rv, p, hz⟩ := I1.list hq
  refine wpAny_pyIter_list p.isList ?_
  refine ⟨s1.heap.objs.size, [s1.heap.objs.size], _, _, H1, rfl, I1.kept (t' := s1.toks) fun b o e => Heap.get?_push_of_some _ e, turn_list a _, ⟨_, Heap.get?_push_size _ rfl, rfl, rfl⟩, fun b hb => ?_, q⟩
  have e : b = s1.heap.objs.size := by simpa using hb
  subst e
  exact I1.fpOk (Nat.le_refl _) (I1.hok.fresh (Nat.le_refl _))
theorem pi_tup {l : Expr} {tl : TE} (hl : PE X l tl) : PI X tg l (iTup X.K tl) := by
  intro pins s σ H R I h
  refine thn (hl pins s σ H _ I h) fun v s1 ⟨x, H1, I1, r1, q1⟩ => ?_
  obtain ⟨a, e, ⟨xs, hq⟩, q⟩ := q1
  subst e
  cases r1
  obtain ⟨its, rv, p, hz⟩ := I1.tuple hq
  refine wpAny_pyIter_tuple (show s1.heap.IsTuple a its.toArray from p) ?_
  refine ⟨s1.heap.objs.size, [s1.heap.objs.size], _, _, H1, rfl, I1.kept (t' := s1.toks) fun b o e => Heap.get?_push_of_some _ e, turn_tuple a _, ⟨_, Heap.get?_push_size _ rfl, rfl, rfl⟩, fun b hb => ?_, q⟩
  have e : b = s1.heap.objs.size := by simpa using hb
  subst e
  exact I1.fpOk (Nat.le_refl _) (I1.hok.fresh (Nat.le_refl _))
theorem range_it {pins : List (Addr × Obj)} {σ : St} {H : Hp} {s : Shared} {R : It → Hp → Prop} {E : Value → Shared → Prop} {lo hi : Int} {t u v : Tok} {tk : Nat} (I : Inv X pins σ H s) (h1 : -(2 ^ 62) ≤ lo) (h2 : lo < 2 ^ 62) (h3 : -(2 ^ 62) ≤ hi) (h4 : hi < 2 ^ 62)
    (q : R (Itr lo (hi - lo).toNat) H) : wpAny (model X.prog X.w) X.A (pyIter (.ref s.heap.objs.size)) (PIE X pins σ tg R) E { s with heap := s.heap.push { cls := .type "range", data := .fields #[.int lo t, .int hi u, .int 1 v] }, toks := tk } := by
  refine wpAny_pyIter_range (IsRange.new ..) (small_one h1 h2 h3 h4) ?_
  have I1 : Inv X pins σ H { s with heap := s.heap.push { cls := .type "range", data := .fields #[.int lo t, .int hi u, .int 1 v] }, toks := tk } := I.kept fun b o e => Heap.get?_push_of_some _ e
  refine ⟨(s.heap.push { cls := .type "range", data := .fields #[.int lo t, .int hi u, .int 1 v] }).objs.size, [(s.heap.push { cls := .type "range", data := .fields #[.int lo t, .int hi u, .int 1 v] }).objs.size], _, _, H, rfl,
    I1.kept (t' := tk) fun b o e => Heap.get?_push_of_some _ e, turn_range _ lo (hi - lo).toNat, ?_, fun b hb => ?_, q⟩
  · have e1 : lo + ((0 : Nat) : Int) * 1 = lo := by simp
    have e2 : (((hi - lo).toNat : Nat) : Int) - ((0 : Nat) : Int) = Builtin.Range.rangeSize lo hi 1 := by rw [rangeSize_one]; split <;> omega
    show IsRangeIter _ _ (lo + ((0 : Nat) : Int) * 1) ((((hi - lo).toNat : Nat) : Int) - ((0 : Nat) : Int)) 1
    rw [e1, e2]
    exact Heap.get?_push_size _ rfl
  · have e : b = (s.heap.push { cls := .type "range", data := .fields #[.int lo t, .int hi u, .int 1 v] }).objs.size := by simpa using hb
    subst e
    exact I1.fpOk (Nat.le_refl _) (I1.hok.fresh (Nat.le_refl _))
noncomputable def iRng1 (ta : TA) : TI := fun σ H R => ta σ H fun vs H1 => ∃ j : Int, vs = [.int j] ∧ -(2 ^ 62) ≤ j ∧ j < 2 ^ 62 ∧ R (Itr 0 j.toNat) H1
theorem pi_range1 {a : Expr} {ta : TA} {p pos : Pos} (hg : Gl X "range") (hm : X.mg "range" = none) (ha : PA X [a] ta) (hs : starEach [a] X.env = [(false, eval a X.env)] := by rfl) : PI X tg (.Call (.Name "range" p) [a] [] pos) (iRng1 ta) := by
  intro pins s σ H R I h
  refine Call_ (ld_blt I hg hm boot_range (PyProof.Rows.callWith_type1 (thn (ha pos pins s σ H _ I h) fun us s1 ⟨vs, H1, I1, r1, q1⟩ => ?_) hs rfl))
  obtain ⟨j, e, q1, q2, q⟩ := q1
  subst e
  cases r1 with
  | cons r rr =>
    cases rr
    obtain ⟨t, rfl⟩ := r
    exact call_range_1 (range_it I1 (by omega) (by omega) q1 q2 (by simpa using q))
noncomputable def tFor (wi : TI) (g : TG) (tb : TS) : TS := fun D σ H => wi σ H fun J H1 => ∃ W : Nat → Nat → St → Hp → Prop, (∃ m, W 0 m σ H1) ∧ ∀ i m σ H, W i m σ H →
  (J.stop i H ∧ D.nx σ H) ∨ (J.go i H ∧ ∃ N : St → Hp → Prop, (∀ σ' H', N σ' H' → ∃ m', m' < m ∧ W (i + 1) m' σ' H') ∧ ∀ x H', J.yld i H x H' → g x σ H' fun σ2 H2 => tb { D with nx := N, ct := N, bk := D.nx } σ2 H2)
noncomputable def pinsAt (fp : List Addr) (h : Heap) : List (Addr × Obj) := fp.filterMap fun b => (h.get? b).map fun o => (b, o)
theorem mem_pinsAt {fp : List Addr} {h : Heap} {b : Addr} {o : Obj} (hb : b ∈ fp) (e : h.get? b = some o) : (b, o) ∈ pinsAt fp h := List.mem_filterMap.mpr ⟨b, hb, by rw [e]; rfl⟩
theorem of_pinsAt {fp : List Addr} {h : Heap} {p : Addr × Obj} (hp : p ∈ pinsAt fp h) : p.1 ∈ fp ∧ h.get? p.1 = some p.2 := by
  obtain ⟨b, hb, e⟩ := List.mem_filterMap.mp hp
  cases q : h.get? b with
  | none => rw [q] at e; cases e
  | some o =>
    rw [q] at e
    have e' : (b, o) = p := Option.some.inj e
    subst e'
    exact ⟨hb, q⟩
theorem Inv.pinned {pins : List (Addr × Obj)} {σ : St} {H : Hp} {s : Shared} {fp : List Addr} (I : Inv X pins σ H s) (hf : ∀ b ∈ fp, FpOk X pins H b) (ho : ∀ b ∈ fp, ∃ o, s.heap.get? b = some o ∧ ∀ v, o.data ≠ .cell v) : Inv X (pins ++ pinsAt fp s.heap) σ H s :=
  I.pins_of fun p hp => (List.mem_append.mp hp).elim (fun z => I.pin p (List.mem_append_right _ z)) fun z => by
    obtain ⟨hb, e⟩ := of_pinsAt z
    obtain ⟨f0, f1, f2, _⟩ := hf p.1 hb
    obtain ⟨o, e', d⟩ := ho p.1 hb
    rw [e] at e'; cases e'
    exact ⟨e, f0, f1, f2, d⟩
theorem Inv.unpinned {pins pl : List (Addr × Obj)} {σ : St} {H : Hp} {s : Shared} (I : Inv X (pins ++ pl) σ H s) : Inv X pins σ H s := I.pins_of fun p hp => I.pin p (List.mem_append_right _ (List.mem_append_left _ hp))
theorem ps_for {iter : Expr} {body : List Stmt} {wi : TI} {g : TG} {tb : TS} {pos : Pos} (hp : PassesOwn (model X.prog X.w) X.A X.env X.xe) (hc : X.calm = true) (hi : PI X tg iter wi) (hg : PG X tg g) (hb : PSs X body tb)
    (hs : ∀ x, foldedSetIterable iter X.env x = pure x := by intro _; rfl) : PS X (.For tg iter body [] pos) (tFor wi g tb) := by
  intro pins s σ H D I h
  refine wpAny_For (thn (hi pins s σ H _ I h) fun v s1 h1 => thn h1 fun itv s2 h2 => ?_) hs
  obtain ⟨it, fp, tn, J, H2, e, I2, T, st2, f2, W, ⟨m0, w0⟩, turn⟩ := h2
  subst e
  -- what stays true of the iterator's objects through the loop
  have stat : ∀ {H' : Hp}, (∀ b ∈ fp, H' b = none) → ∀ b ∈ fp, FpOk X pins H' b := fun hn b hb => ⟨hn b hb, (f2 b hb).2⟩
  refine codeAny_forLoop_any (fun n s' => ∃ i σ' H', Inv X pins σ' H' s' ∧ tn i s'.heap ∧ (∀ b ∈ fp, H' b = none) ∧ W i n σ' H') ?_ m0 ⟨0, σ, H2, I2, st2, fun b hb => (f2 b hb).1, w0⟩
  rintro n s3 ⟨i, σ3, H3, I3, st3, fr3, w3⟩
  rcases turn i n σ3 H3 w3 with ⟨stop, qn⟩ | ⟨go, N, hN, step⟩
  · refine wpAny_passesOwn hp (thn (T.done X rfl rfl rfl hc i pins s3 σ3 H3 X.xe I3 (stat fr3) st3 stop) fun r s4 ⟨hr, I4⟩ => ?_)
    subst hr
    exact wpAny_execs_nil ⟨σ3, H3, I4, qn⟩
  · refine wpAny_passesOwn hp (thn (T.item X rfl rfl rfl hc i pins s3 σ3 H3 X.xe I3 (stat fr3) st3 go) fun r s4 ⟨u, hr, h4⟩ => ?_)
    subst hr
    refine wpAny_passesOwn hp (thn h4 fun _ s5 ⟨x, H5, I5, r5, y5, st5, fr5⟩ => ?_)
    have I5' := I5.pinned (stat fr5) (T.obj _ _ st5)
    refine wpAny_passesOwn hp (thn (hg _ s5 σ3 H5 x u _ I5' r5 (step x H5 y5)) fun _ s6 ⟨σ6, H6, I6, q6⟩ => ?_)
    refine wpAny_passesOwn hp (thn (hb _ s6 σ6 H6 _ I6 q6) fun f s7 q7 => ?_)
    have again : ∀ {σ7 : St} {H7 : Hp}, Inv X (pins ++ pinsAt fp s5.heap) σ7 H7 s7 → N σ7 H7 → ∃ m, m < n ∧ ∃ i σ' H', Inv X pins σ' H' s7 ∧ tn i s7.heap ∧ (∀ b ∈ fp, H' b = none) ∧ W i m σ' H' := fun {σ7 H7} I7 n7 => by
      obtain ⟨m', hm, w7⟩ := hN σ7 H7 n7
      refine ⟨m', hm, i + 1, σ7, H7, I7.unpinned, T.keep _ _ _ st5 fun b hb o e => (I7.pin (b, o) (List.mem_append_right _ (List.mem_append_right _ (mem_pinsAt hb e)))).1, fun b hb => ?_, w7⟩
      obtain ⟨o, e, d⟩ := T.obj _ _ st5 b hb
      exact (I7.pin (b, o) (List.mem_append_right _ (List.mem_append_right _ (mem_pinsAt hb e)))).2.1
    cases f with
    | next => obtain ⟨σ7, H7, I7, n7⟩ := q7; exact again I7 n7
    | cont => obtain ⟨σ7, H7, I7, n7⟩ := q7; exact again I7 n7
    | brk => obtain ⟨σ7, H7, I7, q7⟩ := q7; exact ⟨σ7, H7, I7.unpinned, q7⟩
    | ret v => obtain ⟨x7, σ7, H7, I7, r7, q7⟩ := q7; exact ⟨x7, σ7, H7, I7.unpinned, r7, q7⟩
end

theorem for_list {K : PySem.W.Frag} {a : Addr} {xs : List V} {g : TG} {tb : TS} {D : Ends} {σ : St} {H : Hp} (Pv : Nat → St → Hp → Prop) (h0 : Pv 0 σ H) (hl : ∀ i σ H, i ≤ xs.length → Pv i σ H → SqL K H a xs)
    (hs : ∀ i x σ H, xs[i]? = some x → Pv i σ H → g x σ H fun σ2 H2 => tb { D with nx := Pv (i + 1), ct := Pv (i + 1), bk := D.nx } σ2 H2) (hd : ∀ σ H, Pv xs.length σ H → D.nx σ H) :
    ∃ W : Nat → Nat → St → Hp → Prop, (∃ m, W 0 m σ H) ∧ ∀ i m σ H, W i m σ H →
      ((Itl K a).stop i H ∧ D.nx σ H) ∨ ((Itl K a).go i H ∧ ∃ N : St → Hp → Prop, (∀ σ' H', N σ' H' → ∃ m', m' < m ∧ W (i + 1) m' σ' H') ∧ ∀ x H', (Itl K a).yld i H x H' → g x σ H' fun σ2 H2 => tb { D with nx := N, ct := N, bk := D.nx } σ2 H2) := by
  refine ⟨fun i m σ H => m = xs.length - i ∧ i ≤ xs.length ∧ Pv i σ H, ⟨xs.length, by simp, Nat.zero_le _, h0⟩, ?_⟩
  rintro i m σ H ⟨rfl, hi, p⟩
  have q := hl i σ H hi p
  by_cases hlt : i < xs.length
  · refine .inr ⟨⟨xs, xs[i], q, by simp [hlt]⟩, Pv (i + 1), fun σ' H' p' => ⟨xs.length - (i + 1), by omega, rfl, hlt, p'⟩, fun x H' y => ?_⟩
    obtain ⟨e, y⟩ := y
    subst e
    exact hs i x σ _ (y xs q) p
  · have e : i = xs.length := by omega
    subst e
    exact .inl ⟨⟨xs, q, Nat.le_refl _⟩, hd σ H p⟩
theorem for_range {lo : Int} {n : Nat} {g : TG} {tb : TS} {D : Ends} {σ : St} {H : Hp} (Pv : Nat → St → Hp → Prop) (h0 : Pv 0 σ H)
    (hs : ∀ i σ H, i < n → Pv i σ H → g (.int (lo + i)) σ H fun σ2 H2 => tb { D with nx := Pv (i + 1), ct := Pv (i + 1), bk := D.nx } σ2 H2) (hd : ∀ σ H, Pv n σ H → D.nx σ H) :
    ∃ W : Nat → Nat → St → Hp → Prop, (∃ m, W 0 m σ H) ∧ ∀ i m σ H, W i m σ H →
      ((Itr lo n).stop i H ∧ D.nx σ H) ∨ ((Itr lo n).go i H ∧ ∃ N : St → Hp → Prop, (∀ σ' H', N σ' H' → ∃ m', m' < m ∧ W (i + 1) m' σ' H') ∧ ∀ x H', (Itr lo n).yld i H x H' → g x σ H' fun σ2 H2 => tb { D with nx := N, ct := N, bk := D.nx } σ2 H2) := by
  refine ⟨fun i m σ H => m = n - i ∧ i ≤ n ∧ Pv i σ H, ⟨n, by simp, Nat.zero_le _, h0⟩, ?_⟩
  rintro i m σ H ⟨rfl, hi, p⟩
  by_cases hlt : i < n
  · refine .inr ⟨hlt, Pv (i + 1), fun σ' H' p' => ⟨n - (i + 1), by omega, rfl, hlt, p'⟩, fun x H' y => ?_⟩
    obtain ⟨e, y⟩ := y
    subst e y
    exact hs i σ _ hlt p
  · have e : i = n := by omega
    subst e
    exact .inl ⟨Nat.le_refl _, hd σ H p⟩
end L2

namespace L2
open PySem PySem.Spec PyProof.Rows

noncomputable abbrev R2 := V → V → Hp → VK → Prop
noncomputable def OpR (X : Cx) (f : Value → Value → Sem Value) (r : R2) : Prop :=
  ∀ (pins : List (Addr × Obj)) (s : Shared) (σ : St) (H : Hp) (x y : V) (v u : Value) (Q : VK), Inv X pins σ H s → RelV x v → RelV y u → r x y H Q →
    wpAny (model X.prog X.w) X.A (f v u) (EP X pins σ Q) X.xe s
noncomputable def UnR (X : Cx) (f : Value → Sem Value) (r : V → Hp → VK → Prop) : Prop :=
  ∀ (pins : List (Addr × Obj)) (s : Shared) (σ : St) (H : Hp) (x : V) (v : Value) (Q : VK), Inv X pins σ H s → RelV x v → r x H Q →
    wpAny (model X.prog X.w) X.A (f v) (EP X pins σ Q) X.xe s
noncomputable def CallR (X : Cx) (f : Value) (r : List V → Hp → VK → Prop) : Prop :=
  ∀ (pins : List (Addr × Obj)) (s : Shared) (σ : St) (H : Hp) (xs : List V) (us : List Value) (Q : VK), Inv X pins σ H s → Vals xs us → r xs H Q →
    wpAny (model X.prog X.w) X.A (call f us) (EP X pins σ Q) X.xe s
noncomputable def tOp (r : R2) (ta tb : TE) : TE := fun σ H Q => ta σ H fun x H1 => tb σ H1 fun y H2 => r x y H2 Q
noncomputable def tUn (r : V → Hp → VK → Prop) (ta : TE) : TE := fun σ H Q => ta σ H fun x H1 => r x H1 Q
noncomputable def rI (C : Int → Int → Prop) (g : Int → Int → V) : R2 := fun x y H Q => ∃ i j, x = .int i ∧ y = .int j ∧ C i j ∧ Q (g i j) H
noncomputable def rI0 (g : Int → Int → V) : R2 := fun x y H Q => ∃ i j, x = .int i ∧ y = .int j ∧ Q (g i j) H
noncomputable def rU (g : Int → V) : V → Hp → VK → Prop := fun x H Q => ∃ i, x = .int i ∧ Q (g i) H

section
variable {X : Cx} {a b c : Expr} {ta tb tc : TE} {pos : Pos}

theorem binT (ha : PE X a ta) (hb : PE X b tb) {pins : List (Addr × Obj)} {s : Shared} {σ : St} {H : Hp} {R : V → V → Hp → Prop} (I : Inv X pins σ H s)
    (h : ta σ H fun x H1 => tb σ H1 fun y H2 => R x y H2) {Q : Value → Shared → Prop} {f : Value → Value → Sem Value}
    (hf : ∀ v u s2 x y H2, Inv X pins σ H2 s2 → RelV x v → RelV y u → R x y H2 → wpAny (model X.prog X.w) X.A (f v u) Q X.xe s2) :
    wpAny (model X.prog X.w) X.A (eval a X.env) (fun v s₁ => wpAny (model X.prog X.w) X.A (eval b X.env) (fun u s₂ => wpAny (model X.prog X.w) X.A (f v u) Q X.xe s₂) X.xe s₁) X.xe s := by
  refine thn (ha pins s σ H _ I h) fun v s1 ⟨x, H1, I1, r1, q1⟩ => ?_
  refine thn (hb pins s1 σ H1 _ I1 q1) fun u s2 ⟨y, H2, I2, r2, q2⟩ => ?_
  exact hf v u s2 x y H2 I2 r1 r2 q2

theorem pe_op {op : Operator} {r : R2} (ho : OpR X (binaryOp op) r) (ha : PE X a ta) (hb : PE X b tb) : PE X (.BinOp a op b pos) (tOp r ta tb) := by
  intro pins s σ H Q I h
  exact wpAny_BinOp (binT ha hb I h fun v u s2 x y H2 I2 rx ry q => ho pins s2 σ H2 x y v u Q I2 rx ry q)
theorem pe_un {op : UnaryOp} {r : V → Hp → VK → Prop} (ho : UnR X (unaryOp op) r) (ha : PE X a ta) : PE X (.UnaryOp op a pos) (tUn r ta) := by
  intro pins s σ H Q I h
  exact UnaryOp_ (thn (ha pins s σ H _ I h) fun v s1 ⟨x, H1, I1, r1, q1⟩ => ho pins s1 σ H1 x v Q I1 r1 q1)
theorem opI {f : Value → Value → Sem Value} {C : Int → Int → Prop} {g : Int → Int → Int}
    (rule : ∀ (i j : Int) (t u : Tok) (s : Shared) (Q : Value → Shared → Prop) (E : Value → Shared → Prop), C i j → Q (.int (g i j) s.toks) { s with toks := s.toks + 1 } → wpAny (model X.prog X.w) X.A (f (.int i t) (.int j u)) Q E s) :
    OpR X f (rI C fun i j => .int (g i j)) := by
  intro pins s σ H x y v u Q I rx ry h
  obtain ⟨i, j, rfl, rfl, hc, q⟩ := h
  obtain ⟨t, rfl⟩ := rx
  obtain ⟨t', rfl⟩ := ry
  exact rule i j t t' s _ _ hc ⟨.int (g i j), H, I.tok _, ⟨_, rfl⟩, q⟩
theorem opI0 {f : Value → Value → Sem Value} {g : Int → Int → Int}
    (rule : ∀ (i j : Int) (t u : Tok) (s : Shared) (Q : Value → Shared → Prop) (E : Value → Shared → Prop), Q (.int (g i j) s.toks) { s with toks := s.toks + 1 } → wpAny (model X.prog X.w) X.A (f (.int i t) (.int j u)) Q E s) :
    OpR X f (rI0 fun i j => .int (g i j)) := by
  intro pins s σ H x y v u Q I rx ry h
  obtain ⟨i, j, rfl, rfl, q⟩ := h
  obtain ⟨t, rfl⟩ := rx
  obtain ⟨t', rfl⟩ := ry
  exact rule i j t t' s _ _ ⟨.int (g i j), H, I.tok _, ⟨_, rfl⟩, q⟩
theorem opB0 {f : Value → Value → Sem Value} {g : Int → Int → Bool}
    (rule : ∀ (i j : Int) (t u : Tok) (s : Shared) (Q : Value → Shared → Prop) (E : Value → Shared → Prop), Q (.bool (g i j)) s → wpAny (model X.prog X.w) X.A (f (.int i t) (.int j u)) Q E s) :
    OpR X f (rI0 fun i j => .bl (g i j)) := by
  intro pins s σ H x y v u Q I rx ry h
  obtain ⟨i, j, rfl, rfl, q⟩ := h
  obtain ⟨t, rfl⟩ := rx
  obtain ⟨t', rfl⟩ := ry
  exact rule i j t t' s _ _ ⟨.bl (g i j), H, I, rfl, q⟩

noncomputable def CDiv (i j : Int) : Prop := 0 < j ∧ j < 1073741824
noncomputable def CPow (i j : Int) : Prop := 0 ≤ j ∧ j ≤ 1000000 ∧ i.natAbs < 2 ^ 64
noncomputable def CMul (i j : Int) : Prop := (-(2 ^ 64) < i ∧ i < 2 ^ 64) ∨ (-(2 ^ 64) < j ∧ j < 2 ^ 64)
theorem CMul.ok {i j : Int} (h : CMul i j) : IntMulOk i j := by
  rcases h with ⟨h1, h2⟩ | ⟨h1, h2⟩
  · exact .of_left (intBits_le_64 h1 h2)
  · exact .of_right (intBits_le_64 h1 h2)
theorem op_add : OpR X (binaryOp .Add) (rI0 fun i j => .int (i + j)) := opI0 fun _ _ _ _ _ _ _ q => add_int q
theorem op_sub : OpR X (binaryOp .Sub) (rI0 fun i j => .int (i - j)) := opI0 fun _ _ _ _ _ _ _ q => sub_int q
theorem op_mul : OpR X (binaryOp .Mult) (rI CMul fun i j => .int (i * j)) := opI fun _ _ _ _ _ _ _ hc q => mul_int q hc.ok
theorem op_fdiv : OpR X (binaryOp .FloorDiv) (rI CDiv fun i j => .int (i / j)) := opI fun i j _ _ _ _ _ hc q => by
  have h1 : (0 : Int) < j := hc.1
  have h2 : j < 1073741824 := hc.2
  exact floordiv_int (by omega) (by rw [Int.fdiv_eq_ediv_of_nonneg i (by omega)]; exact q) (.inl (PyProof.noPylong_small (by omega)))
theorem op_mod : OpR X (binaryOp .Mod) (rI (fun _ j => 0 < j) fun i j => .int (i % j)) := opI fun i j _ _ _ _ _ hc q => by
  have h1 : (0 : Int) < j := hc
  exact mod_int' (by omega) (by rw [Int.fmod_eq_emod_of_nonneg i (by omega)]; exact q)
theorem op_pow : OpR X (binaryOp .Pow) (rI CPow fun i j => .int (i ^ j.toNat)) := opI fun _ _ _ _ _ _ _ hc q => pow_int_small hc.1 hc.2.1 hc.2.2 q
theorem unI {f : Value → Sem Value} {g : Int → Int}
    (rule : ∀ (i : Int) (t : Tok) (s : Shared) (Q : Value → Shared → Prop) (E : Value → Shared → Prop), Q (.int (g i) s.toks) { s with toks := s.toks + 1 } → wpAny (model X.prog X.w) X.A (f (.int i t)) Q E s) :
    UnR X f (rU fun i => .int (g i)) := by
  intro pins s σ H x v Q I rx h
  obtain ⟨i, rfl, q⟩ := h
  obtain ⟨t, rfl⟩ := rx
  exact rule i t s _ _ ⟨.int (g i), H, I.tok _, ⟨_, rfl⟩, q⟩
theorem un_neg : UnR X (unaryOp .USub) (rU fun i => .int (-i)) := unI fun _ _ _ _ _ q => neg_int q
end

noncomputable def scal : V → V → Bool
  | .non, .non => true | .non, .int _ => true | .int _, .non => true | .non, .bl _ => true | .bl _, .non => true | .non, .str _ => true | .str _, .non => true
  | .int _, .int _ => true | .bl _, .bl _ => true | .str _, .str _ => true | .byt _, .byt _ => true
  | .int _, .str _ => true | .str _, .int _ => true | .bl _, .str _ => true | .str _, .bl _ => true
  | _, _ => false
noncomputable def rEq : R2 := fun x y H Q => scal x y = true ∧ Q (.bl (decide (x = y))) H
noncomputable def rNe : R2 := fun x y H Q => scal x y = true ∧ Q (.bl (!decide (x = y))) H

theorem dec_int {i j : Int} : decide (V.int i = V.int j) = (i == j) := by
  rw [Bool.eq_iff_iff]
  simp
theorem dec_bl {i j : Bool} : decide (V.bl i = V.bl j) = (i == j) := by
  rw [Bool.eq_iff_iff]
  simp
theorem dec_str {i j : Str} : decide (V.str i = V.str j) = (i == j) := by
  rw [Bool.eq_iff_iff]
  simp
theorem dec_byt {i j : Array UInt8} : decide (V.byt i = V.byt j) = (i.toList == j.toList) := by
  rw [Bool.eq_iff_iff]
  cases i
  cases j
  simp

section
variable {X : Cx} {a b c : Expr} {ta tb tc : TE} {pos : Pos}
theorem fin_bl {pins : List (Addr × Obj)} {σ : St} {H : Hp} {s : Shared} {Q : VK} {k k' : Bool} (I : Inv X pins σ H s) (q : Q (.bl k) H) (e : k = k') : EP X pins σ Q (.bool k') s := by
  subst e
  exact ⟨.bl k, H, I, rfl, q⟩
theorem op_eq : OpR X (compareOp .Eq) rEq := by
  intro pins s σ H x y v u Q I rx ry h
  obtain ⟨hs, q⟩ := h
  cases x with
  | non =>
    cases rx
    cases y with
    | non => cases ry; exact PySem.EqNone.eq_none_none (fin_bl I q (by simp))
    | bl j => cases ry; exact PySem.EqNone.eq_none_bool (fin_bl I q (by simp))
    | int j => obtain ⟨t', rfl⟩ := ry; exact PySem.EqNone.eq_none_int (fin_bl I q (by simp))
    | str j => obtain ⟨t', rfl⟩ := ry; exact PySem.EqNone.eq_none_str (fin_bl I q (by simp))
    | _ => exact absurd (show false = true from hs) Bool.false_ne_true
  | bl i =>
    cases rx
    cases y with
    | non => cases ry; exact PySem.EqNone.eq_bool_none (fin_bl I q (by simp))
    | bl j => cases ry; exact eq_bool (fin_bl I q dec_bl)
    | str j => obtain ⟨t', rfl⟩ := ry; exact PySem.EqMixed.eq_bool_str (fin_bl I q (by simp))
    | _ => exact absurd (show false = true from hs) Bool.false_ne_true
  | int i =>
    obtain ⟨t, rfl⟩ := rx
    cases y with
    | non => cases ry; exact PySem.EqNone.eq_int_none (fin_bl I q (by simp))
    | int j => obtain ⟨t', rfl⟩ := ry; exact eq_int (fin_bl I q dec_int)
    | str j => obtain ⟨t', rfl⟩ := ry; exact PySem.EqMixed.eq_int_str (fin_bl I q (by simp))
    | _ => exact absurd (show false = true from hs) Bool.false_ne_true
  | str i =>
    obtain ⟨t, rfl⟩ := rx
    cases y with
    | non => cases ry; exact PySem.EqNone.eq_str_none (fin_bl I q (by simp))
    | bl j => cases ry; exact PySem.EqMixed.eq_str_bool (fin_bl I q (by simp))
    | int j => obtain ⟨t', rfl⟩ := ry; exact PySem.EqMixed.eq_str_int (fin_bl I q (by simp))
    | str j => obtain ⟨t', rfl⟩ := ry; exact eq_str (fin_bl I q dec_str)
    | _ => exact absurd (show false = true from hs) Bool.false_ne_true
  | byt i =>
    obtain ⟨t, rfl⟩ := rx
    cases y with
    | byt j => obtain ⟨t', rfl⟩ := ry; exact PySem.W.eq_bytes (fin_bl I q dec_byt)
    | _ => exact absurd (show false = true from hs) Bool.false_ne_true
  | _ => cases y <;> exact absurd (show false = true from hs) Bool.false_ne_true
theorem op_ne : OpR X (compareOp .NotEq) rNe := by
  intro pins s σ H x y v u Q I rx ry h
  obtain ⟨hs, q⟩ := h
  cases x with
  | non =>
    cases rx
    cases y with
    | non => cases ry; exact PySem.EqNone.ne_none_none (fin_bl I q (by simp))
    | bl j => cases ry; exact PySem.EqNone.ne_none_bool (fin_bl I q (by simp))
    | int j => obtain ⟨t', rfl⟩ := ry; exact PySem.EqNone.ne_none_int (fin_bl I q (by simp))
    | str j => obtain ⟨t', rfl⟩ := ry; exact PySem.EqNone.ne_none_str (fin_bl I q (by simp))
    | _ => exact absurd (show false = true from hs) Bool.false_ne_true
  | bl i =>
    cases rx
    cases y with
    | non => cases ry; exact PySem.EqNone.ne_bool_none (fin_bl I q (by simp))
    | bl j => cases ry; exact ne_bool (fin_bl I q (congrArg not dec_bl))
    | str j => obtain ⟨t', rfl⟩ := ry; exact PySem.EqMixed.ne_bool_str (fin_bl I q (by simp))
    | _ => exact absurd (show false = true from hs) Bool.false_ne_true
  | int i =>
    obtain ⟨t, rfl⟩ := rx
    cases y with
    | non => cases ry; exact PySem.EqNone.ne_int_none (fin_bl I q (by simp))
    | int j => obtain ⟨t', rfl⟩ := ry; exact ne_int (fin_bl I q (congrArg not dec_int))
    | str j => obtain ⟨t', rfl⟩ := ry; exact PySem.EqMixed.ne_int_str (fin_bl I q (by simp))
    | _ => exact absurd (show false = true from hs) Bool.false_ne_true
  | str i =>
    obtain ⟨t, rfl⟩ := rx
    cases y with
    | non => cases ry; exact PySem.EqNone.ne_str_none (fin_bl I q (by simp))
    | bl j => cases ry; exact PySem.EqMixed.ne_str_bool (fin_bl I q (by simp))
    | int j => obtain ⟨t', rfl⟩ := ry; exact PySem.EqMixed.ne_str_int (fin_bl I q (by simp))
    | str j => obtain ⟨t', rfl⟩ := ry; exact ne_str (fin_bl I q (congrArg not dec_str))
    | _ => exact absurd (show false = true from hs) Bool.false_ne_true
  | byt i =>
    obtain ⟨t, rfl⟩ := rx
    cases y with
    | byt j => obtain ⟨t', rfl⟩ := ry; exact PySem.W.ne_bytes (fin_bl I q (congrArg not dec_byt))
    | _ => exact absurd (show false = true from hs) Bool.false_ne_true
  | _ => cases y <;> exact absurd (show false = true from hs) Bool.false_ne_true

theorem op_lt : OpR X (compareOp .Lt) (rI0 fun i j => .bl (decide (i < j))) := opB0 fun _ _ _ _ _ _ _ q => lt_int q
theorem op_gt : OpR X (compareOp .Gt) (rI0 fun i j => .bl (decide (j < i))) := opB0 fun _ _ _ _ _ _ _ q => gt_int q
theorem op_notN : OpR X (compareOp .IsNot) (fun x y H Q => y = .non ∧ Q (.bl (!decide (x = .non))) H) := by
  intro pins s σ H x y v u Q I rx ry h
  obtain ⟨rfl, q⟩ := h
  cases ry
  refine isnot_none_gen (fin_bl I q ?_)
  cases x <;> first
    | (cases rx; rfl)
    | (obtain ⟨t, rfl⟩ := rx; rfl)

theorem nomark (b : Expr) {op : CmpOp} (h : op ≠ .In := by decide) (h2 : op ≠ .NotIn := by decide) : behindInMarks op b = false := by
  have e1 : (op == CmpOp.In) = false := by cases op <;> first | rfl | exact absurd rfl h
  have e2 : (op == CmpOp.NotIn) = false := by cases op <;> first | rfl | exact absurd rfl h2
  cases b <;> simp [behindInMarks, e1, e2]
theorem pe_cmpR {op : CmpOp} {r : R2} (ho : OpR X (compareOp op) r) (ha : PE X a ta) (hb : PE X b tb) (hm : behindInMarks op b = false) : PE X (.Compare a [op] [b] pos) (tOp r ta tb) := by
  intro pins s σ H Q I h
  exact wpAny_Compare1 (binT ha hb I h fun v u s2 x y H2 I2 rx ry q => ho pins s2 σ H2 x y v u Q I2 rx ry q) hm
noncomputable def tTest (t : TE) : TT := fun σ H Q => t σ H fun x H' => ∃ k, x = .bl k ∧ Q k H'
theorem pt_cmpR {op : CmpOp} {r : R2} (ho : OpR X (compareOp op) r) (ha : PE X a ta) (hb : PE X b tb) (hm : behindInMarks op b = false) : PT X (.Compare a [op] [b] pos) (tTest (tOp r ta tb)) := by
  intro pins s σ H Q I h
  refine wpAny_isTrue_Compare1 (thn (ha pins s σ H _ I h) fun v s1 ⟨x, H1, I1, r1, q1⟩ => thn (hb pins s1 σ H1 _ I1 q1) fun u s2 ⟨y, H2, I2, r2, q2⟩ =>
    thn (ho pins s2 σ H2 x y v u _ I2 r1 r2 q2) fun c s3 ⟨z, H3, I3, r3, k, e, q3⟩ => ?_) hm
  subst e
  cases r3
  exact wpAny_truthy_bool ⟨H3, I3, q3⟩
theorem line63 : (sizeLine : Nat) < 2 ^ 63 := by rw [sizeLine_eq]; decide
theorem op_add_str : OpR X (binaryOp .Add) (fun x y H Q => ∃ i j, x = .str i ∧ y = .str j ∧ i.length + j.length ≤ sizeLine ∧ Q (.str (i ++ j)) H) := by
  intro pins s σ H x y v u Q I rx ry h
  obtain ⟨i, j, rfl, rfl, hz, q⟩ := h
  obtain ⟨t, rfl⟩ := rx
  obtain ⟨t', rfl⟩ := ry
  exact add_str (fun t' tk => ⟨.str (i ++ j), H, I.tok _, ⟨_, rfl⟩, q⟩) hz
theorem vals1 {x : V} {us : List Value} (r : Vals [x] us) : ∃ u, us = [u] ∧ RelV x u := by
  cases r with
  | cons r1 r2 => cases r2; exact ⟨_, rfl, r1⟩
theorem vals2 {x y : V} {us : List Value} (r : Vals [x, y] us) : ∃ u w', us = [u, w'] ∧ RelV x u ∧ RelV y w' := by
  cases r with
  | cons r1 r2 =>
    cases r2 with
    | cons r3 r4 => cases r4; exact ⟨_, _, rfl, r1, r3⟩
theorem call_min2 (hc : X.calm = true) : CallR X (.builtin "min") (fun xs H Q => ∃ i j, xs = [.int i, .int j] ∧ Q (.int (if j < i then j else i)) H) := by
  intro pins s σ H xs us Q I r h
  obtain ⟨i, j, rfl, q⟩ := h
  obtain ⟨u, w', rfl, ⟨t, rfl⟩, ⟨t', rfl⟩⟩ := vals2 r
  refine min_two_ints (I.ok.hd hc) fun h' tk k => ⟨_, H, I.kept k, ?_, q⟩
  by_cases hj : j < i
  · rw [if_pos hj, if_pos hj]; exact ⟨_, rfl⟩
  · rw [if_neg hj, if_neg hj]; exact ⟨_, rfl⟩
end
end L2

namespace L2
open PySem PySem.Spec PyProof.Rows

structure ObjM (h : Heap) (x dx C : Addr) (mA : Str → Option Value) : Prop where
  obj : h.get? x = some (PySem.W.instObj C dx)
  ns : h.Ns1 dx mA
  ne : dx ≠ x

theorem lookIn_ns {h : Heap} {dx : Addr} {mA : Str → Option Value} (n : h.Ns1 dx mA) : ∃ od, h.get? dx = some od ∧ ∀ name, PySem.W.lookIn name od = some (mA name) := by
  obtain ⟨o, es, ep, ho, hd, hk, _, hm⟩ := n
  refine ⟨o, ho, fun name => ?_⟩
  have e := hm name
  unfold nsFind findBy at e
  rw [← Array.find?_toList] at e
  unfold PySem.W.lookIn
  rw [hd]
  dsimp only
  split
  · rename_i y q
    rw [q] at e
    exact congrArg some e
  · rename_i q
    rw [q] at e
    have a : es.toList.any (·.refKey) = false := by
      rw [List.any_eq_false]
      intro y hy
      obtain ⟨z, t, hkey⟩ := hk y (Array.mem_toList_iff.mp hy)
      simp [DictEntry.refKey, hkey]
    have a' : ¬ es.toList.any (·.refKey) = true := by rw [a]; exact Bool.false_ne_true
    rw [if_neg a']
    exact congrArg some e

theorem ObjM.look {h : Heap} {x dx C : Addr} {mA : Str → Option Value} (I : ObjM h x dx C mA) : ∃ od, PySem.W.InstAt h x (PySem.W.instObj C dx) C (some od) ∧ ∀ name, PySem.W.lookIn name od = some (mA name) :=
  let ⟨od, ho, hl⟩ := lookIn_ns I.ns
  ⟨od, ⟨I.obj, rfl, rfl, ho⟩, hl⟩

section
variable {prog : Program} {w : World} {A : Around} {E : Value → Shared → Prop} {s : Shared} {K : PySem.W.Frag} {x dx C f : Addr} {mA : Str → Option Value} {name : Str} {v : Value}

theorem get_map {expr : Bool} {Q : Value → Shared → Prop} (X : K.In s.heap) (I : ObjM s.heap x dx C mA) (hg : PySem.W.plainGet K C name = true) (hh : PySem.W.hasDictIn K C = true)
    (ha : PySem.W.findIn K (.ref C) name = some none) (hv : mA name = some v) (hv' : PySem.W.handedIn v = true) (h : Q v { s with toks := s.toks + 1 }) :
    wpAny (model prog w) A (getAttr (.ref x) name expr) Q E s := by
  obtain ⟨od, J, hl⟩ := I.look
  exact PySem.W.get_value X J (PySem.W.plainGet_of hg).1 (PySem.W.findObj_own hh ha rfl (by rw [hl, hv])) hv' h

theorem get_meth {pl : Sem Bool} {Q : Value × List Value → Shared → Prop} (X : K.In s.heap) (I : ObjM s.heap x dx C mA) (hg : PySem.W.plainGet K C name = true)
    (hf : PySem.W.findIn K (.ref C) name = some (some (.ref f))) (ht : PySem.W.isFn K (.ref f) = true) (hv : mA name = none) (h : Q (.ref f, [.ref x]) s) :
    wpAny (model prog w) A (getMethod (.ref x) name pl) Q E s := by
  obtain ⟨od, J, hl⟩ := I.look
  exact PySem.W.method_fn X J (PySem.W.plainGet_of hg).1 (PySem.W.plainGet_of hg).2 hf (beq_iff_eq.mp ht) (by show (PySem.W.lookIn name od).map (·.isSome) = some false; rw [hl, hv]; rfl) h

theorem set_map {ns : List Str} {Q : Unit → Shared → Prop} (X : K.In s.heap) (I : ObjM s.heap x dx C mA)
    (hs : PySem.W.findIn K (.ref C) "__setattr__" = some (some (.builtin "object.__setattr__"))) (hp : PySem.W.plainOver K C = true) (ht : PySem.W.takerIn K C name = some none) (hh : PySem.W.hasDictIn K C = true)
    (hw : PySem.Within mA ns) (hsz : ns.length ≤ sizeLine)
    (h : ∀ h', ObjM h' x dx C (fun y => if y = name then some v else mA y) → Heap.SameBut dx s.heap h' → Q () { s with heap := h', toks := s.toks + 2 }) :
    wpAny (model prog w) A (setAttr (.ref x) name v) Q E s := by
  obtain ⟨od, J, hl⟩ := I.look
  refine PySem.W.set_plain X J hs (PySem.W.osa_open (s := { s with toks := s.toks + 1 }) (r := none) X J hp ht fun b => ?_)
  obtain ⟨cd, hc, hd'⟩ := PySem.W.any_some hh
  have hx : s.heap.get? x = some ⟨.ref C, some dx, .plain, #[]⟩ := I.obj
  refine wpAny_bind (wpAny_pure (wpAny_bind (wpAny_bind (wpAny_loadPart hx (wpAny_bind (PySem.W.Looks.here (s := { s with toks := s.toks + 1 }) (PySem.W.looks_clsIn X hc) ?_))))))
  rw [hd']
  refine wpAny_pure (a := some dx) (wpAny_bind (wpAny_pure (wpAny_bind ?_)))
  refine wpAny_nsSet1 (s := { s with toks := s.toks + 1 }) I.ns fun h' hn2 hs2 => ?_
  obtain ⟨oD, esD, epD, hoD, hdD, hcD⟩ := hn2.count (PySem.Within.cons name v hw)
  refine wpAny_bind (wpAny_lookBehind hoD (by rw [hdD]; exact pastItsLine_dict (Nat.le_trans hcD (by rw [List.length_cons]; omega))) ?_)
  exact wpAny_pure (h _ ⟨(hs2.2 _ (Ne.symm I.ne)).trans I.obj, hn2, I.ne⟩ hs2)

theorem make_map {R : Result → Shared → Prop} {vs : List Value} {kw : List (Str × Value)} (X : K.In s.heap) (hm : PySem.W.makesIn K C = true)
    (hi : PySem.W.findIn K (.ref C) "__init__" = some (some (.ref f))) (hf : PySem.W.typeIn K (.ref f) = some (.type "function"))
    (h : codeAny (model prog w) (A.under (.builtin "type.__call__" ⟨.ref C :: vs, kw⟩)) (.call (.ref f) ⟨.ref (s.heap.objs.size + 1) :: vs, kw⟩) (PySem.W.InitBack (s.heap.objs.size + 1) R)
      { s with heap := (s.heap.push PySem.W.emptyDict).push (PySem.W.instObj C s.heap.objs.size) }) :
    codeAny (model prog w) A (.call (.ref C) ⟨vs, kw⟩) R s := by
  obtain ⟨hh, g, d, t, os⟩ := s
  exact PySem.W.make_core (PySem.W.makes_of X hm) (PySem.W.looks_findIn X hi) (fun self => PySem.W.bind_fn X self hf) (.inl rfl) h
end

noncomputable def putF (f : Str) (v : V) : List (Str × V) → List (Str × V)
  | [] => [(f, v)]
  | (g, x) :: r => if g = f then (g, v) :: r else (g, x) :: putF f v r
theorem lookup_putF (f g : Str) (v : V) : ∀ fs : List (Str × V), (putF f v fs).lookup g = if g = f then some v else fs.lookup g
  | [] => by
    show List.lookup g [(f, v)] = _
    by_cases h : g = f
    · have hb : (g == f) = true := beq_iff_eq.mpr h
      simp only [List.lookup, hb, if_pos h]
    · have hb : (g == f) = false := beq_eq_false_iff_ne.mpr h
      simp only [List.lookup, hb, if_neg h]
  | (k, x) :: r => by
    have ih := lookup_putF f g v r
    rw [show putF f v ((k, x) :: r) = (if k = f then (k, v) :: r else (k, x) :: putF f v r) from rfl]
    by_cases hk : k = f
    · rw [if_pos hk]
      by_cases h : g = k
      · have hb : (g == k) = true := beq_iff_eq.mpr h
        simp only [List.lookup, hb, if_pos (h.trans hk)]
      · have hb : (g == k) = false := beq_eq_false_iff_ne.mpr h
        simp only [List.lookup, hb, if_neg (fun e : g = f => h (e.trans hk.symm))]
    · rw [if_neg hk]
      by_cases h : g = k
      · have hb : (g == k) = true := beq_iff_eq.mpr h
        simp only [List.lookup, hb, if_neg (fun e : g = f => hk (h.symm.trans e))]
      · have hb : (g == k) = false := beq_eq_false_iff_ne.mpr h
        simp only [List.lookup, hb]
        exact ih
theorem keys_putF (f : Str) (v : V) : ∀ fs : List (Str × V), f ∈ (putF f v fs).map (·.1) ∧ ∀ g, g ∈ fs.map (·.1) → g ∈ (putF f v fs).map (·.1)
  | [] => ⟨by simp [putF], fun g h => by simp at h⟩
  | (k, x) :: r => by
    obtain ⟨i1, i2⟩ := keys_putF f v r
    rw [show putF f v ((k, x) :: r) = (if k = f then (k, v) :: r else (k, x) :: putF f v r) from rfl]
    by_cases hk : k = f
    · rw [if_pos hk]
      subst hk
      exact ⟨by simp, fun g h => by simpa using h⟩
    · rw [if_neg hk]
      refine ⟨?_, fun g h => ?_⟩
      · rw [List.map_cons]
        exact List.mem_cons_of_mem _ i1
      · rw [List.map_cons] at h ⊢
        rcases List.mem_cons.mp h with e | e
        · exact List.mem_cons.mpr (.inl e)
        · exact List.mem_cons_of_mem _ (i2 g e)
theorem length_putF (f : Str) (v : V) : ∀ fs : List (Str × V), (putF f v fs).length ≤ fs.length + 1
  | [] => by simp [putF]
  | (k, x) :: r => by
    have ih := length_putF f v r
    rw [show putF f v ((k, x) :: r) = (if k = f then (k, v) :: r else (k, x) :: putF f v r) from rfl]
    by_cases hk : k = f
    · rw [if_pos hk, List.length_cons, List.length_cons]; omega
    · rw [if_neg hk, List.length_cons, List.length_cons]; omega

theorem RelO.some_of {v : V} {o : Option Value} (r : RelO (some v) o) : ∃ u, o = some u ∧ RelV v u := by
  cases o with
  | none => exact (show False from r).elim
  | some u => exact ⟨u, rfl, r⟩
theorem RelO.none_of {o : Option Value} (r : RelO none o) : o = none := by
  cases o with
  | none => rfl
  | some u => exact (show False from r).elim
theorem handed_of {v : V} {u : Value} (r : RelV v u) : PySem.W.handedIn u = true := by
  cases v with
  | non => cases (show u = Value.none from r); rfl
  | bl b => cases (show u = Value.bool b from r); rfl
  | int i => obtain ⟨t, e⟩ := (show ∃ t, u = Value.int i t from r); cases e; rfl
  | str x => obtain ⟨t, e⟩ := (show ∃ t, u = Value.str x t from r); cases e; rfl
  | byt b => obtain ⟨t, e⟩ := (show ∃ t, u = Value.bytes b t from r); cases e; rfl
  | flt b => obtain ⟨t, e⟩ := (show ∃ t, u = Value.float b t from r); cases e; rfl
  | ref a => cases (show u = Value.ref a from r); rfl
  | ty n => cases (show u = Value.type n from r); rfl

section
variable {P : Program} {w : World} {H H' : Hp} {h h' : Heap} {a C dx : Addr} {fs fs' : List (Str × V)}
theorem ins_get (hok : HOk P w H h) (e : H a = some (.ins C dx fs)) : ∃ mA, ObjM h a dx C mA ∧ (∀ f, RelO (fs.lookup f) (mA f)) ∧ PySem.Within mA (fs.map (·.1)) ∧ fs.length ≤ 1000 ∧ H dx = some (.own a) := by
  obtain ⟨d, z, ne, ob, mA, n, r, q⟩ := (show ObjOk P w H h a (.ins C dx fs) from hok a _ e)
  exact ⟨mA, ⟨ob, n, ne⟩, r, q, z, d⟩
end

structure Cls (K : PySem.W.Frag) (C : Addr) : Prop where
  pg : PySem.W.plainGet K C Str.empty = true
  hd : PySem.W.hasDictIn K C = true
  po : PySem.W.plainOver K C = true
  sa : PySem.W.findIn K (.ref C) "__setattr__" = some (some (.builtin "object.__setattr__"))
theorem Cls.get {K : PySem.W.Frag} {C : Addr} (c : Cls K C) (f : Str) : PySem.W.plainGet K C f = true := c.pg
noncomputable def NoAttr (K : PySem.W.Frag) (C : Addr) (f : Str) : Prop := PySem.W.findIn K (.ref C) f = some none
theorem NoAttr.taker {K : PySem.W.Frag} {C : Addr} {f : Str} (n : NoAttr K C f) : PySem.W.takerIn K C f = some none := by
  unfold PySem.W.takerIn
  rw [show PySem.W.findIn K (.ref C) f = some none from n]
  rfl
structure Meth (K : PySem.W.Frag) (C : Addr) (m : Str) (f : Addr) : Prop where
  at_ : PySem.W.findIn K (.ref C) m = some (some (.ref f))
  fn : PySem.W.isFn K (.ref f) = true
  kp : PySem.W.keepIn K (.ref f) = true

section
variable {X : Cx} {pins : List (Addr × Obj)} {σ : St} {H : Hp} {s : Shared} {a C dx : Addr} {fs : List (Str × V)} {f : Str} {v : V} {A : Around} {E : Value → Shared → Prop}

theorem getattr_ok {b : Bool} {Q : Value → Shared → Prop} (I : Inv X pins σ H s) (e : H a = some (.ins C dx fs)) (c : Cls X.K C) (n : NoAttr X.K C f) (l : fs.lookup f = some v)
    (h : ∀ u s', Inv X pins σ H s' → RelV v u → Q u s') : wpAny (model X.prog X.w) A (getAttr (.ref a) f b) Q E s := by
  obtain ⟨mA, O, r, _, _, _⟩ := ins_get I.hok e
  obtain ⟨u, hu, ru⟩ := RelO.some_of (v := v) (o := mA f) (by rw [← l]; exact r f)
  exact get_map I.kIn O (c.get f) c.hd n hu (handed_of ru) (h u _ (I.tok _) ru)

theorem getmeth_ok {m : Str} {g : Addr} {pl : Sem Bool} {Q : Value × List Value → Shared → Prop} (I : Inv X pins σ H s) (e : H a = some (.ins C dx fs)) (c : Cls X.K C) (k : Meth X.K C m g) (l : fs.lookup m = none)
    (h : Q (.ref g, [.ref a]) s) : wpAny (model X.prog X.w) A (getMethod (.ref a) m pl) Q E s := by
  obtain ⟨mA, O, r, _, _, _⟩ := ins_get I.hok e
  have hn : mA m = none := RelO.none_of (by rw [← l]; exact r m)
  exact get_meth I.kIn O (c.get m) k.at_ k.fn hn h

theorem setattr_ok {y : V} {u : Value} {Q : Unit → Shared → Prop} (I : Inv X pins σ H s) (e : H a = some (.ins C dx fs)) (c : Cls X.K C) (n : NoAttr X.K C f) (hl : fs.length < 1000) (ry : RelV y u)
    (h : ∀ s', Inv X pins σ (upd H a (.ins C dx (putF f y fs))) s' → Q () s') : wpAny (model X.prog X.w) A (setAttr (.ref a) f u) Q E s := by
  obtain ⟨mA, O, r, wi, _, ho⟩ := ins_get I.hok e
  have hz : (fs.map (·.1)).length ≤ sizeLine := by rw [List.length_map, sizeLine_eq]; omega
  refine set_map I.kIn O c.sa c.po n.taker c.hd wi hz fun h' O' sb => h _ ?_
  have hd : ∃ o, h'.get? dx = some o := let ⟨o, _, _, e', _⟩ := O'.ns; ⟨o, e'⟩
  refine I.write (x := a) (e := dx) (by rw [e]; exact True.intro) (.inr ho) (fun b q hb z => (sb.2 b hb).trans z) hd ?_
  refine ⟨by rw [upd_ne O.ne]; exact ho, ?_, O.ne, O'.obj, _, O'.ns, fun g => ?_, fun g hg => ?_⟩
  · have := length_putF f y fs; omega
  · show RelO ((putF f y fs).lookup g) (if g = f then some u else mA g)
    rw [lookup_putF]
    by_cases q : g = f
    · rw [if_pos q, if_pos q]; exact ry
    · rw [if_neg q, if_neg q]; exact r g
  · by_cases q : g = f
    · rw [q]; exact (keys_putF f y fs).1
    · refine (keys_putF f y fs).2 g (wi g fun z => hg ?_)
      show (if g = f then some u else mA g) = none
      rw [if_neg q]; exact z

theorem Inv.made (I : Inv X pins σ H s) : Inv X pins σ (upd (upd H s.heap.objs.size (.own (s.heap.objs.size + 1))) (s.heap.objs.size + 1) (.ins C s.heap.objs.size []))
    { s with heap := (s.heap.push PySem.W.emptyDict).push (PySem.W.instObj C s.heap.objs.size) } := by
  have e1 : (s.heap.push PySem.W.emptyDict).get? s.heap.objs.size = some PySem.W.emptyDict := Heap.get?_push_size s.heap rfl
  have e2 : ((s.heap.push PySem.W.emptyDict).push (PySem.W.instObj C s.heap.objs.size)).get? (s.heap.objs.size + 1) = some (PySem.W.instObj C s.heap.objs.size) := by
    have := Heap.get?_push_size (s.heap.push PySem.W.emptyDict) (o := PySem.W.instObj C s.heap.objs.size) rfl
    rwa [Heap.size_push] at this
  have e3 : (s.heap.push PySem.W.emptyDict).Ns s.heap.objs.size (fun _ => none) := ⟨PySem.W.emptyDict, #[], _, e1, rfl, (fun e he => absurd he (by simp)), fun _ => rfl⟩
  have I1 := I.laid (a := s.heap.objs.size) (o := .own (s.heap.objs.size + 1)) (h' := s.heap.push PySem.W.emptyDict) (t' := s.toks) (fun b u q => Heap.get?_push_of_some _ q) (Nat.le_refl _) ⟨_, e1⟩
  refine I1.laid (a := s.heap.objs.size + 1) (o := .ins C s.heap.objs.size []) (t' := s.toks) (fun b u q => Heap.get?_push_of_some _ q) (Nat.le_of_eq (Heap.size_push _ _)) ?_
  have ne : s.heap.objs.size ≠ s.heap.objs.size + 1 := Nat.ne_of_lt (Nat.lt_succ_self _)
  refine ⟨by rw [upd_ne ne, upd_same], Nat.zero_le _, ne, e2, fun _ => none, (Heap.Ns1.of_empty e3).at fun o q => Heap.get?_push_of_some _ q, fun _ => True.intro, fun y hy => absurd rfl hy⟩

theorem attr_of {prog : Program} {w : World} {env : Env} {e : Expr} {f : Str} {pos : Pos} {s : Shared} {Q : Value → Shared → Prop} (hb : attributeBase e f env (eval e env) = eval e env)
    (h : wpAny (model prog w) A (eval e env) (fun o s₁ => wpAny (model prog w) A (getAttr o f true) Q E s₁) E s) : wpAny (model prog w) A (eval (.Attribute e f pos) env) Q E s :=
  Attribute_any_ h (by rw [arm_eval_Attribute, hb])
end

noncomputable def tFld (K : PySem.W.Frag) (ta : TE) (f : Str) : TE := fun σ H Q => ta σ H fun x H1 => ∃ a C dx fs v, x = .ref a ∧ H1 a = some (.ins C dx fs) ∧ Cls K C ∧ NoAttr K C f ∧ fs.lookup f = some v ∧ Q v H1
noncomputable def sFld (K : PySem.W.Frag) (ta tv : TE) (f : Str) : TS := fun D σ H => tv σ H fun y H1 => ta σ H1 fun x H2 => ∃ a C dx fs, x = .ref a ∧ H2 a = some (.ins C dx fs) ∧ Cls K C ∧ NoAttr K C f ∧ fs.length < 1000 ∧
  D.nx σ (upd H2 a (.ins C dx (putF f y fs)))
section
variable {X : Cx} {o e value : Expr} {f : Str} {pos pos' tpos : Pos} {ta tv : TE}
theorem pe_fld (he : PE X e ta) (hb : attributeBase e f X.env (eval e X.env) = eval e X.env) : PE X (.Attribute e f pos) (tFld X.K ta f) := by
  intro pins s σ H Q I h
  refine attr_of hb (thn (he pins s σ H _ I h) fun u s1 ⟨x, H1, I1, rx, a, C, dx, fs, v, ex, ea, c, n, l, q⟩ => ?_)
  subst ex
  obtain rfl : u = Value.ref a := rx
  exact getattr_ok I1 ea c n l fun u' s2 I2 ru => ⟨v, H1, I2, ru, q⟩
theorem ps_fld (ha : PE X o ta) (hv : PE X value tv) (hs : swapsWith value (some (.Attribute o f pos')) pos.line X.env = pure false) : PS X (.Assign [.Attribute o f pos'] value pos) (sFld X.K ta tv f) := by
  intro pins s σ H D I h
  refine plainObj_wpAny_Assign_Attribute (thn (hv pins s σ H _ I h) fun u s1 ⟨y, H1, I1, ry, q⟩ => thn (ha pins s1 σ H1 _ I1 q) fun ov s2 ⟨x, H2, I2, rx, a, C, dx, fs, ex, ea, c, n, l, q2⟩ => ?_) hs
  subst ex
  obtain rfl : ov = Value.ref a := rx
  exact setattr_ok I2 ea c n l ry fun s3 I3 => ⟨σ, _, I3, q2⟩
end

section
variable {X : Cx} {pins : List (Addr × Obj)} {σ : St} {H : Hp} {s : Shared} {A : Around} {E : Value → Shared → Prop} {Q : Value → Shared → Prop} {c : Value} {b : Bool}
inductive TyOf (K : PySem.W.Frag) (H : Hp) : V → Value → Prop where
  | non : TyOf K H .non (.type "NoneType")
  | bl (x : Bool) : TyOf K H (.bl x) (.type "bool")
  | int (i : Int) : TyOf K H (.int i) (.type "int")
  | str (x : Str) : TyOf K H (.str x) (.type "str")
  | flt (x : UInt64) : TyOf K H (.flt x) (.type "float")
  | lst {a : Addr} {xs : List V} (e : H a = some (.lst xs)) : TyOf K H (.ref a) (.type "list")
  | frz {a : Addr} {o : Obj} {xs : List V} (e : H a = some (.frz o (.lst xs))) : TyOf K H (.ref a) (.type "list")
  | tup {a : Addr} {xs : List V} (e : H a = some (.tup xs)) : TyOf K H (.ref a) (.type "tuple")
  | dK {a : Addr} {kvs : List (Key × V)} (e : H a = some (.dK kvs)) : TyOf K H (.ref a) (.type "dict")
  | dT {a : Addr} {kvs : List (List Key × V)} (e : H a = some (.dT kvs)) : TyOf K H (.ref a) (.type "dict")
  | ins {a C dx : Addr} {fs : List (Str × V)} (e : H a = some (.ins C dx fs)) (cl : Cls K C) (ha : PySem.W.findIn K (.ref C) "__class__" = some (some (.builtin "object.__class__")))
      (hn : PySem.W.specialIn K (.builtin "object.__class__") "__get__" = some (some (.builtin "getset_descriptor.__get__"))) (htk : PySem.W.takesIn K (.builtin "object.__class__") = some true)
      (hm : PySem.W.mroIn K C (.type "object") = some true) : TyOf K H (.ref a) (.ref C)
theorem isinst_ok {x : V} {u t : Value} (I : Inv X pins σ H s) (rx : RelV x u) (ty : TyOf X.K H x t) (e : PySem.W.kitOne X.K t c = some b) (h : ∀ tk, Q (.bool b) { s with toks := tk }) :
    wpAny (model X.prog X.w) A (call (.builtin "isinstance") [u, c]) Q E s := by
  cases ty with
  | non => cases (show u = Value.none from rx); exact PySem.W.kia_one PySem.W.kitx_none I.kIn True.intro e (fun z => nomatch z) h
  | bl y => cases (show u = Value.bool y from rx); exact PySem.W.kia_one PySem.W.kitx_bool I.kIn True.intro e (fun z => nomatch z) h
  | int i => obtain ⟨t, q⟩ := (show ∃ t, u = Value.int i t from rx); cases q; exact PySem.W.kia_one PySem.W.kitx_int I.kIn True.intro e (fun z => nomatch z) h
  | str y => obtain ⟨t, q⟩ := (show ∃ t, u = Value.str y t from rx); cases q; exact PySem.W.kia_one PySem.W.kitx_str I.kIn True.intro e (fun z => nomatch z) h
  | flt y => obtain ⟨t, q⟩ := (show ∃ t, u = Value.float y t from rx); cases q; exact PySem.W.kia_one PySem.W.kitx_float I.kIn True.intro e (fun z => nomatch z) h
  | @lst a xs ea =>
    cases (show u = Value.ref a from rx)
    obtain ⟨_, _, n, _, h1⟩ := (show ObjOk X.prog X.w H s.heap a (.lst xs) from I.hok a _ ea)
    exact PySem.W.kia_one PySem.W.kitx_list I.kIn ⟨_, h1, rfl⟩ e (fun z => nomatch z) h
  | @frz a ob xs ea =>
    cases (show u = Value.ref a from rx)
    obtain ⟨_, _, _, n, _, h1⟩ := (show ObjOk X.prog X.w H s.heap a (.frz ob (.lst xs)) from I.hok a _ ea)
    exact PySem.W.kia_one PySem.W.kitx_list I.kIn ⟨_, h1, rfl⟩ e (fun z => nomatch z) h
  | @tup a xs ea =>
    cases (show u = Value.ref a from rx)
    obtain ⟨_, _, _, p⟩ := (show ObjOk X.prog X.w H s.heap a (.tup xs) from I.hok a _ ea)
    obtain ⟨o, h1, h2, _⟩ := p
    exact PySem.W.kia_one PySem.W.kitx_tuple I.kIn ⟨o, h1, h2⟩ e (fun z => nomatch z) h
  | @dK a kvs ea =>
    cases (show u = Value.ref a from rx)
    obtain ⟨_, _, vs, _, p⟩ := (show ObjOk X.prog X.w H s.heap a (.dK kvs) from I.hok a _ ea)
    obtain ⟨o, es, ep, h1, h2, _⟩ := p
    exact PySem.W.kia_one PySem.W.kitx_dict I.kIn ⟨o, h1, h2.1⟩ e (fun z => nomatch z) h
  | @dT a kvs ea =>
    cases (show u = Value.ref a from rx)
    obtain ⟨_, _, xs, _, o, es, ep, h1, h2, _⟩ := (show ObjOk X.prog X.w H s.heap a (.dT kvs) from I.hok a _ ea)
    exact PySem.W.kia_one PySem.W.kitx_dict I.kIn ⟨o, h1, h2.1⟩ e (fun z => nomatch z) h
  | @ins a C dx fs ea cl ha hn htk hm =>
    cases (show u = Value.ref a from rx)
    obtain ⟨mA, O, _⟩ := ins_get I.hok ea
    obtain ⟨od, J, _⟩ := O.look
    exact PySem.W.kia_one (PySem.W.kitx_own (cl.get _) cl.hd ha hn htk hm) I.kIn J e (fun z => nomatch z) h
end
end L2

namespace L2
open PySem PySem.Spec PyProof.Rows

structure Room (k : Nat) (A : Around) : Prop where
  hd : A.handled = none
  dp : A.depth + 3 * k + 5 < recursionLimit
  un : A.units + 16 * k + 200 < cLine
  gd : A.guards = some []
theorem Room.mono {j k : Nat} {A : Around} (r : Room k A) (h : j ≤ k) : Room j A := ⟨r.hd, by have := r.dp; omega, by have := r.un; omega, r.gd⟩
theorem Room.deeper {k : Nat} {A : Around} (r : Room (k + 1) A) (env : Env) : Room k (A.deeper env) :=
  ⟨r.hd, by have := r.dp; show A.depth + 1 + 3 * k + 5 < _; omega, by have := r.un; show A.units + 3 + 16 * k + 200 < _; omega, r.gd⟩
theorem make_depth {A : Around} {C : Addr} {us : List Value} {kw : List (Str × Value)} : (A.under (.builtin "type.__call__" ⟨.ref C :: us, kw⟩)).depth = A.depth + 1 := by
  first | rfl | simp [Around.under, Code.weight, Code.isCreation, Code.isGuard, Code.isCaller, Code.frames, Code.isFrame, guardIds]
theorem make_units {A : Around} {C : Addr} {us : List Value} {kw : List (Str × Value)} : (A.under (.builtin "type.__call__" ⟨.ref C :: us, kw⟩)).units = A.units + 1 := by
  first | rfl | simp [Around.under, Code.cUnits, Code.frames, Code.isFrame]
theorem make_guards {A : Around} {C : Addr} {us : List Value} {kw : List (Str × Value)} : (A.under (.builtin "type.__call__" ⟨.ref C :: us, kw⟩)).guards = A.guards := by
  have : Code.guards (.builtin "type.__call__" ⟨.ref C :: us, kw⟩) = [] := by first | rfl | simp [Code.guards, Code.isGuard, guardIds]
  show pushGuards (Code.guards (.builtin "type.__call__" ⟨.ref C :: us, kw⟩)) A.guards = A.guards
  rw [this]
  cases A.guards <;> rfl
theorem Room.make {k : Nat} {A : Around} (r : Room (k + 1) A) (C : Addr) (us : List Value) (kw : List (Str × Value)) : Room k (A.under (.builtin "type.__call__" ⟨.ref C :: us, kw⟩)) :=
  ⟨r.hd, by have := r.dp; rw [make_depth]; omega, by have := r.un; rw [make_units]; omega, by rw [make_guards]; exact r.gd⟩
theorem Room.depth {k : Nat} {A : Around} (r : Room k A) : A.depth < recursionLimit := by have := r.dp; omega
theorem Room.units {k : Nat} {A : Around} (r : Room k A) : A.units + 64 < cLine := by have := r.un; omega
noncomputable def tNil : TA := fun _ H Q => Q [] H
noncomputable def tCons (ta : TE) (tr : TA) : TA := fun σ H Q => ta σ H fun x H1 => tr σ H1 fun xs H2 => Q (x :: xs) H2
section
variable {X : Cx} {e : Expr} {es : List Expr} {te : TE} {t : TA} {pos : Pos}
theorem pa_nil : PA X [] tNil := fun _ _ _ _ H Q I h => Calls.spliced_nil ⟨[], H, I, .nil, h⟩
theorem pa_cons (ha : PE X e te) (hr : PA X es t) (hs : starEach (e :: es) X.env = (false, eval e X.env) :: starEach es X.env := by rfl) : PA X (e :: es) (tCons te t) := by
  intro pos pins s σ H Q I h
  rw [hs]
  show wpAny _ _ (spliced ((false, eval e X.env) :: backTo pos (starEach es X.env))) _ _ s
  refine Calls.spliced_cons (thn (ha pins s σ H _ I h) fun u s1 ⟨x, H1, I1, r1, q1⟩ => ?_)
  exact thn (hr pos pins s1 σ H1 _ I1 q1) fun us s2 ⟨xs, H2, I2, r2, q2⟩ => ⟨x :: xs, H2, I2, .cons r1 r2, q2⟩

noncomputable def tTup (t : TA) : TE := fun σ H Q => t σ H fun xs H1 => xs.length ≤ sizeLine ∧ ∀ p, H1 p = none → Q (.ref p) (upd H1 p (.tup xs))
noncomputable def tLst (t : TA) : TE := fun σ H Q => t σ H fun xs H1 => xs.length ≤ sizeLine ∧ ∀ p, H1 p = none → Q (.ref p) (upd H1 p (.lst xs))
theorem pe_tup {x1} (h : PA X es t) : PE X (.Tuple es x1 pos) (tTup t) := by
  intro pins s σ H Q I hq
  refine wpAny_Tuple_spliced (thn (h pos pins s σ H _ I hq) fun us s1 ⟨xs, H1, I1, r, z, q⟩ => ⟨by rw [← r.length]; exact z, ?_⟩)
  have hf : H1 s1.heap.objs.size = none := I1.hok.fresh (Nat.le_refl _)
  refine ⟨.ref s1.heap.objs.size, upd H1 s1.heap.objs.size (.tup xs), I1.laid (t' := s1.toks) (fun b u e => Heap.get?_push_of_some _ e) (Nat.le_refl _) ?_, rfl, q _ hf⟩
  exact ⟨z, us, r, ⟨_, Heap.get?_push_size _ rfl, rfl, ⟨_, rfl⟩, rfl⟩⟩
theorem pe_lst (h : PA X es t) : PE X (.List es pos) (tLst t) := by
  intro pins s σ H Q I hq
  refine wpAny_List_spliced (thn (h pos pins s σ H _ I hq) fun us s1 ⟨xs, H1, I1, r, z, q⟩ => ⟨by rw [← r.length]; exact z, ?_⟩)
  have hf : H1 s1.heap.objs.size = none := I1.hok.fresh (Nat.le_refl _)
  refine ⟨.ref s1.heap.objs.size, upd H1 s1.heap.objs.size (.lst xs), I1.laid (t' := s1.toks) (fun b u e => Heap.get?_push_of_some _ e) (Nat.le_refl _) ?_, rfl, q _ hf⟩
  exact ⟨z, us, 0, r, Heap.get?_push_size _ rfl⟩
end

noncomputable abbrev Sp := List V → Hp → VK → XK → Prop
noncomputable abbrev CXT := List Env → Hp → Shared → XK → Value → Shared → Prop

structure Env0 (P : Program) (w : World) (K : PySem.W.Frag) (mg : Str → Option Value) (base : Heap) (A : Around) (outer : List Env) (s : Shared) (H : Hp) : Prop where
  frames : A.frames = some outer
  mod : Mod K mg base
  bs : ∀ b o, base.get? b = some o → s.heap.get? b = some o ∧ H b = none
  bsz : base.objs.size ≤ s.heap.objs.size
  funs : s.heap.FunFrames base outer
  frf : ∀ b ∈ frs outer, H b = none
  hok : HOk P w H s.heap
  bare : AllBare s.gens
noncomputable def CE (outer : List Env) (P : Program) (w : World) (H : Hp) (s : Shared) (Q : VK) (u : Value) (s' : Shared) : Prop :=
  ∃ v H', s'.os = s.os ∧ AllBare s'.gens ∧ Un (frs outer) [] H H' s.heap s'.heap ∧ HOk P w H' s'.heap ∧ RelV v u ∧ Q v H'
noncomputable def CR (CX : CXT) (outer : List Env) (P : Program) (w : World) (H : Hp) (s : Shared) (Q : VK) (E : XK) (r : Result) (s' : Shared) : Prop :=
  match r with
  | .ok (.ret u) => CE outer P w H s Q u s'
  | .ok _ => False
  | .error e => CX outer H s E e s'
structure FnOk (P : Program) (w : World) (K : PySem.W.Frag) (mg : Str → Option Value) (base : Heap) (CX : CXT) (k : Nat) (f : Addr) (fd : FuncData) (ps : List Str) (sp : Sp) : Prop where
  len : ∀ vs H Q E, sp vs H Q E → vs.length = ps.length
  run : ∀ (A : Around) (outer : List Env) (s : Shared) (H : Hp) (args : Args) (us : List Value) (vs : List V) (Q : VK) (E : XK), Room k A → Env0 P w K mg base A outer s H → BindsTo s fd args (ps.zip us) → Vals vs us → sp vs H Q E →
    codeAny (model P w) A (.call (.ref f) args) (CR CX outer P w H s Q E) s
theorem Env0.make {P : Program} {w : World} {K : PySem.W.Frag} {mg : Str → Option Value} {base : Heap} {A : Around} {outer : List Env} {s : Shared} {H : Hp} (e : Env0 P w K mg base A outer s H) (C : Addr) (us : List Value) (kw : List (Str × Value)) :
    Env0 P w K mg base (A.under (.builtin "type.__call__" ⟨.ref C :: us, kw⟩)) outer s H := ⟨by first | exact e.frames | (simpa [Around.under, Code.envs, Code.isFrame, pushEnvs] using e.frames), e.mod, e.bs, e.bsz, e.funs, e.frf, e.hok, e.bare⟩
section
variable {X : Cx} {pins : List (Addr × Obj)} {σ : St} {H : Hp} {s s' : Shared}
theorem Inv.env0 (I : Inv X pins σ H s) : Env0 X.prog X.w X.K X.mg X.base X.A X.stack s H :=
  ⟨I.ok.frames, I.ok.mod, I.bs, Nat.le_trans I.ok.bsz I.sz, I.stack, I.stkFree, I.hok, I.bare⟩
theorem Inv.after {Q : VK} {u : Value} (I : Inv X pins σ H s) (h : CE X.stack X.prog X.w H s Q u s') : EP X pins σ Q u s' := by
  obtain ⟨v, H', os, bare, un, hok, r, q⟩ := h
  obtain ⟨hh, g, d, t, os'⟩ := s'
  obtain rfl : os' = s.os := os
  exact ⟨v, H', I.call (h' := hh) (g' := g) (d' := d) (t' := t) (ch := []) un hok bare (fun b z => absurd z (by simp)), r, q⟩
end

noncomputable def tCall (sp : Sp) (dvs : List V) (E : XK) (t : TA) : TE := fun σ H Q => t σ H fun vs H1 => sp (vs ++ dvs) H1 Q E
noncomputable def tMeth (C : Addr) (m : Str) (sp : Sp) (dvs : List V) (E : XK) (ta : TE) (t : TA) : TE := fun σ H Q => ta σ H fun x H1 => ∃ a dx fs, x = .ref a ∧ H1 a = some (.ins C dx fs) ∧ fs.lookup m = none ∧
  t σ H1 fun vs H2 => sp (x :: (vs ++ dvs)) H2 Q E
noncomputable def tMake (C : Addr) (sp : Sp) (dvs : List V) (E : XK) (t : TA) : TE := fun σ H Q => t σ H fun vs H1 => ∀ x dx, H1 x = none → H1 dx = none → dx ≠ x →
  sp (.ref x :: (vs ++ dvs)) (upd (upd H1 dx (.own x)) x (.ins C dx [])) (fun v H2 => v = .non ∧ Q (.ref x) H2) E

noncomputable def Binds (K : PySem.W.Frag) (fd : FuncData) (ps : List Str) (ds : List Value) : Prop :=
  ∀ (s : Shared) (us : List Value), K.In s.heap → (us ++ ds).length = ps.length → BindsTo s fd ⟨us, []⟩ (ps.zip (us ++ ds))
theorem Binds.all {K : PySem.W.Frag} {fd : FuncData} {ps : List Str} (h : ∀ us : List Value, us.length = ps.length → bindArgs fd ⟨us, []⟩ = pure (ps.zip us)) : Binds K fd ps [] := fun s us _ hl => by
  rw [List.append_nil] at hl ⊢
  exact .of_eq (h us hl)

noncomputable def Passes (CX : CXT) (X : Cx) (E : XK) : Prop := ∀ (pins : List (Addr × Obj)) (σ : St) (H : Hp) (s : Shared) (e : Value) (s' : Shared), Inv X pins σ H s → CX X.stack H s E e s' → X.xe e s'

section
variable {X : Cx} {CX : CXT} {k : Nat} {f C : Addr} {fd : FuncData} {ps : List Str} {sp : Sp} {dvs : List V} {ds : List Value} {E : XK} {x m : Str} {p pos apos : Pos} {e o : Expr} {es : List Expr} {ta : TE} {t : TA}

theorem run_fn {pins : List (Addr × Obj)} {σ : St} {H : Hp} {s : Shared} {Q : VK} {us : List Value} {vs : List V} (F : FnOk X.prog X.w X.K X.mg X.base CX k f fd ps sp) (hr : Room k X.A) (hb : Binds X.K fd ps ds) (hd : Vals dvs ds) (hx : Passes CX X E)
    (I : Inv X pins σ H s) (r : Vals vs us) (h : sp (vs ++ dvs) H Q E) : wpAny (model X.prog X.w) X.A (call (.ref f) us) (EP X pins σ Q) X.xe s := by
  have r2 : Vals (vs ++ dvs) (us ++ ds) := r.append hd
  have hl : (us ++ ds).length = ps.length := by rw [← r2.length]; exact F.len _ _ _ _ h
  refine wpAny_call (codeAny_mono (F.run X.A X.stack s H ⟨us, []⟩ (us ++ ds) (vs ++ dvs) Q E hr I.env0 (hb s us I.kIn hl) r2 h) fun r s' hq => ?_)
  cases r with
  | error e => exact hx pins σ H s e s' I hq
  | ok fl =>
    cases fl with
    | ret u => exact I.after hq
    | next => exact False.elim hq
    | brk => exact False.elim hq
    | cont => exact False.elim hq

theorem pe_call (F : FnOk X.prog X.w X.K X.mg X.base CX k f fd ps sp) (hr : Room k X.A) (hg : Gl X x) (hm : X.mg x = some (.ref f)) (hk : PySem.W.keepIn X.K (.ref f) = true) (hb : Binds X.K fd ps ds) (hd : Vals dvs ds) (hx : Passes CX X E)
    (ha : PA X (e :: es) t) (hdb : (x == ("__debug__" : Str)) = false := by decide) (he : starEach (e :: es) X.env = (false, eval e X.env) :: starEach es X.env := by rfl) (hpl : (backTo pos (starEach es X.env)).any (·.1) = false := by rfl) :
    PE X (.Call (.Name x p) (e :: es) [] pos) (tCall sp dvs E t) := by
  intro pins s σ H Q I h
  refine wpAny_Call_Name_kw (ld_glob I hg hm ?_ hdb)
  refine PySem.W.callWith_K (h₀ := X.base) I.ok.mod.kin hk (thn (ha pos pins s σ H _ I h) fun us s1 ⟨vs, H1, I1, r, q⟩ => ⟨I1.kIn, ?_⟩) he hpl
  exact run_fn F hr hb hd hx I1 r q
theorem pe_meth0 {pl : Sem Bool} (he : PE X o ta) (c : Cls X.K C) (hm : Meth X.K C m f) (F : FnOk X.prog X.w X.K X.mg X.base CX k f fd ps sp) (hr : Room k X.A) (hb : Binds X.K fd ps ds) (hd : Vals dvs ds) (hx : Passes CX X E)
    (ht : eval (.Call (.Attribute o m apos) [] [] pos) X.env = (do
      let ov ← eval o X.env
      standAt apos.atName
      let (f, first) ← holding [ov] (getMethod ov m pl)
      callWith pos f first (backTo pos (starEach [] X.env)) (backToKw pos (keywordEach [] X.env))) := by rfl) :
    PE X (.Call (.Attribute o m apos) [] [] pos) (tMeth C m sp dvs E ta tNil) := by
  intro pins s σ H Q I h
  refine PySem.W.methodCall_KW (pl := pl) (thn (he pins s σ H _ I h) fun u s1 ⟨x, H1, I1, rx, a, dx, fs, ex, ea, l, q⟩ => ?_) ht
  subst ex
  obtain rfl : u = Value.ref a := rx
  refine getmeth_ok I1 ea c hm l ?_
  exact PySem.W.callWith_K0 (first := [.ref a]) I1.kIn hm.kp (run_fn (us := [.ref a]) (vs := [.ref a]) F hr hb hd hx I1 (.cons rfl .nil) q)

structure Mk (K : PySem.W.Frag) (C f : Addr) : Prop where
  makes : PySem.W.makesIn K C = true
  init : PySem.W.findIn K (.ref C) "__init__" = some (some (.ref f))
  fn : PySem.W.isFn K (.ref f) = true
  kp : PySem.W.keepIn K (.ref C) = true

theorem run_make {pins : List (Addr × Obj)} {σ : St} {H : Hp} {s : Shared} {Q : VK} {us : List Value} {vs : List V} (M : Mk X.K C f) (F : FnOk X.prog X.w X.K X.mg X.base CX k f fd ps sp) (hr : Room (k + 1) X.A) (hb : Binds X.K fd ps ds) (hd : Vals dvs ds)
    (hx : Passes CX X E) (I : Inv X pins σ H s) (r : Vals vs us)
    (h : ∀ x dx, H x = none → H dx = none → dx ≠ x → sp (.ref x :: (vs ++ dvs)) (upd (upd H dx (.own x)) x (.ins C dx [])) (fun v H2 => v = .non ∧ Q (.ref x) H2) E) :
    wpAny (model X.prog X.w) X.A (call (.ref C) us) (EP X pins σ Q) X.xe s := by
  have hq := h (s.heap.objs.size + 1) s.heap.objs.size (I.hok.fresh (Nat.le_succ _)) (I.hok.fresh (Nat.le_refl _)) (Nat.ne_of_lt (Nat.lt_succ_self _))
  have I2 := Inv.made (C := C) I
  have r2 : Vals (V.ref (s.heap.objs.size + 1) :: (vs ++ dvs)) (Value.ref (s.heap.objs.size + 1) :: (us ++ ds)) := .cons rfl (r.append hd)
  have hl : (Value.ref (s.heap.objs.size + 1) :: us ++ ds).length = ps.length := by
    have e := r2.length
    rw [F.len _ _ _ _ hq] at e
    exact e.symm
  refine wpAny_call (make_map (f := f) I.kIn M.makes M.init (beq_iff_eq.mp M.fn) (codeAny_mono (F.run _ X.stack _ _ ⟨Value.ref (s.heap.objs.size + 1) :: us, []⟩ (Value.ref (s.heap.objs.size + 1) :: (us ++ ds)) _ _ E (hr.make C us [])
    (I2.env0.make C us []) (hb _ (Value.ref (s.heap.objs.size + 1) :: us) I2.kIn hl) r2 hq) fun r s' hq' => ?_))
  cases r with
  | error e => exact hx pins σ _ _ e s' I2 hq'
  | ok fl =>
    cases fl with
    | ret u =>
      obtain ⟨v, H', I3, rv, ev, q3⟩ := I2.after hq'
      subst ev
      exact ⟨rv, ⟨V.ref (s.heap.objs.size + 1), H', I3, rfl, q3⟩⟩
    | next => exact False.elim hq'
    | brk => exact False.elim hq'
    | cont => exact False.elim hq'
theorem pe_make (M : Mk X.K C f) (F : FnOk X.prog X.w X.K X.mg X.base CX k f fd ps sp) (hr : Room (k + 1) X.A) (hg : Gl X x) (hm : X.mg x = some (.ref C)) (hb : Binds X.K fd ps ds) (hd : Vals dvs ds) (hx : Passes CX X E)
    (ha : PA X (e :: es) t) (hdb : (x == ("__debug__" : Str)) = false := by decide) (he : starEach (e :: es) X.env = (false, eval e X.env) :: starEach es X.env := by rfl) (hpl : (backTo pos (starEach es X.env)).any (·.1) = false := by rfl) :
    PE X (.Call (.Name x p) (e :: es) [] pos) (tMake C sp dvs E t) := by
  intro pins s σ H Q I h
  refine wpAny_Call_Name_kw (ld_glob I hg hm ?_ hdb)
  refine PySem.W.callWith_K (h₀ := X.base) I.ok.mod.kin M.kp (thn (ha pos pins s σ H _ I h) fun us s1 ⟨vs, H1, I1, r, q⟩ => ⟨I1.kIn, ?_⟩) he hpl
  exact run_make M F hr hb hd hx I1 r q
end

section
variable {X : Cx} {CX : CXT} {k : Nat} {f C : Addr} {fd : FuncData} {ps ks : List Str} {sp : Sp} {E : XK} {x m : Str} {p pos apos kpos : Pos} {e o : Expr} {es : List Expr} {kws : List Keyword} {te ta : TE} {t tk : TA} {nm : Option Str}
variable {g : List Value → List Value → List Value} {gV : List V → List V → List V}
end

structure FnScope (N P : List Str) (sc : Scope) : Prop where
  kind : sc.kind = .function
  co : sc.isCoroutine = false
  gen : sc.isGenerator = false
  nd : N.Nodup
  pre : N.take P.length = P
  par : ∀ x ∈ P, sc.names.lookup x = some .local ∨ sc.names.lookup x = some .cell
  nofree : ∀ y ∈ sc.names, y.2 ≠ .free

theorem bindL_out {kindOf : Str → Option NameKind} {x : Str} : ∀ {binds : List (Str × Value)} {m : Str → Option Value}, (∀ v, (x, v) ∉ binds) → bindL kindOf binds m x = m x
  | [], _, _ => rfl
  | (n, v) :: r, m, h => by
    unfold bindL
    rw [bindL_out fun w hw => h w (List.mem_cons_of_mem _ hw)]
    split
    · have : x ≠ n := by rintro rfl; exact h v List.mem_cons_self
      simp [this]
    · rfl
theorem bindC_out {kindOf : Str → Option NameKind} {x : Str} : ∀ {binds : List (Str × Value)} {m : Str → Option Value}, (∀ v, (x, v) ∉ binds) → bindC kindOf binds m x = m x
  | [], _, _ => rfl
  | (n, v) :: r, m, h => by
    unfold bindC
    rw [bindC_out fun w hw => h w (List.mem_cons_of_mem _ hw)]
    split
    · rfl
    · have : x ≠ n := by rintro rfl; exact h v List.mem_cons_self
      simp [this]
theorem bindL_get {kindOf : Str → Option NameKind} {x : Str} {v : Value} : ∀ {P : List Str} {vs : List Value} {i : Nat} {m : Str → Option Value}, P.Nodup → P[i]? = some x → vs[i]? = some v → kindOf x = some .local →
    bindL kindOf (P.zip vs) m x = some v
  | [], _, _, _, _, h, _, _ => by simp at h
  | _ :: _, [], _, _, _, _, h, _ => by simp at h
  | p :: P, w :: vs, 0, m, nd, h1, h2, hk => by
    simp at h1 h2; subst h1; subst h2
    show bindL kindOf ((p, w) :: P.zip vs) m p = _
    unfold bindL
    rw [bindL_out fun v hv => (List.nodup_cons.mp nd).1 (List.of_mem_zip hv).1, if_pos hk]
    simp
  | p :: P, w :: vs, i + 1, m, nd, h1, h2, hk => by
    show bindL kindOf ((p, w) :: P.zip vs) m x = _
    unfold bindL
    exact bindL_get (i := i) (List.nodup_cons.mp nd).2 (by simpa using h1) (by simpa using h2) hk
theorem bindC_get {kindOf : Str → Option NameKind} {x : Str} {v : Value} : ∀ {P : List Str} {vs : List Value} {i : Nat} {m : Str → Option Value}, P.Nodup → P[i]? = some x → vs[i]? = some v → kindOf x ≠ some .local →
    bindC kindOf (P.zip vs) m x = some v
  | [], _, _, _, _, h, _, _ => by simp at h
  | _ :: _, [], _, _, _, _, h, _ => by simp at h
  | p :: P, w :: vs, 0, m, nd, h1, h2, hk => by
    simp at h1 h2; subst h1; subst h2
    show bindC kindOf ((p, w) :: P.zip vs) m p = _
    unfold bindC
    rw [bindC_out fun v hv => (List.nodup_cons.mp nd).1 (List.of_mem_zip hv).1, if_neg hk]
    simp
  | p :: P, w :: vs, i + 1, m, nd, h1, h2, hk => by
    show bindC kindOf ((p, w) :: P.zip vs) m x = _
    unfold bindC
    exact bindC_get (i := i) (List.nodup_cons.mp nd).2 (by simpa using h1) (by simpa using h2) hk

noncomputable def start (N : List Str) (vs : List V) : St := vs.map some ++ List.replicate (N.length - vs.length) none

noncomputable def cxOf (CX : CXT) (P : Program) (w : World) (K : PySem.W.Frag) (mg : Str → Option Value) (base : Heap) (N : List Str) (qual : Str) (scope : Scope) (f : Addr) (cd : Value) (A : Around) (outer : List Env) (s : Shared) (H : Hp) (E : XK) : Cx where
  prog := P
  w := w
  K := K
  mg := mg
  base := base
  A := A.deeper (envOfC qual scope s.heap.objs.size f cd)
  N := N
  s₀ := s
  H₀ := H
  env := envOfC qual scope s.heap.objs.size f cd
  outer := outer
  stack := envOfC qual scope s.heap.objs.size f cd :: outer
  ex := []
  calm := true
  fn := fun _ => true
  pn := []
  xe := fun e s' => wpAny (model P w) (A.deeper (envOfC qual scope s.heap.objs.size f cd)) (leaving (envOfC qual scope s.heap.objs.size f cd) e) (fun _ s'' => CX outer H s E e s'') (fun e' s'' => CX outer H s E e' s'') s'

theorem cell_has {sc : Scope} {n : Nat} {x : Str} (h : sc.names.lookup x = some .cell) : ∃ c, (cellsFrom n sc.names []).lookup x = some c := by
  have q := PySem.W.cellsFrom_some sc.names n [] (.inl h)
  exact Option.isSome_iff_exists.mp q

theorem inv_start {CX : CXT} {P : Program} {w : World} {K : PySem.W.Frag} {mg : Str → Option Value} {base : Heap} {N ps : List Str} {qual : Str} {scope : Scope} {f : Addr} {cd : Value} {A : Around} {outer : List Env} {s s1 : Shared} {H : Hp} {E : XK} {us : List Value} {vs : List V}
    (S : FnScope N ps scope) (hd : A.handled = none) (e0 : Env0 P w K mg base A outer s H) (hl : vs.length = ps.length) (r : Vals vs us)
    (x : InCallC s s.heap.objs.size (bindL (envOfC qual scope s.heap.objs.size f cd).kindOf (ps.zip us) fun _ => none) (cellsFrom (s.heap.objs.size + 1) scope.names []) (bindC (envOfC qual scope s.heap.objs.size f cd).kindOf (ps.zip us) fun _ => none) s1) :
    Inv (cxOf CX P w K mg base N qual scope f cd A outer s H E) [] (start N vs) H s1 := by
  have hpl : ps.length ≤ N.length := by have := congrArg List.length S.pre; rw [List.length_take] at this; omega
  obtain ⟨h1, tk, rfl, hk⟩ := x.done
  have noA : ∀ b : Addr, b ∉ (cxOf CX P w K mg base N qual scope f cd A outer s H E).ex := fun b z => absurd (show b ∈ ([] : List Addr) from z) (by simp)
  refine ⟨⟨e0.mod, S.kind, rfl, rfl, Nat.le_refl _, fun y z c h1 h2 => ?_, fun y hy => ?_, fun y c _ h => ?_, fun _ => hd, Around.frames_deeper e0.frames, .inr ⟨rfl, rfl⟩, fun b z => absurd z (noA b), e0.bs, e0.bsz, fun b _ _ => noA b, fun b z => absurd z (noA b), e0.funs, e0.frf⟩,
    rfl, e0.bare, Un.kept hk, ⟨_, x.toInCall.ns, fun i y v h1 h2 h3 => ?_⟩, fun y c h => ⟨_, x.cell y c h⟩, e0.hok.fresh (Nat.le_refl _), fun y c h => ?_, fun p hp => absurd (show p ∈ ([] : List (Addr × Obj)) from hp) (by simp), e0.hok.kept hk, ?_⟩
  · exact name_of_addr x.apart (PySem.mem_of_lookup h1) (PySem.mem_of_lookup h2)
  · have hy : scope.names.lookup y = some .cell ∨ scope.names.lookup y = some .free := hy
    rcases hy with hy | hy
    · exact cell_has hy
    · exact absurd rfl (S.nofree _ (PySem.mem_of_lookup hy))
  · exact Nat.le_of_lt (x.above y c (PySem.mem_of_lookup h))
  · have hi : i < vs.length := by
      unfold start at h2
      by_cases hi : i < vs.length
      · exact hi
      · rw [List.getElem?_append_right (by simpa using hi)] at h2
        rw [List.getElem?_replicate] at h2
        split at h2 <;> cases h2
    have ha : vs[i]? = some v := by
      unfold start at h2
      rw [List.getElem?_append_left (by simpa using hi), List.getElem?_map] at h2
      cases e : vs[i]? with
      | none => rw [e] at h2; cases h2
      | some a => rw [e] at h2; cases h2; rfl
    obtain ⟨u, hu, rv⟩ := r.get ha
    have hp : ps[i]? = some y := by
      rw [← S.pre, List.getElem?_take_of_lt (by omega)]; exact h1
    have ndP : ps.Nodup := by rw [← S.pre]; exact S.nd.sublist (List.take_sublist _ _)
    refine ⟨u, rv, ?_⟩
    rcases S.par y (List.mem_of_getElem? hp) with k | k
    · exact .inl ⟨k, bindL_get ndP hp hu k⟩
    · obtain ⟨c, e⟩ := cell_has (n := s.heap.objs.size + 1) k
      refine .inr ⟨.inl k, c, e, ?_⟩
      have q := x.cell y c e
      rw [bindC_get ndP hp hu (by show scope.names.lookup y ≠ _; rw [k]; decide)] at q
      exact q
  · exact e0.hok.fresh (Nat.le_of_lt (x.above y c (PySem.mem_of_lookup h)))
  · unfold start
    show _ = N.length
    rw [List.length_append, List.length_map, List.length_replicate]
    omega

theorem fn_of {CX : CXT} {P : Program} {w : World} {K : PySem.W.Frag} {mg : Str → Option Value} {base : Heap} {k : Nat} {f : Addr} {name qual : Str} {params : Arguments} {body : List Stmt} {scope : Scope} {dV kV doc pm cdv ct oc : Value} {an od : Option Addr}
    {osl : Array (Option Value)} {N ps : List Str} {sp : Sp} (lk : K.lookup f = some ⟨oc, od, .func (PySem.W.fnOf name qual params body scope dV kV doc pm an cdv ct), osl⟩) (hcd : PySem.W.codeIn K cdv qual = true) (S : FnScope N ps scope)
    (len : ∀ vs H Q E, sp vs H Q E → vs.length = ps.length)
    (hbody : ∀ (A : Around) (outer : List Env) (s : Shared) (H : Hp) (vs : List V) (Q : VK) (E : XK), Room k (A.deeper (envOfC qual scope s.heap.objs.size f cdv)) → sp vs H Q E →
      ∃ t, PSs (cxOf CX P w K mg base N qual scope f cdv A outer s H E) body t ∧ t { nx := fun _ H' => Q .non H', rt := Q } (start N vs) H) :
    FnOk P w K mg base CX (k + 1) f (PySem.W.fnOf name qual params body scope dV kV doc pm an cdv ct) ps sp := by
  refine ⟨len, fun A outer s H args us vs Q E hr e0 hb r hsp => ?_⟩
  have hl := len _ _ _ _ hsp
  have KX : K.In s.heap := e0.mod.kin.keeps fun b o e => (e0.bs b o e).1
  have lim : s.heap.NoLimit := e0.mod.nolimit.keeps fun b o e => (e0.bs b o e).1
  have hkind : ∀ y ∈ ps.zip us, scope.names.lookup y.1 = some .local ∨ (scope.names.lookup y.1 = some .cell ∧ ((cellsFrom (s.heap.objs.size + 1) scope.names []).lookup y.1).isSome = true) := fun ⟨n, v⟩ hy => by
    rcases S.par n (List.of_mem_zip hy).1 with q | q
    · exact .inl q
    · exact .inr ⟨q, PySem.W.cellsFrom_some _ _ _ (.inl q)⟩
  refine codeAny_call_function hr.depth (KX _ _ lk) rfl S.co S.gen rfl (PySem.W.codeRec_of KX hcd) (hb _ _ _ _ ?_)
  refine wpAny_newFunctionEnv_cells S.kind hkind fun env he s1 x => ?_
  subst he
  refine ⟨lim.keeps x.toInCall.keep, codeAny_func ?_⟩
  obtain ⟨t, ht, hq⟩ := hbody A outer s H vs Q E (hr.deeper _) hsp
  have I : Inv (cxOf CX P w K mg base N qual scope f cdv A outer s H E) [] (start N vs) H s1 := inv_start S hr.hd e0 hl r x
  refine wpAny_mono (ht [] s1 (start N vs) H _ I hq) (fun fl s' hs => ?_) fun e s' hs => hs
  have fin : ∀ {σ' : St} {H' : Hp} {v : V} {u : Value}, Inv (cxOf CX P w K mg base N qual scope f cdv A outer s H E) [] σ' H' s' → RelV v u → Q v H' → CE outer P w H s Q u s' :=
    fun {σ' H' v u} J rv q => ⟨v, H', J.os, J.bare, J.base, J.hok, rv, q⟩
  cases fl with
  | ret u =>
    obtain ⟨v, σ', H', J, rv, q⟩ := hs
    exact fin J rv q
  | next =>
    obtain ⟨σ', H', J, q⟩ := hs
    exact fin (v := V.non) (u := Value.none) J rfl q
  | brk =>
    obtain ⟨_, _, _, q⟩ := hs
    exact False.elim q
  | cont =>
    obtain ⟨_, _, _, q⟩ := hs
    exact False.elim q
end L2

namespace L2
open PySem PySem.Spec PyProof.Rows
section
variable {X : Cx} {x : Str} {p pos : Pos} {e : Expr} {es : List Expr} {t : TA} {id T : String} {r : List V → Hp → VK → Prop}

noncomputable def tCB (r : List V → Hp → VK → Prop) (t : TA) : TE := fun σ H Q => t σ H fun vs H1 => r vs H1 Q
theorem pe_callB (hc : CallR X (.builtin id) r) (hg : Gl X x) (hm : X.mg x = none) (hv : bootBuiltins x = some (.builtin id)) (ha : PA X (e :: es) t) (hn : x ≠ "__name__" := by decide) (hdb : (x == ("__debug__" : Str)) = false := by decide)
    (he : starEach (e :: es) X.env = (false, eval e X.env) :: starEach es X.env := by rfl) (hpl : (backTo pos (starEach es X.env)).any (·.1) = false := by rfl) : PE X (.Call (.Name x p) (e :: es) [] pos) (tCB r t) := by
  intro pins s σ H Q I h
  refine wpAny_Call_Name_kw (ld_blt I hg hm hv ?_ hn hdb)
  exact PyProof.Rows.callWith_builtin1 (thn (ha pos pins s σ H _ I h) fun us s1 ⟨vs, H1, I1, r1, q1⟩ => hc pins s1 σ H1 vs us Q I1 r1 q1) he hpl
theorem pe_callTy (hc : CallR X (.type T) r) (hg : Gl X x) (hm : X.mg x = none) (hv : bootBuiltins x = some (.type T)) (ha : PA X (e :: es) t) (hn : x ≠ "__name__" := by decide) (hdb : (x == ("__debug__" : Str)) = false := by decide)
    (he : starEach (e :: es) X.env = (false, eval e X.env) :: starEach es X.env := by rfl) (hpl : (backTo pos (starEach es X.env)).any (·.1) = false := by rfl) : PE X (.Call (.Name x p) (e :: es) [] pos) (tCB r t) := by
  intro pins s σ H Q I h
  refine wpAny_Call_Name_kw (ld_blt I hg hm hv ?_ hn hdb)
  exact PyProof.Rows.callWith_type1 (thn (ha pos pins s σ H _ I h) fun us s1 ⟨vs, H1, I1, r1, q1⟩ => hc pins s1 σ H1 vs us Q I1 r1 q1) he hpl
end
end L2

namespace HT
open PySem PyProof.Rows

noncomputable def lexLt : List Int → List Int → Bool
  | [], [] => false
  | [], _ :: _ => true
  | _ :: _, [] => false
  | x :: xs, y :: ys => if x = y then lexLt xs ys else decide (x < y)
theorem lexLt_cons (x y : Int) (xs ys : List Int) : lexLt (x :: xs) (y :: ys) = if x = y then lexLt xs ys else decide (x < y) := rfl
theorem lexLt_nil_nil : lexLt [] [] = false := rfl
theorem lexLt_nil_cons (y : Int) (ys : List Int) : lexLt [] (y :: ys) = true := rfl
theorem lexLt_cons_nil (x : Int) (xs : List Int) : lexLt (x :: xs) [] = false := rfl

theorem eqAt_int (A : Around) (s : Shared) (a : Int) (t : Tok) (c : Int) (u : Tok) : ∃ e, SeqAt.EqAt A s (.int a t) (.int c u) e ∧ (e = true ↔ a = c) :=
  ⟨(a == c), SeqAt.EqAt.int_int a t c u, by simp⟩
theorem rcLt_int (A : Around) (s : Shared) (a : Int) (t : Tok) (c : Int) (u : Tok) (prog : Program) (w : World) (E : Value → Shared → Prop) (Q : Value → Shared → Prop) (h : Q (.bool (decide (a < c))) s) :
    wpAny (model prog w) A (richCompare .Lt (.int a t) (.int c u)) Q E s :=
  (PyProof.Rows.lt_int h : wpAny (model prog w) A (compareOp .Lt (.int a t) (.int c u)) Q E s)

section
open PySem.SeqAt
open PySem.AutoSeq1 (wpAny_loadPart')
open PySem.MeetsSeq PySem.MeetsSeq2 PySem.MeetsSeq3

theorem tuple_lt_ints (l b : Addr) (items items2 : Array Value) (n n2 : Nat) (dd dd2 : Option Addr) (sl sl2 : Array (Option Value)) (ns ms : List Int) (hi : IntsAre items.toList ns) (hj : IntsAre items2.toList ms) :
    Meets (Builtin.«tuple.__lt__» ⟨[.ref l, .ref b], []⟩)
      (fun _ R s => s.heap.get? l = some { cls := .type "tuple", dict := dd, data := .seq items n, slots := sl } ∧ s.heap.get? b = some { cls := .type "tuple", dict := dd2, data := .seq items2 n2, slots := sl2 } ∧
        R (.ok (.ret (.bool (lexLt ns ms)))) s) :=
  .of_wp fun prog w A R s h => by
    obtain ⟨hp, g, d, tk, os⟩ := s; obtain ⟨hl, hb, h⟩ := h
    have f2 := AutoSeq1.sub_tuple_tuple
    have z1 : items.size = ns.length := by rw [← hi.length]; simp
    have z2 : items2.size = ms.length := by rw [← hj.length]; simp
    wp_walk using wpAny_loadPart' hl, wpAny_loadPart' hb, wpAny_forIn_list _ (fun rest b s' => b.1 = none ∧ s' = ⟨hp, g, d, tk, os⟩ ∧ ∃ (vs ws : List Value) (ns' ms' : List Int), rest = vs.zip ws ∧
      IntsAre vs ns' ∧ IntsAre ws ms' ∧ ns'.length + items2.size = ms'.length + items.size ∧ R (.ok (.ret (.bool (lexLt ns' ms')))) ⟨hp, g, d, tk, os⟩) _
    case turn =>
      rintro ⟨y, x⟩ rest b s' ⟨hb', rfl, vs, ws, ns', ms', hz, hvi, hwi, hlen, hR⟩
      cases hvi with
      | nil => rw [List.zip_nil_left] at hz; cases hz
      | cons a t hvi' =>
        cases hwi with
        | nil => rw [List.zip_nil_right] at hz; cases hz
        | cons c u hwi' =>
          rw [List.zip_cons_cons] at hz
          injection hz with hyx hrest
          injection hyx with hy hx
          subst hy hx
          rw [lexLt_cons] at hR
          simp only [List.length_cons] at hlen
          obtain ⟨e, he, hiff⟩ := eqAt_int A.in1 ⟨hp, g, d, tk, os⟩ a t c u
          refine wpAny_bind (he prog w _ _ ?_)
          cases e with
          | true =>
            rw [if_pos (hiff.mp rfl)] at hR
            wp_walk
            exact ⟨rfl, rfl, _, _, _, _, hrest, hvi', hwi', by omega, hR⟩
          | false =>
            rw [if_neg (fun q => absurd (hiff.mpr q) Bool.false_ne_true)] at hR
            have hri := rcLt_int A.in1 ⟨hp, g, d, tk, os⟩ a t c u prog w
            wp_walk using hri
            exact ⟨_, rfl, by simpa using hR⟩
    case fin =>
      rintro ⟨b1, b2⟩ s' ⟨hb', rfl, vs, ws, ns', ms', hz, hvi, hwi, hlen, hR⟩
      simp only at hb'
      subst hb'
      have hv : lexLt ns' ms' = decide (items.size < items2.size) := by
        cases hvi with
        | nil =>
          cases hwi with
          | nil =>
            simp only [List.length_nil] at hlen
            rw [lexLt_nil_nil]
            exact (decide_eq_false (by omega)).symm
          | cons c u hw =>
            simp only [List.length_nil, List.length_cons] at hlen
            rw [lexLt_nil_cons]
            exact (decide_eq_true (by omega)).symm
        | cons a t hv =>
          cases hwi with
          | nil =>
            simp only [List.length_nil, List.length_cons] at hlen
            rw [lexLt_cons_nil]
            exact (decide_eq_false (by omega)).symm
          | cons c u hw =>
            rw [List.zip_cons_cons] at hz
            cases hz
      rw [hv] at hR
      wp_walk
      exact ⟨_, rfl, by simpa [Builtin.Tuple.tupleCompareSizes] using hR⟩
    case h =>
      exact ⟨rfl, rfl, items.toList, items2.toList, ns, ms, rfl, hi, hj, by omega, h⟩
end

section
variable {prog : Program} {w : World} {A : Around} {E : Value → Shared → Prop} {s : Shared}

theorem lt_tupInts {l b : Addr} {items items2 : Array Value} {ns ms : List Int} {Q : Value → Shared → Prop} (hl : IsTup s.heap l items) (hb : IsTup s.heap b items2) (hi : IntsAre items.toList ns) (hj : IntsAre items2.toList ms)
    (hu : A.units < cLine) (h : Q (.bool (lexLt ns ms)) s) : wpAny (model prog w) A (compareOp .Lt (.ref l) (.ref b)) Q E s := by
  obtain ⟨⟨cls, dd, data, sl⟩, ho, hc, n, hd⟩ := id hl
  obtain ⟨⟨cls2, dd2, data2, sl2⟩, ho2, hc2, n2, hd2⟩ := id hb
  simp only at hc hd hc2 hd2
  subst hc hd hc2 hd2
  exact richCompare_meets_room (op := .Lt) ⟨_, ho, rfl⟩ ⟨_, ho2, rfl⟩ PySem.F.slot_tuple_lt PySem.F.entry_tuple_lt (PySem.F.args_tuple_lt_2 _ _) (tuple_lt_ints l b items items2 n n2 dd dd2 sl sl2 ns ms hi hj)
    ⟨ho, ho2, show Value.bool (lexLt ns ms) ≠ Value.notImplemented ∧ Q (.bool (lexLt ns ms)) s from ⟨(fun x => nomatch x), h⟩⟩ hu

noncomputable def sIx (n d : Nat) : Option Int → Nat
  | none => d
  | some v => if v < 0 then (v + (n : Int)).toNat else min v.toNat n
theorem sIx_none (n d : Nat) : sIx n d none = d := rfl
theorem sIx_nat (n d k : Nat) : sIx n d (some (k : Int)) = min k n := by
  show (if (k : Int) < 0 then ((k : Int) + (n : Int)).toNat else min (k : Int).toNat n) = min k n
  rw [if_neg (by omega), Int.toNat_natCast]
theorem sIx_le (n d : Nat) (hd : d ≤ n) (o : Option Int) : sIx n d o ≤ n := by
  cases o with
  | none => exact hd
  | some v =>
    show (if v < 0 then (v + (n : Int)).toNat else min v.toNat n) ≤ n
    by_cases hv : v < 0
    · rw [if_pos hv]; omega
    · rw [if_neg hv]; exact Nat.min_le_right _ _
end
end HT

namespace L2
open PySem PySem.Spec PyProof.Rows

noncomputable abbrev TO := St → Hp → (Option Int → Hp → Prop) → Prop
noncomputable def PO (X : Cx) (e : Option Expr) (t : TO) : Prop :=
  ∀ (pins : List (Addr × Obj)) (s : Shared) (σ : St) (H : Hp) (Q : Option Int → Hp → Prop), Inv X pins σ H s → t σ H Q →
    wpAny (model X.prog X.w) X.A (evalPart e X.env) (fun u s' => ∃ o H', Inv X pins σ H' s' ∧ IsPart u o ∧ Q o H') X.xe s
noncomputable def tNoPart : TO := fun _ H Q => Q none H
noncomputable def tPart (t : TE) : TO := fun σ H Q => t σ H fun x H1 => ∃ i, x = .int i ∧ Q (some i) H1

theorem intsAre_of {ns : List Int} : ∀ {us : List Value}, Vals (ns.map V.int) us → IntsAre us ns := by
  induction ns with
  | nil => intro us r; rw [List.map_nil] at r; cases r; exact .nil
  | cons n ns ih =>
    intro us r
    rw [List.map_cons] at r
    cases r with
    | cons r1 r2 =>
      obtain ⟨t, e⟩ := r1
      subst e
      exact .cons n t (ih r2)

section
variable {X : Cx} {e : Expr} {te : TE} {lo hi : Option Expr} {tl th : TO} {pos p2 : Pos}

theorem po_none : PO X none tNoPart := by
  intro pins s σ H Q I h
  rw [evalPart_none]
  exact wpAny_pure ⟨none, H, I, .none, h⟩
theorem po_some (h : PE X e te) : PO X (some e) (tPart te) := by
  intro pins s σ H Q I hw
  rw [evalPart_some]
  refine thn (h pins s σ H _ I hw) fun u s1 ⟨x, H1, I1, r1, q1⟩ => ?_
  obtain ⟨i, rfl, q⟩ := q1
  obtain ⟨t, rfl⟩ := r1
  exact ⟨some i, H1, I1, .int i t, q⟩

noncomputable def SlR (X : Cx) (r : V → Option Int → Option Int → Hp → VK → Prop) : Prop :=
  ∀ (pins : List (Addr × Obj)) (s : Shared) (σ : St) (H : Hp) (x : V) (v vl vu : Value) (lo hi : Option Int) (sl : Addr) (Q : VK), Inv X pins σ H s → RelV x v → s.heap.IsSliceOf sl vl vu .none → IsPart vl lo → IsPart vu hi → r x lo hi H Q →
    ∃ T id, typeLookup (.type T) "__getitem__" = pure (some (.builtin id)) ∧ s.TypeIs v T ∧ wpAny (model X.prog X.w) X.A (getItem v (.ref sl)) (EP X pins σ Q) X.xe s
noncomputable def tSl (r : V → Option Int → Option Int → Hp → VK → Prop) (te : TE) (tl th : TO) : TE := fun σ H Q => te σ H fun x H1 => tl σ H1 fun l H2 => th σ H2 fun u H3 => r x l u H3 Q
theorem pe_slice {r : V → Option Int → Option Int → Hp → VK → Prop} (hr : SlR X r) (he : PE X e te) (hl : PO X lo tl) (hu : PO X hi th) : PE X (.Subscript e (.Slice lo hi none p2) pos) (tSl r te tl th) := by
  intro pins s σ H Q I h
  refine Subscript_ (thn (he pins s σ H _ I h) fun v s1 ⟨x, H1, I1, r1, q1⟩ => ?_)
  refine wpAny_Slice (thn (hl pins s1 σ H1 _ I1 q1) fun vl s2 ⟨l, H2, I2, pl, q2⟩ => thn (hu pins s2 σ H2 _ I2 q2) fun vu s3 ⟨u, H3, I3, pu, q3⟩ => ?_)
  rw [evalPart_none]
  refine wpAny_pure ?_
  have I4 : Inv X pins σ H3 { s3 with heap := s3.heap.push { cls := .type "slice", data := .fields #[vl, vu, .none] } } := I3.kept (t' := s3.toks) fun b ob q => Heap.get?_push_of_some _ q
  obtain ⟨T, id, hT, ht, hg⟩ := hr pins { s3 with heap := s3.heap.push { cls := .type "slice", data := .fields #[vl, vu, .none] } } σ H3 x v vl vu l u s3.heap.objs.size Q I4 r1 (Heap.IsSliceOf.new ..) pl pu q3
  show wpAny (model X.prog X.w) X.A (subscriptTail e (.Slice lo hi none p2) v (.ref s3.heap.objs.size)) (EP X pins σ Q) X.xe { s3 with heap := s3.heap.push { cls := .type "slice", data := .fields #[vl, vu, .none] } }
  exact tail_any (ops := [.ref s3.heap.objs.size, v]) ht hT hg (by with_unfolding_all rfl)

noncomputable def cutV (xs : List V) (lo hi : Option Int) : List V := (xs.drop (HT.sIx xs.length 0 lo)).take (HT.sIx xs.length xs.length hi - HT.sIx xs.length 0 lo)
theorem cutV_length (xs : List V) (lo hi : Option Int) : (cutV xs lo hi).length ≤ xs.length := by
  unfold cutV
  rw [List.length_take, List.length_drop]
  omega
noncomputable def rLtT (K : PySem.W.Frag) : R2 := fun x y H Q => ∃ a b ns ms, x = .ref a ∧ y = .ref b ∧ SqT K H a (ns.map V.int) ∧ SqT K H b (ms.map V.int) ∧ Q (.bl (HT.lexLt ns ms)) H
theorem op_ltT (hu : X.A.units < cLine) : OpR X (compareOp .Lt) (rLtT X.K) := by
  intro pins s σ H x y v u Q I rx ry h
  obtain ⟨a, b, ns, ms, rfl, rfl, ha, hb, q⟩ := h
  cases rx
  cases ry
  obtain ⟨its, r1, p1, _⟩ := I.tuple ha
  obtain ⟨its2, r2, p2, _⟩ := I.tuple hb
  have i1 : IntsAre its.toArray.toList ns := intsAre_of r1
  have i2 : IntsAre its2.toArray.toList ms := intsAre_of r2
  exact HT.lt_tupInts p1 p2 i1 i2 hu ⟨.bl (HT.lexLt ns ms), H, I, rfl, q⟩
end
end L2

namespace L2
open PySem PySem.Spec PyProof.Rows

noncomputable def ixN (n : Nat) (i : Int) : Option Nat := if 0 ≤ i then (if i < n then some i.toNat else none) else if -(n : Int) ≤ i then some (i + n).toNat else none
noncomputable def atI {α : Type} (xs : List α) (i : Int) : Option α := (ixN xs.length i).bind fun j => xs[j]?
theorem ixN_seq {n : Nat} {i : Int} {j : Nat} (h : ixN n i = some j) : seqIndex? i n = some j ∧ j < n ∧ -(n : Int) ≤ i ∧ i < n := by
  unfold ixN at h
  by_cases h0 : 0 ≤ i
  · rw [if_pos h0] at h
    by_cases h1 : i < n
    · rw [if_pos h1] at h
      have e : i.toNat = j := Option.some.inj h
      exact ⟨by rw [seqIndex_of h0 h1, e], by omega, by omega, h1⟩
    · rw [if_neg h1] at h; cases h
  · rw [if_neg h0] at h
    by_cases h1 : -(n : Int) ≤ i
    · rw [if_pos h1] at h
      have e : (i + n).toNat = j := Option.some.inj h
      exact ⟨by rw [seqIndex_neg (by omega) h1, e], by omega, h1, by omega⟩
    · rw [if_neg h1] at h; cases h
theorem atI_get {α : Type} {xs : List α} {i : Int} {v : α} (h : atI xs i = some v) : ∃ j, seqIndex? i xs.length = some j ∧ xs[j]? = some v ∧ j < xs.length ∧ -(xs.length : Int) ≤ i ∧ i < xs.length := by
  unfold atI at h
  cases e : ixN xs.length i with
  | none => rw [e] at h; cases h
  | some j =>
    rw [e] at h
    obtain ⟨h1, h2, h3, h4⟩ := ixN_seq e
    exact ⟨j, h1, h, h2, h3, h4⟩
theorem atI_nat {α : Type} {xs : List α} {j : Nat} {v : α} (h : xs[j]? = some v) : atI xs (j : Int) = some v := by
  have hj : j < xs.length := (List.getElem?_eq_some_iff.mp h).1
  have e : ixN xs.length (j : Int) = some j := by
    unfold ixN
    rw [if_pos (by omega), if_pos (by omega)]; simp
  unfold atI; rw [e]; exact h
theorem atI_last {α : Type} (xs : List α) (v : α) : atI (xs ++ [v]) (-1) = some v := by
  have hl : (xs ++ [v]).length = xs.length + 1 := by simp
  have e : ixN (xs ++ [v]).length (-1) = some xs.length := by
    unfold ixN
    rw [hl, if_neg (by decide), if_pos (by omega)]
    congr 1
    omega
  unfold atI
  rw [e]
  show (xs ++ [v])[xs.length]? = some v
  simp

noncomputable def PlainIx (b : Expr) : Prop := ∀ o i, subscripted b false o i = operate [o, i] (getItem o i)
noncomputable def IxR (X : Cx) (r : R2) : Prop :=
  ∀ (value slice : Expr) (pins : List (Addr × Obj)) (s : Shared) (σ : St) (H : Hp) (x y : V) (v u : Value) (Q : VK), Inv X pins σ H s → RelV x v → RelV y u → r x y H Q →
    subscripted slice false v u = operate [v, u] (getItem v u) → wpAny (model X.prog X.w) X.A (subscriptTail value slice v u) (EP X pins σ Q) X.xe s
noncomputable def MtR (X : Cx) (id : String) (r : V → List V → Hp → VK → Prop) : Prop :=
  ∀ (pins : List (Addr × Obj)) (s : Shared) (σ : St) (H : Hp) (x : V) (xs : List V) (v : Value) (us : List Value) (Q : VK), Inv X pins σ H s → RelV x v → Vals xs us → r x xs H Q →
    wpAny (model X.prog X.w) X.A (call (.builtin id) (v :: us)) (EP X pins σ Q) X.xe s
section
variable {X : Cx} {a b : Expr} {ta tb : TE} {pos : Pos}
theorem pe_ix {r : R2} (hr : IxR X r) (ha : PE X a ta) (hb : PE X b tb) (hs : PlainIx b) : PE X (.Subscript a b pos) (tOp r ta tb) := by
  intro pins s σ H Q I h
  exact Subscript_ (binT ha hb I h fun v u s2 x y H2 I2 rx ry q => hr a b pins s2 σ H2 x y v u Q I2 rx ry q (hs _ _))

noncomputable def rIxL (K : PySem.W.Frag) : R2 := fun x y H Q => ∃ p xs i v, x = .ref p ∧ y = .int i ∧ SqL K H p xs ∧ atI xs i = some v ∧ Q v H
noncomputable def rIxT (K : PySem.W.Frag) : R2 := fun x y H Q => ∃ p xs i v, x = .ref p ∧ y = .int i ∧ SqT K H p xs ∧ atI xs i = some v ∧ Q v H
noncomputable def rIxS : R2 := fun x y H Q => ∃ z i c, x = .str z ∧ y = .int i ∧ z.length ≤ sizeLine ∧ atI z.cps.toList i = some c ∧ Q (.str ⟨#[c]⟩) H
theorem ix_list : IxR X (rIxL X.K) := by
  intro value slice pins s σ H x y v u Q I rx ry h hs
  obtain ⟨p, xs, i, z, rfl, rfl, hq, he, q⟩ := h
  cases rx
  obtain ⟨t, rfl⟩ := ry
  obtain ⟨its, r, pl, hz⟩ := I.list hq
  obtain ⟨j, h1, h2, h3, h4, h5⟩ := atI_get he
  obtain ⟨w, ew, rw'⟩ := r.get h2
  have hl := r.length
  have hn := line63
  have fin : EP X pins σ Q w s := ⟨z, H, I, rw', q⟩
  by_cases h0 : 0 ≤ i
  · have hj : i.toNat = j := by
      rw [seqIndex_of h0 h5] at h1
      exact Option.some.inj h1
    exact item_listR pl.isList h0 (by omega) (by rw [hj]; simpa using ew) fin hs
  · have hj : (i + (its.toArray.size : Int)).toNat = j := by
      rw [seqIndex_neg (by omega) h4] at h1
      rw [List.size_toArray, ← hl]
      exact Option.some.inj h1
    exact subscriptTail_builtinR (x := w) pl.isList.typeIs slot_list_getitem.lookup
      (wpAny_getItem_list_neg (Q := fun r s' => r = w ∧ EP X pins σ Q r s') pl.isList (by omega) (by rw [List.size_toArray] <;> omega) (by omega) (by rw [hj]; simpa using ew) ⟨rfl, fin⟩) hs
theorem ix_tup : IxR X (rIxT X.K) := by
  intro value slice pins s σ H x y v u Q I rx ry h hs
  obtain ⟨p, xs, i, z, rfl, rfl, hq, he, q⟩ := h
  cases rx
  obtain ⟨t, rfl⟩ := ry
  obtain ⟨its, r, pl, hz⟩ := I.tuple hq
  obtain ⟨j, h1, h2, h3, h4, h5⟩ := atI_get he
  obtain ⟨w, ew, rw'⟩ := r.get h2
  have hl := r.length
  have hn := line63
  have fin : EP X pins σ Q w s := ⟨z, H, I, rw', q⟩
  exact subscriptTail_builtinR (x := w) pl.typeIs slot_tuple_getitem.lookup
    (getItem_tuple (j := j) (Q := fun r s' => r = w ∧ EP X pins σ Q r s') pl (by omega) (by omega) (by rw [List.size_toArray, ← hl]; exact h1) (by simpa using ew) ⟨rfl, fin⟩) hs
theorem ix_str : IxR X rIxS := by
  intro value slice pins s σ H x y v u Q I rx ry h hs
  obtain ⟨z, i, c, rfl, rfl, hz, he, q⟩ := h
  obtain ⟨t, rfl⟩ := rx
  obtain ⟨t', rfl⟩ := ry
  obtain ⟨j, h1, h2, h3, h4, h5⟩ := atI_get he
  have hl : z.cps.toList.length = z.length := by simp [Str.length]
  rw [hl] at h1 h4 h5
  have hn := line63
  exact tail_any (typeIs_str s z t) slot_str_getitem.lookup (getItem_str (c := c) (by
    have e1 : decide (i < -(2 ^ 63 : Int)) = false := decide_eq_false (by omega)
    have e2 : decide (i ≥ 2 ^ 63) = false := decide_eq_false (by omega)
    rw [e1, e2, Bool.or_false]) (by rw [h1]; simpa using h2) ⟨.str ⟨#[c]⟩, H, I.tok _, ⟨_, rfl⟩, q⟩) hs
theorem slice_bounds (lo hi : Option Int) (n : Nat) : (sliceBounds lo hi none n).1 = ((HT.sIx n 0 lo : Nat) : Int) ∧ (sliceBounds lo hi none n).2.1 = ((HT.sIx n n hi : Nat) : Int) ∧ (sliceBounds lo hi none n).2.2 = 1 := by
  refine ⟨?_, ?_, rfl⟩
  · cases lo with
    | none => simp [sliceBounds, HT.sIx]
    | some i =>
      simp only [sliceBounds, HT.sIx, Option.getD_none, show (1 : Int) > 0 by decide, if_true]
      by_cases h : i < 0
      · simp only [h, if_true] <;> omega
      · simp only [h, if_false] <;> omega
  · cases hi with
    | none => simp [sliceBounds, HT.sIx]
    | some i =>
      simp only [sliceBounds, HT.sIx, Option.getD_none, show (1 : Int) > 0 by decide, if_true]
      by_cases h : i < 0
      · simp only [h, if_true] <;> omega
      · simp only [h, if_false] <;> omega
theorem slicePick_cut (its : List Value) (lo hi : Option Int) : slicePick its.toArray lo hi none = ((its.drop (HT.sIx its.length 0 lo)).take (HT.sIx its.length its.length hi - HT.sIx its.length 0 lo)).toArray := by
  obtain ⟨h1, h2, h3⟩ := slice_bounds lo hi its.toArray.size
  unfold slicePick
  rw [h1, h2, h3]
  simp only [sliceRange_one, pick_run, List.size_toArray] <;> rfl
noncomputable def rSlL (K : PySem.W.Frag) : V → Option Int → Option Int → Hp → VK → Prop := fun x lo hi H Q => ∃ a xs, x = .ref a ∧ SqL K H a xs ∧ ∀ p, H p = none → Q (.ref p) (upd H p (.lst (cutV xs lo hi)))
theorem sl_list : SlR X (rSlL X.K) := by
  intro pins s σ H x v vl vu lo hi sl Q I rx hs pl pu h
  obtain ⟨a, xs, rfl, hx, q⟩ := h
  cases rx
  obtain ⟨its, r, ht, hz⟩ := I.list hx
  have hlen := r.length
  refine ⟨"list", _, slot_list_getitem.lookup, ht.isList.typeIs, ?_⟩
  refine wpAny_getItem_list_slice ht.isList hs pl pu .none (by simp) ?_ (by rw [List.size_toArray] <;> omega)
  rw [slicePick_cut, ← hlen]
  refine ⟨.ref s.heap.objs.size, _, I.laid (t' := s.toks) (o := .lst (cutV xs lo hi)) (fun b ob q => Heap.get?_push_of_some _ q) (Nat.le_refl _) ?_, rfl, q _ (I.hok.fresh (Nat.le_refl _))⟩
  exact ⟨Nat.le_trans (cutV_length xs lo hi) hz, _, 0, (r.drop (HT.sIx xs.length 0 lo)).take (HT.sIx xs.length xs.length hi - HT.sIx xs.length 0 lo), Heap.get?_push_size _ rfl⟩

noncomputable def flatV : V → Bool
  | .non => true
  | .bl _ => true
  | .int _ => true
  | .str _ => true
  | _ => false
noncomputable def eqV : V → V → Bool
  | .non, .non => true
  | .bl a, .bl b => a == b
  | .bl a, .int b => (if a then 1 else 0) == b
  | .int a, .bl b => a == (if b then 1 else 0)
  | .int a, .int b => a == b
  | .str a, .str b => a == b
  | _, _ => false
theorem eqAt_V {A : Around} {s : Shared} {y x : V} {u v : Value} (ry : RelV y u) (rx : RelV x v) (fy : flatV y = true) (fx : flatV x = true) : SeqAt.EqAt A s u v (eqV y x) := by
  cases y with
  | non =>
    cases ry
    cases x with
    | non => cases rx; exact SeqAt.EqAt.same _
    | bl b => cases rx; exact SeqAt.EqAt.none_bool b
    | int b => obtain ⟨t, rfl⟩ := rx; exact SeqAt.EqAt.none_int b t
    | str b => obtain ⟨t, rfl⟩ := rx; exact SeqAt.EqAt.none_str b t
    | _ => exact absurd (show false = true from fx) Bool.false_ne_true
  | bl a =>
    cases ry
    cases x with
    | non => cases rx; exact SeqAt.EqAt.bool_none a
    | bl b => cases rx; exact SeqAt.EqAt.bool_bool a b
    | int b => obtain ⟨t, rfl⟩ := rx; exact SeqAt.EqAt.bool_int a b t
    | str b => obtain ⟨t, rfl⟩ := rx; exact SeqAt.EqAt.bool_str a b t
    | _ => exact absurd (show false = true from fx) Bool.false_ne_true
  | int a =>
    obtain ⟨t', rfl⟩ := ry
    cases x with
    | non => cases rx; exact SeqAt.EqAt.int_none a t'
    | bl b => cases rx; exact SeqAt.EqAt.int_bool a t' b
    | int b => obtain ⟨t, rfl⟩ := rx; exact SeqAt.EqAt.int_int a t' b t
    | str b => obtain ⟨t, rfl⟩ := rx; exact SeqAt.EqAt.int_str a t' b t
    | _ => exact absurd (show false = true from fx) Bool.false_ne_true
  | str a =>
    obtain ⟨t', rfl⟩ := ry
    cases x with
    | non => cases rx; exact SeqAt.EqAt.str_none a t'
    | bl b => cases rx; exact SeqAt.EqAt.str_bool a t' b
    | int b => obtain ⟨t, rfl⟩ := rx; exact SeqAt.EqAt.str_int a t' b t
    | str b => obtain ⟨t, rfl⟩ := rx; exact SeqAt.EqAt.str_str a t' b t
    | _ => exact absurd (show false = true from fx) Bool.false_ne_true
  | _ => exact absurd (show false = true from fy) Bool.false_ne_true
noncomputable def eqU (x : V) (u : Value) : Bool := match u with
  | .none => eqV .non x
  | .bool b => eqV (.bl b) x
  | .int i _ => eqV (.int i) x
  | .str z _ => eqV (.str z) x
  | _ => false
theorem eqU_of {x y : V} {u : Value} (r : RelV y u) (f : flatV y = true) : eqU x u = eqV y x := by
  cases y with
  | non => cases r; rfl
  | bl b => cases r; rfl
  | int i => obtain ⟨t, rfl⟩ := r; rfl
  | str z => obtain ⟨t, rfl⟩ := r; rfl
  | _ => exact absurd (show false = true from f) Bool.false_ne_true
theorem any_eqU {x : V} : ∀ {xs : List V} {us : List Value}, Vals xs us → xs.all flatV = true → us.any (eqU x) = xs.any fun y => eqV y x
  | _, _, .nil, _ => rfl
  | y :: xs, u :: us, .cons r t, f => by
    rw [List.all_cons, Bool.and_eq_true] at f
    rw [List.any_cons, List.any_cons, eqU_of r f.1, any_eqU t f.2]
theorem mem_eqAt {A : Around} {s : Shared} {x : V} {v : Value} (rx : RelV x v) (fx : flatV x = true) : ∀ {xs : List V} {us : List Value}, Vals xs us → xs.all flatV = true → ∀ u ∈ us, SeqAt.EqAt A s u v (eqU x u)
  | _, _, .nil, _ => fun u hu => by cases hu
  | y :: xs, u :: us, .cons r t, f => fun u' hu => by
    rw [List.all_cons, Bool.and_eq_true] at f
    rcases List.mem_cons.mp hu with rfl | hu
    · rw [eqU_of r f.1]; exact eqAt_V r rx f.1 fx
    · exact mem_eqAt rx fx t f.2 u' hu
noncomputable def inV (x : V) (xs : List V) : Bool := xs.any fun y => eqV y x
noncomputable def rIn (K : PySem.W.Frag) (neg : Bool) : R2 := fun x y H Q => ∃ p xs, y = .ref p ∧ (SqL K H p xs ∨ SqT K H p xs) ∧ flatV x = true ∧ xs.all flatV = true ∧ Q (.bl (if neg then !inV x xs else inV x xs)) H
theorem op_in_seq : OpR X (compareOp .In) (rIn X.K false) := by
  intro pins s σ H x y v u Q I rx ry h
  obtain ⟨p, xs, rfl, hq, fx, fs, q⟩ := h
  cases ry
  rcases hq with hq | hq
  · obtain ⟨its, r, pl, hz⟩ := I.list hq
    refine SeqAt.in_listAt (eqU x) pl.isList (fun w hw => mem_eqAt rx fx r fs w (by simpa using hw)) ⟨.bl _, H, I, rfl, ?_⟩
    rw [show its.toArray.any (eqU x) = its.any (eqU x) by simp, any_eqU r fs]
    exact q
  · obtain ⟨its, r, pl, hz⟩ := I.tuple hq
    refine SeqAt.in_tupleAt (eqU x) pl (fun w hw => mem_eqAt rx fx r fs w (by simpa using hw)) ⟨.bl _, H, I, rfl, ?_⟩
    rw [show its.toArray.any (eqU x) = its.any (eqU x) by simp, any_eqU r fs]
    exact q
theorem call_len_seq : CallR X (.builtin "len") (fun xs H Q => ∃ p ys, xs = [.ref p] ∧ (SqL X.K H p ys ∨ SqT X.K H p ys) ∧ Q (.int ys.length) H) := by
  intro pins s σ H xs us Q I r h
  obtain ⟨p, ys, rfl, hq, q⟩ := h
  obtain ⟨u, rfl, rx⟩ := vals1 r
  cases rx
  have hn := line63
  rcases hq with hq | hq
  · obtain ⟨its, r', pl, hz⟩ := I.list hq
    have hlen := r'.length
    exact Calls.call_len_list pl.isList (by simp only [List.size_toArray] <;> omega) ⟨.int ys.length, H, I.tok _, ⟨s.toks + 1, by rw [List.size_toArray, hlen]⟩, q⟩
  · obtain ⟨its, r', pl, hz⟩ := I.tuple hq
    have hlen := r'.length
    exact len_tuple pl (by simp only [List.size_toArray] <;> omega) ⟨.int ys.length, H, I.tok _, ⟨s.toks + 1, by rw [List.size_toArray, hlen]⟩, q⟩
theorem call_len_str : CallR X (.builtin "len") (fun xs H Q => ∃ z, xs = [.str z] ∧ z.length ≤ sizeLine ∧ Q (.int z.length) H) := by
  intro pins s σ H xs us Q I r h
  obtain ⟨z, rfl, hz, q⟩ := h
  obtain ⟨u, rfl, t, rfl⟩ := vals1 r
  have hn := line63
  exact len_str (by omega) ⟨.int z.length, H, I.tok _, ⟨_, rfl⟩, q⟩
theorem call_list_of : CallR X (.type "list") (fun xs H Q => ∃ p ys, xs = [.ref p] ∧ (SqL X.K H p ys ∨ SqT X.K H p ys) ∧ ∀ l, H l = none → Q (.ref l) (upd H l (.lst ys))) := by
  intro pins s σ H xs us Q I r h
  obtain ⟨p, ys, rfl, hq, q⟩ := h
  obtain ⟨u, rfl, rx⟩ := vals1 r
  cases rx
  have fin : ∀ (its : List Value), Vals ys its → ys.length ≤ sizeLine → ∀ (h' : Heap) (c' : Nat), (∀ b o', s.heap.get? b = some o' → h'.get? b = some o') →
      h'.get? s.heap.objs.size = some { cls := .type "list", dict := none, data := .seq its.toArray c', slots := #[] } → EP X pins σ Q (.ref s.heap.objs.size) { s with heap := h' } := fun its r' hz h' c' kp e =>
    ⟨.ref s.heap.objs.size, _, I.laid (t' := s.toks) kp (Nat.le_refl _) (show ObjOk X.prog X.w _ h' _ (.lst ys) from ⟨hz, its, c', r', e⟩), rfl, q _ (I.hok.fresh (Nat.le_refl _))⟩
  rcases hq with hq | hq
  · obtain ⟨its, r', pl, hz⟩ := I.list hq
    have hlen := r'.length
    obtain ⟨o, ho, hc, n, hd⟩ := pl.isList
    exact call_list_seq p (.inl rfl) ho hc hd (fun h' c' kp e => fin its r' hz h' c' kp e) (by simp only [List.size_toArray] <;> omega)
  · obtain ⟨its, r', pl, hz⟩ := I.tuple hq
    have hlen := r'.length
    obtain ⟨o, ho, hc, n, hd⟩ := pl
    exact call_list_seq p (.inr rfl) ho hc hd (fun h' c' kp e => fin its r' hz h' c' kp e) (by simp only [List.size_toArray] <;> omega)
theorem call_tuple_of : CallR X (.type "tuple") (fun xs H Q => ∃ p ys, xs = [.ref p] ∧ ((SqL X.K H p ys ∧ ∀ l, H l = none → Q (.ref l) (upd H l (.tup ys))) ∨ (SqT X.K H p ys ∧ Q (.ref p) H))) := by
  intro pins s σ H xs us Q I r h
  obtain ⟨p, ys, rfl, h⟩ := h
  obtain ⟨u, rfl, rx⟩ := vals1 r
  cases rx
  rcases h with ⟨hq, q⟩ | ⟨hq, q⟩
  · obtain ⟨its, r', pl, hz⟩ := I.list hq
    have hlen := r'.length
    refine call_tuple_list pl.isList (fun h' kp => ?_) (by simp only [List.size_toArray] <;> omega)
    have I1 : Inv X pins σ H { s with heap := h' } := I.kept (t' := s.toks) kp
    have I2 : Inv X pins σ (upd H h'.objs.size (.tup ys)) { s with heap := h'.push { cls := .type "tuple", data := .seq its.toArray } } :=
      I1.laid (t' := s.toks) (fun b o e => Heap.get?_push_of_some _ e) (Nat.le_refl _) (show ObjOk X.prog X.w _ _ _ (.tup ys) from ⟨hz, its, r', IsTupN.new _ _⟩)
    exact ⟨.ref h'.objs.size, _, I2, rfl, q _ (I1.hok.fresh (Nat.le_refl _))⟩
  · obtain ⟨its, r', pl, hz⟩ := I.tuple hq
    exact call_tuple_same pl ⟨.ref p, H, I, rfl, q⟩

noncomputable def tyV (K : PySem.W.Frag) (T : String) (x : V) (H : Hp) : Prop := match x with
  | .str _ => T = "str"
  | .int _ => T = "int"
  | .ref p => (T = "list" ∧ ∃ xs, SqL K H p xs) ∨ (T = "tuple" ∧ ∃ o, K.lookup p = some o ∧ o.cls = .type "tuple" ∧ o.dict = none) ∨
      (T = "dict" ∧ ((∃ kvs, H p = some (.dK kvs)) ∨ ∃ kvs, H p = some (.dT kvs))) ∨ (T = "set" ∧ ∃ S n, H p = some (.set S n))
  | _ => False
theorem tyV_is {pins : List (Addr × Obj)} {σ : St} {H : Hp} {s : Shared} {T : String} {x : V} {v : Value} (I : Inv X pins σ H s) (r : RelV x v) (ty : tyV X.K T x H) :
    s.TypeIs v T ∧ ∀ a, v = .ref a → ∃ ob, s.heap.get? a = some ob ∧ ob.dict = none := by
  cases x with
  | str z =>
    obtain ⟨t, rfl⟩ := r
    cases (show T = "str" from ty)
    exact ⟨typeIs_str s z t, fun _ e => nomatch e⟩
  | int i =>
    obtain ⟨t, rfl⟩ := r
    cases (show T = "int" from ty)
    exact ⟨typeIs_int s i t, fun _ e => nomatch e⟩
  | ref p =>
    cases r
    rcases ty with ⟨rfl, xs, hq⟩ | ⟨rfl, o, hk, hc, hd⟩ | ⟨rfl, hk⟩ | ⟨rfl, S, n, hk⟩
    · obtain ⟨its, _, pl, _⟩ := I.list hq
      refine ⟨pl.isList.typeIs, fun a e => ?_⟩
      cases e
      obtain ⟨o, n, e, c, hd, _⟩ := pl
      exact ⟨o, e, hd⟩
    · refine ⟨⟨o, I.kIn p o hk, hc⟩, fun a e => ?_⟩
      cases e
      exact ⟨o, I.kIn _ o hk, hd⟩
    · have z : ∃ o, s.heap.get? p = some o ∧ o.ExactDict := by
        rcases hk with ⟨kvs, hk⟩ | ⟨kvs, hk⟩
        · obtain ⟨_, _, _, _, o, _, _, e, ex, _⟩ := I.hok p _ hk
          exact ⟨o, e, ex⟩
        · obtain ⟨_, _, _, _, o, _, _, e, ex, _⟩ := I.hok p _ hk
          exact ⟨o, e, ex⟩
      obtain ⟨o, e, ex⟩ := z
      refine ⟨⟨o, e, ex.1⟩, fun a e2 => ?_⟩
      cases e2
      exact ⟨o, e, ex.2.1⟩
    · obtain ⟨o, _, _, _, e, ex, _⟩ := I.hok p _ hk
      refine ⟨⟨o, e, ex.1⟩, fun a e2 => ?_⟩
      cases e2
      exact ⟨o, e, ex.2.1⟩
  | _ => exact False.elim ty
noncomputable def tBM0 (K : PySem.W.Frag) (T : String) (r : V → List V → Hp → VK → Prop) (to : TE) : TE := fun σ H Q => to σ H fun x H1 => tyV K T x H1 ∧ r x [] H1 Q
noncomputable def tBM (K : PySem.W.Frag) (T : String) (r : V → List V → Hp → VK → Prop) (to : TE) (t : TA) : TE := fun σ H Q => to σ H fun x H1 => tyV K T x H1 ∧ t σ H1 fun xs H2 => r x xs H2 Q
variable {o e : Expr} {es : List Expr} {to : TE} {t : TA} {name : Str} {apos cpos : Pos} {T id : String} {r : V → List V → Hp → VK → Prop}
theorem pe_bm0 (pa : PlainAttrs T) (slot : Slot T name id) (hty : typeOf (.builtin id) = pure (.type "method_descriptor")) (hm : MtR X id r) (ho : PE X o to)
    (hbase : attributeBase o name X.env (eval o X.env) = eval o X.env := by rfl) (hline : (apos.endLine == cpos.line) = true := by rfl) : PE X (.Call (.Attribute o name apos) [] [] cpos) (tBM0 X.K T r to) := by
  intro pins s σ H Q I h
  refine wpAny_Call_method0_late hbase hline (thn (ho pins s σ H _ I h) fun v s1 ⟨x, H1, I1, r1, ty, q1⟩ => ?_)
  obtain ⟨h1, h2⟩ := tyV_is I1 r1 ty
  exact ⟨T, id, pa, slot, hty, h1, h2, Calls.callWith_builtin rfl (PySem.evalArgs_none (hm pins s1 σ H1 x [] v [] Q I1 r1 .nil q1))⟩
theorem pe_bm (pa : PlainAttrs T) (slot : Slot T name id) (hty : typeOf (.builtin id) = pure (.type "method_descriptor")) (hm : MtR X id r) (ho : PE X o to) (ha : PA X (e :: es) t)
    (hbase : attributeBase o name X.env (eval o X.env) = eval o X.env := by rfl)
    (hfew : ((backTo cpos (starEach (e :: es) X.env)).all (fun x => !x.1) && (backToKw cpos (keywordEach [] X.env)).all (fun x => x.1.isSome)
      && decide ((e :: es).length + ([] : List Keyword).length + (if ([] : List Keyword).isEmpty then 0 else 1) < 30)) = true := by rfl)
    (hline : (apos.endLine == cpos.line) = true := by rfl) (hs : starEach (e :: es) X.env = (false, eval e X.env) :: starEach es X.env := by rfl) (hplain : (backTo cpos (starEach es X.env)).any (·.1) = false := by rfl) :
    PE X (.Call (.Attribute o name apos) (e :: es) [] cpos) (tBM X.K T r to t) := by
  intro pins s σ H Q I h
  refine wpAny_Call_method_late hbase hfew hline rfl (thn (ho pins s σ H _ I h) fun v s1 ⟨x, H1, I1, r1, ty, q1⟩ => ?_)
  obtain ⟨h1, h2⟩ := tyV_is I1 r1 ty
  refine ⟨T, id, pa, slot, hty, h1, h2, ?_⟩
  have hA := ha cpos pins s1 σ H1 _ I1 q1
  rw [hs] at hA ⊢
  refine Calls.callWith_builtin (by show (false || (backTo cpos (starEach es X.env)).any (·.1)) = false; rw [hplain] <;> rfl) (Calls.evalArgs_plain ?_)
  exact thn hA fun us s2 ⟨vs, H2, I2, r2, q2⟩ => hm pins s2 σ H2 x vs v us Q I2 r1 r2 q2
end
end L2

namespace L2
open PySem PySem.Spec PyProof.Rows

noncomputable def MtM (X : Cx) (id : String) (r : V → List V → Hp → VK → Prop) : Prop :=
  ∀ (pins : List (Addr × Obj)) (s : Shared) (σ : St) (H : Hp) (x : V) (xs : List V) (v : Value) (us : List Value) (Q : VK), Inv X pins σ H s → RelV x v → Vals xs us → r x xs H Q →
    wpAny (model X.prog X.w) X.A (call (.builtin id) (v :: us)) (EP X pins σ Q) X.xe s

theorem Vals.one : ∀ {x : V} {us : List Value}, Vals [x] us → ∃ u, us = [u] ∧ RelV x u
  | _, _, .cons r .nil => ⟨_, rfl, r⟩
theorem Vals.two : ∀ {x y : V} {us : List Value}, Vals [x, y] us → ∃ u v, us = [u, v] ∧ RelV x u ∧ RelV y v
  | _, _, _, .cons r (.cons q .nil) => ⟨_, _, rfl, r, q⟩
theorem Vals.zero : ∀ {us : List Value}, Vals [] us → us = []
  | _, .nil => rfl
theorem Vals.dropLast {xs : List V} {us : List Value} (h : Vals xs us) : Vals xs.dropLast us.dropLast := by
  induction h with
  | nil => exact .nil
  | cons r t ih =>
    cases t with
    | nil => exact .nil
    | cons q t' => exact .cons r ih
theorem erase_last {α : Type} (l : List α) : l.eraseIdx (l.length - 1) = l.dropLast := by
  induction l with
  | nil => rfl
  | cons a r ih =>
    cases r with
    | nil => rfl
    | cons b r =>
      have e : (a :: b :: r).length - 1 = ((b :: r).length - 1) + 1 := by
        have h1 : (a :: b :: r).length = r.length + 2 := rfl
        have h2 : (b :: r).length = r.length + 1 := rfl
        omega
      rw [e, List.eraseIdx_cons_succ, ih]
      all_goals rfl
section
variable {X : Cx} {pins : List (Addr × Obj)} {σ : St} {H : Hp} {s : Shared} {l b : Addr} {xs ys zs : List V}

theorem Inv.lset {its its' : List Value} {n : Nat} {f : Array Value → Array Value} {t' : Nat} (I : Inv X pins σ H s) (hH : H l = some (.lst xs))
    (e : s.heap.get? l = some { cls := .type "list", data := .seq its.toArray n }) (hf : f its.toArray = its'.toArray) (hv : Vals ys its') (hz : ys.length ≤ sizeLine) :
    Inv X pins σ (upd H l (.lst ys)) { s with heap := s.heap.update l (Obj.mapSeq f), toks := t' } := by
  have q := PySem.IsL.update e f
  rw [hf] at q
  refine I.write (x := l) (e := l) (by rw [hH]; exact trivial) (.inl rfl) (fun b' u hb hu => (Heap.get?_update_other s.heap (Obj.mapSeq f) (Ne.symm hb)).trans hu) ⟨_, q⟩ ?_
  exact ⟨hz, its', _, hv, q⟩
theorem Inv.lnew {its : List Value} {t' : Nat} (I : Inv X pins σ H s) (hv : Vals ys its) (hz : ys.length ≤ sizeLine) :
    Inv X pins σ (upd H s.heap.objs.size (.lst ys)) { s with heap := s.heap.push { cls := .type "list", data := .seq its.toArray }, toks := t' } :=
  I.laid (fun _ _ q => Heap.get?_push_of_some _ q) (Nat.le_refl _) ⟨hz, its, 0, hv, Heap.get?_push_size _ rfl⟩
theorem Inv.fresh (I : Inv X pins σ H s) : H s.heap.objs.size = none := I.hok.fresh (Nat.le_refl _)
theorem Inv.lstM (I : Inv X pins σ H s) (hH : H l = some (.lst xs)) : xs.length ≤ sizeLine ∧ ∃ (its : List Value) (n : Nat), Vals xs its ∧ xs.length = its.length ∧ s.heap.get? l = some { cls := .type "list", data := .seq its.toArray n } := by
  obtain ⟨z, its, n, r, e⟩ := I.hok l _ hH
  exact ⟨z, its, n, r, r.length, e⟩

end

section
variable {X : Cx}

noncomputable def rAppend : V → List V → Hp → VK → Prop := fun x vs H Q => ∃ l xs y, x = .ref l ∧ vs = [y] ∧ H l = some (.lst xs) ∧ xs.length < sizeLine ∧ Q .non (upd H l (.lst (xs ++ [y])))
theorem mt_append : MtM X "list.append" rAppend := by
  intro pins s σ H x vs v us Q I rx rv h
  obtain ⟨l, xs, y, rfl, rfl, hH, hz, q⟩ := h
  cases rx
  obtain ⟨u, rfl, ru⟩ := rv.one
  obtain ⟨z, its, n, r, hl, e⟩ := I.lstM hH
  refine call_meets F.slot_list_append ⟨_, e, rfl⟩ F.entry_list_append (F.args_list_append_2 _ _) (PySem.list_append l its.toArray n u (by rw [List.size_toArray]; omega)) ⟨e, ?_⟩
  refine ⟨.non, _, I.lset (its' := its ++ [u]) hH e (by simp) (r.append (.cons ru .nil)) ?_, rfl, q⟩
  rw [List.length_append, List.length_singleton]
  omega

noncomputable def rPop : V → List V → Hp → VK → Prop := fun x vs H Q => ∃ l xs y, x = .ref l ∧ vs = [] ∧ H l = some (.lst xs) ∧ xs[xs.length - 1]? = some y ∧ Q y (upd H l (.lst xs.dropLast))
theorem mt_pop : MtM X "list.pop" rPop := by
  intro pins s σ H x vs v us Q I rx rv h
  obtain ⟨l, xs, y, rfl, rfl, hH, hy, q⟩ := h
  cases rx
  have hus := rv.zero
  subst hus
  obtain ⟨z, its, n, r, hl, e⟩ := I.lstM hH
  obtain ⟨u, hu, ru⟩ := r.get hy
  have hy' : its.toArray[its.toArray.size - 1]? = some u := by
    show its.toArray[its.length - 1]? = some u
    rw [← Array.getElem?_toList, ← hl]
    exact hu
  refine call_meets F.slot_list_pop ⟨_, e, rfl⟩ F.entry_list_pop (F.args_list_pop_1 _) (MeetsSeq.list_pop_last l its.toArray n u hy' (by rw [List.size_toArray]; omega)) ⟨e, ?_⟩
  refine ⟨y, _, I.lset (its' := its.dropLast) hH e ?_ r.dropLast ?_, ru, q⟩
  · show its.toArray.eraseIdxIfInBounds (its.toArray.size - 1) = its.dropLast.toArray
    rw [List.size_toArray, List.eraseIdxIfInBounds_toArray, erase_last]
  · rw [List.length_dropLast]
    omega

noncomputable def rClear : V → List V → Hp → VK → Prop := fun x vs H Q => ∃ l xs, x = .ref l ∧ vs = [] ∧ H l = some (.lst xs) ∧ Q .non (upd H l (.lst []))
theorem mt_clear : MtM X "list.clear" rClear := by
  intro pins s σ H x vs v us Q I rx rv h
  obtain ⟨l, xs, rfl, rfl, hH, q⟩ := h
  cases rx
  have hus := rv.zero
  subst hus
  obtain ⟨z, its, n, r, hl, e⟩ := I.lstM hH
  refine call_meets F.slot_list_clear ⟨_, e, rfl⟩ F.entry_list_clear (F.args_list_clear_1 _) (AutoSeq1.list_clear_list_0 l its.toArray n (by rw [List.size_toArray]; omega)) ⟨e, ?_⟩
  exact ⟨.non, _, I.lset (its' := []) (ys := []) hH e rfl .nil (Nat.zero_le _), rfl, q⟩

noncomputable def rCat : R2 := fun x y H Q => ∃ l b xs zs, x = .ref l ∧ y = .ref b ∧ H l = some (.lst xs) ∧ H b = some (.lst zs) ∧ xs.length + zs.length ≤ sizeLine ∧ ∀ p, H p = none → Q (.ref p) (upd H p (.lst (xs ++ zs)))
theorem op_cat : OpR X (binaryOp .Add) rCat := by
  intro pins s σ H x y v u Q I rx ry h
  obtain ⟨l, b, xs, zs, rfl, rfl, hH, hB, hz, q⟩ := h
  cases rx
  cases ry
  obtain ⟨z, its, n, r, hl, e⟩ := I.lstM hH
  obtain ⟨z2, its2, n2, r2, hl2, e2⟩ := I.lstM hB
  refine PySem.P.add_list e e2 ?_ (by rw [List.size_toArray, List.size_toArray]; omega)
  have ea : its.toArray ++ its2.toArray = (its ++ its2).toArray := by simp
  rw [ea]
  exact ⟨.ref _, _, I.lnew (t' := s.toks) (r.append r2) (by rw [List.length_append]; omega), rfl, q _ I.fresh⟩
end

section
variable {prog : Program} {w : World} {A : Around} {E : Value → Shared → Prop} {s : Shared}
set_option maxRecDepth 100000 in
end

section
variable {X : Cx}
end
end L2

namespace L2
open PySem PySem.Spec PyProof.Rows

section
variable {κ : Type} [DecidableEq κ]
end


section
variable {P : Program} {w : World} {H : Hp} {h : Heap} {a : Addr}
end

section
variable {X : Cx} {pins : List (Addr × Obj)} {σ : St} {H : Hp} {s : Shared} {a : Addr} {y v : V} {u r : Value} {o : Option V} {A : Around} {E : Value → Shared → Prop}

end

section
variable {X : Cx} {pins : List (Addr × Obj)} {σ : St} {H : Hp} {s : Shared} {a : Addr} {kvs : List (Key × V)} {k : Key} {u : Value} {A : Around} {E : Value → Shared → Prop}
end


section
variable {X : Cx} {o i e value : Expr} {pos pos' tpos : Pos} {td ty tv : TE}
end


section
variable {X : Cx} {pos : Pos}
end

section
variable {X : Cx} {pins : List (Addr × Obj)} {σ : St} {H : Hp} {s : Shared} {a : Addr} {y d : V} {u r : Value} {o : Option V} {A : Around} {E : Value → Shared → Prop}
end

section
variable {X : Cx} {o e f : Expr} {apos cpos : Pos} {td ty tx : TE}
end

section
variable {X : Cx} {pins : List (Addr × Obj)} {σ : St} {H : Hp} {s : Shared} {a : Addr} {kvs : List (Key × V)} {A : Around} {E : Value → Shared → Prop}
end


section
variable {X : Cx} {pins : List (Addr × Obj)} {σ : St} {H : Hp} {s : Shared} {a : Addr} {y : V} {u : Value} {A : Around} {E : Value → Shared → Prop}
end
end L2

namespace Att
open PySem PySem.W PySem.Calls PyProof.Rows

theorem ints_of_wellAll {P : Params} {h : Heap} : ∀ (ns : List Int) (vs : List Value), WellAll P h vs (ns.map WData.int) → IntsAre vs ns := by
  intro ns
  induction ns with
  | nil =>
    intro vs w
    rw [List.map_nil] at w
    cases w
    exact .nil
  | cons n ns ih =>
    intro vs w
    rw [List.map_cons] at w
    cases w with
    | cons a b =>
      cases a
      exact .cons _ _ (ih _ b)

theorem script_of {l : OpenLaw} {n : Nat} (hn : l.most = some n) {P : Params} {h : Heap} {args : List WData} {vals : List Value}
    (hpre : l.row.toRowW.claim.pre args = true) (hwl : WellAll P h vals args) :
    ∃ a vs ns, vals = [Value.ref a] ∧ args = [WData.list (ns.map WData.int)] ∧ h.get? a = some { cls := .type "list", data := .seq vs.toArray } ∧ IntsAre vs ns ∧ ns.length ≤ n := by
  have hsh : WShape.hasAll [] args [.list .int] = true := (pre_splitW hpre).1
  have hc : l.pre.holds [] { args := args } = true := (pre_splitW hpre).2
  obtain ⟨d, r, rfl, h1, h2⟩ := hasAllW_cons hsh
  obtain rfl := hasAllW_nil h2
  obtain ⟨xs, rfl, h3⟩ := hasW_list h1
  obtain ⟨ns, rfl⟩ := items_int h3
  have hlen : ns.length ≤ n := by
    unfold OpenLaw.pre at hc
    have h4 : (WTm.not (.lt (.lit (.int (n : Int))) (.len (.arg 0)))).holds [] { args := [.list (ns.map .int)] } = true := by
      have h4 := (holds_andW hc).1
      rw [hn] at h4
      exact h4
    have h5 := condW_of h4 (w_not (w_lt w_lit (w_len_list (w_arg rfl))))
    rw [List.length_map] at h5
    refine Nat.le_of_not_lt fun q => ?_
    have q' : (n : Int) < ((ns.length : Nat) : Int) := by omega
    first
      | (rw [decide_eq_true q'] at h5; exact absurd h5 (by decide))
      | (simp at h5; omega)
  cases hwl with
  | cons w1 w2 =>
    cases w2
    cases w1 with
    | list ho hall => exact ⟨_, _, ns, rfl, rfl, ho, ints_of_wellAll ns _ hall, hlen⟩

theorem post_true (l : OpenLaw) (args : List WData) : l.row.toRowW.claim.post args (.bool true) args = true :=
  postW_of (r := l.row.toRowW) (X := (true == true))
    (show WShape.has [] (.bool true) .bool = true by first | rfl | decide | simp [WShape.has, WShape.arms, WShape.armsAll])
    (show (WTm.eq .res (.lit (.bool true))).value [] { args := args, res := some (.bool true), after := args } = some (.bool (true == true)) from w_eq_bool (w_res rfl) w_lit) rfl

theorem attach_call {l : OpenLaw} {n : Nat} {q : Program} {loose : List Str} {XP : (Str → Option Value) → Heap → Prop} {YP : World → Heap → Prop} {d : DefRec}
    (hn : l.most = some n) (hdf : d.params.defaults = [])
    (call : ∀ (w : World) (s₀ s₁ : Shared) (mg mb : Str → Option Value) (fa : Addr) (o : Obj) (pm cd doc : Value) (a : Addr) (vs : List Value) (ns : List Int),
      Ground q loose [] XP w s₀ mg mb s₁.heap → YP w s₁.heap →
      s₁.heap.get? fa = some o → o.data = .func (docDef d.name d.params d.body d.scope pm cd doc) → s₁.heap.CodeRec cd d.name → mg d.name = some (.ref fa) →
      s₁.heap.get? a = some { cls := .type "list", data := .seq vs.toArray } → IntsAre vs ns → ns.length ≤ n → s₁.gens = #[] →
      codeAny (model l.prog w) callerA (.call (.ref fa) ⟨[.ref a], []⟩) (fun r s' => r = .ok (.ret (.bool true)) ∧ OldK s₁.heap s'.heap ∧ s'.os = s₁.os ∧ AllBare s'.gens) s₁) :
    WalkO q loose XP YP l.row.toRowW d [] (fun f vs => PySem.call f vs) := by
  intro w s₀ s₁ mg mb G Y fa o pm cd doc dV kV ho hd hcd hD hmg hg args vals as hpre hlay hrd hwl hlo
  obtain rfl : dV = .none := Dflts.none hD hdf
  obtain rfl : kV = .none := Dflts.noKw hD
  obtain ⟨a, vs, ns, rfl, rfl, hobj, hints, hlen⟩ := script_of hn hpre hwl
  refine enter_call (codeAny_mono (call w s₀ s₁ mg mb fa o pm cd doc a vs ns G Y ho (fd_plain hd) hcd hmg hobj hints hlen hg) fun r s' hq => ?_)
  obtain ⟨rfl, h2, h3, h4⟩ := hq
  exact ⟨.inl ⟨.bool true, .bool true, [], rfl, fun _ => rfl, .bool true, post_true l _, fun _ => ⟨List.Pairwise.nil, fun _ hm => (nomatch hm)⟩⟩, h2, h3, h4⟩

section
variable {prog : Program} {w : World} {A : Around} {E : Value → Shared → Prop} {s : Shared} {K : Frag}

end
end Att

namespace L2
open PySem PySem.Spec PyProof.Rows

theorem vals_ints : ∀ {vs : List Value} {ns : List Int}, IntsAre vs ns → Vals (ns.map V.int) vs
  | _, _, .nil => .nil
  | _, _, .cons n t h => .cons ⟨t, rfl⟩ (vals_ints h)

noncomputable def Only (H : Hp) : Prop := ∀ b, H b = none ∨ ∃ o xs, H b = some (.frz o (.lst xs))

theorem law_call {P : Program} {w : World} {K : PySem.W.Frag} {mg mb : Str → Option Value} {CX : CXT} {k : Nat} {fa a : Addr} {fd : FuncData} {x : Str} {sp : Sp} {s₁ : Shared} {vs : List Value} {ns : List Int}
    (KX : K.In s₁.heap) (hns : s₁.heap.Ns mainGlobals mg) (hb : s₁.heap.Ns builtinsNs mb) (hbb : ∀ x : Str, x ≠ "__name__" → mb x = bootBuiltins x) (hlim : s₁.heap.NoLimit) (hg : s₁.gens = #[])
    (ha : s₁.heap.get? a = some { cls := .type "list", data := .seq vs.toArray }) (hi : IntsAre vs ns) (hl : ns.length ≤ sizeLine) (hr : Room k callerA)
    (F : ∀ base : Heap, K.In base → base.Ns mainGlobals mg → FnOk P w K mg base CX k fa fd [x] sp) (hbind : ∀ (s : Shared) (u : Value), BindsTo s fd ⟨[u], []⟩ [(x, u)])
    (hsp : ∀ H : Hp, Only H → SqL K H a (ns.map V.int) → sp [.ref a] H (fun v _ => v = .bl true) fun _ _ _ => False)
    (hCX : ∀ H e s', CX [] H s₁ (fun _ _ _ => False) e s' → False) :
    codeAny (model P w) callerA (.call (.ref fa) ⟨[.ref a], []⟩) (fun r s' => r = .ok (.ret (.bool true)) ∧ OldK s₁.heap s'.heap ∧ s'.os = s₁.os ∧ AllBare s'.gens) s₁ := by
  have rv := vals_ints hi
  have lenV := hi.length
  -- from an abstract heap in which nothing but the script may be tracked
  have core : ∀ H : Hp, Only H → SqL K H a (ns.map V.int) → HOk P w H s₁.heap → (∀ b, H b ≠ none → b = a) → (H a ≠ none → K.lookup a = none) →
      codeAny (model P w) callerA (.call (.ref fa) ⟨[.ref a], []⟩) (fun r s' => r = .ok (.ret (.bool true)) ∧ OldK s₁.heap s'.heap ∧ s'.os = s₁.os ∧ AllBare s'.gens) s₁ := by
    intro H hO hS hok hA hK
    have base_of : ∀ {b : Addr} {o : Obj}, s₁.heap.get? b = some o → H b = none → (hidT s₁.heap H).get? b = some o := fun e n => hidT_get e n
    have noA : ∀ {b : Addr} {o : Obj} {es : Array DictEntry} {ep : Nat}, s₁.heap.get? b = some o → o.data = .dict es ep → H b = none := fun {b o es ep} e d => by
      cases q : H b with
      | none => rfl
      | some u =>
        have e' : b = a := hA b (by rw [q]; simp)
        subst e'
        rw [ha] at e; cases e
        have d' : Data.seq vs.toArray _ = Data.dict es ep := d
        cases d'
    have nsK : ∀ {b : Addr} {m : Str → Option Value}, s₁.heap.Ns b m → (hidT s₁.heap H).Ns b m := fun {b m} ⟨o, es, ep, e, d, r⟩ => ⟨o, es, ep, base_of e (noA e d), d, r⟩
    have hKb : K.In (hidT s₁.heap H) := fun b o e => base_of (KX b o e) (by
      cases q : H b with
      | none => rfl
      | some u =>
        have e' : b = a := hA b (by rw [q]; simp)
        subst e'
        rw [hK (by rw [q]; simp)] at e; cases e)
    have hM : Mod K mg (hidT s₁.heap H) := ⟨hKb, nsK hns, ⟨mb, nsK hb, hbb⟩, let ⟨mc, h1, h2⟩ := hlim; ⟨mc, nsK h1, h2⟩⟩
    have e0 : Env0 P w K mg (hidT s₁.heap H) callerA [] s₁ H := ⟨rfl, hM, fun b o e => of_hidT e, Nat.le_of_eq (hidT_size _ _), trivial, fun b hb => absurd (show b ∈ ([] : List Addr) from hb) (by simp), hok, .of_eq hg⟩
    refine codeAny_mono ((F _ hKb (nsK hns)).run callerA [] s₁ H ⟨[.ref a], []⟩ [.ref a] [.ref a] _ _ hr e0 (hbind s₁ (.ref a)) (.cons rfl .nil) (hsp H hO hS)) fun r s' h => ?_
    cases r with
    | error e => exact (hCX H e s' h).elim
    | ok fl =>
      cases fl with
      | next => exact False.elim h
      | brk => exact False.elim h
      | cont => exact False.elim h
      | ret u =>
        obtain ⟨v, H', os, bare, un, hok', r', q⟩ := h
        have q' : v = .bl true := q
        subst q'
        obtain rfl : u = Value.bool true := r'
        refine ⟨rfl, OldK.of_keep fun b o e => ?_, os, bare⟩
        cases q : H b with
        | none => exact un.keep b o e q (by intro z; exact absurd (show b ∈ ([] : List Addr) from z) (by simp)) (by simp)
        | some u =>
          rcases hO b with z | ⟨ob, xs, z⟩
          · rw [q] at z; cases z
          · have z2 := un.frzs b ob _ z
            obtain ⟨e1, _⟩ := hok b _ z
            obtain ⟨e2, _⟩ := hok' b _ z2
            rw [e] at e1; cases e1
            exact e2
  cases hk : K.lookup a with
  | some o =>
    -- the script is one of the module's own objects
    have e := KX a o hk
    rw [ha] at e
    cases e
    refine core (fun _ => none) (fun _ => .inl rfl) (.inr ⟨_, vs.toArray, _, hk, rfl, rfl, rfl, by rw [List.size_toArray, lenV]; exact hl, by simpa using rv⟩) (fun b u z => by have z' : (none : Option HO) = some u := z; cases z') (fun b z => absurd rfl z) fun z => absurd rfl z
  | none =>
    refine core (fun b => if b = a then some (.frz { cls := .type "list", data := .seq vs.toArray } (.lst (ns.map V.int))) else none) (fun b => ?_) (.inl (.inr ⟨{ cls := .type "list", data := .seq vs.toArray }, if_pos rfl⟩)) (fun b u z => ?_) (fun b z => ?_) fun _ => hk
    · by_cases hb : b = a
      · exact .inr ⟨_, _, if_pos hb⟩
      · exact .inl (if_neg hb)
    · by_cases hb : b = a
      · have z' := (if_pos hb).symm.trans z
        cases z'
        subst hb
        exact ⟨ha, by rw [List.length_map]; exact hl, vs, _, rv, ha⟩
      · have z' := (if_neg hb).symm.trans z
        cases z'
    · by_cases hb : b = a
      · exact hb
      · exact absurd (if_neg hb) z
end L2

namespace L2
open PySem PySem.Spec PyProof.Rows

theorem walk_of {l : PySem.W.OpenLaw} {n k : Nat} {q : Program} {loose : List Str} {XP : (Str → Option Value) → Heap → Prop} {YP : World → Heap → Prop} {d : DefRec} {K : Params → PySem.W.Frag} {CX : World → CXT} {sp : World → Sp} {x : Str}
    (hn : l.most = some n) (hn2 : n ≤ sizeLine) (hdf : d.params.defaults = []) (hr : Room k callerA)
    (hY : ∀ (w : World) (h : Heap), YP w h → (K w.params).In h)
    (F : ∀ (w : World) (mg : Str → Option Value) (fa : Addr) (h : Heap), (K w.params).In h → h.Ns mainGlobals mg → mg d.name = some (.ref fa) →
      ∃ fd : FuncData, (∀ (s : Shared) (u : Value), BindsTo s fd ⟨[u], []⟩ [(x, u)]) ∧
        ∀ base : Heap, (K w.params).In base → base.Ns mainGlobals mg → FnOk l.prog w (K w.params) mg base (CX w) k fa fd [x] (sp w))
    (hsp : ∀ (w : World) (H : Hp) (a : Addr) (ns : List Int), ns.length ≤ n → Only H → SqL (K w.params) H a (ns.map V.int) → sp w [.ref a] H (fun v _ => v = .bl true) fun _ _ _ => False)
    (hCX : ∀ (w : World) (H : Hp) (s : Shared) (e : Value) (s' : Shared), CX w [] H s (fun _ _ _ => False) e s' → False) :
    PySem.W.WalkO q loose XP YP l.row.toRowW d [] (fun f vs => PySem.call f vs) := by
  refine Att.attach_call hn hdf fun w s₀ s₁ mg mb fa o pm cd doc a vs ns G Y ho hd hcd hmg hobj hints hlen hg => ?_
  have KX := hY w _ Y
  obtain ⟨fd, hb, hF⟩ := F w mg fa _ KX G.T.g hmg
  exact law_call KX G.T.g G.T.b G.T.builtins G.T.nolimit hg hobj hints (Nat.le_trans hlen hn2) hr hF hb (fun H hO hS => hsp w H a ns hlen hO hS) fun H e s' => hCX w H s₁ e s'
end L2


namespace L2
open PySem PySem.Spec PyProof.Rows

noncomputable def inClass (s : Stmt) (j : Nat) : Stmt := match s with
  | .ClassDef _ _ _ body _ _ _ _ _ _ _ => body.getD j (.Pass ⟨0, 0, 0, 0⟩)
  | _ => .Pass ⟨0, 0, 0, 0⟩
noncomputable def defArgs (s : Stmt) : Arguments := match s with
  | .FunctionDef _ a _ _ _ _ _ _ _ _ => a
  | _ => { posonlyargs := [], args := [], vararg := none, kwonlyargs := [], kw_defaults := [], kwarg := none, defaults := [] }
noncomputable def defBody (s : Stmt) : List Stmt := match s with
  | .FunctionDef _ _ b _ _ _ _ _ _ _ => b
  | _ => []
noncomputable def defScope (s : Stmt) : Scope := match s with
  | .FunctionDef _ _ _ _ _ _ sc _ _ _ => sc
  | _ => { kind := .function, names := [], isGenerator := false, isCoroutine := false }

noncomputable abbrev CX0 : CXT := fun _ _ _ _ _ _ => False
noncomputable abbrev E0 : XK := fun _ _ _ => False
theorem pass0 {X : Cx} : Passes CX0 X E0 := fun _ _ _ _ _ _ _ h => h.elim

structure Fun (K : PySem.W.Frag) (x qual : Str) (st : Stmt) (f : Addr) (fd : FuncData) : Prop where
  ex : ∃ (oc : Value) (od : Option Addr) (kV doc pm : Value) (an : Option Addr) (cdv ct : Value) (osl : Array (Option Value)),
    fd = PySem.W.fnOf x qual (defArgs st) (defBody st) (defScope st) .none kV doc pm an cdv ct ∧ K.lookup f = some ⟨oc, od, .func fd, osl⟩ ∧ PySem.W.codeIn K cdv qual = true
  kp : PySem.W.keepIn K (.ref f) = true
section
variable {P : Program} {w : World} {K : PySem.W.Frag} {mg : Str → Option Value} {base : Heap}
theorem Fun.ok {x qual : Str} {st : Stmt} {f : Addr} {fd : FuncData} {N ps : List Str} {k : Nat} {sp : Sp} (F : Fun K x qual st f fd) (S : FnScope N ps (defScope st)) (len : ∀ vs H Q E, sp vs H Q E → vs.length = ps.length)
    (hbody : ∀ (cdv : Value) (A : Around) (outer : List Env) (s : Shared) (H : Hp) (vs : List V) (Q : VK) (E : XK), Room k (A.deeper (envOfC qual (defScope st) s.heap.objs.size f cdv)) → sp vs H Q E →
      ∃ t, PSs (cxOf CX0 P w K mg base N qual (defScope st) f cdv A outer s H E).nox (defBody st) t ∧ t { nx := fun _ H' => Q .non H', rt := Q } (start N vs) H) : FnOk P w K mg base CX0 (k + 1) f fd ps sp := by
  obtain ⟨oc, od, kV, doc, pm, an, cdv, ct, osl, rfl, lk, hcd⟩ := F.ex
  refine fn_of lk hcd S len fun A outer s H vs Q E hr hsp => ?_
  obtain ⟨t, h, q⟩ := hbody cdv A outer s H vs Q E hr hsp
  exact ⟨t, h.nox, q⟩
theorem Fun.binds {x qual : Str} {st : Stmt} {f : Addr} {fd : FuncData} {ps : List Str} (F : Fun K x qual st f fd)
    (h : ∀ (kV doc pm : Value) (an : Option Addr) (cdv ct : Value) (us : List Value), us.length = ps.length → bindArgs (PySem.W.fnOf x qual (defArgs st) (defBody st) (defScope st) .none kV doc pm an cdv ct) ⟨us, []⟩ = pure (ps.zip us)) : Binds K fd ps [] := by
  obtain ⟨oc, od, kV, doc, pm, an, cdv, ct, osl, rfl, lk, hcd⟩ := F.ex
  exact .all (h kV doc pm an cdv ct)
theorem fun_mk {x qual : Str} {st : Stmt} {f : Addr} {oc : Value} {od an : Option Addr} {osl : Array (Option Value)} {kV doc pm cdv ct : Value} (l : K.lookup f = some ⟨oc, od, .func (PySem.W.fnOf x qual (defArgs st) (defBody st) (defScope st) .none kV doc pm an cdv ct), osl⟩)
    (c : PySem.W.codeIn K cdv qual = true) (k : PySem.W.keepIn K (.ref f) = true) : Fun K x qual st f (PySem.W.fnOf x qual (defArgs st) (defBody st) (defScope st) .none kV doc pm an cdv ct) := ⟨⟨oc, od, kV, doc, pm, an, cdv, ct, osl, rfl, l, c⟩, k⟩
end
theorem hu_of {A : Around} {k : Nat} (hr : Room k A) : A.units + 1 < cLine := Nat.lt_of_le_of_lt (Nat.add_le_add_left (by decide : 1 ≤ 64) _) hr.units
section
variable {X : Cx}
theorem pv (i : Nat) {x : Str} {pos : Pos} (hN : X.N[i]? = some x := by rfl) (hv : Vis X.env.scope x := by first | exact Or.inl rfl | exact Or.inr (Or.inl rfl) | exact Or.inr (Or.inr rfl)) (hd : (x == ("__debug__" : Str)) = false := by decide)
    (hcd : (x == ("__classdict__" : Str)) = false := by decide) : PE X (.Name x pos) (tVar i) := pe_var hN hv hd hcd
end

theorem iteF {A B : Prop} (h : B) : if false = true then A else B := by
  rw [if_neg Bool.false_ne_true]
  exact h
theorem iteT {A B : Prop} (h : A) : if true = true then A else B := by
  rw [if_pos rfl]
  exact h
theorem ite2 {c A B : Prop} [Decidable c] (h1 : c → A) (h2 : ¬ c → B) : if c then A else B := by
  by_cases h : c
  · rw [if_pos h]
    exact h1 h
  · rw [if_neg h]
    exact h2 h
noncomputable def Same (H H' : Hp) : Prop := ∀ b o, H b = some o → H' b = some o
theorem Same.refl (H : Hp) : Same H H := fun _ _ h => h
theorem Same.trans {H H1 H2 : Hp} (a : Same H H1) (b : Same H1 H2) : Same H H2 := fun c o h => b c o (a c o h)
theorem Same.free {H H' : Hp} (e : Same H H') {l : Addr} (h : H' l = Option.none) : H l = Option.none := by
  cases q : H l with
  | none => rfl
  | some o =>
    rw [e l o q] at h
    cases h
theorem Same.seq {K : PySem.W.Frag} {H H' : Hp} {a : Addr} {xs : List V} (e : Same H H') (h : SqL K H a xs) : SqL K H' a xs := by
  rcases h with (h | ⟨o, h⟩) | h
  · exact .inl (.inl (e _ _ h))
  · exact .inl (.inr ⟨o, e _ _ h⟩)
  · exact .inr h

section
variable {κ : Type} [DecidableEq κ]
end
end L2


set_option Elab.async false
set_option linter.all false
set_option maxRecDepth 100000
set_option maxHeartbeats 4000000
namespace L2
open PySem PySem.Spec PyProof.Rows

theorem clos_aux (env : Env) : ∀ (l : List (Str × NameKind)) (cs : List (Str × Addr)), (∀ n, (n, NameKind.free) ∈ l → ∃ c, env.cells.lookup n = some c) → (∀ x c, cs.lookup x = some c → env.cells.lookup x = some c) →
    ∃ cl, (forIn l cs fun x s => if (x.snd == NameKind.free) = true then do let c ← cellOf env x.fst; pure (ForInStep.yield ((x.fst, c) :: s)) else pure (ForInStep.yield s)) = (pure cl : Sem (List (Str × Addr))) ∧
      (∀ x c, cl.lookup x = some c → env.cells.lookup x = some c) ∧ (∀ n, (n, NameKind.free) ∈ l → ∃ c, cl.lookup n = some c) ∧ ∀ n c, cs.lookup n = some c → ∃ c', cl.lookup n = some c'
  | [], cs, _, h => ⟨cs, rfl, h, (fun _ z => nomatch z), (fun n c e => ⟨c, e⟩)⟩
  | (n, k) :: r, cs, hf, h => by
    by_cases hk : k = .free
    · subst hk
      obtain ⟨c, hc⟩ := hf n List.mem_cons_self
      have e : cellOf env n = pure c := by unfold cellOf; rw [hc]
      obtain ⟨cl, e1, h1, h2, h3⟩ := clos_aux env r ((n, c) :: cs) (fun m hm => hf m (List.mem_cons_of_mem _ hm)) (fun x c' q => by
        rw [List.lookup_cons] at q
        by_cases hx : x = n
        · subst hx; simp at q; subst q; exact hc
        · have : (x == n) = false := by simpa using hx
          rw [this] at q; exact h x c' q)
      refine ⟨cl, ?_, h1, fun m hm => ?_, fun m c' q => ?_⟩
      · rw [List.forIn_cons]
        show ((do let c ← cellOf env n; pure (ForInStep.yield ((n, c) :: cs))) >>= _) = _
        rw [e]
        exact e1
      · rcases List.mem_cons.mp hm with z | z
        · cases z; exact h3 n c (by simp)
        · exact h2 m z
      · by_cases hx : m = n
        · subst hx; exact h3 m c (by simp)
        · have : (m == n) = false := by simpa using hx
          exact h3 m c' (by rw [List.lookup_cons, this]; exact q)
    · have hb : (k == NameKind.free) = false := by simpa using hk
      obtain ⟨cl, e1, h1, h2, h3⟩ := clos_aux env r cs (fun m hm => hf m (List.mem_cons_of_mem _ hm)) h
      refine ⟨cl, ?_, h1, fun m hm => ?_, h3⟩
      · rw [List.forIn_cons]
        dsimp only
        rw [hb]
        exact e1
      · rcases List.mem_cons.mp hm with z | z
        · cases z; exact absurd rfl hk
        · exact h2 m z

theorem closureFor_of {scope : Scope} {env : Env} (h : ∀ n, (n, NameKind.free) ∈ scope.names → ∃ c, env.cells.lookup n = some c) :
    ∃ cl, closureFor scope env = pure cl ∧ (∀ x c, cl.lookup x = some c → env.cells.lookup x = some c) ∧ ∀ n, (n, NameKind.free) ∈ scope.names → ∃ c, cl.lookup n = some c := by
  obtain ⟨cl, e, h1, h2, _⟩ := clos_aux env scope.names [] h (fun _ _ z => by simp at z)
  refine ⟨cl, ?_, h1, h2⟩
  simp only [closureFor]
  rw [e]
  rfl

noncomputable def compCx (X : Cx) (scope : Scope) (N' : List Str) (cl : List (Str × Addr)) (C : Addr) (s : Shared) (H : Hp) (fp : List Addr) (pins : List (Addr × Obj)) : Cx where
  prog := X.prog
  w := X.w
  K := X.K
  mg := X.mg
  base := X.base
  A := X.A
  N := N'
  s₀ := s
  H₀ := H
  env := compEnvC scope cl C X.env
  outer := X.stack
  stack := X.stack
  ex := fp
  calm := X.calm
  fn := fun _ => false
  pn := X.pn ++ pins
  xe := fun _ _ => False

structure CompScope (sc : Scope) (out : Scope) : Prop where
  kind : sc.kind = .function
  cell : ∀ y ∈ sc.names, y.2 ≠ .cell
  loc : ∀ y ∈ sc.names, y.2 = .local → sc.names.lookup y.1 = some .local
  free : ∀ y ∈ sc.names, y.2 = .free → out.names.lookup y.1 = some .cell ∨ out.names.lookup y.1 = some .free

noncomputable def inSt (ρ : List (Option Nat)) (σ : St) : St := ρ.map fun o => match o with | some i => (σ[i]?).getD none | none => none
noncomputable def SlotOk (sc : Scope) (env : Env) (N N' : List Str) (ρ : List (Option Nat)) : Prop :=
  ρ.length = N'.length ∧ ∀ (j i : Nat) (x : Str), ρ[j]? = some (some i) → N'[j]? = some x → N[i]? = some x ∧ Vis env.scope x ∧ (x, NameKind.free) ∈ sc.names

theorem lookup_relabel {names : List (Str × NameKind)} {env : Env} {x : Str} {k : NameKind} (h : (names.map fun (n, k) => if (k == NameKind.free && env.scope.kind == .function && env.kindOf n == some .cell) then (n, NameKind.cell) else (n, k)).lookup x = some k)
    (hk : k = .cell ∨ k = .free) (hc : ∀ y ∈ names, y.2 ≠ .cell) : (x, NameKind.free) ∈ names := by
  induction names with
  | nil => simp at h
  | cons p r ih =>
    obtain ⟨n, k'⟩ := p
    by_cases hx : x = n
    · subst hx
      have hk' : k' = .free := by
        by_cases hc' : (k' == NameKind.free && env.scope.kind == .function && env.kindOf x == some .cell) = true
        · simp only [Bool.and_eq_true, beq_iff_eq] at hc'
          exact hc'.1.1
        · simp only [List.map_cons] at h
          rw [if_neg hc'] at h
          simp at h
          subst h
          rcases hk with z | z
          · exact absurd z (hc (x, k') List.mem_cons_self)
          · exact z
      rw [hk']; exact List.mem_cons_self
    · have hb : (x == n) = false := by simpa using hx
      refine List.mem_cons_of_mem _ (ih ?_ fun y hy => hc y (List.mem_cons_of_mem _ hy))
      simp only [List.map_cons] at h
      by_cases hc' : (k' == NameKind.free && env.scope.kind == .function && env.kindOf n == some .cell) = true
      · rw [if_pos hc', List.lookup_cons, hb] at h; exact h
      · rw [if_neg hc', List.lookup_cons, hb] at h; exact h

theorem lookup_relabel_free : ∀ {names : List (Str × NameKind)} {env : Env} {x : Str}, (x, NameKind.free) ∈ names → (names.map fun (n, k) => if (k == NameKind.free && env.scope.kind == .function && env.kindOf n == some .cell) then (n, NameKind.cell) else (n, k)).lookup x = some .cell ∨
    (names.map fun (n, k) => if (k == NameKind.free && env.scope.kind == .function && env.kindOf n == some .cell) then (n, NameKind.cell) else (n, k)).lookup x = some .free ∨ names.lookup x ≠ some .free := by
  intro names env x hm
  by_cases hl : names.lookup x = some .free
  · induction names with
    | nil => simp at hl
    | cons p r ih =>
      obtain ⟨n, k'⟩ := p
      by_cases hx : x = n
      · subst hx
        simp at hl
        subst hl
        by_cases hc' : (NameKind.free == NameKind.free && env.scope.kind == .function && env.kindOf x == some .cell) = true
        · left; simp only [List.map_cons]; rw [if_pos hc']; simp
        · right; left; simp only [List.map_cons]; rw [if_neg hc']; simp
      · have hb : (x == n) = false := by simpa using hx
        rw [List.lookup_cons, hb] at hl
        have hm' : (x, NameKind.free) ∈ r := by
          rcases List.mem_cons.mp hm with z | z
          · cases z; exact absurd rfl hx
          · exact z
        have q := ih hm' hl
        simp only [List.map_cons]
        by_cases hc' : (k' == NameKind.free && env.scope.kind == .function && env.kindOf n == some .cell) = true
        · rw [if_pos hc', List.lookup_cons, hb, List.lookup_cons, hb]; exact q
        · rw [if_neg hc', List.lookup_cons, hb, List.lookup_cons, hb]; exact q
  · exact .inr (.inr hl)

section
variable {X : Cx} {pins : List (Addr × Obj)} {σ : St} {H : Hp} {s : Shared} {scope : Scope} {N' : List Str} {ρ : List (Option Nat)} {cl : List (Str × Addr)} {fp : List Addr} {C D : Addr}

theorem comp_ok (I : Inv X pins σ H s) (S : CompScope scope X.env.scope) (hf : ∀ b ∈ fp, FpOk X pins H b) (h1 : ∀ x c, cl.lookup x = some c → X.env.cells.lookup x = some c) (h2 : ∀ n, (n, NameKind.free) ∈ scope.names → ∃ c, cl.lookup n = some c)
    (hC : s.heap.objs.size ≤ C) (hfs : ∀ b ∈ fp, b < s.heap.objs.size) : (compCx X scope N' cl C s H fp pins).Ok where
  mod := I.ok.mod
  kind := S.kind
  glob := I.ok.glob
  blt := I.ok.blt
  above := hC
  inj := fun x y c e1 e2 => I.ok.inj x y c (h1 x c e1) (h1 y c e2)
  has := fun x hk => h2 x (by
    rcases hk with hk | hk
    · exact lookup_relabel (env := X.env) hk (.inl rfl) S.cell
    · exact lookup_relabel (env := X.env) hk (.inr rfl) S.cell)
  cab := fun _ _ z => nomatch z
  hd := I.ok.hd
  frames := I.ok.frames
  stk := .inl rfl
  exf := fun b hb => ⟨Nat.ne_of_lt (Nat.lt_of_lt_of_le (hfs b hb) hC), fun x c e => (hf b hb).2.2.2.2.1 x c (h1 x c e)⟩
  bs := I.bs
  bsz := Nat.le_trans I.ok.bsz I.sz
  noex := fun b o e hb => by
    rcases (hf b hb).2.2.2.1 with z | z
    · exact I.ok.noex b o e z
    · exact absurd (Nat.lt_of_lt_of_le (Nat.lt_of_lt_of_le (Heap.lt_size e) I.ok.bsz) z) (Nat.lt_irrefl _)
  exfs := fun b hb z => by
    rcases List.mem_cons.mp (I.stkSub b z) with q | q
    · exact (hf b hb).2.1 q
    · exact (hf b hb).2.2.1 q
  funs := I.stack
  frf := I.stkFree

theorem comp_start {h₁ : Heap} {tk : Nat} (I : Inv X pins σ H s) (S : CompScope scope X.env.scope) (hρ : SlotOk scope X.env X.N N' ρ) (hf : ∀ b ∈ fp, FpOk X pins H b) (h1 : ∀ x c, cl.lookup x = some c → X.env.cells.lookup x = some c)
    (h2 : ∀ n, (n, NameKind.free) ∈ scope.names → ∃ c, cl.lookup n = some c) (hC : s.heap.objs.size ≤ C) (hfs : ∀ b ∈ fp, b < s.heap.objs.size) (hn : h₁.Ns C (fun _ => none)) (hk : ∀ b o, s.heap.get? b = some o → h₁.get? b = some o)
    (hl : ∀ x, (x, NameKind.free) ∈ scope.names → scope.names.lookup x = some .free) :
    Inv (compCx X scope N' cl C s H fp pins) [] (inSt ρ σ) H { s with heap := h₁, toks := tk } where
  ok := comp_ok I S hf h1 h2 hC hfs
  os := rfl
  bare := I.bare
  base := Un.kept hk
  loc := by
    refine ⟨_, hn, fun j x v e1 e2 hv => ?_⟩
    obtain ⟨m, hm, hl'⟩ := I.loc
    unfold inSt at e2
    rw [List.getElem?_map] at e2
    cases hr : ρ[j]? with
    | none => rw [hr] at e2; simp at e2
    | some o =>
      cases o with
      | none => rw [hr] at e2; simp at e2
      | some i =>
        rw [hr] at e2
        obtain ⟨q1, q2, q3⟩ := hρ.2 j i x hr e1
        have e3 : σ[i]? = some (some v) := by
          cases hσ : σ[i]? with
          | none => simp [hσ] at e2
          | some z => simp [hσ] at e2; rw [e2]
        obtain ⟨u, r, lk⟩ := hl' i x v q1 e3 q2
        refine ⟨u, r, ?_⟩
        obtain ⟨c, hc⟩ := h2 x q3
        have hkind : (relabel scope X.env).names.lookup x = some .cell ∨ (relabel scope X.env).names.lookup x = some .free := by
          rcases lookup_relabel_free (env := X.env) q3 with z | z | z
          · exact .inl z
          · exact .inr z
          · exact absurd (hl x q3) z
        refine .inr ⟨hkind, c, hc, ?_⟩
        rcases lk with ⟨k, _⟩ | ⟨_, c', e', z⟩
        · rcases S.free (x, .free) q3 rfl with z | z
          · have k' : X.env.scope.names.lookup x = some .local := k
            rw [z] at k'; cases k'
          · have k' : X.env.scope.names.lookup x = some .local := k
            rw [z] at k'; cases k'
        · have := h1 x c hc
          rw [e'] at this; cases this
          obtain ⟨o, ho, hd⟩ := z
          exact ⟨o, hk _ _ ho, hd⟩
  cell := fun x c e => by
    obtain ⟨v, o, ho, hd⟩ := I.cell x c (h1 x c e)
    exact ⟨v, o, hk _ _ ho, hd⟩
  free := I.hok.fresh hC
  freeC := fun x c e => I.freeC x c (h1 x c e)
  pin := fun p hp => by
    have hp' : p ∈ X.pn ++ pins := by simpa [compCx] using hp
    obtain ⟨e, n, ne, nf, d⟩ := I.pin p hp'
    refine ⟨hk _ _ e, n, Nat.ne_of_lt (Nat.lt_of_lt_of_le (Heap.lt_size e) hC), fun z => ?_, d⟩
    rcases List.mem_cons.mp (I.stkSub p.1 z) with q | q
    · exact ne q
    · exact nf q
  hok := I.hok.kept hk
  len := by
    show (inSt ρ σ).length = N'.length
    unfold inSt
    rw [List.length_map]; exact hρ.1
end

theorem HOk.track {P : Program} {w : World} {H : Hp} {h : Heap} {D : Addr} {o : HO} (x : HOk P w H h) (n : H D = none) (new : ObjOk P w (upd H D o) h D o) : HOk P w (upd H D o) h := fun b u e => by
  by_cases hb : b = D
  · subst hb; rw [upd_same] at e; cases e; exact new
  · rw [upd_ne hb] at e
    exact (x b u e).stay (fun c v _ q => q) (fun c q => by rw [upd_ne (ne_of_none q n)]; exact q) fun c xs q => by rw [upd_ne (ne_of_none q n)]; exact q

section
variable {prog : Program} {w : World} {A : Around} {R : Result → Shared → Prop} {s : Shared}
theorem compLoop_gen {elt target iter : Expr} {ifs : List Expr} {scope : Scope} {pos : Pos} {it acc : Value} {env : Env} (I : Nat → Shared → Prop)
    (turn : ∀ n s, I n s → wpAny (model prog w) A (pyNext it) (fun r s₁ => match r with
      | none => R (.ok .next) s₁
      | some v => wpAny (model prog w) A (letOwnedTupleGo target it v) (fun _ s₁' => wpAny (model prog w) A (assign target env v) (fun _ s₂ =>
          wpAny (model prog w) A (forIn ifs true fun c r => if r = true then do let ok ← isTrue c env (eval c env); pure (ForInStep.yield ok) else pure (ForInStep.yield r)) (fun ok s₃ =>
            if ok = true then wpAny (model prog w) A (eval elt env) (fun x s₄ =>
              wpAny (model prog w) A (call (.builtin "list.append") [acc, x]) (fun _ s₅ => ∃ m, m < n ∧ I m s₅) (fun _ _ => False) s₄) (fun _ _ => False) s₃
            else ∃ m, m < n ∧ I m s₃) (fun _ _ => False) s₂) (fun _ _ => False) s₁') (fun _ _ => False) s₁) (fun _ _ => False) s)
    (n : Nat) (h : I n s) :
    codeAny (model prog w) A (.compLoop (.ListComp elt [⟨target, iter, ifs, 0⟩] scope pos) 0 it acc env) R s := by
  refine codeAny_loop rfl I (fun n s hI => ?_) n h
  show wpAny _ A ((compTurn (.ListComp elt [⟨target, iter, ifs, 0⟩] scope pos) 0 it acc env).onRaise (fun x => do noteFrame x env; theTreesLotGoes x)) _ _ s
  refine wpAny_noted ?_
  rw [compTurn_list]
  refine wpAny_bind (wpAny_standAt (wpAny_bind (wpAny_mono (turn n s hI) (fun r s₁ h₁ => ?_) fun _ _ h' => h'.elim)))
  cases r with
  | none => exact wpAny_pure h₁
  | some v =>
    refine wpAny_bind (wpAny_mono h₁ (fun _ s₁' h₁ => ?_) fun _ _ h' => h'.elim)
    refine wpAny_bind (wpAny_mono h₁ (fun _ s₂ h₂ => wpAny_bind (wpAny_mono h₂ (fun ok s₃ h₃ => ?_) fun _ _ h' => h'.elim)) fun _ _ h' => h'.elim)
    cases ok with
    | false => exact wpAny_pure ⟨rfl, h₃⟩
    | true =>
      exact wpAny_bind (wpAny_bind (wpAny_mono h₃ (fun x s₄ h₄ => wpAny_bind (wpAny_mono h₄ (fun _ s₅ h₅ => wpAny_pure (wpAny_pure ⟨rfl, h₅⟩)) fun _ _ h' => h'.elim)) fun _ _ h' => h'.elim))
end

noncomputable def PTs (X : Cx) (ifs : List Expr) (t : TT) : Prop :=
  ∀ (pins : List (Addr × Obj)) (s : Shared) (σ : St) (H : Hp) (Q : Bool → Hp → Prop), Inv X pins σ H s → t σ H Q →
    wpAny (model X.prog X.w) X.A (forIn ifs true fun c r => if r = true then do let ok ← isTrue c X.env (eval c X.env); pure (ForInStep.yield ok) else pure (ForInStep.yield r)) (TP X pins σ Q) X.xe s
noncomputable def tYes : TT := fun _ H Q => Q true H
theorem pts_nil {X : Cx} : PTs X [] tYes := fun _ _ _ H _ I h => wpAny_tests_nil ⟨H, I, h⟩
theorem pts_one {X : Cx} {c : Expr} {t : TT} (h : PT X c t) : PTs X [c] t := fun pins s σ H Q I hw => wpAny_tests_one (h pins s σ H Q I hw)

noncomputable def Outs (ρ : List (Option Nat)) (σ σ2 : St) : Prop := σ2.length = ρ.length ∧ ∀ (j : Nat) v, (inSt ρ σ)[j]? = some (some v) → σ2[j]? = some (some v)
noncomputable def CompW (ρ : List (Option Nat)) (g : TG) (tt : TT) (te : TE) (σ : St) (Q : VK) (J : It) (H1 : Hp) : Prop := ∃ W : Nat → Nat → List V → Hp → Prop, (∃ m, W 0 m [] H1) ∧ ∀ i m ys H', W i m ys H' →
  (J.stop i H' ∧ ys.length ≤ sizeLine ∧ ∀ p, H' p = none → Q (.ref p) (upd H' p (.lst ys))) ∨
  (J.go i H' ∧ ys.length < sizeLine ∧ ∃ N : List V → Hp → Prop, (∀ ys' H'', N ys' H'' → ∃ m', m' < m ∧ W (i + 1) m' ys' H'') ∧ ∀ x H2, J.yld i H' x H2 → g x (inSt ρ σ) H2 fun σ2 H3 => Outs ρ σ σ2 ∧ tt σ2 H3 fun ok H4 => if ok = true then te σ2 H4 fun v H5 => N (ys ++ [v]) H5 else N ys H4)
noncomputable def tComp (ρ : List (Option Nat)) (wi : TI) (g : TG) (tt : TT) (te : TE) : TE := fun σ H Q => wi σ H fun J H1 => CompW ρ g tt te σ Q J H1

theorem comp_run {X : Cx} {elt iter tg : Expr} {ifs : List Expr} {scope : Scope} {pos : Pos} {N' : List Str} {ρ : List (Option Nat)} {wi : TI} {g : TG} {tt : TT} {te : TE} {cl : List (Str × Addr)} {RR : Value → Addr → Result → Shared → Prop} (hc : X.calm = true) (hi : PI X tg iter wi) (S : CompScope scope X.env.scope) (hρ : SlotOk scope X.env X.N N' ρ)
    (hl : ∀ x, (x, NameKind.free) ∈ scope.names → scope.names.lookup x = some .free)
    (inner : ∀ (cl : List (Str × Addr)) (C : Addr) (s : Shared) (H : Hp) (fp : List Addr) (pins : List (Addr × Obj)), PG (compCx X scope N' cl C s H fp pins) tg g ∧ PTs (compCx X scope N' cl C s H fp pins) ifs tt ∧ PE (compCx X scope N' cl C s H fp pins) elt te)
    {pins : List (Addr × Obj)} {s : Shared} {σ : St} {H : Hp} {Q : VK} (I : Inv X pins σ H s) (h : tComp ρ wi g tt te σ H Q)
    (h1 : ∀ x c, cl.lookup x = some c → X.env.cells.lookup x = some c) (h2 : ∀ n, (n, NameKind.free) ∈ scope.names → ∃ c, cl.lookup n = some c)
    (fin : ∀ D C s' H' m, Inv X pins σ H' s' → Q (.ref D) H' → s'.heap.Ns C m → FpOk X pins H' C → RR (.ref D) C (.ok .next) s') :
    wpAny (model X.prog X.w) X.A (eval iter X.env) (fun x s₁ => wpAny (model X.prog X.w) X.A (pyIter x) (fun it s₂ => wpAny (model X.prog X.w) X.A (newList []) (fun acc s₃ =>
      wpAny (model X.prog X.w) X.A (newFunctionEnv scope X.env.globals cl [] X.env.qual none .none (some X.env)) (fun cenv s₄ =>
        codeAny (model X.prog X.w) X.A (.compStart (.ListComp elt [⟨tg, iter, ifs, 0⟩] scope pos) 0 it acc { cenv with scope := relabel scope X.env }) (RR acc cenv.locals) s₄) X.xe s₃) X.xe s₂) X.xe s₁) X.xe s := by
  refine thn (hi pins s σ H _ I h) fun v s1 h1' => thn h1' fun itv s2 hx => ?_
  obtain ⟨it, fp, tn, J, H2, e, I2, T, st2, f2, W, ⟨m0, w0⟩, turn⟩ := hx
  subst e
  have hfs : ∀ b ∈ fp, b < s2.heap.objs.size := fun b hb => by
    obtain ⟨o, e, _⟩ := T.obj _ _ st2 b hb
    exact Heap.lt_size e
  refine wpAny_newObj_type (wpAny_newFunctionEnv S.cell (by intro y hy; simp at hy) (fun h₁ hns₁ hsb₁ => ?_) S.kind)
  dsimp only at hns₁ hsb₁ ⊢
  generalize hH2 : s2.heap.push { cls := .type "list", dict := none, data := .seq ([] : List Value).toArray } = G at hns₁ hsb₁ ⊢
  have hC : G.objs.size = s2.heap.objs.size + 1 := by rw [← hH2, Heap.size_push]
  have hDC : s2.heap.objs.size ≠ G.objs.size := by rw [hC]; exact Nat.ne_of_lt (Nat.lt_succ_self _)
  have hCle : s2.heap.objs.size ≤ G.objs.size := by rw [hC]; exact Nat.le_succ _
  have old : ∀ b o, s2.heap.get? b = some o → h₁.get? b = some o := fun b o e => hsb₁.extBut b o (Nat.ne_of_lt (Nat.lt_of_lt_of_le (Heap.lt_size e) hCle)) (Heap.get?_push_of_some _ (hH2 ▸ Heap.get?_push_of_some _ e))
  have hacc : h₁.get? s2.heap.objs.size = some { cls := .type "list", dict := none, data := .seq ([] : List Value).toArray } := hsb₁.extBut _ _ hDC (Heap.get?_push_of_some _ (hH2 ▸ Heap.get?_push_size _ rfl))
  have hns₂ : h₁.Ns G.objs.size (fun _ => none) := hns₁
  generalize hXX : compCx X scope N' cl G.objs.size s2 H2 fp pins = XX at *
  have IN : ∀ (tk : Nat), Inv XX [] (inSt ρ σ) H2 { s2 with heap := h₁, toks := tk } := fun tk => hXX ▸ comp_start (N' := N') I2 S hρ f2 h1 h2 hCle hfs hns₂ old hl
  obtain ⟨pg, pt, pe⟩ := inner cl G.objs.size s2 H2 fp pins
  rw [hXX] at pg pt pe
  have eP : XX.prog = X.prog := by rw [← hXX]; rfl
  have eW : XX.w = X.w := by rw [← hXX]; rfl
  have eK : XX.K = X.K := by rw [← hXX]; rfl
  have eA : XX.A = X.A := by rw [← hXX]; rfl
  have eE : XX.env = compEnvC scope cl G.objs.size X.env := by rw [← hXX]; rfl
  have eL : XX.env.locals = G.objs.size := by rw [eE]; rfl
  have ec : XX.calm = true := by rw [← hXX]; exact hc
  have ex : XX.xe = fun _ _ => False := by rw [← hXX]; rfl
  have es0 : XX.s₀ = s2 := by rw [← hXX]; rfl
  have eex : XX.ex = fp := by rw [← hXX]; rfl
  have efs : XX.fs = frs X.stack := by rw [← hXX]; rfl
  have eH0 : XX.H₀ = H2 := by rw [← hXX]; rfl
  have epn : XX.pn = X.pn ++ pins := by rw [← hXX]; rfl
  have ecl : XX.env.cells = cl := by rw [eE]; rfl
  -- what stays true of the iterator's records
  have stat : ∀ {H' : Hp} {ps : List (Addr × Obj)}, (∀ b ∈ fp, H' b = none) → (∀ p ∈ ps, p.1 = s2.heap.objs.size) → ∀ b ∈ fp, FpOk XX ps H' b := fun {H' ps} hn hp b hb => by
    refine ⟨hn b hb, ?_, ?_, ?_, ?_, ?_⟩
    · rw [eL]; exact Nat.ne_of_lt (Nat.lt_of_lt_of_le (hfs b hb) hCle)
    · rw [efs]
      intro z
      rcases List.mem_cons.mp (I2.stkSub b z) with q | q
      · exact (f2 b hb).2.1 q
      · exact (f2 b hb).2.2.1 q
    · rw [eex]; exact .inl hb
    · rw [ecl]; exact fun x c e => (f2 b hb).2.2.2.2.1 x c (h1 x c e)
    · intro p hp' z
      rw [epn] at hp'
      rcases List.mem_append.mp hp' with q | q
      · exact (f2 b hb).2.2.2.2.2 p q z
      · rw [hp p q] at z
        exact absurd (hfs b hb) (by rw [z]; exact Nat.lt_irrefl _)
  have nofsD : s2.heap.objs.size ∉ XX.fs := by
    rw [efs]; intro z
    rcases List.mem_cons.mp (I2.stkSub _ z) with q | q
    · exact absurd I2.lt (by rw [← q]; exact Nat.lt_irrefl _)
    · exact I2.nofs (Nat.le_refl _) q
  have pinD : ∀ {σ' : St} {H' : Hp} {s' : Shared} {its : List Value} {n : Nat}, Inv XX [] σ' H' s' → H' s2.heap.objs.size = none → s'.heap.get? s2.heap.objs.size = some { cls := .type "list", data := .seq its.toArray n } →
      Inv XX [(s2.heap.objs.size, { cls := .type "list", data := .seq its.toArray n })] σ' H' s' := fun {σ' H' s' its n} I' hn ho => I'.pins_of fun p hp => by
    have e : p = (s2.heap.objs.size, { cls := .type "list", data := .seq its.toArray n }) := by simpa using hp
    subst e
    refine ⟨ho, hn, by rw [eL]; exact hDC, nofsD, fun v z => ?_⟩
    have z' : Data.seq its.toArray n = Data.cell v := z
    cases z'
  have loop : ∀ s₃ : Shared, (∃ tk, s₃ = { s2 with heap := h₁, toks := tk }) →
      codeAny (model X.prog X.w) X.A (.compLoop (.ListComp elt [⟨tg, iter, ifs, 0⟩] scope pos) 0 (.ref it) (.ref s2.heap.objs.size) (compEnvC scope cl G.objs.size X.env)) (RR (.ref s2.heap.objs.size) G.objs.size) s₃ := by
    rintro s₃ ⟨tk, rfl⟩
    refine compLoop_gen (fun n s' => ∃ i ys its k H', Inv XX [] (inSt ρ σ) H' s' ∧ tn i s'.heap ∧ (∀ b ∈ fp, H' b = none) ∧ H' s2.heap.objs.size = none ∧ Vals ys its ∧
      s'.heap.get? s2.heap.objs.size = some { cls := .type "list", data := .seq its.toArray k } ∧ W i n ys H') ?_ m0
      ⟨0, [], [], 0, H2, IN tk, T.keep _ _ _ st2 fun b _ o e => old b o e, fun b hb => (f2 b hb).1, I2.hok.fresh (Nat.le_refl _), .nil, hacc, w0⟩
    rintro n s3 ⟨i, ys, its, k, H3, I3, st3, fr3, hD3, rv, ho3, w3⟩
    rcases turn i n ys H3 w3 with ⟨stop, hz, qn⟩ | ⟨go, hz, N, hN, step⟩
    · have I3p := pinD I3 hD3 ho3
      have q := T.done XX eP eW eK ec i _ s3 (inSt ρ σ) H3 (fun _ _ => False) I3p (stat fr3 (by simp)) st3 stop
      rw [eA] at q
      refine thn q fun r s4 ⟨hr, I4⟩ => ?_
      subst hr
      have ho4 := (I4.pin (s2.heap.objs.size, { cls := .type "list", data := .seq its.toArray k }) (by simp)).1
      obtain ⟨m, hm, _⟩ := I4.loc
      rw [eL] at hm
      have hun : Un (frs X.stack) fp H2 (upd H3 s2.heap.objs.size (.lst ys)) s2.heap s4.heap := by
        have u := I4.base
        rw [efs, eex, eH0, es0] at u
        refine ⟨u.keep, u.slot, fun b o e n hx => ?_, u.there, fun b xs e => ?_, fun b o xs e => ?_, fun b ps e => ?_⟩
        · rw [upd_ne (Nat.ne_of_lt (Heap.lt_size e))]; exact u.free b o e n hx
        · have q := u.tups b xs e
          rw [upd_ne (ne_of_none q hD3)]; exact q
        · have q := u.frzs b o xs e
          rw [upd_ne (ne_of_none q hD3)]; exact q
        · obtain ⟨more, q⟩ := u.tbls b ps e
          exact ⟨more, by rw [upd_ne (ne_of_none q hD3)]; exact q⟩
      have hok : HOk X.prog X.w (upd H3 s2.heap.objs.size (.lst ys)) s4.heap := by
        have q := I4.hok
        rw [eP, eW] at q
        exact q.track hD3 ⟨hz, its, k, rv, ho4⟩
      have hfr : ∀ b ∈ fp, (b ∈ X.ex ∨ X.s₀.heap.objs.size ≤ b) ∧ b ≠ X.env.locals ∧ (∀ x c, X.env.cells.lookup x = some c → c ≠ b) ∧ ∀ p ∈ X.pn ++ pins, p.1 ≠ b := fun b hb => ⟨(f2 b hb).2.2.2.1, (f2 b hb).2.1, (f2 b hb).2.2.2.2.1, (f2 b hb).2.2.2.2.2⟩
      have IO : Inv X pins σ (upd H3 s2.heap.objs.size (.lst ys)) s4 := I2.call' (by have := I4.os; rw [es0] at this; exact this) hun hok I4.bare hfr
      refine fin _ _ s4 _ m IO (qn _ hD3) hm (I2.fpOk hCle ?_)
      rw [upd_ne (Ne.symm hDC)]
      have := I4.free
      rw [eL] at this
      exact this
    · have I3p := pinD I3 hD3 ho3
      have q := T.item XX eP eW eK ec i _ s3 (inSt ρ σ) H3 (fun _ _ => False) I3p (stat fr3 (by simp)) st3 go
      rw [eA] at q
      refine thn q fun r s4 ⟨u, hr, h4⟩ => ?_
      subst hr
      refine thn h4 fun _ s5 ⟨x, H5, I5, r5, y5, st5, fr5⟩ => ?_
      have I5' := I5.pinned (stat fr5 (by simp)) (T.obj _ _ st5)
      have qa := pg _ s5 (inSt ρ σ) H5 x u _ I5' r5 (step x H5 y5)
      rw [eP, eW, eA, eE, ex] at qa
      refine thn qa fun _ s6 ⟨σ6, H6, I6, ⟨ou1, ou2⟩, q6⟩ => ?_
      have hw6 : (inSt ρ σ).length = σ6.length := by rw [ou1]; unfold inSt; rw [List.length_map]
      have qt := pt _ s6 σ6 H6 _ I6 q6
      rw [eP, eW, eA, eE, ex] at qt
      refine thn qt fun ok s7 ⟨H7, I7, q7⟩ => ?_
      have back : ∀ {s8 : Shared} {H8 : Hp}, Inv XX ([(s2.heap.objs.size, { cls := .type "list", data := .seq its.toArray k })] ++ pinsAt fp s5.heap) σ6 H8 s8 → tn (i + 1) s8.heap ∧ (∀ b ∈ fp, H8 b = none) ∧ H8 s2.heap.objs.size = none ∧
          s8.heap.get? s2.heap.objs.size = some { cls := .type "list", data := .seq its.toArray k } := fun {s8 H8} I8 => by
        refine ⟨T.keep _ _ _ st5 fun b hb o e => (I8.pin (b, o) (List.mem_append_right _ (List.mem_append_right _ (mem_pinsAt hb e)))).1, fun b hb => ?_, ?_, ?_⟩
        · obtain ⟨o, e, d⟩ := T.obj _ _ st5 b hb
          exact (I8.pin (b, o) (List.mem_append_right _ (List.mem_append_right _ (mem_pinsAt hb e)))).2.1
        · exact (I8.pin (s2.heap.objs.size, { cls := .type "list", data := .seq its.toArray k }) (by simp)).2.1
        · exact (I8.pin (s2.heap.objs.size, { cls := .type "list", data := .seq its.toArray k }) (by simp)).1
      cases ok with
      | false =>
        obtain ⟨m', hm, w7⟩ := hN _ _ q7
        obtain ⟨b1, b2, b3, b4⟩ := back I7
        exact ⟨m', hm, i + 1, ys, its, k, H7, (I7.pins_of (pins' := []) (fun _ z => nomatch z)).weak hw6 ou2, b1, b2, b3, rv, b4, w7⟩
      | true =>
        have qe := pe _ s7 σ6 H7 _ I7 q7
        rw [eP, eW, eA, eE, ex] at qe
        refine thn qe fun y s8 ⟨v8, H8, I8, r8, n8⟩ => ?_
        obtain ⟨m', hm, w8⟩ := hN _ _ n8
        obtain ⟨b1, b2, b3, b4⟩ := back I8
        have hlen := rv.length
        refine call_meets F.slot_list_append ⟨_, b4, rfl⟩ F.entry_list_append (F.args_list_append_2 _ _) (PySem.list_append s2.heap.objs.size its.toArray k y (by rw [List.size_toArray]; omega)) ⟨b4, ?_⟩
        have qL := PySem.IsL.update b4 (fun xs => xs.push y)
        have I8' : Inv XX [] σ6 H8 s8 := I8.pins_of (fun _ z => nomatch z)
        have I9 : Inv XX [] σ6 H8 { s8 with heap := s8.heap.update s2.heap.objs.size (Obj.mapSeq fun xs => xs.push y), toks := s8.toks } := I8'.turned (it := s2.heap.objs.size) (fun b o hb e => (Heap.get?_update_other s8.heap _ (Ne.symm hb)).trans e) b3
          (by rw [eL]; exact hDC) (.inr (by rw [es0]; exact Nat.le_refl _)) (by
            rw [ecl]; intro x c e z
            obtain ⟨v, qc⟩ := I2.cell x c (h1 x c e)
            exact absurd qc.lt (by rw [z]; exact Nat.lt_irrefl _)) (by
            intro p hp z
            have hp' : p ∈ X.pn ++ pins := by rw [epn] at hp; simpa using hp
            exact absurd (Heap.lt_size (I2.pin p hp').1) (by rw [z]; exact Nat.lt_irrefl _))
        have hnd : s2.heap.objs.size ∉ fp := fun z => Nat.lt_irrefl _ (hfs _ z)
        rw [show its.toArray.push y = (its ++ [y]).toArray by simp] at qL
        refine ⟨m', hm, i + 1, ys ++ [v8], its ++ [y], _, H8, I9.weak hw6 ou2, T.keep _ _ _ b1 fun b hb o e => (Heap.get?_update_other s8.heap _ (by rintro rfl; exact hnd hb)).trans e, b2, b3, rv.append (.cons r8 .nil), qL, w8⟩
  refine codeAny_compStart_list (loop _ ⟨_, rfl⟩) (T.self X.A 0 _ _ _ (T.keep _ _ _ st2 fun b _ o e => old b o e) (loop _ ⟨_, rfl⟩))
theorem pe_comp {X : Cx} {elt iter tg : Expr} {ifs : List Expr} {scope : Scope} {pos : Pos} (N' : List Str) (ρ : List (Option Nat)) {wi : TI} {g : TG} {tt : TT} {te : TE} (hc : X.calm = true) (hi : PI X tg iter wi) (S : CompScope scope X.env.scope) (hρ : SlotOk scope X.env X.N N' ρ)
    (hl : ∀ x, (x, NameKind.free) ∈ scope.names → scope.names.lookup x = some .free)
    (inner : ∀ (cl : List (Str × Addr)) (C : Addr) (s : Shared) (H : Hp) (fp : List Addr) (pins : List (Addr × Obj)), PG (compCx X scope N' cl C s H fp pins) tg g ∧ PTs (compCx X scope N' cl C s H fp pins) ifs tt ∧ PE (compCx X scope N' cl C s H fp pins) elt te)
    (hs : ∀ x, foldedSetIterable iter X.env x = pure x := by intro _; rfl) : PE X (.ListComp elt [⟨tg, iter, ifs, 0⟩] scope pos) (tComp ρ wi g tt te) := by
  intro pins s σ H Q I h
  obtain ⟨cl, hcl, h1, h2⟩ := closureFor_of (scope := scope) (env := X.env) (fun n hn => I.ok.has n (S.free (n, .free) hn rfl))
  rw [eval_ListComp]
  refine wpAny_comprehension_free (use := none) rfl hs hcl S.kind S.loc ?_
  refine comp_run (RR := fun acc C => compPost (model X.prog X.w) X.A X.xe none (EP X pins σ Q) acc C) hc hi S hρ hl inner I h h1 h2 ?_
  intro D C s' H' m I' q hm hf
  refine ⟨m, hm, fun h' sb => ⟨.ref D, H', ?_, rfl, q⟩⟩
  exact I'.turned (t' := s'.toks) (fun b o hb e => (sb.2 b hb).trans e) hf.1 hf.2.1 hf.2.2.2.1 hf.2.2.2.2.1 hf.2.2.2.2.2

theorem ps_setcomp {X : Cx} {elt iter tg : Expr} {ifs : List Expr} {scope : Scope} {pos pos' spos : Pos} {i : Nat} {x : Str} (N' : List Str) (ρ : List (Option Nat)) {wi : TI} {g : TG} {tt : TT} {te : TE} (hN : X.N.Nodup) (hix : X.N[i]? = some x) (hx : Loc X.env.scope x)
    (hc : X.calm = true) (hi : PI X tg iter wi) (S : CompScope scope X.env.scope) (hρ : SlotOk scope X.env X.N N' ρ)
    (hl : ∀ x, (x, NameKind.free) ∈ scope.names → scope.names.lookup x = some .free)
    (inner : ∀ (cl : List (Str × Addr)) (C : Addr) (s : Shared) (H : Hp) (fp : List Addr) (pins : List (Addr × Obj)), PG (compCx X scope N' cl C s H fp pins) tg g ∧ PTs (compCx X scope N' cl C s H fp pins) ifs tt ∧ PE (compCx X scope N' cl C s H fp pins) elt te)
    (hsw : swapsWith (.ListComp elt [⟨tg, iter, ifs, 0⟩] scope pos) (some (.Name x pos')) spos.line X.env = pure true := by rfl)
    (hs : ∀ x, foldedSetIterable iter X.env x = pure x := by intro _; rfl) (hf : X.fn x = true ∨ X.env.scope.names.lookup x = some .local := by first | exact .inl rfl | exact .inr rfl | assumption) :
    PS X (.Assign [.Name x pos'] (.ListComp elt [⟨tg, iter, ifs, 0⟩] scope pos) spos) (tAsg (tComp ρ wi g tt te) (gName i)) := by
  intro pins s σ H Dn I h
  obtain ⟨cl, hcl, h1, h2⟩ := closureFor_of (scope := scope) (env := X.env) (fun n hn => I.ok.has n (S.free (n, .free) hn rfl))
  rw [exec_Assign_Name_used _ _ _ _ hsw]
  refine wpAny_bind (wpAny_standAt (wpAny_bind ?_))
  show wpAny _ X.A (do let _ ← comprehension (.ListComp elt [⟨tg, iter, ifs, 0⟩] scope pos) scope X.env _ (newList []) false (eval iter X.env) (some (assign (.Name x pos') X.env))) _ _ s
  refine wpAny_bind (wpAny_mono (wpAny_comprehension_free (use := some (assign (.Name x pos') X.env)) (Q := fun _ s' => SP X pins Dn .next s') rfl hs hcl S.kind S.loc ?_) (fun _ s' hq => wpAny_pure (wpAny_pure hq)) fun _ _ e => e)
  refine comp_run (RR := fun acc C => compPost (model X.prog X.w) X.A X.xe (some (assign (.Name x pos') X.env)) (fun _ s' => SP X pins Dn .next s') acc C) hc hi S hρ hl inner I h h1 h2 ?_
  intro D C s' H' m I' q hm hfC
  obtain ⟨oC, es, ep, hoC, hr⟩ := id hm
  have pin : Inv X (pins ++ pinsAt [C] s'.heap) σ H' s' := I'.pinned (fun b hb => by
    have e : b = C := by simpa using hb
    subst e
    exact hfC) (fun b hb => by
    have e : b = C := by simpa using hb
    subst e
    exact ⟨oC, hoC, fun v z => by rw [hr.1] at z; cases z⟩)
  show wpAny _ X.A (assign (.Name x pos') X.env (.ref D)) _ _ _
  refine wpAny_assign_Name ?_
  refine store_ok (M := model X.prog X.w) (A := X.A) (E := X.xe) pin hN hix hx (v := .ref D) (u := .ref D) rfl (fun s'' I'' => ?_) hf
  have pC := (I''.pin (C, oC) (List.mem_append_right _ (List.mem_append_right _ (mem_pinsAt (by simp) hoC))))
  refine ⟨m, ⟨oC, es, ep, pC.1, hr⟩, fun h' sb => ⟨_, H', ?_, q⟩⟩
  have I2 : Inv X pins (σ.set i (some (.ref D))) H' s'' := I''.unpinned
  exact I2.turned (t' := s''.toks) (fun b o hb e => (sb.2 b hb).trans e) hfC.1 hfC.2.1 hfC.2.2.2.1 hfC.2.2.2.2.1 hfC.2.2.2.2.2

theorem inSt_cons (σ : St) (o : Option Nat) (ρ : List (Option Nat)) : inSt (o :: ρ) σ = (match o with | some i => (σ[i]?).getD none | none => none) :: inSt ρ σ := rfl
theorem outs1 {ρ : List (Option Nat)} {σ : St} (o : Option V) : Outs (none :: ρ) σ (o :: inSt ρ σ) := by
  refine ⟨by unfold inSt; simp, fun j v e => ?_⟩
  cases j with
  | zero => rw [inSt_cons] at e; simp at e
  | succ j => rw [inSt_cons] at e; simpa using e
theorem outs2 {ρ : List (Option Nat)} {σ : St} (o o' : Option V) : Outs (none :: none :: ρ) σ (o :: o' :: inSt ρ σ) := by
  refine ⟨by unfold inSt; simp, fun j v e => ?_⟩
  cases j with
  | zero => rw [inSt_cons] at e; simp at e
  | succ j =>
    rw [inSt_cons, inSt_cons] at e
    cases j with
    | zero => simp at e
    | succ j => simpa using e
theorem comp_by {J : It} {n : Nat} {X : Nat → V → Prop} {ρ : List (Option Nat)} {tt : TT} {te : TE} {σ : St} {H : Hp} {Q : VK} (Pv : Nat → List V → Hp → Prop) (h0 : Pv 0 [] H) (hlen : n ≤ sizeLine)
    (hy : ∀ i ys H, i ≤ n → Pv i ys H → ys.length ≤ i) (hgo : ∀ i ys H, i < n → Pv i ys H → J.go i H) (hyl : ∀ i ys H x H', i < n → Pv i ys H → J.yld i H x H' → H' = H ∧ X i x) (hst : ∀ ys H, Pv n ys H → J.stop n H)
    (hs : ∀ i x ys H, i < n → X i x → Pv i ys H → tt (some x :: inSt ρ σ) H fun ok H4 => if ok = true then te (some x :: inSt ρ σ) H4 fun v H5 => Pv (i + 1) (ys ++ [v]) H5 else Pv (i + 1) ys H4)
    (hd : ∀ ys H, Pv n ys H → ∀ p, H p = none → Q (.ref p) (upd H p (.lst ys))) :
    CompW (none :: ρ) (gName 0) tt te σ Q J H := by
  refine ⟨fun i m ys H => m = n - i ∧ i ≤ n ∧ Pv i ys H, ⟨n, by simp, Nat.zero_le _, h0⟩, ?_⟩
  rintro i m ys H ⟨rfl, hi, p⟩
  have hl := hy i ys H hi p
  by_cases hlt : i < n
  · refine .inr ⟨hgo i ys H hlt p, by omega, Pv (i + 1), fun ys' H'' p' => ⟨n - (i + 1), by omega, rfl, hlt, p'⟩, fun x H' y => ?_⟩
    obtain ⟨e, y2⟩ := hyl i ys H x H' hlt p y
    subst e
    exact ⟨outs1 _, hs i x ys _ hlt y2 p⟩
  · have e : i = n := by omega
    subst e
    exact .inl ⟨hst ys H p, by omega, hd ys H p⟩
theorem comp_tup {K : PySem.W.Frag} {a : Addr} {xs : List V} {ρ : List (Option Nat)} {tt : TT} {te : TE} {σ : St} {H : Hp} {Q : VK} (Pv : Nat → List V → Hp → Prop) (h0 : Pv 0 [] H) (hlen : xs.length ≤ sizeLine) (hl : ∀ i ys H, i ≤ xs.length → Pv i ys H → SqT K H a xs ∧ ys.length ≤ i)
    (hs : ∀ i x ys H, xs[i]? = some x → Pv i ys H → tt (some x :: inSt ρ σ) H fun ok H4 => if ok = true then te (some x :: inSt ρ σ) H4 fun v H5 => Pv (i + 1) (ys ++ [v]) H5 else Pv (i + 1) ys H4)
    (hd : ∀ ys H, Pv xs.length ys H → ∀ p, H p = none → Q (.ref p) (upd H p (.lst ys))) :
    CompW (none :: ρ) (gName 0) tt te σ Q (Itt K a) H :=
  comp_by (n := xs.length) (X := fun i x => xs[i]? = some x) Pv h0 hlen (fun i ys H hi p => (hl i ys H hi p).2) (fun i ys H hi p => ⟨xs, xs[i], (hl i ys H (Nat.le_of_lt hi) p).1, by simp [hi]⟩) (fun i ys H x H' hi p y => ⟨y.1, y.2 xs (hl i ys H (Nat.le_of_lt hi) p).1⟩)
    (fun ys H p => ⟨xs, (hl _ ys H (Nat.le_refl _) p).1, Nat.le_refl _⟩) (fun i x ys H _ e p => hs i x ys H e p) hd
theorem comp_list {K : PySem.W.Frag} {a : Addr} {xs : List V} {ρ : List (Option Nat)} {tt : TT} {te : TE} {σ : St} {H : Hp} {Q : VK} (Pv : Nat → List V → Hp → Prop) (h0 : Pv 0 [] H) (hlen : xs.length ≤ sizeLine) (hl : ∀ i ys H, i ≤ xs.length → Pv i ys H → SqL K H a xs ∧ ys.length ≤ i)
    (hs : ∀ i x ys H, xs[i]? = some x → Pv i ys H → tt (some x :: inSt ρ σ) H fun ok H4 => if ok = true then te (some x :: inSt ρ σ) H4 fun v H5 => Pv (i + 1) (ys ++ [v]) H5 else Pv (i + 1) ys H4)
    (hd : ∀ ys H, Pv xs.length ys H → ∀ p, H p = none → Q (.ref p) (upd H p (.lst ys))) :
    CompW (none :: ρ) (gName 0) tt te σ Q (Itl K a) H :=
  comp_by (n := xs.length) (X := fun i x => xs[i]? = some x) Pv h0 hlen (fun i ys H hi p => (hl i ys H hi p).2) (fun i ys H hi p => ⟨xs, xs[i], (hl i ys H (Nat.le_of_lt hi) p).1, by simp [hi]⟩) (fun i ys H x H' hi p y => ⟨y.1, y.2 xs (hl i ys H (Nat.le_of_lt hi) p).1⟩)
    (fun ys H p => ⟨xs, (hl _ ys H (Nat.le_refl _) p).1, Nat.le_refl _⟩) (fun i x ys H _ e p => hs i x ys H e p) hd
theorem comp_range {lo : Int} {n : Nat} {ρ : List (Option Nat)} {tt : TT} {te : TE} {σ : St} {H : Hp} {Q : VK} (Pv : Nat → List V → Hp → Prop) (h0 : Pv 0 [] H) (hlen : n ≤ sizeLine) (hl : ∀ i ys H, i ≤ n → Pv i ys H → ys.length ≤ i)
    (hs : ∀ i ys H, i < n → Pv i ys H → tt (some (.int (lo + i)) :: inSt ρ σ) H fun ok H4 => if ok = true then te (some (.int (lo + i)) :: inSt ρ σ) H4 fun v H5 => Pv (i + 1) (ys ++ [v]) H5 else Pv (i + 1) ys H4)
    (hd : ∀ ys H, Pv n ys H → ∀ p, H p = none → Q (.ref p) (upd H p (.lst ys))) :
    CompW (none :: ρ) (gName 0) tt te σ Q (Itr lo n) H :=
  comp_by (n := n) (X := fun i x => x = .int (lo + i)) Pv h0 hlen hl (fun i ys H hi p => hi) (fun i ys H x H' hi p y => y) (fun ys H p => Nat.le_refl _) (fun i x ys H hi e p => by subst e; exact hs i ys H hi p) hd
end L2

set_option Elab.async false
set_option linter.all false
set_option maxRecDepth 100000
set_option maxHeartbeats 4000000
namespace L2
open PySem PySem.Spec PyProof.Rows

noncomputable abbrev cds (x : Str) : List Nat := x.cps.toList
theorem cds_len (x : Str) : (cds x).length = x.length := by simp [cds, Str.length]
theorem cds_ext {x y : Str} (h : cds x = cds y) : x = y := StrLaws.mk_of_toList (x := x) h ▸ (StrLaws.mk_of_toList (x := y) rfl).symm
theorem cds_app (x y : Str) : cds (x ++ y) = cds x ++ cds y := by simp [cds, Str.cps_append]
theorem cds_mk (l : List Nat) : cds ⟨l.toArray⟩ = l := by simp [cds]
noncomputable def sOf (l : List Nat) : Str := ⟨l.toArray⟩
theorem cds_sOf (l : List Nat) : cds (sOf l) = l := by simp [cds, sOf]
theorem sOf_cds (x : Str) : sOf (cds x) = x := cds_ext (cds_sOf _)

noncomputable def cutC {α : Type} (xs : List α) (lo hi : Option Int) : List α := (xs.drop (HT.sIx xs.length 0 lo)).take (HT.sIx xs.length xs.length hi - HT.sIx xs.length 0 lo)
theorem clip_str (n : Nat) (i : Int) (k : Nat) : max 0 (min (if i < 0 then i + (n : Int) else i) (n : Int)) = ((HT.sIx n k (some i) : Nat) : Int) := by
  unfold HT.sIx
  dsimp only
  split <;> omega
theorem slice_ix (lo hi : Option Int) (n : Nat) : Builtin.Str.strSliceIndices lo hi 1 n = (List.range (HT.sIx n n hi - HT.sIx n 0 lo)).map (fun k => HT.sIx n 0 lo + k) := by
  have e : Builtin.Str.strSliceIndices lo hi 1 n = sliceRange ((HT.sIx n 0 lo : Nat) : Int) ((HT.sIx n n hi : Nat) : Int) 1 := by
    unfold Builtin.Str.strSliceIndices
    simp only [show ((1 : Int) > 0) = True by simp, if_true]
    congr 1
    · cases lo with
      | none => rfl
      | some i => exact clip_str n i 0
    · cases hi with
      | none => rfl
      | some i => exact clip_str n i n
  rw [e]
  unfold sliceRange
  simp only [show ((1 : Int) > 0) = True by simp, if_true]
  generalize HT.sIx n 0 lo = a
  generalize HT.sIx n n hi = b
  by_cases h : (a : Int) < b
  · rw [if_pos h, show (((b : Int) - a + 1 - 1) / 1).toNat = b - a by simp <;> omega]
    refine List.map_congr_left fun k _ => ?_
    omega
  · rw [if_neg h, show b - a = 0 by omega]
    rfl
theorem cds_slice (x : Str) (lo hi : Option Int) : cds (Txt.slice x lo hi) = cutC (cds x) lo hi := by
  unfold Txt.slice cutC
  have hl := cds_len x
  rw [hl, slice_ix]
  have b1 := HT.sIx_le x.length 0 (Nat.zero_le _) lo
  have b2 := HT.sIx_le x.length x.length (Nat.le_refl _) hi
  generalize HT.sIx x.length 0 lo = a at *
  generalize HT.sIx x.length x.length hi = b at *
  split
  · rename_i h
    have hb : b - a = x.length := by simpa using h
    have ha : a = 0 := by omega
    subst ha
    rw [List.drop_zero, hb, ← hl, List.take_length]
  · by_cases hab : a ≤ b
    · have q := StrLaws.picks (cds x) (b - a) a (by omega)
      have q2 : (List.filterMap (fun x_1 => x.cps[x_1]?) (List.map (fun k => a + k) (List.range (b - a)))) = List.filterMap (fun x_1 => (cds x)[x_1]?) (List.map (fun k => a + k) (List.range (b - a))) := by
        simp [cds]
      rw [cds_mk, q2, q]
    · rw [show b - a = 0 by omega]
      simp [cds]
section
variable {X : Cx}
noncomputable def rSlS : V → Option Int → Option Int → Hp → VK → Prop := fun x lo hi H Q => ∃ z, x = .str z ∧ z.length ≤ sizeLine ∧ Q (.str (sOf (cutC (cds z) lo hi))) H
theorem sl_str : SlR X rSlS := by
  intro pins s σ H x v vl vu lo hi sl Q I rx hs pl pu h
  obtain ⟨z, rfl, hz, q⟩ := h
  obtain ⟨t, rfl⟩ := rx
  rw [← cds_slice, sOf_cds] at q
  refine ⟨"str", _, F.slot_str_getitem.lookup, typeIs_str _ _ _, ?_⟩
  have go : ∀ (l u : Option (Int × Tok)), l.map (·.1) = lo → u.map (·.1) = hi → s.heap.IsSlice sl l u none → wpAny (model X.prog X.w) X.A (getItem (.str z t) (.ref sl)) (EP X pins σ Q) X.xe s := fun l u e1 e2 hS => by
    subst e1 e2
    exact wpAny_getItem_str_slice hS rfl (post_val_or_str ⟨Nat.le_trans (Txt.slice_le z _ _) hz, fun t' k => ⟨.str _, H, I.tok _, ⟨_, rfl⟩, q⟩⟩)
  cases pl with
  | none =>
    cases pu with
    | none => exact go none none rfl rfl hs
    | int j u => exact go none (some (j, u)) rfl rfl hs
  | int i t' =>
    cases pu with
    | none => exact go (some (i, t')) none rfl rfl hs
    | int j u => exact go (some (i, t')) (some (j, u)) rfl rfl hs

end

section
variable {X : Cx}
noncomputable def clsV : V → Option Value
  | .ty n => some (.type n)
  | .ref a => some (.ref a)
  | _ => none
theorem call_isi : CallR X (.builtin "isinstance") (fun xs H Q => ∃ x c t cv b, xs = [x, c] ∧ clsV c = some cv ∧ TyOf X.K H x t ∧ PySem.W.kitOne X.K t cv = some b ∧ Q (.bl b) H) := by
  intro pins s σ H xs us Q I r h
  obtain ⟨x, c, t, cv, b, rfl, rc, ty, e, q⟩ := h
  obtain ⟨u, w', rfl, rx, rw'⟩ := r.two
  have : w' = cv := by
    cases c with
    | ref a => cases rc; exact rw'
    | ty a => cases rc; exact rw'
    | _ => cases rc
  subst this
  exact isinst_ok I rx ty e fun tk => ⟨.bl b, H, I.tok _, rfl, q⟩
end
end L2

set_option Elab.async false
set_option linter.all false
set_option maxRecDepth 100000
set_option maxHeartbeats 4000000
namespace L2
open PySem PySem.Spec PyProof.Rows

noncomputable def compB (sc out : Scope) (N N' : List Str) (ρ : List (Option Nat)) : Bool :=
  decide (sc.kind = .function) && sc.names.all (fun y => decide (y.2 ≠ .cell)) && sc.names.all (fun y => decide (y.2 = .local → sc.names.lookup y.1 = some .local)) &&
  sc.names.all (fun y => decide (y.2 = .free → sc.names.lookup y.1 = some .free ∧ (out.names.lookup y.1 = some .cell ∨ out.names.lookup y.1 = some .free))) &&
  decide (ρ.length = N'.length) && decide N'.Nodup &&
  (ρ.zip N').all (fun p => match p.1 with | none => true | some i => decide (N[i]? = some p.2) && decide (out.names.lookup p.2 = some .local ∨ out.names.lookup p.2 = some .cell ∨ out.names.lookup p.2 = some .free) && sc.names.any (fun y => decide (y = (p.2, NameKind.free))))
structure CompF (sc : Scope) (env : Env) (N N' : List Str) (ρ : List (Option Nat)) : Prop where
  S : CompScope sc env.scope
  sl : SlotOk sc env N N' ρ
  hl : ∀ x, (x, NameKind.free) ∈ sc.names → sc.names.lookup x = some .free
  nd : N'.Nodup
theorem compF_of {sc : Scope} {env : Env} {N N' : List Str} {ρ : List (Option Nat)} (h : compB sc env.scope N N' ρ = true) : CompF sc env N N' ρ := by
  unfold compB at h
  simp only [Bool.and_eq_true, decide_eq_true_eq, List.all_eq_true] at h
  obtain ⟨⟨⟨⟨⟨⟨h1, h2⟩, h3⟩, h4⟩, h5⟩, h6⟩, h7⟩ := h
  refine ⟨⟨h1, h2, h3, fun y hy e => (h4 y hy e).2⟩, ⟨h5, fun j i x e1 e2 => ?_⟩, fun x hx => (h4 _ hx rfl).1, h6⟩
  have hm : (some i, x) ∈ ρ.zip N' := by
    refine List.mem_of_getElem? (i := j) ?_
    rw [List.getElem?_zip_eq_some]
    exact ⟨e1, e2⟩
  have q := h7 _ hm
  simp only [Bool.and_eq_true, decide_eq_true_eq, List.any_eq_true] at q
  obtain ⟨⟨q1, q2⟩, y, hy, e⟩ := q
  exact ⟨q1, q2, e ▸ hy⟩

theorem pe_compB {X : Cx} {elt iter tg : Expr} {ifs : List Expr} {scope : Scope} {pos : Pos} (N' : List Str) (ρ : List (Option Nat)) {wi : TI} {g : TG} {tt : TT} {te : TE} (hc : X.calm = true) (hi : PI X tg iter wi) (h : compB scope X.env.scope X.N N' ρ = true)
    (inner : ∀ (cl : List (Str × Addr)) (C : Addr) (s : Shared) (H : Hp) (fp : List Addr) (pins : List (Addr × Obj)), PG (compCx X scope N' cl C s H fp pins) tg g ∧ PTs (compCx X scope N' cl C s H fp pins) ifs tt ∧ PE (compCx X scope N' cl C s H fp pins) elt te)
    (hs : ∀ x, foldedSetIterable iter X.env x = pure x := by intro _; rfl) : PE X (.ListComp elt [⟨tg, iter, ifs, 0⟩] scope pos) (tComp ρ wi g tt te) :=
  have F := compF_of h
  pe_comp N' ρ hc hi F.S F.sl F.hl inner hs
theorem ps_setcompB {X : Cx} {elt iter tg : Expr} {ifs : List Expr} {scope : Scope} {pos pos' spos : Pos} {i : Nat} {x : Str} (N' : List Str) (ρ : List (Option Nat)) {wi : TI} {g : TG} {tt : TT} {te : TE} (hN : X.N.Nodup) (hix : X.N[i]? = some x) (hx : Loc X.env.scope x)
    (hc : X.calm = true) (hi : PI X tg iter wi) (h : compB scope X.env.scope X.N N' ρ = true)
    (inner : ∀ (cl : List (Str × Addr)) (C : Addr) (s : Shared) (H : Hp) (fp : List Addr) (pins : List (Addr × Obj)), PG (compCx X scope N' cl C s H fp pins) tg g ∧ PTs (compCx X scope N' cl C s H fp pins) ifs tt ∧ PE (compCx X scope N' cl C s H fp pins) elt te)
    (hsw : swapsWith (.ListComp elt [⟨tg, iter, ifs, 0⟩] scope pos) (some (.Name x pos')) spos.line X.env = pure true := by rfl)
    (hs : ∀ x, foldedSetIterable iter X.env x = pure x := by intro _; rfl) (hf : X.fn x = true ∨ X.env.scope.names.lookup x = some .local := by first | exact .inl rfl | exact .inr rfl | assumption) :
    PS X (.Assign [.Name x pos'] (.ListComp elt [⟨tg, iter, ifs, 0⟩] scope pos) spos) (tAsg (tComp ρ wi g tt te) (gName i)) :=
  have F := compF_of h
  ps_setcomp N' ρ hN hix hx hc hi F.S F.sl F.hl inner hsw hs hf

noncomputable def spLaw (K : PySem.W.Frag) : Sp := fun vs H Q _ => ∃ (a : Addr) (ns : List Int), vs = [.ref a] ∧ SqL K H a (ns.map V.int) ∧ ns.length ≤ 63 ∧ Only H ∧ ∀ H', Q (.bl true) H'
theorem law_walk {l : PySem.W.OpenLaw} {q : Program} {loose : List Str} {XP : (Str → Option Value) → Heap → Prop} {YP : World → Heap → Prop} {d : DefRec} {K : Params → PySem.W.Frag} {x : Str} (k : Nat) (hk : k ≤ 200) (hn : l.most = some 63) (hdf : d.params.defaults = [])
    (hY : ∀ (w : World) (h : Heap), YP w h → (K w.params).In h)
    (F : ∀ (w : World) (mg : Str → Option Value) (fa : Addr) (h : Heap), (K w.params).In h → h.Ns mainGlobals mg → mg d.name = some (.ref fa) →
      ∃ fd : FuncData, (∀ (s : Shared) (u : Value), BindsTo s fd ⟨[u], []⟩ [(x, u)]) ∧ ∀ base : Heap, (K w.params).In base → base.Ns mainGlobals mg → FnOk l.prog w (K w.params) mg base CX0 k fa fd [x] (spLaw (K w.params))) :
    PySem.W.WalkO q loose XP YP l.row.toRowW d [] (fun f vs => PySem.call f vs) :=
  L2.walk_of (n := 63) (k := k) (x := x) (CX := fun _ => CX0) (sp := fun w => spLaw (K w.params)) hn (by decide) hdf
    ⟨rfl, by have : callerA.depth + 605 < recursionLimit := by decide
             omega, by have : callerA.units + 3400 < cLine := by decide
                       omega, rfl⟩ hY F (fun _ H a ns hl hO hS => ⟨a, ns, rfl, hS, hl, hO, fun _ => rfl⟩) fun _ _ _ _ _ z => z
end L2
namespace L2
open PySem
noncomputable def mkSc (l : List (Str × NameKind)) : Scope := { kind := .function, names := l, isGenerator := false, isCoroutine := false, more := [] }
end L2

namespace L2
open PySem
theorem bt_len : bootBuiltins "len" = some (.builtin "len") := by decide +kernel
theorem bt_isinstance : bootBuiltins "isinstance" = some (.builtin "isinstance") := by decide +kernel
theorem bt_min : bootBuiltins "min" = some (.builtin "min") := by decide +kernel
theorem bt_int : bootBuiltins "int" = some (.type "int") := by decide +kernel
theorem bt_bool : bootBuiltins "bool" = some (.type "bool") := by decide +kernel
theorem bt_list : bootBuiltins "list" = some (.type "list") := by decide +kernel
theorem bt_tuple : bootBuiltins "tuple" = some (.type "tuple") := by decide +kernel
end L2

set_option Elab.async false
set_option linter.all false
set_option maxRecDepth 100000
set_option maxHeartbeats 4000000
namespace L2
open PySem PySem.Spec PyProof.Rows

theorem szl {n : Nat} (h : n ≤ 1000000) : n ≤ sizeLine := by rw [sizeLine_eq]; omega
theorem szlt {n : Nat} (h : n < 1000000) : n < sizeLine := by rw [sizeLine_eq]; omega
theorem same_new {H : Hp} {p : Addr} (h : H p = none) (o : HO) : Same H (upd H p o) := fun b u q => by rw [upd_ne (ne_of_none q h)]; exact q
theorem Same.seqT {K : PySem.W.Frag} {H H' : Hp} {a : Addr} {xs : List V} (e : Same H H') (h : SqT K H a xs) : SqT K H' a xs := by
  rcases h with h | h
  · rcases h with h | ⟨o, h⟩
    · exact .inl (.inl (e _ _ h))
    · exact .inl (.inr ⟨o, e _ _ h⟩)
  · exact .inr h
theorem dT {p : Prop} [Decidable p] (h : decide p = true) : p := of_decide_eq_true h
theorem dF {p : Prop} [Decidable p] (h : ¬ decide p = true) : ¬ p := fun z => h (decide_eq_true z)

theorem cell_in {ns : List Int} {k : Int} (h0 : 0 ≤ k) (h : k < (ns.length : Int)) : atI (ns.map V.int) k = some (.int (ns.getD k.toNat 0)) := by
  have hk : k.toNat < ns.length := by omega
  have ek : k = ((k.toNat : Nat) : Int) := by omega
  have q : atI (ns.map V.int) ((k.toNat : Nat) : Int) = some (.int (ns.getD k.toNat 0)) := atI_nat (by rw [List.getElem?_map, List.getElem?_eq_getElem hk]; simp [List.getD_eq_getElem?_getD, hk])
  rw [← ek] at q
  exact q
noncomputable def isInt : V → Bool
  | .int _ => true
  | _ => false
noncomputable def plainV : V → Bool
  | .int _ => true
  | .bl _ => true
  | .non => true
  | .str _ => true
  | _ => false
noncomputable def spWhole : Sp := fun vs H Q _ => ∃ x, vs = [x] ∧ plainV x = true ∧ Q (.bl (isInt x)) H
theorem take_snoc {α : Type} {l : List α} {i : Nat} {c : α} (h : l[i]? = some c) : l.take (i + 1) = l.take i ++ [c] := by
  rw [List.take_succ, h]; rfl
end L2
namespace L2
open PySem
end L2
namespace L2
open PySem
theorem seq_any {t u : TS} {D : Ends} {σ : St} {H : Hp} (M : St → Hp → Prop) (hu : ∀ σ' H', M σ' H' → u D σ' H') (ht : (∀ σ' H', M σ' H' → u D σ' H') → t { D with nx := u D } σ H) : tSeq t u D σ H := ht hu
theorem ndF {p : Prop} [Decidable p] (h : p) : (!decide p) = false := by rw [decide_eq_true h]; rfl
theorem ndT {p : Prop} [Decidable p] (h : ¬ p) : (!decide p) = true := by rw [decide_eq_false h]; rfl
theorem iteE {b : Bool} {A B : Prop} {v : Bool} (e : b = v) (h : if v = true then A else B) : if b = true then A else B := by rw [e]; exact h
end L2
namespace L2
open PySem
theorem len_sOf (l : List Nat) : (sOf l).length = l.length := by rw [← cds_len, cds_sOf]
theorem len_app (x y : Str) : (x ++ y).length = x.length + y.length := Str.length_append x y
end L2

set_option Elab.async false
set_option linter.all false
set_option maxRecDepth 100000
set_option maxHeartbeats 4000000
namespace L2
open PySem PySem.Spec PyProof.Rows

inductive Tr where
  | v (x : V)
  | lst (l : List Tr)
  | tup (l : List Tr)
mutual
inductive TrIs (K : PySem.W.Frag) (H : Hp) : V → Tr → Prop
  | flat {x : V} : flatV x = true → TrIs K H x (.v x)
  | lst {p : Addr} {xs : List V} {l : List Tr} : SqL K H p xs → TrsIs K H xs l → TrIs K H (.ref p) (.lst l)
  | tup {p : Addr} {xs : List V} {l : List Tr} : SqT K H p xs → TrsIs K H xs l → TrIs K H (.ref p) (.tup l)
inductive TrsIs (K : PySem.W.Frag) (H : Hp) : List V → List Tr → Prop
  | nil : TrsIs K H [] []
  | cons {x : V} {t : Tr} {xs : List V} {l : List Tr} : TrIs K H x t → TrsIs K H xs l → TrsIs K H (x :: xs) (t :: l)
end
mutual
noncomputable def eqT : Tr → Tr → Bool
  | .v x, .v y => eqV x y
  | .lst l, .lst m => eqTs l m
  | .tup l, .tup m => eqTs l m
  | _, _ => false
noncomputable def eqTs : List Tr → List Tr → Bool
  | [], [] => true
  | x :: l, y :: m => eqT x y && eqTs l m
  | _, _ => false
end
mutual
noncomputable def simT : Tr → Tr → Bool
  | .v _, .v _ => true
  | .lst l, .lst m => simTs l m
  | .tup l, .tup m => simTs l m
  | _, _ => false
noncomputable def simTs : List Tr → List Tr → Bool
  | x :: l, y :: m => simT x y && simTs l m
  | _, _ => true
end
mutual
noncomputable def depT : Tr → Nat
  | .v _ => 0
  | .lst l => depTs l + 1
  | .tup l => depTs l + 1
noncomputable def depTs : List Tr → Nat
  | [] => 0
  | x :: l => max (depT x) (depTs l)
end
theorem eqV_refl {x : V} (h : flatV x = true) : eqV x x = true := by
  cases x <;> first | rfl | (simp [eqV]; done) | (simp [flatV] at h)
mutual
/-- a tree of flat values -/
noncomputable def okT : Tr → Bool
  | .v x => flatV x
  | .lst l => okTs l
  | .tup l => okTs l
noncomputable def okTs : List Tr → Bool
  | [] => true
  | x :: l => okT x && okTs l
end
mutual
theorem eqT_refl : ∀ t : Tr, okT t = true → eqT t t = true
  | .v x, h => by rw [eqT]; exact eqV_refl (by simpa [okT] using h)
  | .lst l, h => by rw [eqT]; exact eqTs_refl l (by simpa [okT] using h)
  | .tup l, h => by rw [eqT]; exact eqTs_refl l (by simpa [okT] using h)
theorem eqTs_refl : ∀ l : List Tr, okTs l = true → eqTs l l = true
  | [], _ => by rw [eqTs]
  | x :: l, h => by
    rw [okTs, Bool.and_eq_true] at h
    rw [eqTs, eqT_refl x h.1, eqTs_refl l h.2]; rfl
end
mutual
theorem simT_refl : ∀ t : Tr, simT t t = true
  | .v x => by rw [simT]
  | .lst l => by rw [simT]; exact simTs_refl l
  | .tup l => by rw [simT]; exact simTs_refl l
theorem simTs_refl : ∀ l : List Tr, simTs l l = true
  | [] => by simp [simTs]
  | x :: l => by rw [simTs, simT_refl x, simTs_refl l]; rfl
end
mutual
theorem TrIs.ok {K : PySem.W.Frag} {H : Hp} : ∀ {x : V} {t : Tr}, TrIs K H x t → okT t = true
  | _, _, .flat h => by rw [okT]; exact h
  | _, _, .lst _ h => by rw [okT]; exact h.ok
  | _, _, .tup _ h => by rw [okT]; exact h.ok
theorem TrsIs.ok {K : PySem.W.Frag} {H : Hp} : ∀ {xs : List V} {l : List Tr}, TrsIs K H xs l → okTs l = true
  | _, _, .nil => by rw [okTs]
  | _, _, .cons h r => by rw [okTs, h.ok, r.ok]; rfl
end
theorem TrsIs.length {K : PySem.W.Frag} {H : Hp} : ∀ {xs : List V} {l : List Tr}, TrsIs K H xs l → xs.length = l.length
  | _, _, .nil => rfl
  | _, _, .cons _ r => by simp [r.length]
theorem eqTs_len : ∀ {l m : List Tr}, l.length ≠ m.length → eqTs l m = false
  | [], [], h => absurd rfl h
  | [], _ :: _, _ => by rw [eqTs] <;> simp
  | _ :: _, [], _ => by rw [eqTs] <;> simp
  | x :: l, y :: m, h => by
    rw [eqTs, eqTs_len (l := l) (m := m) (fun e => h (by simp [e])), Bool.and_false]
section
variable {X : Cx} {pins : List (Addr × Obj)} {σ : St} {H : Hp} {s : Shared}
mutual
theorem TrIs.inj (I : Inv X pins σ H s) : ∀ {t t' : Tr} {x : V}, TrIs X.K H x t → TrIs X.K H x t' → t = t'
  | .v x, t', _, .flat h, h' => by
    cases h' with
    | flat _ => rfl
    | lst _ _ => cases h
    | tup _ _ => cases h
  | .lst l, t', _, .lst (p := p) (xs := xs) hq hr, h' => by
    cases h' with
    | flat h => cases h
    | lst hq' hr' =>
      have e := I.list_inj hq hq'
      subst e
      rw [TrsIs.inj I hr hr']
    | tup hq' hr' =>
      obtain ⟨_, _, ⟨o, n, e1, c1, _⟩, _⟩ := I.list hq
      obtain ⟨_, _, ⟨o', e2, c2, _⟩, _⟩ := I.tuple hq'
      rw [e1] at e2; cases e2
      rw [c1] at c2; simp at c2
  | .tup l, t', _, .tup (p := p) (xs := xs) hq hr, h' => by
    cases h' with
    | flat h => cases h
    | tup hq' hr' =>
      have e := I.tuple_inj hq hq'
      subst e
      rw [TrsIs.inj I hr hr']
    | lst hq' hr' =>
      obtain ⟨_, _, ⟨o, n, e1, c1, _⟩, _⟩ := I.list hq'
      obtain ⟨_, _, ⟨o', e2, c2, _⟩, _⟩ := I.tuple hq
      rw [e1] at e2; cases e2
      rw [c1] at c2; simp at c2
theorem TrsIs.inj (I : Inv X pins σ H s) : ∀ {l l' : List Tr} {xs : List V}, TrsIs X.K H xs l → TrsIs X.K H xs l' → l = l'
  | [], _, _, .nil, h' => by cases h'; rfl
  | t :: l, _, _, .cons h r, h' => by
    cases h' with
    | cons h2 r2 => rw [TrIs.inj I h h2, TrsIs.inj I r r2]
end
theorem range_all_eq {α : Type} {e : Nat → Bool} {f : α → Bool} : ∀ {l : List α}, (∀ j x, l[j]? = some x → e j = f x) → (List.range l.length).all e = l.all f := by
  intro l h
  rw [Bool.eq_iff_iff]
  simp only [List.all_eq_true, List.mem_range]
  constructor
  · intro q x hx
    obtain ⟨i, hi, hx⟩ := List.mem_iff_getElem.mp hx
    rw [← h i x (by rw [List.getElem?_eq_getElem hi, hx])]
    exact q i hi
  · intro q i hi
    rw [h i l[i] (List.getElem?_eq_getElem hi)]
    exact q _ (List.getElem_mem hi)
theorem eqTs_zip : ∀ {l m : List Tr}, l.length = m.length → eqTs l m = (l.zip m).all fun p => eqT p.1 p.2
  | [], [], _ => by rw [eqTs]; rfl
  | [], _ :: _, h => by simp at h
  | _ :: _, [], h => by simp at h
  | x :: l, y :: m, h => by
    rw [eqTs, eqTs_zip (l := l) (m := m) (by simpa using h)]
    rfl
theorem TrsIs.at {K : PySem.W.Frag} {H : Hp} : ∀ {xs : List V} {l : List Tr} {j : Nat} {t : Tr}, TrsIs K H xs l → l[j]? = some t → ∃ x, xs[j]? = some x ∧ TrIs K H x t
  | _, _, _, _, .nil, h => by simp at h
  | _, _, 0, _, .cons h _, e => by simp at e; subst e; exact ⟨_, rfl, h⟩
  | _, _, j + 1, _, .cons _ r, e => by
    obtain ⟨x, h1, h2⟩ := r.at (j := j) (by simpa using e)
    exact ⟨x, by simpa using h1, h2⟩
theorem simTs_at : ∀ {l m : List Tr} {j : Nat} {t t' : Tr}, simTs l m = true → l[j]? = some t → m[j]? = some t' → simT t t' = true
  | [], _, _, _, _, _, h, _ => by simp at h
  | _ :: _, [], _, _, _, _, _, h => by simp at h
  | x :: l, y :: m, 0, t, t', h, e1, e2 => by
    simp at e1 e2; subst e1 e2
    rw [simTs, Bool.and_eq_true] at h; exact h.1
  | x :: l, y :: m, j + 1, t, t', h, e1, e2 => by
    rw [simTs, Bool.and_eq_true] at h
    exact simTs_at (j := j) h.2 (by simpa using e1) (by simpa using e2)
theorem depTs_at : ∀ {l : List Tr} {j : Nat} {t : Tr}, l[j]? = some t → depT t ≤ depTs l
  | [], _, _, h => by simp at h
  | x :: l, 0, t, h => by simp at h; subst h; rw [depTs]; omega
  | x :: l, j + 1, t, h => by
    have := depTs_at (l := l) (j := j) (t := t) (by simpa using h)
    rw [depTs]; omega
theorem items_eq {A : Around} {l m : List Tr} {xs ys : List V} {its jts : List Value} (hr : TrsIs X.K H xs l) (hr' : TrsIs X.K H ys m) (rv : Vals xs its) (rv' : Vals ys jts)
    (ih : ∀ (j : Nat) (t t' : Tr) (x y : V) (u v : Value), l[j]? = some t → m[j]? = some t' → TrIs X.K H x t → RelV x u → TrIs X.K H y t' → RelV y v → SeqAt.EqAt A.in1 s u v (eqT t t')) :
    ∀ j (h1 : j < its.toArray.size) (h2 : j < jts.toArray.size), SeqAt.EqAt A.in1 s its.toArray[j] jts.toArray[j] (match l[j]?, m[j]? with | some t, some t' => eqT t t' | _, _ => true) := by
  intro j h1 h2
  have l1 := hr.length; have l2 := hr'.length; have l3 := rv.length; have l4 := rv'.length
  rw [List.size_toArray] at h1 h2
  obtain ⟨t, ht⟩ : ∃ t, l[j]? = some t := ⟨l[j]'(by omega), List.getElem?_eq_getElem (by omega)⟩
  obtain ⟨t', ht'⟩ : ∃ t', m[j]? = some t' := ⟨m[j]'(by omega), List.getElem?_eq_getElem (by omega)⟩
  obtain ⟨x, hx, hxt⟩ := hr.at ht
  obtain ⟨y, hy, hyt⟩ := hr'.at ht'
  obtain ⟨u, hu, ru⟩ := rv.get hx
  obtain ⟨v, hv, rw'⟩ := rv'.get hy
  rw [ht, ht']
  have e1 : its.toArray[j] = u := by
    have := List.getElem?_eq_getElem (l := its) (i := j) h1
    rw [hu] at this
    simpa using (Option.some.inj this).symm
  have e2 : jts.toArray[j] = v := by
    have := List.getElem?_eq_getElem (l := jts) (i := j) h2
    rw [hv] at this
    simpa using (Option.some.inj this).symm
  rw [e1, e2]
  exact ih j t t' x y u v ht ht' hxt ru hyt rw'
theorem all_items {l m : List Tr} (h : l.length = m.length) : (List.range l.length).all (fun j => match l[j]?, m[j]? with | some t, some t' => eqT t t' | _, _ => true) = eqTs l m := by
  rw [eqTs_zip h]
  have e : l.length = (l.zip m).length := by rw [List.length_zip]; omega
  rw [e]
  refine range_all_eq fun j p hp => ?_
  obtain ⟨h1, h2⟩ := List.getElem?_zip_eq_some.mp hp
  rw [h1, h2]
theorem RcAt_lists {A : Around} {p q : Addr} {xs ys : List V} {l m : List Tr} (I : Inv X pins σ H s) (hu : A.units < cLine) (hq : SqL X.K H p xs) (hr : TrsIs X.K H xs l) (hq' : SqL X.K H q ys) (hr' : TrsIs X.K H ys m)
    (ih : ∀ (j : Nat) (t t' : Tr) (x y : V) (u v : Value), l[j]? = some t → m[j]? = some t' → TrIs X.K H x t → RelV x u → TrIs X.K H y t' → RelV y v → SeqAt.EqAt A.in1 s u v (eqT t t')) :
    SeqAt.RcAt A s (.ref p) (.ref q) (eqTs l m) ∧ SeqAt.RcNeAt A s (.ref p) (.ref q) (!eqTs l m) := by
  obtain ⟨its, rv, pl, _⟩ := I.list hq
  obtain ⟨jts, rv', pl', _⟩ := I.list hq'
  have l1 := hr.length; have l2 := hr'.length; have l3 := rv.length; have l4 := rv'.length
  by_cases hl : l.length = m.length
  · have e : its.toArray.size = l.length := by rw [List.size_toArray]; omega
    have a := SeqAt.RcAt.lists (A := A) pl.isList pl'.isList (by rw [List.size_toArray, List.size_toArray]; omega) hu (items_eq hr hr' rv rv' ih)
    have b := SeqAt.RcNeAt.lists (A := A) pl.isList pl'.isList (by rw [List.size_toArray, List.size_toArray]; omega) hu (items_eq hr hr' rv rv' ih)
    rw [e, all_items hl] at a b
    exact ⟨a, b⟩
  · rw [eqTs_len hl]
    have hne : (its.toArray.size != jts.toArray.size) = true := by
      rw [List.size_toArray, List.size_toArray]
      simp only [bne_iff_ne, ne_eq]; omega
    exact ⟨SeqAt.RcAt.lists_lengths pl.isList pl'.isList hne hu, SeqAt.RcNeAt.lists_lengths pl.isList pl'.isList hne hu⟩
theorem RcAt_tuples {A : Around} {p q : Addr} {xs ys : List V} {l m : List Tr} (I : Inv X pins σ H s) (hu : A.units < cLine) (hq : SqT X.K H p xs) (hr : TrsIs X.K H xs l) (hq' : SqT X.K H q ys) (hr' : TrsIs X.K H ys m)
    (ih : ∀ (j : Nat) (t t' : Tr) (x y : V) (u v : Value), l[j]? = some t → m[j]? = some t' → TrIs X.K H x t → RelV x u → TrIs X.K H y t' → RelV y v → SeqAt.EqAt A.in1 s u v (eqT t t')) :
    SeqAt.RcAt A s (.ref p) (.ref q) (eqTs l m) ∧ SeqAt.RcNeAt A s (.ref p) (.ref q) (!eqTs l m) := by
  obtain ⟨its, rv, pl, _⟩ := I.tuple hq
  obtain ⟨jts, rv', pl', _⟩ := I.tuple hq'
  have l1 := hr.length; have l2 := hr'.length; have l3 := rv.length; have l4 := rv'.length
  have a := SeqAt.RcAt.tuples (A := A) (show s.heap.IsTuple p its.toArray from pl) (show s.heap.IsTuple q jts.toArray from pl') hu (items_eq hr hr' rv rv' ih)
  have b := SeqAt.RcNeAt.tuples (A := A) (show s.heap.IsTuple p its.toArray from pl) (show s.heap.IsTuple q jts.toArray from pl') hu (items_eq hr hr' rv rv' ih)
  have e : ((List.range (min its.toArray.size jts.toArray.size)).all (fun j => match l[j]?, m[j]? with | some t, some t' => eqT t t' | _, _ => true) && its.toArray.size == jts.toArray.size) = eqTs l m := by
    by_cases hl : l.length = m.length
    · have e1 : min its.toArray.size jts.toArray.size = l.length := by rw [List.size_toArray, List.size_toArray]; omega
      have e2 : (its.toArray.size == jts.toArray.size) = true := by rw [List.size_toArray, List.size_toArray]; simp; omega
      rw [e1, e2, all_items hl, Bool.and_true]
    · have e2 : (its.toArray.size == jts.toArray.size) = false := by rw [List.size_toArray, List.size_toArray]; simp; omega
      rw [e2, eqTs_len hl, Bool.and_false]
  rw [e] at a b
  exact ⟨a, b⟩
theorem eqAt_T (I : Inv X pins σ H s) (n : Nat) : ∀ (A : Around) (t t' : Tr) (x y : V) (u v : Value), depT t ≤ n → A.units + n < cLine → simT t t' = true → TrIs X.K H x t → RelV x u → TrIs X.K H y t' → RelV y v → SeqAt.EqAt A s u v (eqT t t') := by
  induction n with
  | zero =>
    intro A t t' x y u v hd hu hs hx rx hy ry
    cases hx with
    | flat fx =>
      cases hy with
      | flat fy => rw [eqT]; exact eqAt_V rx ry fx fy
      | lst _ _ => simp [simT] at hs
      | tup _ _ => simp [simT] at hs
    | lst _ _ => simp [depT] at hd
    | tup _ _ => simp [depT] at hd
  | succ n ih =>
    intro A t t' x y u v hd hu hs hx rx hy ry
    cases hx with
    | flat fx =>
      cases hy with
      | flat fy => rw [eqT]; exact eqAt_V rx ry fx fy
      | lst _ _ => simp [simT] at hs
      | tup _ _ => simp [simT] at hs
    | @lst p xs l hq hr =>
      cases hy with
      | flat fy => simp [simT] at hs
      | tup _ _ => simp [simT] at hs
      | @lst q ys m hq' hr' =>
        cases rx; cases ry
        rw [depT] at hd
        rw [simT] at hs
        by_cases e : p = q
        · subst e
          have e1 := TrIs.inj I (TrIs.lst hq hr) (TrIs.lst hq' hr')
          rw [← e1, eqT_refl _ (TrIs.lst hq hr).ok]
          exact SeqAt.EqAt.same _
        · rw [eqT]
          refine SeqAt.EqAt.of_refs e (RcAt_lists I (by omega) hq hr hq' hr' fun j t t' x y u v h1 h2 h3 h4 h5 h6 => ?_).1
          exact ih A.in1 t t' x y u v (by have := depTs_at h1; omega) (by show A.units + 1 + n < cLine; omega) (simTs_at hs h1 h2) h3 h4 h5 h6
    | @tup p xs l hq hr =>
      cases hy with
      | flat fy => simp [simT] at hs
      | lst _ _ => simp [simT] at hs
      | @tup q ys m hq' hr' =>
        cases rx; cases ry
        rw [depT] at hd
        rw [simT] at hs
        by_cases e : p = q
        · subst e
          have e1 := TrIs.inj I (TrIs.tup hq hr) (TrIs.tup hq' hr')
          rw [← e1, eqT_refl _ (TrIs.tup hq hr).ok]
          exact SeqAt.EqAt.same _
        · rw [eqT]
          refine SeqAt.EqAt.of_refs e (RcAt_tuples I (by omega) hq hr hq' hr' fun j t t' x y u v h1 h2 h3 h4 h5 h6 => ?_).1
          exact ih A.in1 t t' x y u v (by have := depTs_at h1; omega) (by show A.units + 1 + n < cLine; omega) (simTs_at hs h1 h2) h3 h4 h5 h6
end

section
variable {X : Cx}
noncomputable def rEqX (K : PySem.W.Frag) (neg : Bool) : R2 := fun x y H Q => ∃ t t', TrIs K H x t ∧ TrIs K H y t' ∧ (∃ p, x = .ref p) ∧ (∃ p, y = .ref p) ∧ simT t t' = true ∧ depT t ≤ 60 ∧ Q (.bl (if neg then !eqT t t' else eqT t t')) H
theorem eqX_aux {neg : Bool} (hu : X.A.units + 64 < cLine) : OpR X (compareOp (if neg then .NotEq else .Eq)) (rEqX X.K neg) := by
  intro pins s σ H x y v u Q I rx ry h
  obtain ⟨t, t', hx, hy, ⟨p, rfl⟩, ⟨q, rfl⟩, hs, hd, q'⟩ := h
  cases rx; cases ry
  have done : ∀ l m, SeqAt.RcAt X.A s (.ref p) (.ref q) (eqTs l m) ∧ SeqAt.RcNeAt X.A s (.ref p) (.ref q) (!eqTs l m) → Q (.bl (if neg then !eqTs l m else eqTs l m)) H →
      wpAny (model X.prog X.w) X.A (compareOp (if neg then .NotEq else .Eq) (.ref p) (.ref q)) (EP X pins σ Q) X.xe s := fun l m hb hq => by
    cases neg with
    | false => exact hb.1 X.prog X.w X.xe _ ⟨.bl _, H, I, rfl, hq⟩
    | true => exact hb.2 X.prog X.w X.xe _ ⟨.bl _, H, I, rfl, hq⟩
  cases hx with
  | flat fx => cases fx
  | @lst _ xs l hq hr =>
    cases hy with
    | flat fy => cases fy
    | tup _ _ => simp [simT] at hs
    | @lst _ ys m hq' hr' =>
      rw [depT] at hd
      rw [simT] at hs
      rw [eqT] at q'
      refine done l m (RcAt_lists I (by omega) hq hr hq' hr' fun j t t' x y u v h1 h2 h3 h4 h5 h6 => ?_) q'
      exact eqAt_T I 60 X.A.in1 t t' x y u v (by have := depTs_at h1; omega) (by show X.A.units + 1 + 60 < cLine; omega) (simTs_at hs h1 h2) h3 h4 h5 h6
  | @tup _ xs l hq hr =>
    cases hy with
    | flat fy => cases fy
    | lst _ _ => simp [simT] at hs
    | @tup _ ys m hq' hr' =>
      rw [depT] at hd
      rw [simT] at hs
      rw [eqT] at q'
      refine done l m (RcAt_tuples I (by omega) hq hr hq' hr' fun j t t' x y u v h1 h2 h3 h4 h5 h6 => ?_) q'
      exact eqAt_T I 60 X.A.in1 t t' x y u v (by have := depTs_at h1; omega) (by show X.A.units + 1 + 60 < cLine; omega) (simTs_at hs h1 h2) h3 h4 h5 h6
theorem op_eqS (hu : X.A.units + 64 < cLine) : OpR X (compareOp .Eq) (rEqX X.K false) := eqX_aux (neg := false) hu
theorem op_neS (hu : X.A.units + 64 < cLine) : OpR X (compareOp .NotEq) (rEqX X.K true) := eqX_aux (neg := true) hu
theorem hu64 {A : Around} {k : Nat} (hr : Room k A) : A.units + 64 < cLine := by have := hr.un; omega
end
end L2

set_option Elab.async false
set_option linter.all false
set_option maxRecDepth 100000
set_option maxHeartbeats 4000000
namespace L2
open PySem PySem.Spec PyProof.Rows

section
variable {X : Cx}
end

end L2

set_option Elab.async false
set_option linter.all false
set_option maxRecDepth 100000
set_option maxHeartbeats 4000000
namespace L2
open PySem PySem.Spec PyProof.Rows

noncomputable abbrev abc : Str := "abcdefghijklmnopqrstuvwxyz"
theorem cds_abc : cds abc = (List.range 26).map (97 + ·) := by decide +kernel
noncomputable def letC (x : Int) : Nat := 97 + (x % 26).toNat
theorem abc_at (x : Int) : atI (cds abc) (x % 26) = some (letC x) := by
  have h0 := Int.emod_nonneg x (show (26 : Int) ≠ 0 by decide)
  have h1 := Int.emod_lt_of_pos x (show (0 : Int) < 26 by decide)
  have e : x % 26 = (((x % 26).toNat : Nat) : Int) := by omega
  rw [e]
  refine atI_nat ?_
  rw [cds_abc, List.getElem?_map, List.getElem?_range (by omega)]
  rfl
theorem abc_len : abc.length ≤ sizeLine := szl (by decide +kernel)
noncomputable def resv : List (List Nat) := [cds "for", cds "end", cds "size"]
theorem in_resv (z : List Nat) : inV (.str (sOf z)) [.str "for", .str "end", .str "size"] = decide (z ∈ resv) := by
  have key : ∀ y : Str, eqV (.str y) (.str (sOf z)) = decide (z = cds y) := fun y => by
    show (y == sOf z) = _
    rw [Bool.eq_iff_iff]
    simp only [beq_iff_eq, decide_eq_true_eq]
    exact ⟨fun e => by rw [e, cds_sOf], fun e => by rw [e, sOf_cds]⟩
  unfold inV resv
  simp only [List.any_cons, List.any_nil, key, Bool.or_false]
  rw [Bool.eq_iff_iff]
  simp
theorem cut_to {α : Type} (l : List α) {k : Int} (h : 0 ≤ k) : cutC l none (some k) = l.take k.toNat := by
  unfold cutC
  have e : k = ((k.toNat : Nat) : Int) := by omega
  rw [HT.sIx_none, e, HT.sIx_nat, List.drop_zero, Nat.sub_zero]
  rw [show (((k.toNat : Nat) : Int)).toNat = k.toNat by omega]
  by_cases h : k.toNat ≤ l.length
  · rw [Nat.min_eq_left h]
  · rw [Nat.min_eq_right (by omega), List.take_of_length_le (by omega), List.take_of_length_le (by omega)]
theorem cut_from {α : Type} (l : List α) {i : Int} (hi : 0 ≤ i) : cutC l (some i) none = l.drop i.toNat := by
  unfold cutC
  have e1 : i = ((i.toNat : Nat) : Int) := by omega
  rw [e1, HT.sIx_nat, HT.sIx_none, show (((i.toNat : Nat) : Int)).toNat = i.toNat by omega]
  by_cases h : i.toNat ≤ l.length
  · rw [Nat.min_eq_left h, List.take_of_length_le (by rw [List.length_drop]; omega)]
  · rw [Nat.min_eq_right (by omega), Nat.sub_self, List.take_zero, List.drop_eq_nil_of_le (by omega)]
end L2
namespace L2
open PySem
end L2
namespace L2
open PySem
end L2
namespace L2
open PySem
end L2

set_option Elab.async false
set_option linter.all false
set_option maxRecDepth 100000
set_option maxHeartbeats 4000000
namespace L2
open PySem PySem.Spec PyProof.Rows

end L2

set_option Elab.async false
set_option linter.all false
set_option maxRecDepth 100000
set_option maxHeartbeats 4000000
namespace L2
open PySem PySem.Spec PyProof.Rows
noncomputable def spDInit (C : Addr) : Sp := fun vs H Q _ => ∃ (x dx : Addr) (v1 v2 v3 v4 v5 v6 v7 : V), vs = [.ref x, v1, v2, v3, v4, v5, v6, v7] ∧ H x = some (.ins C dx []) ∧ ∀ H', (∀ b o, H b = some o → b ≠ x → H' b = some o) → (∃ dx, H' x = some (.ins C dx [("names", v1), ("lows", v2), ("highs", v3), ("table", v4), ("spots", v5), ("term", v6), ("path", v7)])) → Q .non H'
noncomputable def spAlikeN : Sp := fun vs H Q _ => ∃ (p1 p2 : Addr) (xs ys : List Int) (m k : Nat), vs = [.ref p1, .ref p2, .int (m : Int)] ∧ H p1 = some (.tup (xs.map V.int)) ∧ H p2 = some (.tup (ys.map V.int)) ∧ m ≤ xs.length ∧ m ≤ ys.length ∧ m ≤ 1000 ∧ k ≤ m ∧ (∀ e < k, xs.getD e 0 = ys.getD e 0) ∧ (k < m → xs.getD k 0 ≠ ys.getD k 0) ∧ Q (.int (k : Int)) H
theorem cutV_neg (l m : List V) (hm : 0 < m.length) {n : Int} (hn : n = -(m.length : Int)) : cutV (l ++ m) none (some n) = l := by
  unfold cutV
  have hl : (l ++ m).length = l.length + m.length := List.length_append
  have e1 : HT.sIx (l ++ m).length 0 none = 0 := rfl
  have e2 : HT.sIx (l ++ m).length (l ++ m).length (some n) = l.length := by
    show (if n < 0 then (n + ((l ++ m).length : Int)).toNat else min n.toNat (l ++ m).length) = l.length
    rw [hl, if_pos (by omega)]
    omega
  rw [e1, e2, List.drop_zero, Nat.sub_zero, List.take_left']
  rfl
theorem snoc_of {α : Type} {l : List α} {n : Nat} (h : l.length = n + 1) : ∃ p x, l = p ++ [x] ∧ p.length = n := by
  have hne : l ≠ [] := fun e => by rw [e] at h; cases h
  exact ⟨l.dropLast, l.getLast hne, (List.dropLast_concat_getLast hne).symm, by rw [List.length_dropLast]; omega⟩
theorem made_same {H H2 : Hp} {x dx C : Addr} (hx : H x = none) (hdx : H dx = none) (k : ∀ b o, (upd (upd H dx (.own x)) x (.ins C dx [])) b = some o → b ≠ x → H2 b = some o) : Same H H2 := fun b o e => by
  have n1 := ne_of_none e hx
  have n2 := ne_of_none e hdx
  exact k b o (by rw [upd_ne n1, upd_ne n2]; exact e) n1
end L2

set_option Elab.async false
set_option linter.all false
set_option maxRecDepth 100000
set_option maxHeartbeats 4000000
namespace L2
open PySem PySem.Spec PyProof.Rows
section
variable {X : Cx} {pins : List (Addr × Obj)} {σ : St} {H : Hp} {s : Shared} {h' : Heap}
theorem Inv.turnedL {t' : Nat} {ch : List Addr} (I : Inv X pins σ H s) (k : ∀ b o, b ∉ ch → s.heap.get? b = some o → h'.get? b = some o) (hf : ∀ b ∈ ch, FpOk X pins H b) : Inv X pins σ H { s with heap := h', toks := t' } := by
  have nit : ∀ b u, H b = some u → b ∉ ch := fun b u e z => by rw [(hf b z).1] at e; cases e
  have hL : X.env.locals ∉ ch := fun z => (hf _ z).2.1 rfl
  refine I.step (g' := s.gens) (d' := s.drawn) (ch := ch) (fun b hb => ?_) (fun b o _ _ hc e _ => k b o hc e) (fun b o _ _ hc e _ => ⟨o.slots, k b o hc e⟩) (fun _ _ _ _ n => n)
    (fun b o hc e => ⟨o, k b o hc e⟩) (fun _ _ e => e) (fun _ _ _ e => e) (fun b ps e => ⟨#[], by rw [e]; simp⟩) (fun m hm => ?_) (fun b u e => ?_) I.bare
  · obtain ⟨f0, f1, f2, f3, f4, f5⟩ := hf b hb
    exact ⟨f3, f1, f4, f5⟩
  · obtain ⟨o, es, ep, ho, r⟩ := hm
    exact ⟨o, es, ep, k _ o hL ho, r⟩
  · refine (I.hok b u e).stay (fun c v hc q => k c v ?_ q) (fun _ q => q) fun _ _ q => q
    rcases hc with z | z
    · rw [z]; exact nit b u e
    · exact nit c _ z
end
noncomputable def Ite (K : PySem.W.Frag) (a : Addr) : It :=
  ⟨fun i H => ∃ xs x, SqL K H a xs ∧ xs[i]? = some x, fun i H v H' => ∃ x T, (∀ xs, SqL K H a xs → xs[i]? = some x) ∧ H T = none ∧ v = .ref T ∧ H' = upd H T (.tup [.int i, x]), fun i H => ∃ xs, SqL K H a xs ∧ xs.length ≤ i⟩
theorem turn_enum {P : Program} {w : World} {K : PySem.W.Frag} {elts : List Expr} {x1 : Nat} {pos : Pos} (a e it : Addr) (hei : e ≠ it) : Turn P w K (.Tuple elts x1 pos) (Ite K a) [e, it] e (fun i h => (∃ old, IsEnum h e it i old) ∧ h.IsListIter it a i) where
  mem := by simp
  obj := fun i h st b hb => by
    obtain ⟨⟨old, he⟩, hit⟩ := st
    rcases List.mem_cons.mp hb with rfl | hb
    · exact ⟨_, he, fun v z => by cases z⟩
    · have e : b = it := by simpa using hb
      subst e
      obtain ⟨o, e, c, d⟩ := hit
      exact ⟨o, e, fun v z => by rw [d] at z; cases z⟩
  keep := fun i h h' st k => by
    obtain ⟨⟨old, he⟩, hit⟩ := st
    exact ⟨⟨old, k e (by simp) _ he⟩, hit.at fun o e => k it (by simp) o e⟩
  item := by
    intro X hP hw hK hc i pins s σ H E I hf st hg
    subst hP hw hK
    obtain ⟨xs, x, hq, hx⟩ := hg
    obtain ⟨its, rv, p, hz⟩ := I.list hq
    obtain ⟨u, hu, ru⟩ := rv.get hx
    obtain ⟨⟨old, he⟩, hit⟩ := st
    refine wpAny_pyNext_enum_item he hit p.isList (x := u) (by simpa using hu) hei fun h1 ho hit' hT hsz hk => ⟨_, rfl, ?_⟩
    refine wpAny_letOwnedTupleGo_enum ho fun h2 he2 hs2 => ?_
    have hTn : H s.heap.objs.size = none := I.hok.fresh (Nat.le_refl _)
    have helt : e < s.heap.objs.size := Heap.lt_size he
    have hilt : it < s.heap.objs.size := by obtain ⟨_, x, _⟩ := hit; exact Heap.lt_size x
    have I1 : Inv X pins σ (upd H s.heap.objs.size (.tup [.int i, x])) { s with heap := s.heap.push { cls := .type "tuple", data := .seq #[.int i s.toks, u] }, toks := s.toks + 1 } := I.laid (t' := s.toks + 1) (o := .tup [.int i, x]) (fun b o e => Heap.get?_push_of_some _ e) (Nat.le_refl _) ⟨szl (by show 2 ≤ 1000000; decide), [.int i s.toks, u], .cons ⟨_, rfl⟩ (.cons ru .nil), IsTupN.new _ _⟩
    have I2 : Inv X pins σ (upd H s.heap.objs.size (.tup [.int i, x])) { s with heap := h2, toks := s.toks + 1 } := by
      refine Inv.turnedL (s := { s with heap := s.heap.push { cls := .type "tuple", data := .seq #[.int i s.toks, u] }, toks := s.toks + 1 }) (h' := h2) (ch := [e, it]) (t' := s.toks + 1) I1 (fun b o hb q => ?_) (fun b hb => ?_)
      · have nbe : b ≠ e := fun z => hb (by simp [z])
        have nbi : b ≠ it := fun z => hb (by simp [z])
        show h2.get? b = some o
        rw [hs2.2 b nbe]
        rcases Heap.get?_push_cases q with ⟨rfl, rfl⟩ | q
        · exact hT
        · exact hk b o nbe nbi q
      · obtain ⟨f0, f1, f2, f3, f4, f5⟩ := hf b hb
        have nb : b ≠ s.heap.objs.size := by
          rcases List.mem_cons.mp hb with rfl | hb
          · exact Nat.ne_of_lt helt
          · have : b = it := by simpa using hb
            subst this
            exact Nat.ne_of_lt hilt
        exact ⟨by rw [upd_ne nb]; exact f0, f1, f2, f3, f4, f5⟩
    refine ⟨.ref s.heap.objs.size, _, I2, rfl, ⟨x, _, fun ys hy => by rw [I.list_inj hy hq]; exact hx, hTn, rfl, rfl⟩, ⟨⟨_, by simpa using he2⟩, hit'.at fun o y => (hs2.2 it hei.symm).trans y⟩, fun b hb => ?_⟩
    obtain ⟨f0, f1, f2, f3, f4, f5⟩ := hf b hb
    have nb : b ≠ s.heap.objs.size := by
      rcases List.mem_cons.mp hb with rfl | hb
      · exact Nat.ne_of_lt helt
      · have : b = it := by simpa using hb
        subst this
        exact Nat.ne_of_lt hilt
    rw [upd_ne nb]
    exact f0
  done := by
    intro X hP hw hK hc i pins s σ H E I hf st hg
    subst hP hw hK
    obtain ⟨xs, hq, hx⟩ := hg
    obtain ⟨its, rv, p, hz⟩ := I.list hq
    obtain ⟨⟨old, he⟩, hit⟩ := st
    have hl := rv.length
    refine wpAny_pyNext_enum_end (I.ok.hd hc) he hit p.isList (by simp; omega) fun h' eb => ⟨rfl, ?_⟩
    exact I.turnedL (ch := [e, it]) (t' := s.toks) (fun b o hb q => eb b o (fun z => hb (by simp [z])) q) hf
  self := fun _ _ _ _ _ st h => by
    obtain ⟨⟨old, he⟩, _⟩ := st
    exact wpAny_pyIter_enum he h
noncomputable def iEnum (K : PySem.W.Frag) (ta : TA) : TI := fun σ H R => ta σ H fun vs H1 => ∃ a : Addr, vs = [.ref a] ∧ (∃ xs, SqL K H1 a xs) ∧ R (Ite K a) H1
theorem pi_enum {X : Cx} {a : Expr} {ta : TA} {p pos : Pos} {elts : List Expr} {x1 : Nat} {pos2 : Pos} (hg : Gl X "enumerate") (hm : X.mg "enumerate" = none) (ha : PA X [a] ta) (hs : starEach [a] X.env = [(false, eval a X.env)] := by rfl) : PI X (.Tuple elts x1 pos2) (.Call (.Name "enumerate" p) [a] [] pos) (iEnum X.K ta) := by
  intro pins s σ H R I h
  refine Call_ (ld_blt I hg hm boot_enumerate (PyProof.Rows.callWith_type1 (thn (ha pos pins s σ H _ I h) fun us s1 ⟨vs, H1, I1, r1, q1⟩ => ?_) hs rfl))
  obtain ⟨l, rfl, ⟨xs, hq⟩, q⟩ := q1
  cases r1 with
  | cons r rr =>
    cases rr
    cases r
    obtain ⟨its, rv, pl, hz⟩ := I1.list hq
    refine call_enumerate_list pl.isList fun h' he hit hsz hk => ?_
    refine wpAny_pyIter_enum he ?_
    refine ⟨_, [s1.heap.objs.size + 1, s1.heap.objs.size], _, _, H1, rfl, I1.kept (t' := s1.toks) hk, turn_enum l _ _ (Nat.ne_of_gt (Nat.lt_succ_self _)), ⟨⟨_, he⟩, hit⟩, fun b hb => ?_, q⟩
    rcases List.mem_cons.mp hb with rfl | hb
    · exact I1.fpOk (Nat.le_succ _) (I1.hok.fresh (Nat.le_succ _))
    · have e : b = s1.heap.objs.size := by simpa using hb
      subst e
      exact I1.fpOk (Nat.le_refl _) (I1.hok.fresh (Nat.le_refl _))
theorem for_enum {K : PySem.W.Frag} {a : Addr} {xs : List V} {g : TG} {tb : TS} {D : Ends} {σ : St} {H : Hp} (Pv : Nat → St → Hp → Prop) (h0 : Pv 0 σ H) (hl : ∀ i σ H, i ≤ xs.length → Pv i σ H → SqL K H a xs)
    (hs : ∀ i x T σ H, xs[i]? = some x → Pv i σ H → H T = none → g (.ref T) σ (upd H T (.tup [.int i, x])) fun σ2 H2 => tb { D with nx := Pv (i + 1), ct := Pv (i + 1), bk := D.nx } σ2 H2) (hd : ∀ σ H, Pv xs.length σ H → D.nx σ H) :
    ∃ W : Nat → Nat → St → Hp → Prop, (∃ m, W 0 m σ H) ∧ ∀ i m σ H, W i m σ H →
      ((Ite K a).stop i H ∧ D.nx σ H) ∨ ((Ite K a).go i H ∧ ∃ N : St → Hp → Prop, (∀ σ' H', N σ' H' → ∃ m', m' < m ∧ W (i + 1) m' σ' H') ∧ ∀ x H', (Ite K a).yld i H x H' → g x σ H' fun σ2 H2 => tb { D with nx := N, ct := N, bk := D.nx } σ2 H2) := by
  refine ⟨fun i m σ H => m = xs.length - i ∧ i ≤ xs.length ∧ Pv i σ H, ⟨xs.length, by simp, Nat.zero_le _, h0⟩, ?_⟩
  rintro i m σ H ⟨rfl, hi, p⟩
  have q := hl i σ H hi p
  by_cases hlt : i < xs.length
  · refine .inr ⟨⟨xs, xs[i], q, List.getElem?_eq_getElem hlt⟩, Pv (i + 1), fun σ' H' p' => ⟨xs.length - (i + 1), by omega, rfl, hlt, p'⟩, fun v H' y => ?_⟩
    obtain ⟨x, T, hx, hT, rfl, rfl⟩ := y
    exact hs i x T σ H (hx xs q) p hT
  · have e : i = xs.length := by omega
    subst e
    exact .inl ⟨⟨xs, q, Nat.le_refl _⟩, hd σ H p⟩
noncomputable def Itz (K : PySem.W.Frag) (a b : Addr) : It :=
  ⟨fun i H => ∃ xs ys x y, SqL K H a xs ∧ SqL K H b ys ∧ xs[i]? = some x ∧ ys[i]? = some y, fun i H v H' => ∃ x y T, (∀ xs, SqL K H a xs → xs[i]? = some x) ∧ (∀ ys, SqL K H b ys → ys[i]? = some y) ∧ H T = none ∧ v = .ref T ∧ H' = upd H T (.tup [x, y]),
    fun i H => ∃ xs ys, SqL K H a xs ∧ SqL K H b ys ∧ (xs.length ≤ i ∨ ys.length ≤ i)⟩
theorem turn_zip {P : Program} {w : World} {K : PySem.W.Frag} {elts : List Expr} {x1 : Nat} {pos : Pos} (a b z TI TO i1 i2 : Addr) (D : ZipApart z TI TO i1 i2 a b) :
    Turn P w K (.Tuple elts x1 pos) (Itz K a b) [z, TI, TO, i1, i2] z (fun i h => IsZip h z TI TO .none ∧ IsPair h TI (.ref i1) (.ref i2) ∧ (∃ p q, IsPair h TO p q) ∧ h.IsListIter i1 a i ∧ h.IsListIter i2 b i) where
  mem := by simp
  obj := fun i h st c hc => by
    obtain ⟨hz, hTI, ⟨p, q, hTO⟩, h1, h2⟩ := st
    simp only [List.mem_cons, List.not_mem_nil, or_false] at hc
    rcases hc with rfl | rfl | rfl | rfl | rfl
    · exact ⟨_, hz, fun v z => by cases z⟩
    · exact ⟨_, hTI, fun v z => by cases z⟩
    · exact ⟨_, hTO, fun v z => by cases z⟩
    · obtain ⟨o, e, c, d⟩ := h1
      exact ⟨o, e, fun v z => by rw [d] at z; cases z⟩
    · obtain ⟨o, e, c, d⟩ := h2
      exact ⟨o, e, fun v z => by rw [d] at z; cases z⟩
  keep := fun i h h' st k => by
    obtain ⟨hz, hTI, ⟨p, q, hTO⟩, h1, h2⟩ := st
    exact ⟨k z (by simp) _ hz, k TI (by simp) _ hTI, ⟨p, q, k TO (by simp) _ hTO⟩, h1.at fun o e => k i1 (by simp) o e, h2.at fun o e => k i2 (by simp) o e⟩
  item := by
    intro X hP hw hK hc i pins s σ H E I hf st hg
    subst hP hw hK
    obtain ⟨xs, ys, x, y, hq1, hq2, hx, hy⟩ := hg
    obtain ⟨its1, rv1, p1, _⟩ := I.list hq1
    obtain ⟨its2, rv2, p2, _⟩ := I.list hq2
    obtain ⟨u, hu, ru⟩ := rv1.get hx
    obtain ⟨v, hv, rv⟩ := rv2.get hy
    obtain ⟨hz, hTI, ⟨pa, qa, hTO⟩, h1, h2⟩ := st
    refine wpAny_pyNext_zip_item D hz hTI hTO h1 h2 p1.isList p2.isList (x := u) (y := v) (by simpa using hu) (by simpa using hv) fun hh hz' hTO' h1' h2' hT hsz hk => ⟨_, rfl, ?_⟩
    refine wpAny_letOwnedTupleGo_zip hz' fun h3 hz3 hs3 => ?_
    have hTn : H s.heap.objs.size = none := I.hok.fresh (Nat.le_refl _)
    have lts : ∀ c ∈ [z, TI, TO, i1, i2], c < s.heap.objs.size := fun c hc => by
      simp only [List.mem_cons, List.not_mem_nil, or_false] at hc
      rcases hc with rfl | rfl | rfl | rfl | rfl
      · exact Heap.lt_size hz
      · exact Heap.lt_size hTI
      · exact Heap.lt_size hTO
      · obtain ⟨_, e, _⟩ := h1; exact Heap.lt_size e
      · obtain ⟨_, e, _⟩ := h2; exact Heap.lt_size e
    have I1 : Inv X pins σ (upd H s.heap.objs.size (.tup [x, y])) { s with heap := s.heap.push { cls := .type "tuple", data := .seq #[u, v] } } := I.laid (t' := s.toks) (o := .tup [x, y]) (fun b o e => Heap.get?_push_of_some _ e) (Nat.le_refl _) ⟨szl (by show 2 ≤ 1000000; decide), [u, v], .cons ru (.cons rv .nil), IsTupN.new _ _⟩
    have I2 : Inv X pins σ (upd H s.heap.objs.size (.tup [x, y])) { s with heap := h3 } := by
      refine Inv.turnedL (s := { s with heap := s.heap.push { cls := .type "tuple", data := .seq #[u, v] } }) (h' := h3) (ch := [z, TI, TO, i1, i2]) (t' := s.toks) I1 (fun b o hb q => ?_) (fun b hb => ?_)
      · simp only [List.mem_cons, List.not_mem_nil, or_false, not_or] at hb
        obtain ⟨n1, n2, n3, n4, n5⟩ := hb
        show h3.get? b = some o
        rw [hs3.2 b n1]
        rcases Heap.get?_push_cases q with ⟨rfl, rfl⟩ | q
        · exact hT
        · exact hk b o n1 n3 n4 n5 q
      · obtain ⟨f0, f1, f2, f3, f4, f5⟩ := hf b hb
        exact ⟨by rw [upd_ne (Nat.ne_of_lt (lts b hb))]; exact f0, f1, f2, f3, f4, f5⟩
    have k3 : ∀ c, c ≠ z → ∀ o, hh.get? c = some o → h3.get? c = some o := fun c hc o e => (hs3.2 c hc).trans e
    refine ⟨.ref s.heap.objs.size, _, I2, rfl, ⟨x, y, _, fun zs hy => by rw [I.list_inj hy hq1]; exact hx, fun zs hy' => by rw [I.list_inj hy' hq2]; exact hy, hTn, rfl, rfl⟩, ⟨hz3, k3 TI D.TIz _ (hk TI _ D.TIz D.TITO D.TIi1 D.TIi2 hTI), ⟨u, v, k3 TO D.TOz _ hTO'⟩, h1'.at (k3 i1 D.i1z), h2'.at (k3 i2 D.i2z)⟩, fun b hb => ?_⟩
    rw [upd_ne (Nat.ne_of_lt (lts b hb))]
    exact (hf b hb).1
  done := by
    intro X hP hw hK hc i pins s σ H E I hf st hg
    subst hP hw hK
    obtain ⟨xs, ys, hq1, hq2, hl⟩ := hg
    obtain ⟨its1, rv1, p1, _⟩ := I.list hq1
    obtain ⟨its2, rv2, p2, _⟩ := I.list hq2
    obtain ⟨hz, hTI, ⟨pa, qa, hTO⟩, h1, h2⟩ := st
    have hl1 := rv1.length
    have hl2 := rv2.length
    refine wpAny_pyNext_zip_end (I.ok.hd hc) D hz hTI hTO h1 h2 p1.isList p2.isList (hl.imp (fun z => by simp; omega) (fun z => by simp; omega)) fun h' hk => ⟨rfl, ?_⟩
    refine I.turnedL (ch := [z, TI, TO, i1, i2]) (t' := s.toks) (fun b o hb q => ?_) hf
    simp only [List.mem_cons, List.not_mem_nil, or_false, not_or] at hb
    obtain ⟨n1, n2, n3, n4, n5⟩ := hb
    exact hk b o n1 n3 n4 n5 q
  self := fun _ _ _ _ _ st h => by
    obtain ⟨hz, _⟩ := st
    exact wpAny_pyIter_zip hz h
noncomputable def iZip (K : PySem.W.Frag) (ta : TA) : TI := fun σ H R => ta σ H fun vs H1 => ∃ a b : Addr, vs = [.ref a, .ref b] ∧ (∃ xs, SqL K H1 a xs) ∧ (∃ ys, SqL K H1 b ys) ∧ R (Itz K a b) H1
theorem pi_zip2 {X : Cx} {a b : Expr} {ta : TA} {p pos : Pos} {elts : List Expr} {x1 : Nat} {pos2 : Pos} (hg : Gl X "zip") (hm : X.mg "zip" = none) (ha : PA X [a, b] ta) (hs : starEach [a, b] X.env = [(false, eval a X.env), (false, eval b X.env)] := by rfl) (hs2 : starEach [b] X.env = [(false, eval b X.env)] := by rfl) :
    PI X (.Tuple elts x1 pos2) (.Call (.Name "zip" p) [a, b] [] pos) (iZip X.K ta) := by
  intro pins s σ H R I h
  refine Call_ (ld_blt I hg hm boot_zip (PyProof.Rows.callWith_type1 (thn (ha pos pins s σ H _ I h) fun us s1 ⟨vs, H1, I1, r1, q1⟩ => ?_) (by rw [hs, hs2]) (by rw [hs2]; rfl)))
  obtain ⟨l1, l2, rfl, ⟨xs, hq1⟩, ⟨ys, hq2⟩, q⟩ := q1
  cases r1 with
  | cons r rr =>
    cases rr with
    | cons r' rr =>
      cases rr
      cases r
      cases r'
      obtain ⟨its1, rv1, p1, _⟩ := I1.list hq1
      obtain ⟨its2, rv2, p2, _⟩ := I1.list hq2
      have lt1 : l1 < s1.heap.objs.size := by obtain ⟨_, e, _⟩ := p1.isList; exact Heap.lt_size e
      have lt2 : l2 < s1.heap.objs.size := by obtain ⟨_, e, _⟩ := p2.isList; exact Heap.lt_size e
      refine call_zip_2 p1.isList p2.isList fun h' hz hTI hTO h1 h2 hsz hk => ?_
      refine wpAny_pyIter_zip hz ?_
      have ne : ∀ {m n : Nat}, m < n → (m : Nat) ≠ n := fun h => Nat.ne_of_lt h
      refine ⟨_, [s1.heap.objs.size + 4, s1.heap.objs.size + 2, s1.heap.objs.size + 3, s1.heap.objs.size, s1.heap.objs.size + 1], _, _, H1, rfl, I1.kept (t' := s1.toks) hk, turn_zip l1 l2 _ _ _ _ _ ⟨?_, ?_, ?_, ?_, ?_, ?_, ?_, ?_, ?_, ?_, ?_, ?_, ?_, ?_, ?_, ?_, ?_, ?_⟩, ⟨hz, hTI, ⟨_, _, hTO⟩, h1, h2⟩, fun b hb => ?_, q⟩
      case refine_19 =>
        simp only [List.mem_cons, List.not_mem_nil, or_false] at hb
        have hb' : s1.heap.objs.size ≤ b := by
          rcases hb with rfl | rfl | rfl | rfl | rfl
          · exact Nat.le_add_right _ 4
          · exact Nat.le_add_right _ 2
          · exact Nat.le_add_right _ 3
          · exact Nat.le_refl _
          · exact Nat.le_add_right _ 1
        exact I1.fpOk hb' (I1.hok.fresh hb')
      all_goals first
        | exact Nat.ne_of_lt lt1
        | exact Nat.ne_of_lt lt2
        | exact Nat.ne_of_lt (Nat.lt_of_lt_of_le lt1 (Nat.le_add_right _ _))
        | exact Nat.ne_of_lt (Nat.lt_of_lt_of_le lt2 (Nat.le_add_right _ _))
        | (show (_ : Nat) ≠ _; omega)
theorem for_zip {K : PySem.W.Frag} {a b : Addr} {xs ys : List V} {g : TG} {tb : TS} {D : Ends} {σ : St} {H : Hp} (hlen : xs.length = ys.length) (Pv : Nat → St → Hp → Prop) (h0 : Pv 0 σ H) (hl : ∀ i σ H, i ≤ xs.length → Pv i σ H → SqL K H a xs ∧ SqL K H b ys)
    (hs : ∀ i x y T σ H, xs[i]? = some x → ys[i]? = some y → Pv i σ H → H T = none → g (.ref T) σ (upd H T (.tup [x, y])) fun σ2 H2 => tb { D with nx := Pv (i + 1), ct := Pv (i + 1), bk := D.nx } σ2 H2) (hd : ∀ σ H, Pv xs.length σ H → D.nx σ H) :
    ∃ W : Nat → Nat → St → Hp → Prop, (∃ m, W 0 m σ H) ∧ ∀ i m σ H, W i m σ H →
      ((Itz K a b).stop i H ∧ D.nx σ H) ∨ ((Itz K a b).go i H ∧ ∃ N : St → Hp → Prop, (∀ σ' H', N σ' H' → ∃ m', m' < m ∧ W (i + 1) m' σ' H') ∧ ∀ x H', (Itz K a b).yld i H x H' → g x σ H' fun σ2 H2 => tb { D with nx := N, ct := N, bk := D.nx } σ2 H2) := by
  refine ⟨fun i m σ H => m = xs.length - i ∧ i ≤ xs.length ∧ Pv i σ H, ⟨xs.length, by simp, Nat.zero_le _, h0⟩, ?_⟩
  rintro i m σ H ⟨rfl, hi, p⟩
  obtain ⟨q1, q2⟩ := hl i σ H hi p
  by_cases hlt : i < xs.length
  · refine .inr ⟨⟨xs, ys, xs[i], ys[i], q1, q2, List.getElem?_eq_getElem hlt, List.getElem?_eq_getElem (by omega)⟩, Pv (i + 1), fun σ' H' p' => ⟨xs.length - (i + 1), by omega, rfl, hlt, p'⟩, fun v H' yy => ?_⟩
    obtain ⟨x, y, T, hx, hy, hT, rfl, rfl⟩ := yy
    exact hs i x y T σ H (hx xs q1) (hy ys q2) p hT
  · have e : i = xs.length := by omega
    subst e
    exact .inl ⟨⟨xs, ys, q1, q2, .inl (Nat.le_refl _)⟩, hd σ H p⟩
theorem pe_alt {X : Cx} {e : Expr} {t u : TE} (h1 : PE X e t) (h2 : PE X e u) : PE X e (fun σ H Q => t σ H Q ∨ u σ H Q) := by
  intro pins s σ H Q I h
  exact h.elim (h1 pins s σ H Q I) (h2 pins s σ H Q I)
end L2

set_option Elab.async false
set_option linter.all false
set_option maxRecDepth 100000
set_option maxHeartbeats 4000000
namespace Bd
end Bd
namespace L2
open PySem PySem.Spec PyProof.Rows Bd
section
variable {es : List Expr} {env : Env} {p : Pos}
theorem star_C {c : Const} {n : Nat} : starEach (.Constant c n p :: es) env = (false, eval (.Constant c n p) env) :: starEach es env := rfl
theorem star_N {x : Str} : starEach (.Name x p :: es) env = (false, eval (.Name x p) env) :: starEach es env := rfl
theorem star_B {a b : Expr} {o : Operator} : starEach (.BinOp a o b p :: es) env = (false, eval (.BinOp a o b p) env) :: starEach es env := rfl
theorem star_K {f : Expr} {as : List Expr} {ks : List Keyword} : starEach (.Call f as ks p :: es) env = (false, eval (.Call f as ks p) env) :: starEach es env := rfl
theorem star_S {a b : Expr} : starEach (.Subscript a b p :: es) env = (false, eval (.Subscript a b p) env) :: starEach es env := rfl
theorem star_T {as : List Expr} {n : Nat} : starEach (.Tuple as n p :: es) env = (false, eval (.Tuple as n p) env) :: starEach es env := rfl
theorem star_U {o : UnaryOp} {a : Expr} : starEach (.UnaryOp o a p :: es) env = (false, eval (.UnaryOp o a p) env) :: starEach es env := rfl
theorem star_A {a : Expr} {x : Str} : starEach (.Attribute a x p :: es) env = (false, eval (.Attribute a x p) env) :: starEach es env := rfl
end
@[irreducible] def PAq (X : Cx) (es : List Expr) (t : TA) : Prop := PA X es t
section
variable {X : Cx} {e : Expr} {es : List Expr} {te : TE} {t : TA} {pos : Pos}
theorem paq_nil : PAq X [] tNil := by unfold PAq; exact pa_nil
theorem paq_cons (ha : PE X e te) (hr : PAq X es t) (hs : starEach (e :: es) X.env = (false, eval e X.env) :: starEach es X.env) : PAq X (e :: es) (tCons te t) := by unfold PAq at *; exact pa_cons ha hr hs
theorem pe_lstq (h : PAq X es t) : PE X (.List es pos) (tLst t) := by unfold PAq at h; exact pe_lst h
theorem pe_tupq {x1 : Nat} (h : PAq X es t) : PE X (.Tuple es x1 pos) (tTup t) := by unfold PAq at h; exact pe_tup h
end
theorem pickI {L : List Int} {i : Int} (h0 : 0 ≤ i) (h1 : i < (L.length : Int)) : ∃ z ∈ L, atI (L.map V.int) i = some (.int z) := by
  have e : L[i.toNat]? = some L[i.toNat] := List.getElem?_eq_getElem (by omega)
  refine ⟨L[i.toNat], List.getElem_mem _, ?_⟩
  have h : atI (L.map V.int) ((i.toNat : Nat) : Int) = some (.int L[i.toNat]) := atI_nat (by rw [List.getElem?_map, e]; rfl)
  rwa [Int.toNat_of_nonneg h0] at h
theorem pickN {L : List Int} {i : Int} (n : Nat) (hn : L.length = n) (h0 : 0 ≤ i) (h1 : i < (n : Int)) : ∃ z ∈ L, atI (L.map V.int) i = some (.int z) := pickI h0 (by rw [hn]; exact h1)
theorem while_ix {c : TT} {tb : TS} {D : Ends} {σ : St} {H : Hp} (k : Nat) (Pv : Nat → St → Hp → Prop) (h0 : Pv 0 σ H)
    (hs : ∀ i σ H, i ≤ k → Pv i σ H → c σ H fun b H1 => if b = true then i < k ∧ tb { D with nx := Pv (i + 1), ct := Pv (i + 1), bk := D.nx } σ H1 else D.nx σ H1)
    (mono : ∀ σ H Q Q', (∀ b H1, Q b H1 → Q' b H1) → c σ H Q → c σ H Q') : tWhile c tb D σ H := by
  refine ⟨fun m σ H => ∃ i, i ≤ k ∧ m = k - i ∧ Pv i σ H, ⟨_, 0, Nat.zero_le _, rfl, h0⟩, ?_⟩
  rintro m σ H ⟨i, hi, rfl, p⟩
  refine mono σ H _ _ (fun b H1 q => ?_) (hs i σ H hi p)
  cases b with
  | true => exact ⟨Pv (i + 1), fun σ' H' p' => ⟨k - (i + 1), by have := q.1; omega, i + 1, by have := q.1; omega, rfl, p'⟩, q.2⟩
  | false => exact q
noncomputable def spCellA (K : PySem.W.Frag) : Sp := fun vs H Q _ => ∃ (p : Addr) (ns : List Int) (k : Int), vs = [.ref p, .int k] ∧ SqL K H p (ns.map V.int) ∧ 0 ≤ k ∧ k ≤ 1000000 ∧ ∀ i : Int, Q (.int i) H
end L2

set_option Elab.async false
set_option linter.all false
set_option maxRecDepth 100000
set_option maxHeartbeats 4000000
namespace Bd
end Bd
namespace L2
open PySem PySem.Spec PyProof.Rows Bd
theorem if_thn {tt : TT} {ta tb : TS} {D : Ends} {σ : St} {H : Hp} (M : Hp → Prop) (ha : ∀ H', M H' → ta D σ H') (h : (∀ H', M H' → ta D σ H') → tIfS tt ta tb D σ H) : tIfS tt ta tb D σ H := h ha
end L2

set_option Elab.async false
set_option linter.all false
set_option maxRecDepth 100000
set_option maxHeartbeats 4000000
namespace L2
open PySem PySem.Spec PyProof.Rows
open Bd
noncomputable def mixF (c k : Int) : Int := ((c + 7919 * k + 1) * 48271 % 2147483647) * ((c + 7919 * k + 1) * 48271 % 2147483647) % 2147483629
theorem mix_b (c k : Int) : 0 ≤ mixF c k ∧ mixF c k < 2147483629 := ⟨Int.emod_nonneg _ (by decide), Int.emod_lt_of_pos _ (by decide)⟩
noncomputable def spMix2 : Sp := fun vs H Q _ => ∃ (c k : Int), vs = [.int c, .int k] ∧ Q (.int (mixF c k)) H
noncomputable def nmW (m : Int) (n : Nat) : List Nat := (List.range n).map fun k : Nat => letC (m / ((k : Int) + 9))
theorem nmW_len (m : Int) (n : Nat) : (nmW m n).length = n := by unfold nmW; rw [List.length_map, List.length_range]
noncomputable def nmL (m : Int) : Nat := (m % 8).toNat
theorem nmL_b (m : Int) : nmL m ≤ 7 := by
  have := Int.emod_nonneg m (show (8 : Int) ≠ 0 by decide)
  have := Int.emod_lt_of_pos m (show (0 : Int) < 8 by decide)
  unfold nmL; omega
noncomputable def nmAt (m : Int) : Nat := (m / 8 % ((nmL m : Int) + 1)).toNat
theorem nmAt_b (m : Int) : nmAt m ≤ nmL m ∧ ((nmAt m : Nat) : Int) = m / 8 % ((nmL m : Int) + 1) := by
  have := Int.emod_nonneg (m / 8) (show ((nmL m : Int) + 1) ≠ 0 by omega)
  have := Int.emod_lt_of_pos (m / 8) (show (0 : Int) < (nmL m : Int) + 1 by omega)
  unfold nmAt; omega
noncomputable def nmA (m e : Int) : List Nat := (nmW m (nmL m)).take (nmAt m) ++ [letC (m / 72 + 5 * e)] ++ (nmW m (nmL m)).drop (nmAt m)
noncomputable def nmB (m e : Int) : List Nat := (nmW m (nmL m) ++ cds "qrstuvwx").take (5 + e).toNat
noncomputable def nmR (m e : Int) : List Nat := if m / 5003 % 4 = 1 then nmB m e else nmA m e
noncomputable def nmC (m e : Int) : List Nat := if nmR m e ∈ resv then nmR m e ++ [115] else nmR m e
theorem nmA_len (m e : Int) : (nmA m e).length = nmL m + 1 := by
  unfold nmA
  have := (nmAt_b m).1
  rw [List.length_append, List.length_append, List.length_take, List.length_drop, nmW_len, List.length_singleton]
  omega
theorem q8 : (cds "qrstuvwx").length = 8 := by decide +kernel
theorem nmB_len {m e : Int} (h0 : 0 ≤ e) (h1 : e ≤ 2) : (nmB m e).length = (5 + e).toNat := by
  unfold nmB
  have := nmL_b m
  rw [List.length_take, List.length_append, nmW_len, q8]
  omega
theorem nmR_b {m e : Int} (h0 : 0 ≤ e) (h1 : e ≤ 2) : 1 ≤ (nmR m e).length ∧ (nmR m e).length ≤ 8 := by
  unfold nmR
  have := nmL_b m
  split
  · rw [nmB_len h0 h1]; omega
  · rw [nmA_len]; omega
noncomputable def spName : Sp := fun vs H Q _ => ∃ (c e : Int), vs = [.int c, .int e] ∧ 0 ≤ e ∧ e ≤ 2 ∧ ∀ H', Same H H' → Q (.str (sOf (nmC (mixF c 11) e))) H'
end L2

set_option Elab.async false
set_option linter.all false
set_option maxRecDepth 100000
set_option maxHeartbeats 4000000
namespace L2
open PySem PySem.Spec PyProof.Rows
noncomputable def spIni (C : Addr) (fs : List Str) : Sp := fun as H Q _ => ∃ (x dx : Addr) (vs : List V), as = .ref x :: vs ∧ vs.length = fs.length ∧ H x = some (.ins C dx []) ∧ ∀ H', (∀ b o, H b = some o → b ≠ x → H' b = some o) → (∃ dx, H' x = some (.ins C dx (fs.zip vs))) → Q .non H'
mutual
theorem TrIs.over {K : PySem.W.Frag} {H H' : Hp} (e : Same H H') : ∀ {t : Tr} {x : V}, TrIs K H x t → TrIs K H' x t
  | .v _, _, .flat h => .flat h
  | .lst _, _, .lst h r => .lst (e.seq h) (TrsIs.over e r)
  | .tup _, _, .tup h r => .tup (e.seqT h) (TrsIs.over e r)
theorem TrsIs.over {K : PySem.W.Frag} {H H' : Hp} (e : Same H H') : ∀ {l : List Tr} {xs : List V}, TrsIs K H xs l → TrsIs K H' xs l
  | [], _, .nil => .nil
  | _ :: _, _, .cons h r => .cons (TrIs.over e h) (TrsIs.over e r)
end
structure Cs where
  n : Addr
  v : Addr
  c : Addr
  j : Addr
noncomputable def spNone : Sp := fun vs H Q _ => ∃ x : V, vs = [x] ∧ ∀ (r : Addr) (H' : Hp), Same H H' → H' r = some (.lst []) → Q (.ref r) H'
noncomputable def spReadC (C : Addr) : Sp := fun vs H Q _ => ∃ (x dx : Addr) (z : Str) (v : V), vs = [.ref x] ∧ H x = some (.ins C dx [("table", .str z), ("spots", v)]) ∧ ∀ (t r : Addr) (H' : Hp), Same H H' → H' t = some (.tup [.str z, v]) → H' r = some (.lst [.ref t]) → Q (.ref r) H'
theorem SqL.updI {K : PySem.W.Frag} {H : Hp} {p x C dx : Addr} {fs : List (Str × V)} {ys : List V} {o : HO} (h : SqL K H p ys) (hx : H x = some (.ins C dx fs)) : SqL K (upd H x o) p ys := by
  rcases h with (h | ⟨ob, h⟩) | h
  · refine .inl (.inl ?_)
    rw [upd_ne (fun e => by rw [e, hx] at h; cases h)]
    exact h
  · refine .inl (.inr ⟨ob, ?_⟩)
    rw [upd_ne (fun e => by rw [e, hx] at h; cases h)]
    exact h
  · exact .inr h
noncomputable def spPIni (K : PySem.W.Frag) (C : Addr) : Sp := fun vs H Q _ => ∃ (x dx : Addr) (sz : V) (p : Addr) (ys : List V), vs = [.ref x, sz, .ref p] ∧ H x = some (.ins C dx []) ∧ SqL K H p ys ∧ ∀ (l : Addr) (H' : Hp), H l = none → (∀ b o, H b = some o → b ≠ x → H' b = some o) → H' l = some (.lst ys) → (∃ dx, H' x = some (.ins C dx [("size", sz), ("deeds", .ref l)])) → Q .non H'
end L2

set_option Elab.async false
set_option linter.all false
set_option maxRecDepth 100000
set_option maxHeartbeats 4000000
namespace PySem
open Builtin
open AutoSeq1 (wpAny_loadPart')
end PySem
namespace L2
open PySem PySem.Spec PyProof.Rows
section
variable {X : Cx}
end
end L2

set_option Elab.async false
set_option linter.all false
set_option maxRecDepth 100000
set_option maxHeartbeats 4000000
namespace L2
open PySem PySem.Spec PyProof.Rows Bd
noncomputable def PairsAt (H : Hp) (vs : List V) : Prop := ∀ v ∈ vs, ∃ (t : Addr) (z : Str) (n : Int), v = .ref t ∧ H t = some (.tup [.str z, .int n])
theorem PairsAt.over {H H' : Hp} {vs : List V} (h : PairsAt H vs) (e : Same H H') : PairsAt H' vs := fun v hv => by
  obtain ⟨t, z, n, h1, h2⟩ := h v hv
  exact ⟨t, z, n, h1, e _ _ h2⟩
noncomputable def BasesAt (H : Hp) (l : Addr) : Prop := ∃ vs, H l = some (.lst vs) ∧ 0 < vs.length ∧ vs.length ≤ 100 ∧ PairsAt H vs
theorem BasesAt.over {H H' : Hp} {l : Addr} (h : BasesAt H l) (e : Same H H') : BasesAt H' l := by
  obtain ⟨vs, h1, h2, h3, h4⟩ := h
  exact ⟨vs, e _ _ h1, h2, h3, h4.over e⟩
noncomputable def HeadsAt (H : Hp) (l : Addr) : Prop := ∃ vs, H l = some (.lst vs) ∧ vs.length = 3 ∧ ∀ v ∈ vs, ∃ (t : Addr) (z : Str) (m n : Int), v = .ref t ∧ H t = some (.tup [.str z, .int m, .int n]) ∧ 1 ≤ m ∧ m ≤ 3
theorem HeadsAt.over {H H' : Hp} {l : Addr} (h : HeadsAt H l) (e : Same H H') : HeadsAt H' l := by
  obtain ⟨vs, h1, h2, h3⟩ := h
  exact ⟨vs, e _ _ h1, h2, fun v hv => by obtain ⟨t, z, m, n, a, b, c⟩ := h3 v hv; exact ⟨t, z, m, n, a, e _ _ b, c⟩⟩
theorem at_mem {vs : List V} {i : Int} (h0 : 0 ≤ i) (h1 : i < (vs.length : Int)) : ∃ v ∈ vs, atI vs i = some v := by
  have e : vs[i.toNat]? = some vs[i.toNat] := List.getElem?_eq_getElem (by omega)
  refine ⟨vs[i.toNat], List.getElem_mem _, ?_⟩
  have h : atI vs ((i.toNat : Nat) : Int) = some vs[i.toNat] := atI_nat e
  rwa [Int.toNat_of_nonneg h0] at h
noncomputable def SpAt (H : Hp) (p : Addr) : Prop := ∃ xs, H p = some (.tup xs) ∧ xs.length ≤ 3 ∧ PairsAt H xs
theorem SpAt.over {H H' : Hp} {p : Addr} (h : SpAt H p) (e : Same H H') : SpAt H' p := by
  obtain ⟨xs, h1, h2, h3⟩ := h
  exact ⟨xs, e _ _ h1, h2, h3.over e⟩
noncomputable def spSpots : Sp := fun vs H Q _ => ∃ (n m off : Int) (b : Addr), vs = [.int n, .ref b, .int m, .int off] ∧ 0 ≤ n ∧ BasesAt H b ∧ 1 ≤ m ∧ m ≤ 3 ∧ ∀ (r : Addr) (H' : Hp), Same H H' → SpAt H' r → Q (.ref r) H'
noncomputable def CellAt (H : Hp) (r : Addr) : Prop := ∃ z p, H r = some (.tup [.str z, .ref p]) ∧ SpAt H p
noncomputable def spCellOf : Sp := fun vs H Q _ => ∃ (n : Int) (b h : Addr), vs = [.int n, .ref b, .ref h] ∧ 0 ≤ n ∧ BasesAt H b ∧ HeadsAt H h ∧ ∀ (r : Addr) (H' : Hp), Same H H' → CellAt H' r → Q (.ref r) H'
noncomputable abbrev Reads := List (Str × Addr)
inductive TmT (H : Hp) : Nat → V → Reads → Prop
  | n {t : Addr} (i : Int) : H t = some (.tup [.str "n", .int i]) → TmT H 1 (.ref t) []
  | v {t : Addr} (z : Str) : H t = some (.tup [.str "v", .str z]) → TmT H 1 (.ref t) []
  | c {t p : Addr} (z : Str) : H t = some (.tup [.str "c", .str z, .ref p]) → SpAt H p → TmT H 1 (.ref t) [(z, p)]
  | j {t : Addr} {l r : V} {m n : Nat} {rs us : Reads} (z : Str) : z ∈ [Str.ofString "+", Str.ofString "-", Str.ofString "*"] → H t = some (.tup [.str z, l, r]) → TmT H m l rs → TmT H n r us → TmT H (m + n) (.ref t) (rs ++ us)
theorem TmT.over {H H' : Hp} (e : Same H H') {n : Nat} {x : V} {rs : Reads} (h : TmT H n x rs) : TmT H' n x rs := by
  induction h with
  | n i h => exact .n i (e _ _ h)
  | v z h => exact .v z (e _ _ h)
  | c z h hp => exact .c z (e _ _ h) (hp.over e)
  | j z hz h _ _ a b => exact .j z hz (e _ _ h) a b
theorem TmT.pos {H : Hp} {n : Nat} {x : V} {rs : Reads} (h : TmT H n x rs) : 1 ≤ n ∧ rs.length ≤ n ∧ ∀ r ∈ rs, SpAt H r.2 := by
  induction h with
  | n i h => exact ⟨Nat.le_refl _, Nat.zero_le _, fun r hr => by cases hr⟩
  | v z h => exact ⟨Nat.le_refl _, Nat.zero_le _, fun r hr => by cases hr⟩
  | c z h hp => exact ⟨Nat.le_refl _, Nat.le_refl _, fun r hr => by rw [List.mem_singleton] at hr; subst hr; exact hp⟩
  | j z hz h _ _ a b =>
    refine ⟨by omega, by rw [List.length_append]; omega, fun r hr => ?_⟩
    rcases List.mem_append.mp hr with hr | hr
    · exact a.2.2 r hr
    · exact b.2.2 r hr
noncomputable def spLeaf2 : Sp := fun vs H Q _ => ∃ (n : Int) (b h : Addr), vs = [.int n, .ref b, .ref h] ∧ 0 ≤ n ∧ n < 4294967296 ∧ BasesAt H b ∧ HeadsAt H h ∧ ∀ (x : V) (H' : Hp) (rs : Reads), Same H H' → TmT H' 1 x rs → Q x H'
noncomputable def spTerm2 : Sp := fun vs H Q _ => ∃ (c : Int) (b h : Addr), vs = [.int c, .ref b, .ref h] ∧ BasesAt H b ∧ HeadsAt H h ∧ ∀ (x : V) (H' : Hp) (m : Nat) (rs : Reads), Same H H' → m ≤ 3 → TmT H' m x rs → Q x H'
inductive TmO (c : Cs) (H : Hp) : Nat → V → Reads → Prop
  | num {x dx : Addr} (i : Int) : H x = some (.ins c.n dx [("n", .int i)]) → TmO c H 1 (.ref x) []
  | val {x dx : Addr} (z : Str) : H x = some (.ins c.v dx [("name", .str z)]) → TmO c H 1 (.ref x) []
  | cel {x dx p : Addr} (z : Str) : H x = some (.ins c.c dx [("table", .str z), ("spots", .ref p)]) → TmO c H 1 (.ref x) [(z, p)]
  | joi {x dx : Addr} {l r : V} {m n : Nat} {rs us : Reads} (z : Str) : H x = some (.ins c.j dx [("sign", .str z), ("left", l), ("right", r)]) → TmO c H m l rs → TmO c H n r us → TmO c H (m + n) (.ref x) (rs ++ us)
theorem TmO.over {c : Cs} {H H' : Hp} (e : Same H H') {n : Nat} {x : V} {rs : Reads} (h : TmO c H n x rs) : TmO c H' n x rs := by
  induction h with
  | num i h => exact .num i (e _ _ h)
  | val z h => exact .val z (e _ _ h)
  | cel z h => exact .cel z (e _ _ h)
  | joi z h _ _ a b => exact .joi z (e _ _ h) a b
theorem TmO.pos {c : Cs} {H : Hp} {n : Nat} {x : V} {rs : Reads} (h : TmO c H n x rs) : 1 ≤ n ∧ rs.length ≤ n := by
  induction h with
  | num i h => exact ⟨Nat.le_refl _, Nat.zero_le _⟩
  | val z h => exact ⟨Nat.le_refl _, Nat.zero_le _⟩
  | cel z h => exact ⟨Nat.le_refl _, Nat.le_refl _⟩
  | joi z h _ _ a b => exact ⟨by omega, by rw [List.length_append]; omega⟩
noncomputable def RdsAt (H : Hp) (f : Str × Addr → List V) (ys : List V) (rs : Reads) : Prop := ys.length = rs.length ∧ ∀ (i : Nat) (y : V) (r : Str × Addr), ys[i]? = some y → rs[i]? = some r → ∃ t, y = .ref t ∧ H t = some (.tup (f r))
theorem RdsAt.over {H H' : Hp} {f : Str × Addr → List V} {ys : List V} {rs : Reads} (h : RdsAt H f ys rs) (e : Same H H') : RdsAt H' f ys rs := ⟨h.1, fun i y r a b => by obtain ⟨t, x, z⟩ := h.2 i y r a b; exact ⟨t, x, e _ _ z⟩⟩
theorem RdsAt.nil {H : Hp} {f : Str × Addr → List V} : RdsAt H f [] [] := ⟨rfl, fun i y r a => by simp at a⟩
theorem RdsAt.one {H : Hp} {f : Str × Addr → List V} {t : Addr} {r : Str × Addr} (h : H t = some (.tup (f r))) : RdsAt H f [.ref t] [r] := ⟨rfl, fun i y r' a b => by
  cases i with
  | zero => cases a; cases b; exact ⟨t, rfl, h⟩
  | succ i => simp at a⟩
theorem RdsAt.app {H : Hp} {f : Str × Addr → List V} {ys zs : List V} {rs us : Reads} (h : RdsAt H f ys rs) (g : RdsAt H f zs us) : RdsAt H f (ys ++ zs) (rs ++ us) := by
  refine ⟨by rw [List.length_append, List.length_append, h.1, g.1], fun i x c hx hc => ?_⟩
  by_cases hi : i < ys.length
  · rw [List.getElem?_append_left hi] at hx
    rw [List.getElem?_append_left (by rw [← h.1]; exact hi)] at hc
    exact h.2 i x c hx hc
  · rw [List.getElem?_append_right (by omega)] at hx
    rw [List.getElem?_append_right (by rw [← h.1]; omega), ← h.1] at hc
    exact g.2 _ x c hx hc
noncomputable def rdF (r : Str × Addr) : List V := [.str r.1, .ref r.2]
noncomputable def duF (r : Str × Addr) : List V := [.bl false, .str r.1, .ref r.2]
noncomputable def spObj (c : Cs) (n : Nat) : Sp := fun vs H Q _ => ∃ (x : V) (m : Nat) (rs : Reads), vs = [x] ∧ m ≤ n ∧ TmT H m x rs ∧ ∀ (y : V) (H' : Hp), Same H H' → TmO c H' m y rs → Q y H'
noncomputable def spRds (n : Nat) : Sp := fun vs H Q _ => ∃ (x : V) (m : Nat) (rs : Reads), vs = [x] ∧ m ≤ n ∧ m ≤ 1000 ∧ TmT H m x rs ∧ ∀ (l : Addr) (H' : Hp) (xs : List V), Same H H' → H' l = some (.lst xs) → RdsAt H' duF xs rs → Q (.ref l) H'
noncomputable def spReadJ2 (c : Cs) (n : Nat) : Sp := fun vs H Q _ => ∃ (x dx : Addr) (z : Str) (l r : V) (m k : Nat) (rs us : Reads), vs = [.ref x] ∧ H x = some (.ins c.j dx [("sign", .str z), ("left", l), ("right", r)]) ∧ TmO c H m l rs ∧ TmO c H k r us ∧ m + k ≤ n + 1 ∧ n ≤ 100 ∧ ∀ (p : Addr) (ys : List V) (H' : Hp), Same H H' → H' p = some (.lst ys) → RdsAt H' rdF ys (rs ++ us) → Q (.ref p) H'
noncomputable def tReads2 (c : Cs) (n : Nat) (ta : TE) : TE := fun σ H_1 Q => tMeth c.n (Str.ofString "reads") spNone [] E0 ta tNil σ H_1 Q ∨ tMeth c.v (Str.ofString "reads") spNone [] E0 ta tNil σ H_1 Q ∨ tMeth c.c (Str.ofString "reads") (spReadC c.c) [] E0 ta tNil σ H_1 Q ∨ tMeth c.j (Str.ofString "reads") (spReadJ2 c n) [] E0 ta tNil σ H_1 Q
theorem reads_any2 {c : Cs} {n : Nat} {ta : TE} {σ : St} {H H1 : Hp} {Q : VK} {v : V} {m : Nat} {rs : Reads} (ha : ∀ R : VK, R v H1 → ta σ H R) (h : TmO c H1 m v rs) (hm : m ≤ n + 1) (hn : n ≤ 100)
    (q : ∀ (p : Addr) (ys : List V) (H' : Hp), Same H1 H' → H' p = some (.lst ys) → RdsAt H' rdF ys rs → Q (.ref p) H') : tReads2 c n ta σ H Q := by
  cases h with
  | @num x dx i h => exact .inl (ha _ ⟨x, dx, _, rfl, h, rfl, _, rfl, fun r H' e hr => q r _ H' e hr .nil⟩)
  | @val x dx z h => exact .inr (.inl (ha _ ⟨x, dx, _, rfl, h, rfl, _, rfl, fun r H' e hr => q r _ H' e hr .nil⟩))
  | @cel x dx p z h => exact .inr (.inr (.inl (ha _ ⟨x, dx, _, rfl, h, rfl, x, dx, z, _, rfl, h, fun t' r H' e ht' hr => q r _ H' e hr (.one (r := (z, p)) ht')⟩)))
  | @joi x dx l r m' k ts us z h a b => exact .inr (.inr (.inr (ha _ ⟨x, dx, _, rfl, h, rfl, x, dx, z, l, r, m', k, ts, us, rfl, h, a, b, hm, hn, q⟩)))
noncomputable def LpAt (H : Hp) (v : V) : Prop := ∃ (p p1 p2 : Addr) (nm b1 b2 : Str) (n1 n2 ab tn : Int), v = .ref p ∧ H p = some (.tup [.str nm, .ref p1, .ref p2, .int ab, .int tn]) ∧ H p1 = some (.tup [.str b1, .int n1]) ∧ H p2 = some (.tup [.str b2, .int n2]) ∧ 0 ≤ tn ∧ tn ≤ 2
theorem LpAt.over {H H' : Hp} {v : V} (h : LpAt H v) (e : Same H H') : LpAt H' v := by
  obtain ⟨p, p1, p2, nm, b1, b2, n1, n2, ab, tn, rfl, h0, h1, h2, h3⟩ := h
  exact ⟨p, p1, p2, nm, b1, b2, n1, n2, ab, tn, rfl, e _ _ h0, e _ _ h1, e _ _ h2, h3⟩
noncomputable def StackOf (H : Hp) (l : Addr) (n : Nat) : Prop := ∃ vs, H l = some (.lst vs) ∧ vs.length = n ∧ ∀ v ∈ vs, LpAt H v
noncomputable def spLoop2 : Sp := fun vs H Q _ => ∃ (n far c : Int) (st : Addr) (k : Nat), vs = [.int n, .int far, .ref st, .int c] ∧ 0 ≤ n ∧ StackOf H st k ∧ k ≤ 10 ∧ ∀ (x : V) (H' : Hp), Same H H' → LpAt H' x → Q x H'
theorem lp_tr {K : PySem.W.Frag} {H : Hp} : ∀ {vs : List V}, (∀ v ∈ vs, LpAt H v) → ∃ ts, TrsIs K H vs ts ∧ depTs ts ≤ 2 ∧ ts.length = vs.length
  | [], _ => ⟨[], .nil, Nat.zero_le _, rfl⟩
  | v :: vs, h => by
    obtain ⟨ts, h1, h2, h3⟩ := lp_tr (K := K) (vs := vs) fun x hx => h x (List.mem_cons_of_mem _ hx)
    obtain ⟨p, p1, p2, nm, b1, b2, n1, n2, ab, tn, rfl, g0, g1, g2, _⟩ := h v List.mem_cons_self
    refine ⟨.tup [.v (.str nm), .tup [.v (.str b1), .v (.int n1)], .tup [.v (.str b2), .v (.int n2)], .v (.int ab), .v (.int tn)] :: ts, .cons (.tup (SqT.of g0) (.cons (.flat rfl) (.cons (.tup (SqT.of g1) (.cons (.flat rfl) (.cons (.flat rfl) .nil))) (.cons (.tup (SqT.of g2) (.cons (.flat rfl) (.cons (.flat rfl) .nil))) (.cons (.flat rfl) (.cons (.flat rfl) .nil)))))) h1, ?_, by rw [List.length_cons, List.length_cons, h3]⟩
    simp only [depT, depTs]
    omega
theorem sign_ne {z : Str} (h : z ∈ [Str.ofString "+", Str.ofString "-", Str.ofString "*"]) : z ≠ "n" ∧ z ≠ "v" ∧ z ≠ "c" := by
  have : ∀ z ∈ [Str.ofString "+", Str.ofString "-", Str.ofString "*"], z ≠ "n" ∧ z ≠ "v" ∧ z ≠ "c" := by decide +kernel
  exact this z h
theorem dS {x y : Str} (h : x ≠ y) : decide (V.str x = V.str y) = false := decide_eq_false fun e => h (V.str.inj e)
noncomputable def spHeads2 (K : PySem.W.Frag) : Sp := fun vs H Q _ => ∃ (p : Addr) (ns : List Int), vs = [.ref p] ∧ SqL K H p (ns.map V.int) ∧ ∀ (l : Addr) (H' : Hp), Same H H' → HeadsAt H' l → Q (.ref l) H'
theorem comp_listG {K : PySem.W.Frag} {a : Addr} {xs : List V} {ρ : List (Option Nat)} {g : TG} {tt : TT} {te : TE} {σ : St} {H : Hp} {Q : VK} (Pv : Nat → List V → Hp → Prop) (h0 : Pv 0 [] H) (hlen : xs.length ≤ sizeLine) (hl : ∀ i ys H, i ≤ xs.length → Pv i ys H → SqL K H a xs ∧ ys.length ≤ i)
    (hs : ∀ i x ys H, xs[i]? = some x → Pv i ys H → g x (inSt ρ σ) H fun σ2 H3 => Outs ρ σ σ2 ∧ tt σ2 H3 fun ok H4 => if ok = true then te σ2 H4 fun v H5 => Pv (i + 1) (ys ++ [v]) H5 else Pv (i + 1) ys H4)
    (hd : ∀ ys H, Pv xs.length ys H → ∀ p, H p = none → Q (.ref p) (upd H p (.lst ys))) : CompW ρ g tt te σ Q (Itl K a) H := by
  refine ⟨fun i m ys H => m = xs.length - i ∧ i ≤ xs.length ∧ Pv i ys H, ⟨_, rfl, Nat.zero_le _, h0⟩, ?_⟩
  rintro i m ys H ⟨rfl, hi, p⟩
  obtain ⟨hq, hy⟩ := hl i ys H hi p
  by_cases hlt : i < xs.length
  · refine .inr ⟨⟨xs, xs[i], hq, by simp [hlt]⟩, by omega, Pv (i + 1), fun ys' H'' p' => ⟨xs.length - (i + 1), by omega, rfl, hlt, p'⟩, fun x H' y => ?_⟩
    obtain ⟨e, y2⟩ := y
    subst e
    exact hs i x ys _ (y2 xs hq) p
  · have e : i = xs.length := by omega
    subst e
    exact .inl ⟨⟨xs, hq, Nat.le_refl _⟩, by omega, hd ys H p⟩
noncomputable def tchF (fl : Bool) (r : Str × Addr) : List V := [.bl fl, .str r.1, .ref r.2]
noncomputable def DeedTm (c : Cs) (C : Addr) (H : Hp) (v : V) (z : Str) (p : Addr) (m : Nat) (rs : Reads) : Prop := ∃ (d dx : Addr) (v1 v2 v3 x v7 : V), v = .ref d ∧ H d = some (.ins C dx [("names", v1), ("lows", v2), ("highs", v3), ("table", .str z), ("spots", .ref p), ("term", x), ("path", v7)]) ∧ TmO c H m x rs
noncomputable def TchAt (H : Hp) (l : Addr) (z : Str) (p : Addr) (rs : Reads) : Prop := ∃ (t : Addr) (ys : List V), H l = some (.lst (.ref t :: ys)) ∧ H t = some (.tup (tchF true (z, p))) ∧ RdsAt H (tchF false) ys rs
noncomputable def spTouches (c : Cs) (C : Addr) : Sp := fun vs H Q _ => ∃ (v : V) (z : Str) (p : Addr) (m : Nat) (rs : Reads), vs = [v] ∧ DeedTm c C H v z p m rs ∧ m ≤ 100 ∧ ∀ (l : Addr) (H' : Hp), Same H H' → H l = none → TchAt H' l z p rs → Q (.ref l) H'
end L2

set_option Elab.async false
set_option linter.all false
set_option maxRecDepth 100000
set_option maxHeartbeats 4000000
namespace L2
open PySem PySem.Spec PyProof.Rows
section
open PySem.SeqAt
open PySem.AutoSeq1 (wpAny_loadPart')
open PySem.MeetsSeq PySem.MeetsSeq2 PySem.MeetsSeq3
end
noncomputable def upto (n : Nat) : List V := (List.range n).map fun i : Nat => V.int (i : Int)
noncomputable def tLRange (ta : TA) : TE := fun σ H Q => ta σ H fun vs H1 => ∃ n : Nat, vs = [.int (n : Int)] ∧ n ≤ 1000000 ∧ ∀ l, H1 l = none → Q (.ref l) (upd H1 l (.lst (upto n)))
theorem vals_upto {n : Nat} {acc : Array Value} (h : ItemsOf (fun i v => ∃ t, v = .int (0 + (i : Int) * 1) t) acc n) : Vals (upto n) acc.toList := by
  have key : ∀ (k : Nat) (l : List Value), (∀ (j : Nat) (v : Value), l[j]? = some v → ∃ t, v = Value.int ((k + j : Nat) : Int) t) → Vals ((List.range' k l.length).map fun i : Nat => V.int (i : Int)) l := by
    intro k l
    induction l generalizing k with
    | nil => intro _; exact .nil
    | cons x l ih =>
      intro hl
      rw [List.length_cons, List.range'_succ, List.map_cons]
      obtain ⟨t, ht⟩ := hl 0 x rfl
      refine .cons ⟨t, by rw [ht]; rfl⟩ (ih (k + 1) fun j v hj => ?_)
      obtain ⟨t', ht'⟩ := hl (j + 1) v (by simpa using hj)
      exact ⟨t', by rw [ht']; congr 1; omega⟩
  have hl : acc.toList.length = n := by simpa using h.1
  have := key 0 acc.toList fun j v hj => by
    obtain ⟨t, ht⟩ := h.2 j v (by simpa using hj)
    exact ⟨t, by rw [ht]; congr 1; omega⟩
  rw [hl] at this
  unfold upto
  rw [List.range_eq_range']
  exact this
theorem pe_lrange {X : Cx} {a : Expr} {ta : TA} {p p2 pos pos2 : Pos} (hc : X.calm = true) (hgl : Gl X "list") (hml : X.mg "list" = none) (hg : Gl X "range") (hm : X.mg "range" = none) (ha : PA X [a] ta)
    (hs : starEach [a] X.env = [(false, eval a X.env)] := by rfl) : PE X (.Call (.Name "list" p) [.Call (.Name "range" p2) [a] [] pos2] [] pos) (tLRange ta) := by
  intro pins s σ H Q I h
  refine wpAny_Call_Name_kw (ld_blt I hgl hml bt_list ?_ (by decide) (by decide))
  refine PyProof.Rows.callWith_type1 ?_ rfl rfl
  show wpAny _ _ (spliced ((false, eval (.Call (.Name "range" p2) [a] [] pos2) X.env) :: backTo pos (starEach [] X.env))) _ _ s
  refine Calls.spliced_cons ?_
  refine Call_ (ld_blt I hg hm boot_range (PyProof.Rows.callWith_type1 (thn (ha pos2 pins s σ H _ I h) fun us s1 hx => ?_) hs rfl))
  obtain ⟨vs, H1, I1, r1, n, e, hn, q⟩ := hx
  subst e
  obtain ⟨u, rfl, ru⟩ := vals1 r1
  obtain ⟨t, rfl⟩ := (show ∃ t, u = Value.int (n : Int) t from ru)
  refine call_range_1 ?_
  refine Calls.spliced_nil ?_
  have p62 : (2 : Int) ^ 62 = 4611686018427387904 := by decide
  refine call_list_range (n := n) (I1.ok.hd hc) (IsRange.new ..) (small_one (by decide) (by decide) (by omega) (by omega)) (by rw [rangeSize_one]; split <;> omega) (by omega) fun h' tk acc c' hk hl hi => ?_
  have hsz : (s1.heap.push { cls := .type "range", data := .fields #[.int 0 s1.toks, .int (n : Int) t, .int 1 (s1.toks + 1)] }).objs.size = s1.heap.objs.size + 1 := Heap.size_push ..
  have hf : H1 (s1.heap.objs.size + 1) = none := I1.hok.fresh (Nat.le_succ _)
  have hul : (upto n).length ≤ sizeLine := by unfold upto; rw [List.length_map, List.length_range]; exact szl hn
  change h'.get? (s1.heap.push { cls := .type "range", data := .fields #[.int 0 s1.toks, .int (n : Int) t, .int 1 (s1.toks + 1)] }).objs.size = _ at hl
  rw [hsz] at hl
  refine ⟨.ref (s1.heap.objs.size + 1), upd H1 (s1.heap.objs.size + 1) (.lst (upto n)), I1.laid (t' := tk) (o := .lst (upto n)) (fun b o e => hk b o (Heap.get?_push_of_some _ e)) (Nat.le_succ _) ⟨hul, acc.toList, c', vals_upto hi, by simpa using hl⟩, ?_, q _ hf⟩
  show Value.ref _ = Value.ref _
  rw [← hsz]
end L2

set_option Elab.async false
set_option linter.all false
set_option maxRecDepth 100000
set_option maxHeartbeats 4000000
namespace L2
open PySem PySem.Spec PyProof.Rows
section
variable {prog : Program} {w : World} {A : Around} {E : Value → Shared → Prop} {s : Shared}
end
section
variable {prog : Program} {w : World} {A : Around} {E : Value → Shared → Prop} {s : Shared}
end
end L2

set_option Elab.async false
set_option linter.all false
set_option maxRecDepth 100000
set_option maxHeartbeats 4000000
namespace L2
open PySem PySem.Spec PyProof.Rows
end L2
namespace L2
open PySem PySem.Spec PyProof.Rows
end L2
namespace L2
open PySem PySem.Spec PyProof.Rows
end L2

set_option linter.all false
namespace Fo
variable {W L : Type}
section
variable (hdr : Nat → Bool → W → L) (dl : Nat → Int → List (Int × Int) → L)
end
end Fo
namespace Fo
variable {W L : Type}
end Fo

set_option Elab.async false
set_option linter.all false
set_option maxRecDepth 100000
set_option maxHeartbeats 4000000
namespace L2
open PySem PySem.Spec PyProof.Rows
noncomputable def All2 {α : Type} (R : V → α → Prop) (xs : List V) (as : List α) : Prop := xs.length = as.length ∧ ∀ (i : Nat) (x : V) (a : α), xs[i]? = some x → as[i]? = some a → R x a
theorem All2.nil {α : Type} {R : V → α → Prop} : All2 R [] [] := ⟨rfl, fun i x a h => by simp at h⟩
theorem All2.mono {α : Type} {R S : V → α → Prop} {xs : List V} {as : List α} (h : All2 R xs as) (m : ∀ x a, R x a → S x a) : All2 S xs as := ⟨h.1, fun i x a p q => m _ _ (h.2 i x a p q)⟩
theorem All2.get {α : Type} {R : V → α → Prop} {xs : List V} {as : List α} {i : Nat} {a : α} (h : All2 R xs as) (ha : as[i]? = some a) : ∃ x, xs[i]? = some x ∧ R x a := by
  have hi : i < xs.length := by rw [h.1]; exact (List.getElem?_eq_some_iff.mp ha).1
  exact ⟨_, List.getElem?_eq_getElem hi, h.2 i _ a (List.getElem?_eq_getElem hi) ha⟩
theorem All2.get' {α : Type} {R : V → α → Prop} {xs : List V} {as : List α} {i : Nat} {x : V} (h : All2 R xs as) (hx : xs[i]? = some x) : ∃ a, as[i]? = some a ∧ R x a := by
  have hi : i < as.length := by rw [← h.1]; exact (List.getElem?_eq_some_iff.mp hx).1
  exact ⟨_, List.getElem?_eq_getElem hi, h.2 i x _ hx (List.getElem?_eq_getElem hi)⟩
theorem All2.app {α : Type} {R : V → α → Prop} {xs ys : List V} {as bs : List α} (h : All2 R xs as) (g : All2 R ys bs) : All2 R (xs ++ ys) (as ++ bs) := by
  refine ⟨by rw [List.length_append, List.length_append, h.1, g.1], fun i x a p q => ?_⟩
  by_cases l : i < xs.length
  · rw [List.getElem?_append_left l] at p
    rw [List.getElem?_append_left (by rw [← h.1]; exact l)] at q
    exact h.2 i x a p q
  · rw [List.getElem?_append_right (by omega)] at p
    rw [List.getElem?_append_right (by have := h.1; omega)] at q
    rw [h.1] at p
    exact g.2 _ x a p q
theorem All2.one {α : Type} {R : V → α → Prop} {x : V} {a : α} (h : R x a) : All2 R [x] [a] := ⟨rfl, fun i y b p q => by
  cases i with
  | zero => cases p; cases q; exact h
  | succ i => simp at p⟩
theorem All2.snoc {α : Type} {R : V → α → Prop} {xs : List V} {as : List α} {x : V} {a : α} (h : All2 R xs as) (g : R x a) : All2 R (xs ++ [x]) (as ++ [a]) := h.app (.one g)
theorem All2.cons {α : Type} {R : V → α → Prop} {xs : List V} {as : List α} {x : V} {a : α} (g : R x a) (h : All2 R xs as) : All2 R (x :: xs) (a :: as) := All2.app (.one g) h
theorem All2.drop {α : Type} {R : V → α → Prop} {xs : List V} {as : List α} (h : All2 R xs as) (n : Nat) : All2 R (xs.drop n) (as.drop n) := ⟨by rw [List.length_drop, List.length_drop, h.1], fun i x a p q => by
  rw [List.getElem?_drop] at p q
  exact h.2 _ x a p q⟩
theorem All2.take {α : Type} {R : V → α → Prop} {xs : List V} {as : List α} (h : All2 R xs as) (n : Nat) : All2 R (xs.take n) (as.take n) := ⟨by rw [List.length_take, List.length_take, h.1], fun i x a p q => by
  by_cases l : i < n
  · rw [List.getElem?_take_of_lt l] at p q
    exact h.2 _ x a p q
  · rw [List.getElem?_take_eq_none (by omega)] at p
    cases p⟩
end L2

set_option Elab.async false
set_option linter.all false
set_option maxRecDepth 100000
set_option maxHeartbeats 4000000
namespace L2
open PySem PySem.Spec PyProof.Rows
noncomputable def TK (H H' : Hp) : Prop := ∀ (b : Addr) (xs : List V), H b = some (.tup xs) → H' b = some (.tup xs)
theorem Same.tk {H H' : Hp} (e : Same H H') : TK H H' := fun b xs h => e b _ h
theorem TK.upd {H : Hp} {l : Addr} {xs : List V} {o : HO} (hl : H l = some (.lst xs)) : TK H (upd H l o) := fun b ys hb => by
  rw [upd_ne (ne_of hb hl (by intro z; cases z))]
  exact hb
noncomputable def ME (t : TE) : Prop := ∀ (σ : St) (H : Hp) (Q Q' : VK), (∀ v H1, Q v H1 → Q' v H1) → t σ H Q → t σ H Q'
noncomputable def MT (t : TT) : Prop := ∀ σ H Q Q', (∀ b H1, Q b H1 → Q' b H1) → t σ H Q → t σ H Q'
noncomputable def MA (t : TA) : Prop := ∀ σ H Q Q', (∀ b H1, Q b H1 → Q' b H1) → t σ H Q → t σ H Q'
noncomputable def MR (r : R2) : Prop := ∀ (x y : V) (H : Hp) (Q Q' : VK), (∀ v H1, Q v H1 → Q' v H1) → r x y H Q → r x y H Q'
noncomputable def MB (r : List V → Hp → VK → Prop) : Prop := ∀ (vs : List V) (H : Hp) (Q Q' : VK), (∀ v H1, Q v H1 → Q' v H1) → r vs H Q → r vs H Q'
theorem ME.var (i : Nat) : ME (tVar i) := fun σ H Q Q' hq ⟨v, h, k⟩ => ⟨v, h, hq _ _ k⟩
theorem ME.c (v : V) : ME (tC v) := fun σ H Q Q' hq h => hq _ _ h
theorem ME.op {r : R2} {a b : TE} (hr : MR r) (ha : ME a) (hb : ME b) : ME (tOp r a b) := fun σ H Q Q' hq h => ha _ _ _ _ (fun x H1 k => hb _ _ _ _ (fun y H2 k => hr _ _ _ _ _ hq k) k) h
theorem ME.cb {r : List V → Hp → VK → Prop} {t : TA} (hr : MB r) (h : MA t) : ME (tCB r t) := fun σ H Q Q' hq k => h _ _ _ _ (fun xs H1 m => hr _ _ _ _ hq m) k
theorem MA.nil : MA tNil := fun σ H Q Q' hq h => hq _ _ h
theorem MA.cons {t : TE} {u : TA} (ht : ME t) (hu : MA u) : MA (tCons t u) := fun σ H Q Q' hq h => ht _ _ _ _ (fun x H1 k => hu _ _ _ _ (fun xs H2 m => hq _ _ m) k) h
theorem MT.test {t : TE} (h : ME t) : MT (tTest t) := fun σ H Q Q' hq k => h _ _ _ _ (fun x H1 ⟨b, e, m⟩ => ⟨b, e, hq _ _ m⟩) k
theorem MT.and {t u : TT} (h : MT t) (g : MT u) : MT (tAnd t u) := fun σ H Q Q' hq k => h _ _ _ _ (fun c H1 m => by
  cases c with
  | true => exact g _ _ _ _ hq m
  | false => exact hq _ _ m) k
theorem MR.i0 (g : Int → Int → V) : MR (rI0 g) := fun x y H Q Q' hq ⟨i, j, a, b, d⟩ => ⟨i, j, a, b, hq _ _ d⟩
theorem MR.eq : MR rEq := fun x y H Q Q' hq ⟨a, b⟩ => ⟨a, hq _ _ b⟩
theorem MR.ixT (K : PySem.W.Frag) : MR (rIxT K) := fun x y H Q Q' hq ⟨p, xs, i, v, a, b, c, d, e⟩ => ⟨p, xs, i, v, a, b, c, d, hq _ _ e⟩
theorem MB.len {P R : Hp → Addr → List V → Prop} : MB (fun xs H Q => ∃ p ys, xs = [V.ref p] ∧ (P H p ys ∨ R H p ys) ∧ Q (V.int (ys.length : Int)) H) := fun vs H Q Q' hq ⟨p, ys, a, b, c⟩ => ⟨p, ys, a, b, hq _ _ c⟩
theorem ints_tr {K : PySem.W.Frag} {H : Hp} : ∀ L : List Int, TrsIs K H (L.map V.int) (L.map fun i => Tr.v (.int i))
  | [] => .nil
  | x :: L => .cons (.flat rfl) (ints_tr L)
theorem ints_dep : ∀ L : List Int, depTs (L.map fun i => Tr.v (.int i)) = 0
  | [] => rfl
  | x :: L => by rw [List.map_cons, depTs, ints_dep L]; rfl
theorem seq_asgC {v : V} {i : Nat} {b : TS} {D : Ends} {σ : St} {H : Hp} (h : b D (σ.set i (some v)) H) : tSeq (tAsg (tC v) (gName i)) b D σ H := h
end L2

set_option Elab.async false
set_option linter.all false
set_option maxRecDepth 100000
set_option maxHeartbeats 4000000
namespace L2
open PySem PySem.Spec PyProof.Rows
end L2
namespace HT
open PySem PySem.Spec PyProof.Rows L2
section
variable {prog : Program} {w : World} {A : Around} {E : Value → Shared → Prop} {s : Shared}
end
end HT
namespace L2
open PySem PySem.Spec PyProof.Rows
end L2

set_option Elab.async false
set_option linter.all false
set_option maxRecDepth 100000
set_option maxHeartbeats 4000000
namespace L2
open PySem PySem.Spec PyProof.Rows

end L2

set_option Elab.async false
set_option linter.all false
set_option maxRecDepth 100000
set_option maxHeartbeats 4000000
namespace L2
open PySem PySem.Spec PyProof.Rows
end L2

set_option Elab.async false
set_option linter.all false
set_option maxRecDepth 100000
set_option maxHeartbeats 4000000
namespace L2
open PySem PySem.Spec PyProof.Rows
namespace Tw
end Tw
theorem pop_last {ys : List V} {x : V} : (ys ++ [x])[(ys ++ [x]).length - 1]? = some x ∧ (ys ++ [x]).dropLast = ys := by
  refine ⟨?_, List.dropLast_concat⟩
  rw [List.length_append, List.length_singleton, Nat.add_sub_cancel, List.getElem?_append_right (Nat.le_refl _), Nat.sub_self]
  rfl
end L2
namespace L2
open PySem
end L2
namespace L2
open PySem
end L2
namespace L2
open PySem
end L2
namespace L2
open PySem
end L2

set_option linter.all false
namespace Pw
variable {T S : Type}
end Pw

set_option Elab.async false
set_option linter.all false
set_option maxRecDepth 100000
set_option maxHeartbeats 4000000
namespace L2
open PySem PySem.Spec PyProof.Rows
end L2
namespace L2
open PySem
end L2
namespace L2
open PySem PySem.Spec PyProof.Rows
noncomputable def NL (H H' : Hp) : Prop := ∀ b o, H b = some o → (∀ xs, o ≠ .lst xs) → H' b = some o
theorem NL.tk {H H' : Hp} (h : NL H H') : TK H H' := fun b xs hb => h b _ hb (fun _ z => by cases z)
theorem NL.upd {H : Hp} {l : Addr} {xs : List V} {o : HO} (hl : H l = some (.lst xs)) : NL H (upd H l o) := fun b ob hb hn => by
  rw [upd_ne (fun z => by rw [z, hl] at hb; cases hb; exact hn _ rfl)]
  exact hb
end L2

set_option linter.all false
namespace Pm
variable {S : Type} [DecidableEq S]
structure T4 (S : Type) where
  k : Nat
  a : Nat
  b : Bool
  z : S
noncomputable def tk3 (k : Nat) : Nat → List (Bool × S) → List (T4 S)
  | _, [] => []
  | a, t :: L => ⟨k, a, t.1, t.2⟩ :: tk3 k (a + 1) L
noncomputable def all3 : Nat → List (List (Bool × S)) → List (T4 S)
  | _, [] => []
  | k, L :: Ls => tk3 k 0 L ++ all3 (k + 1) Ls
theorem tk3_len (k : Nat) : ∀ (a : Nat) (L : List (Bool × S)), (tk3 k a L).length = L.length
  | _, [] => rfl
  | a, t :: L => by show (tk3 k (a + 1) L).length + 1 = L.length + 1; rw [tk3_len]
theorem tk3_snoc (k : Nat) : ∀ (a : Nat) (L : List (Bool × S)) (t : Bool × S), tk3 k a (L ++ [t]) = tk3 k a L ++ [⟨k, a + L.length, t.1, t.2⟩]
  | _, [], t => rfl
  | a, u :: L, t => by
    show _ :: tk3 k (a + 1) (L ++ [t]) = _ :: (tk3 k (a + 1) L ++ _)
    rw [tk3_snoc, show a + 1 + L.length = a + (u :: L).length by rw [List.length_cons]; omega]
theorem all3_snoc : ∀ (k : Nat) (Ls : List (List (Bool × S))) (L : List (Bool × S)), all3 k (Ls ++ [L]) = all3 k Ls ++ tk3 (k + Ls.length) 0 L
  | k, [], L => by show tk3 k 0 L ++ [] = [] ++ tk3 (k + 0) 0 L; rw [List.append_nil, List.nil_append, Nat.add_zero]
  | k, M :: Ls, L => by
    show tk3 k 0 M ++ all3 (k + 1) (Ls ++ [L]) = tk3 k 0 M ++ all3 (k + 1) Ls ++ _
    rw [all3_snoc, List.append_assoc, show k + 1 + Ls.length = k + (M :: Ls).length by rw [List.length_cons]; omega]
theorem all3_len : ∀ (k : Nat) (Ls : List (List (Bool × S))) (c : Nat), (∀ L ∈ Ls, L.length ≤ c) → (all3 k Ls).length ≤ c * Ls.length
  | _, [], c, _ => Nat.zero_le _
  | k, L :: Ls, c, h => by
    have h1 := all3_len (k + 1) Ls c fun x hx => h x (List.mem_cons_of_mem _ hx)
    have h2 := h L List.mem_cons_self
    show (tk3 k 0 L ++ all3 (k + 1) Ls).length ≤ _
    rw [List.length_append, tk3_len, List.length_cons, Nat.mul_succ]
    omega
noncomputable def lt2 (x y : T4 S) : Prop := x.k < y.k ∨ (x.k = y.k ∧ x.a < y.a)
theorem tk3_sorted (k : Nat) : ∀ (a : Nat) (L : List (Bool × S)), (tk3 k a L).Pairwise lt2 ∧ ∀ x ∈ tk3 k a L, x.k = k ∧ a ≤ x.a
  | _, [] => ⟨.nil, fun x hx => by cases hx⟩
  | a, t :: L => by
    obtain ⟨h1, h2⟩ := tk3_sorted k (a + 1) L
    refine ⟨List.Pairwise.cons (fun y hy => ?_) h1, fun x hx => ?_⟩
    · obtain ⟨e, h⟩ := h2 y hy
      exact .inr ⟨e.symm, by show a < y.a; omega⟩
    · rcases List.mem_cons.mp hx with rfl | hx
      · exact ⟨rfl, Nat.le_refl _⟩
      · obtain ⟨e, h⟩ := h2 x hx
        exact ⟨e, by omega⟩
theorem all3_sorted : ∀ (k : Nat) (Ls : List (List (Bool × S))), (all3 k Ls).Pairwise lt2 ∧ ∀ x ∈ all3 k Ls, k ≤ x.k
  | _, [] => ⟨.nil, fun x hx => by cases hx⟩
  | k, L :: Ls => by
    obtain ⟨h1, h2⟩ := all3_sorted (k + 1) Ls
    obtain ⟨g1, g2⟩ := tk3_sorted k 0 L
    refine ⟨List.pairwise_append.mpr ⟨g1, h1, fun x hx y hy => .inl ?_⟩, fun x hx => ?_⟩
    · have := (g2 x hx).1
      have := h2 y hy
      omega
    · rcases List.mem_append.mp hx with hx | hx
      · have := (g2 x hx).1; omega
      · have := h2 x hx; omega
noncomputable abbrev Q4 := Nat × Nat × Nat × Nat
noncomputable def ok (x y : T4 S) : Bool := decide (x.z = y.z) && (x.b || y.b)
noncomputable def in1 (x : T4 S) (T : List (T4 S)) : List Q4 := (T.filter (ok x)).map fun y => (x.k, x.a, y.k, y.a)
noncomputable def mtF (U T : List (T4 S)) : List Q4 := (U.map fun x => in1 x T).flatten
noncomputable def mt (T : List (T4 S)) : List Q4 := mtF T T
theorem in1_snoc (x y : T4 S) (T : List (T4 S)) : in1 x (T ++ [y]) = in1 x T ++ if ok x y = true then [(x.k, x.a, y.k, y.a)] else [] := by
  unfold in1
  rw [List.filter_append, List.map_append]
  by_cases c : ok x y = true
  · rw [if_pos c, List.filter_cons_of_pos c]; rfl
  · rw [if_neg c, List.filter_cons_of_neg c]; rfl
theorem mtF_snoc (U T : List (T4 S)) (x : T4 S) : mtF (U ++ [x]) T = mtF U T ++ in1 x T := by
  unfold mtF
  rw [List.map_append, List.flatten_append]
  show _ ++ (in1 x T ++ []) = _
  rw [List.append_nil]
theorem in1_len (x : T4 S) (T : List (T4 S)) : (in1 x T).length ≤ T.length := by
  unfold in1
  rw [List.length_map]
  exact List.length_filter_le _ _
theorem mtF_len (T : List (T4 S)) : ∀ U : List (T4 S), (mtF U T).length ≤ U.length * T.length
  | [] => Nat.zero_le _
  | x :: U => by
    have h1 := mtF_len T U
    have h2 := in1_len x T
    show (in1 x T ++ mtF U T).length ≤ _
    rw [List.length_append, List.length_cons, Nat.succ_mul]
    omega
noncomputable def lt4 (x y : Q4) : Prop := x.1 < y.1 ∨ (x.1 = y.1 ∧ (x.2.1 < y.2.1 ∨ (x.2.1 = y.2.1 ∧ (x.2.2.1 < y.2.2.1 ∨ (x.2.2.1 = y.2.2.1 ∧ x.2.2.2 < y.2.2.2)))))
theorem in1_sorted {T : List (T4 S)} (h : T.Pairwise lt2) (x : T4 S) : (in1 x T).Pairwise lt4 := by
  unfold in1
  rw [List.pairwise_map]
  refine (h.filter _).imp fun {a b} hab => ?_
  rcases hab with h | ⟨h, h'⟩
  · exact .inr ⟨rfl, .inr ⟨rfl, .inl h⟩⟩
  · exact .inr ⟨rfl, .inr ⟨rfl, .inr ⟨h, h'⟩⟩⟩
theorem mt_sorted {T : List (T4 S)} (h : T.Pairwise lt2) : (mt T).Pairwise lt4 := by
  unfold mt mtF
  rw [List.pairwise_flatten]
  refine ⟨fun l hl => ?_, ?_⟩
  · obtain ⟨x, _, rfl⟩ := List.mem_map.mp hl
    exact in1_sorted h x
  · rw [List.pairwise_map]
    refine h.imp fun {x y} hxy p hp q hq => ?_
    unfold in1 at hp hq
    obtain ⟨u, _, rfl⟩ := List.mem_map.mp hp
    obtain ⟨v, _, rfl⟩ := List.mem_map.mp hq
    rcases hxy with h | ⟨h, h'⟩
    · exact .inl h
    · exact .inr ⟨h, .inl h'⟩
theorem pref_ex (f g : Nat → Int) : ∀ m : Nat, ∃ k, k ≤ m ∧ (∀ e < k, f e = g e) ∧ (k < m → f k ≠ g k)
  | 0 => ⟨0, Nat.le_refl _, fun e he => absurd he (Nat.not_lt_zero _), fun h => absurd h (Nat.not_lt_zero _)⟩
  | m + 1 => by
    obtain ⟨k, h1, h2, h3⟩ := pref_ex f g m
    by_cases c : k < m
    · exact ⟨k, by omega, h2, fun _ => h3 c⟩
    · have e : k = m := by omega
      subst e
      by_cases d : f k = g k
      · exact ⟨k + 1, Nat.le_refl _, fun e he => by
          by_cases c2 : e = k
          · rw [c2]; exact d
          · exact h2 e (by omega), fun h => absurd h (Nat.lt_irrefl _)⟩
      · exact ⟨k, by omega, h2, fun _ => d⟩
end Pm

set_option Elab.async false
set_option linter.all false
set_option maxRecDepth 100000
set_option maxHeartbeats 4000000
namespace L2
open PySem PySem.Spec PyProof.Rows
structure R5 where
  n : Nat
  path : List Int
  z : Str
  p : Addr
  m : Nat
  rs : Reads
noncomputable def tl5 (R : R5) : List (Bool × Str) := (true, R.z) :: R.rs.map fun r => (false, r.1)
structure R5.Ok (R : R5) : Prop where
  n3 : R.n ≤ 3
  pl : R.path.length = R.n + 1
  ms : R.m ≤ 30
  rl : R.rs.length ≤ R.m
theorem tl5_len {R : R5} (h : R.Ok) : (tl5 R).length ≤ 31 := by
  unfold tl5
  rw [List.length_cons, List.length_map]
  have := h.rl
  have := h.ms
  omega
theorem SpAt.tk {H H' : Hp} {p : Addr} (h : SpAt H p) (e : TK H H') : SpAt H' p := by
  obtain ⟨xs, h1, h2, h3⟩ := h
  exact ⟨xs, e _ _ h1, h2, fun v hv => let ⟨t, z, n, a, b⟩ := h3 v hv; ⟨t, z, n, a, e _ _ b⟩⟩
theorem TmT.tk {H H' : Hp} (e : TK H H') {n : Nat} {x : V} {rs : Reads} (h : TmT H n x rs) : TmT H' n x rs := by
  induction h with
  | n i h => exact .n i (e _ _ h)
  | v z h => exact .v z (e _ _ h)
  | c z h hp => exact .c z (e _ _ h) (hp.tk e)
  | j z hz h _ _ a b => exact .j z hz (e _ _ h) a b
noncomputable def R5At (H : Hp) (v : V) (R : R5) : Prop := ∃ (r u1 u4 : Addr) (v1 v2 x : V) (ys : List V), v = .ref r ∧ H r = some (.tup [.ref u1, v1, v2, .str R.z, .ref R.p, x, .ref u4]) ∧ H u1 = some (.tup ys) ∧ ys.length = R.n ∧ (∀ y ∈ ys, ∃ z, y = V.str z) ∧ H u4 = some (.tup (R.path.map V.int)) ∧ TmT H R.m x R.rs
theorem R5At.tk {H H' : Hp} {v : V} {R : R5} (h : R5At H v R) (e : TK H H') : R5At H' v R := by
  obtain ⟨r, u1, u4, v1, v2, x, ys, a, b, c, d, f, g, k⟩ := h
  exact ⟨r, u1, u4, v1, v2, x, ys, a, e _ _ b, e _ _ c, d, f, e _ _ g, k.tk e⟩
theorem R5At.over {H H' : Hp} {v : V} {R : R5} (h : R5At H v R) (e : Same H H') : R5At H' v R := h.tk (Same.tk e)
noncomputable def R5sAt (H : Hp) (l : Addr) (Rs : List R5) : Prop := ∃ xs, H l = some (.lst xs) ∧ All2 (R5At H) xs Rs
theorem R5sAt.over {H H' : Hp} {l : Addr} {Rs : List R5} (h : R5sAt H l Rs) (e : Same H H') : R5sAt H' l Rs := let ⟨xs, a, b⟩ := h; ⟨xs, e _ _ a, b.mono fun _ _ z => z.over e⟩
theorem TmO.nl {c : Cs} {H H' : Hp} (e : NL H H') {n : Nat} {x : V} {rs : Reads} (h : TmO c H n x rs) : TmO c H' n x rs := by
  induction h with
  | num i h => exact .num i (e _ _ h (fun _ z => by cases z))
  | val z h => exact .val z (e _ _ h (fun _ z => by cases z))
  | cel z h => exact .cel z (e _ _ h (fun _ z => by cases z))
  | joi z h _ _ a b => exact .joi z (e _ _ h (fun _ z => by cases z)) a b
noncomputable def D5At (c : Cs) (C : Addr) (H : Hp) (v : V) (R : R5) : Prop := ∃ (d dx nm pt : Addr) (v2 v3 x : V) (ys : List V), v = .ref d ∧ H d = some (.ins C dx [("names", .ref nm), ("lows", v2), ("highs", v3), ("table", .str R.z), ("spots", .ref R.p), ("term", x), ("path", .ref pt)]) ∧ H nm = some (.tup ys) ∧ ys.length = R.n ∧ H pt = some (.tup (R.path.map V.int)) ∧ TmO c H R.m x R.rs
theorem D5At.nl {c : Cs} {C : Addr} {H H' : Hp} {v : V} {R : R5} (h : D5At c C H v R) (e : NL H H') : D5At c C H' v R := by
  obtain ⟨d, dx, nm, pt, v2, v3, x, ys, a, b, f, g, k, l⟩ := h
  exact ⟨d, dx, nm, pt, v2, v3, x, ys, a, e _ _ b (fun _ z => by cases z), e _ _ f (fun _ z => by cases z), g, e _ _ k (fun _ z => by cases z), l.nl e⟩
theorem Same.nl {H H' : Hp} (e : Same H H') : NL H H' := fun b o h _ => e b o h
theorem D5At.over {c : Cs} {C : Addr} {H H' : Hp} {v : V} {R : R5} (h : D5At c C H v R) (e : Same H H') : D5At c C H' v R := h.nl e.nl
theorem D5At.tm {c : Cs} {C : Addr} {H : Hp} {v : V} {R : R5} (h : D5At c C H v R) : DeedTm c C H v R.z R.p R.m R.rs := by
  obtain ⟨d, dx, nm, pt, v2, v3, x, ys, a, b, f, g, k, l⟩ := h
  exact ⟨d, dx, _, _, _, x, _, a, b, l⟩
noncomputable def P5At (CP C : Addr) (c : Cs) (H : Hp) (v : V) (Rs : List R5) : Prop := ∃ (x dx dl : Addr) (sz : V) (xs : List V), v = .ref x ∧ H x = some (.ins CP dx [("size", sz), ("deeds", .ref dl)]) ∧ H dl = some (.lst xs) ∧ All2 (D5At c C H) xs Rs
noncomputable def spRow55 : Sp := fun vs H Q _ => ∃ (c : Int) (st pt hd : Addr) (k : Nat) (ps : List Int), vs = [.int c, .ref st, .ref pt, .ref hd] ∧ StackOf H st k ∧ k ≤ 10 ∧ H pt = some (.lst (ps.map V.int)) ∧ HeadsAt H hd ∧ ∀ (r : Addr) (H' : Hp) (z : Str) (p : Addr) (m : Nat) (rs : Reads), Same H H' → R5At H' (.ref r) ⟨k, ps, z, p, m, rs⟩ → m ≤ 3 → Q (.ref r) H'
noncomputable def spRows55 (K : PySem.W.Frag) : Sp := fun vs H Q _ => ∃ (sc : Addr) (ns : List Int) (n : Nat), vs = [.ref sc, .int (n : Int)] ∧ SqL K H sc (ns.map V.int) ∧ ns.length ≤ 63 ∧ n ≤ 6 ∧ ∀ (r : Addr) (H' : Hp) (Rs : List R5), Same H H' → R5sAt H' r Rs → Rs.length = n → (∀ R ∈ Rs, R.Ok ∧ R.m ≤ 3) → Q (.ref r) H'
noncomputable def spMany55 (K : PySem.W.Frag) : Sp := fun vs H Q _ => ∃ (sc : Addr) (ns : List Int), vs = [.ref sc] ∧ SqL K H sc (ns.map V.int) ∧ ns.length ≤ 63 ∧ ∀ (H' : Hp) (n : Nat), Same H H' → 1 ≤ n → n ≤ 6 → Q (.int (n : Int)) H'
noncomputable def spSize55 (K : PySem.W.Frag) : Sp := fun vs H Q _ => ∃ (sc : Addr) (ns : List Int), vs = [.ref sc] ∧ SqL K H sc (ns.map V.int) ∧ ns.length ≤ 63 ∧ ∀ (H' : Hp) (n : Int), Same H H' → Q (.int n) H'
noncomputable def spMade55 (CP C : Addr) (c : Cs) : Sp := fun vs H Q _ => ∃ (n : Int) (l : Addr) (Rs : List R5), vs = [.int n, .ref l] ∧ R5sAt H l Rs ∧ Rs.length ≤ 6 ∧ (∀ R ∈ Rs, R.Ok) ∧ ∀ (x dx dl : Addr) (xs : List V) (H' : Hp), Same H H' → H' x = some (.ins CP dx [("size", .int n), ("deeds", .ref dl)]) → H dl = none → H' dl = some (.lst xs) → All2 (D5At c C H') xs Rs → Q (.ref x) H'
noncomputable def spLonger55 (K : PySem.W.Frag) : Sp := fun vs H Q _ => ∃ (sc l : Addr) (ns : List Int) (Rs : List R5), vs = [.ref sc, .ref l] ∧ SqL K H sc (ns.map V.int) ∧ ns.length ≤ 63 ∧ R5sAt H l Rs ∧ 0 < Rs.length ∧ Rs.length ≤ 6 ∧ (∀ R ∈ Rs, R.Ok ∧ R.m ≤ 3) ∧ ∀ (r : Addr) (H' : Hp) (Ss : List R5), Same H H' → R5sAt H' r Ss → Ss.length = Rs.length → (∀ R ∈ Ss, R.Ok) → Q (.ref r) H'
noncomputable def ThAt (H : Hp) (y : V) (b : Bool × Str) : Prop := ∃ u p, y = .ref u ∧ H u = some (.tup [.bl b.1, .str b.2, .ref p])
theorem rds_th {H : Hp} {f : Str × Addr → List V} (hf : ∀ r, f r = [.bl false, .str r.1, .ref r.2]) {ys : List V} {rs : Reads} (h : RdsAt H f ys rs) : All2 (ThAt H) ys (rs.map fun r => (false, r.1)) := by
  refine ⟨by rw [List.length_map]; exact h.1, fun i x a hx ha => ?_⟩
  rw [List.getElem?_map] at ha
  cases hr : rs[i]? with
  | none => rw [hr] at ha; cases ha
  | some r =>
    rw [hr] at ha
    cases ha
    obtain ⟨t, rfl, ht⟩ := h.2 i x r hx hr
    rw [hf] at ht
    exact ⟨t, r.2, rfl, ht⟩
theorem tch_th {H : Hp} {l : Addr} {R : R5} (h : TchAt H l R.z R.p R.rs) : ∃ xs, H l = some (.lst xs) ∧ All2 (ThAt H) xs (tl5 R) := by
  obtain ⟨t, ys, h1, h2, h3⟩ := h
  exact ⟨_, h1, .cons ⟨t, R.p, rfl, h2⟩ (rds_th (fun _ => rfl) h3)⟩
noncomputable def spTouchL55 : Sp := fun vs H Q _ => ∃ (v : V) (R : R5), vs = [v] ∧ R5At H v R ∧ R.m ≤ 100 ∧ ∀ (l : Addr) (xs : List V) (H' : Hp), Same H H' → H l = none → H' l = some (.lst xs) → All2 (ThAt H') xs (tl5 R) → Q (.ref l) H'
noncomputable abbrev T5 := Pm.T4 Str
noncomputable def T3At (H : Hp) (y : V) (x : T5) : Prop := ∃ t u p, y = .ref t ∧ H t = some (.tup [.int (x.k : Int), .int (x.a : Int), .ref u]) ∧ H u = some (.tup [.bl x.b, .str x.z, .ref p])
theorem T3At.tk {H H' : Hp} {y : V} {x : T5} (h : T3At H y x) (e : TK H H') : T3At H' y x := let ⟨t, u, p, a, b, c⟩ := h; ⟨t, u, p, a, e _ _ b, e _ _ c⟩
theorem T3At.over {H H' : Hp} {y : V} {x : T5} (h : T3At H y x) (e : Same H H') : T3At H' y x := h.tk (Same.tk e)
noncomputable abbrev al5 (Rs : List R5) : List T5 := Pm.all3 0 (Rs.map tl5)
theorem al5_len {Rs : List R5} (h : ∀ R ∈ Rs, R.Ok) (n : Rs.length ≤ 6) : (al5 Rs).length ≤ 186 := by
  have := Pm.all3_len 0 (Rs.map tl5) 31 fun L hL => by
    obtain ⟨R, hR, rfl⟩ := List.mem_map.mp hL
    exact tl5_len (h R hR)
  rw [List.length_map] at this
  have h2 : 31 * Rs.length ≤ 31 * 6 := Nat.mul_le_mul_left _ n
  show (Pm.all3 0 (Rs.map tl5)).length ≤ 186
  omega
noncomputable def spAllT55 (CP C : Addr) (c : Cs) : Sp := fun vs H Q _ => ∃ (v : V) (Rs : List R5), vs = [v] ∧ P5At CP C c H v Rs ∧ (∀ R ∈ Rs, R.Ok) ∧ Rs.length ≤ 6 ∧ ∀ (r : Addr) (ys : List V) (H' : Hp), Same H H' → H r = none → H' r = some (.lst ys) → All2 (T3At H') ys (al5 Rs) → Q (.ref r) H'
noncomputable def Q4At (H : Hp) (y : V) (q : Pm.Q4) : Prop := ∃ t, y = .ref t ∧ H t = some (.tup [.int (q.1 : Int), .int (q.2.1 : Int), .int (q.2.2.1 : Int), .int (q.2.2.2 : Int)])
theorem Q4At.tk {H H' : Hp} {y : V} {x : Pm.Q4} (h : Q4At H y x) (e : TK H H') : Q4At H' y x := let ⟨t, a, b⟩ := h; ⟨t, a, e _ _ b⟩
theorem Q4At.over {H H' : Hp} {y : V} {x : Pm.Q4} (h : Q4At H y x) (e : Same H H') : Q4At H' y x := h.tk (Same.tk e)
noncomputable def Q4sAt (H : Hp) (l : Addr) (L : List Pm.Q4) : Prop := ∃ ys, H l = some (.lst ys) ∧ All2 (Q4At H) ys L
theorem Q4sAt.over {H H' : Hp} {l : Addr} {L : List Pm.Q4} (h : Q4sAt H l L) (e : Same H H') : Q4sAt H' l L := let ⟨xs, a, b⟩ := h; ⟨xs, e _ _ a, b.mono fun _ _ z => z.over e⟩
theorem mt_len {T : List T5} (h : T.length ≤ 186) : (Pm.mt T).length ≤ 34596 := Nat.le_trans (Pm.mtF_len T T) (Nat.mul_le_mul h h)
noncomputable def spMeets55 (CP C : Addr) (c : Cs) : Sp := fun vs H Q _ => ∃ (v : V) (Rs : List R5), vs = [v] ∧ P5At CP C c H v Rs ∧ (∀ R ∈ Rs, R.Ok) ∧ Rs.length ≤ 6 ∧ ∀ (r : Addr) (H' : Hp), Same H H' → H r = none → Q4sAt H' r (Pm.mt (al5 Rs)) → Q (.ref r) H'
noncomputable def spMeetsL55 : Sp := fun vs H Q _ => ∃ (l : Addr) (Rs : List R5), vs = [.ref l] ∧ R5sAt H l Rs ∧ (∀ R ∈ Rs, R.Ok) ∧ Rs.length ≤ 6 ∧ ∀ (r : Addr) (H' : Hp), Same H H' → Q4sAt H' r (Pm.mt (al5 Rs)) → Q (.ref r) H'
noncomputable def q4T (q : Pm.Q4) : Tr := .tup [.v (.int (q.1 : Int)), .v (.int (q.2.1 : Int)), .v (.int (q.2.2.1 : Int)), .v (.int (q.2.2.2 : Int))]
theorem q4_tr {K : PySem.W.Frag} {H : Hp} : ∀ {ys : List V} {L : List Pm.Q4}, All2 (Q4At H) ys L → TrsIs K H ys (L.map q4T)
  | [], [], _ => .nil
  | [], q :: L, h => by have := h.1; cases this
  | y :: ys, [], h => by have := h.1; cases this
  | y :: ys, q :: L, h => by
    obtain ⟨t, rfl, ht⟩ := h.2 0 y q rfl rfl
    exact .cons (.tup (SqT.of ht) (.cons (.flat rfl) (.cons (.flat rfl) (.cons (.flat rfl) (.cons (.flat rfl) .nil))))) (q4_tr ⟨Nat.succ.inj h.1, fun i x a p q => h.2 (i + 1) x a (by simpa using p) (by simpa using q)⟩)
theorem q4_dep : ∀ L : List Pm.Q4, depTs (L.map q4T) ≤ 1
  | [] => Nat.zero_le _
  | q :: L => by
    rw [List.map_cons, depTs]
    have := q4_dep L
    have : depT (q4T q) = 1 := by simp [q4T, depT, depTs]
    omega
theorem q4_list {K : PySem.W.Frag} {H : Hp} {l : Addr} {L : List Pm.Q4} (h : Q4sAt H l L) : TrIs K H (.ref l) (.lst (L.map q4T)) := let ⟨ys, a, b⟩ := h; .lst (SqL.of a) (q4_tr b)
theorem ne_same5 {K : PySem.W.Frag} {H : Hp} {x y : Addr} {t : Tr} {Q : VK} (hx : TrIs K H (.ref x) t) (hy : TrIs K H (.ref y) t) (hd : depT t ≤ 60) (h : Q (.bl false) H) : rEqX K true (.ref x) (.ref y) H Q := by
  refine ⟨t, t, hx, hy, ⟨_, rfl⟩, ⟨_, rfl⟩, simT_refl t, hd, ?_⟩
  rw [eqT_refl t hx.ok]
  exact h
theorem eq_same5 {K : PySem.W.Frag} {H : Hp} {x y : Addr} {t : Tr} {Q : VK} (hx : TrIs K H (.ref x) t) (hy : TrIs K H (.ref y) t) (hd : depT t ≤ 60) (h : Q (.bl true) H) : rEqX K false (.ref x) (.ref y) H Q := by
  refine ⟨t, t, hx, hy, ⟨_, rfl⟩, ⟨_, rfl⟩, simT_refl t, hd, ?_⟩
  rw [show (if false = true then !eqT t t else eqT t t) = true from eqT_refl t hx.ok]
  exact h
theorem lex_q4 {p q : Pm.Q4} (h : Pm.lt4 p q) : HT.lexLt [(p.1 : Int), p.2.1, p.2.2.1, p.2.2.2] [(q.1 : Int), q.2.1, q.2.2.1, q.2.2.2] = true := by
  have step : ∀ (x y : Int) (xs ys : List Int), (x < y ∨ (x = y ∧ HT.lexLt xs ys = true)) → HT.lexLt (x :: xs) (y :: ys) = true := fun x y xs ys h => by
    show (if x = y then HT.lexLt xs ys else decide (x < y)) = true
    rcases h with h | ⟨h, h'⟩
    · rw [if_neg (by omega)]; exact decide_eq_true h
    · rw [if_pos h]; exact h'
  unfold Pm.lt4 at h
  refine step _ _ _ _ ?_
  rcases h with h | ⟨h, h1⟩
  · exact .inl (by omega)
  refine .inr ⟨by omega, step _ _ _ _ ?_⟩
  rcases h1 with h | ⟨h, h1⟩
  · exact .inl (by omega)
  refine .inr ⟨by omega, step _ _ _ _ ?_⟩
  rcases h1 with h | ⟨h, h1⟩
  · exact .inl (by omega)
  refine .inr ⟨by omega, step _ _ _ _ (.inl (by omega))⟩
noncomputable def spRising55 : Sp := fun vs H Q _ => ∃ (l : Addr) (L : List Pm.Q4), vs = [.ref l] ∧ Q4sAt H l L ∧ L.Pairwise Pm.lt4 ∧ L.length ≤ 40000 ∧ ∀ H', Same H H' → Q (.bl true) H'
noncomputable def spNumbers55 : Sp := fun vs H Q _ => ∃ (l : Addr) (L : List Int), vs = [.ref l] ∧ H l = some (.lst (L.map V.int)) ∧ L.length ≤ 1000 ∧ ∀ H', Same H H' → Q (.bl true) H'
noncomputable def Pf5 (R S : R5) (k : Nat) : Prop := k ≤ R.n ∧ k ≤ S.n ∧ (∀ e < k, R.path.getD e 0 = S.path.getD e 0) ∧ (k < min R.n S.n → R.path.getD k 0 ≠ S.path.getD k 0)
theorem pf_ex (R S : R5) : ∃ k, Pf5 R S k := by
  obtain ⟨k, h1, h2, h3⟩ := Pm.pref_ex (fun e => R.path.getD e 0) (fun e => S.path.getD e 0) (min R.n S.n)
  exact ⟨k, by omega, by omega, h2, h3⟩
noncomputable def spShared55 (C : Addr) (c : Cs) : Sp := fun vs H Q _ => ∃ (x y : V) (R S : R5) (k : Nat), vs = [x, y] ∧ D5At c C H x R ∧ D5At c C H y S ∧ R.Ok ∧ S.Ok ∧ Pf5 R S k ∧ Q (.int (k : Int)) H
noncomputable def spSharedL55 : Sp := fun vs H Q _ => ∃ (x y : V) (R S : R5) (k : Nat), vs = [x, y] ∧ R5At H x R ∧ R5At H y S ∧ R.Ok ∧ S.Ok ∧ Pf5 R S k ∧ Q (.int (k : Int)) H
noncomputable def caN (k l s : Nat) : Nat := if k < l then s + 1 else s
noncomputable def spCases55 (CP C : Addr) (c : Cs) : Sp := fun vs H Q _ => ∃ (v : V) (Rs : List R5) (k l s : Nat) (R S : R5), vs = [v, .int (k : Int), .int (l : Int)] ∧ P5At CP C c H v Rs ∧ (∀ R ∈ Rs, R.Ok) ∧ Rs[k]? = some R ∧ Rs[l]? = some S ∧ Pf5 R S s ∧ ∀ (r : Addr) (H' : Hp), Same H H' → H r = none → H' r = some (.lst ((List.range (caN k l s)).map fun i : Nat => V.int (i : Int))) → Q (.ref r) H'
noncomputable def spCasesL55 : Sp := fun vs H Q _ => ∃ (a : Addr) (Rs : List R5) (k l s : Nat) (R S : R5), vs = [.ref a, .int (k : Int), .int (l : Int)] ∧ R5sAt H a Rs ∧ (∀ R ∈ Rs, R.Ok) ∧ Rs[k]? = some R ∧ Rs[l]? = some S ∧ Pf5 R S s ∧ ∀ (r : Addr) (H' : Hp), Same H H' → H' r = some (.lst ((List.range (caN k l s)).map fun i : Nat => V.int (i : Int))) → Q (.ref r) H'
theorem rng_tr {K : PySem.W.Frag} {H : Hp} {l : Addr} {n : Nat} (h : H l = some (.lst ((List.range n).map fun i : Nat => V.int (i : Int)))) : TrIs K H (.ref l) (.lst (((List.range n).map fun i : Nat => (i : Int)).map fun i => Tr.v (.int i))) := by
  have e : ((List.range n).map fun i : Nat => V.int (i : Int)) = ((List.range n).map fun i : Nat => (i : Int)).map V.int := by rw [List.map_map]; rfl
  rw [e] at h
  exact .lst (SqL.of h) (ints_tr _)
end L2

set_option Elab.async false
set_option linter.all false
set_option maxRecDepth 100000
set_option maxHeartbeats 4000000

namespace Fw
open PySem L2 Bd


noncomputable def top (i : Nat) : Stmt := PySem.Challenge.pw_furrow_k55_meets.main.body.getD i (.Pass ⟨0, 0, 0, 0⟩)
noncomputable abbrev s_Number_init : Stmt := inClass (top 3) 0
noncomputable abbrev s_Value_init : Stmt := inClass (top 4) 0
noncomputable abbrev s_Cell_init : Stmt := inClass (top 5) 0
noncomputable abbrev s_Joined_init : Stmt := inClass (top 6) 0
noncomputable abbrev s_Number_reads : Stmt := inClass (top 3) 2
noncomputable abbrev s_Value_reads : Stmt := inClass (top 4) 2
noncomputable abbrev s_Cell_reads : Stmt := inClass (top 5) 2
noncomputable abbrev s_Joined_reads : Stmt := inClass (top 6) 2
noncomputable abbrev s_Deed_init : Stmt := inClass (top 8) 0
noncomputable abbrev s_Program_init : Stmt := inClass (top 9) 0
noncomputable abbrev s_shared : Stmt := top 10
noncomputable abbrev s_alike_numbers : Stmt := top 11
noncomputable abbrev s_touches : Stmt := top 13
noncomputable abbrev s_meets : Stmt := top 15
noncomputable abbrev s_all_touches : Stmt := top 16
noncomputable abbrev s_cases : Stmt := top 17
noncomputable abbrev s_l_cell : Stmt := top 19
noncomputable abbrev s_l_whole : Stmt := top 20
noncomputable abbrev s_l_mixed : Stmt := top 21
noncomputable abbrev s_l_name : Stmt := top 22
noncomputable abbrev s_l_spots : Stmt := top 23
noncomputable abbrev s_l_cell_of : Stmt := top 24
noncomputable abbrev s_l_leaf : Stmt := top 25
noncomputable abbrev s_l_term : Stmt := top 26
noncomputable abbrev s_l_loop : Stmt := top 27
noncomputable abbrev s_l_row : Stmt := top 28
noncomputable abbrev s_l_heads : Stmt := top 29
noncomputable abbrev s_l_rows : Stmt := top 30
noncomputable abbrev s_l_many : Stmt := top 31
noncomputable abbrev s_l_size : Stmt := top 32
noncomputable abbrev s_l_object : Stmt := top 33
noncomputable abbrev s_l_made : Stmt := top 34
noncomputable abbrev s_l_reads : Stmt := top 35
noncomputable abbrev s_l_touches : Stmt := top 36
noncomputable abbrev s_l_meets : Stmt := top 37
noncomputable abbrev s_l_shared : Stmt := top 38
noncomputable abbrev s_l_cases : Stmt := top 39
noncomputable abbrev s_l_rising : Stmt := top 40
noncomputable abbrev s_l_numbers : Stmt := top 41
noncomputable abbrev s_l_longer : Stmt := top 42
noncomputable abbrev s_law : Stmt := top 43
theorem sc_Number_init : FnScope ["self", "n"] ["self", "n"] (defScope s_Number_init) := ⟨rfl, rfl, rfl, by decide +kernel, rfl, by decide +kernel, by decide +kernel⟩
theorem sc_Value_init : FnScope ["self", "name"] ["self", "name"] (defScope s_Value_init) := ⟨rfl, rfl, rfl, by decide +kernel, rfl, by decide +kernel, by decide +kernel⟩
theorem sc_Cell_init : FnScope ["self", "table", "spots"] ["self", "table", "spots"] (defScope s_Cell_init) := ⟨rfl, rfl, rfl, by decide +kernel, rfl, by decide +kernel, by decide +kernel⟩
theorem sc_Joined_init : FnScope ["self", "sign", "left", "right"] ["self", "sign", "left", "right"] (defScope s_Joined_init) := ⟨rfl, rfl, rfl, by decide +kernel, rfl, by decide +kernel, by decide +kernel⟩
theorem sc_Number_reads : FnScope ["self"] ["self"] (defScope s_Number_reads) := ⟨rfl, rfl, rfl, by decide +kernel, rfl, by decide +kernel, by decide +kernel⟩
theorem sc_Value_reads : FnScope ["self"] ["self"] (defScope s_Value_reads) := ⟨rfl, rfl, rfl, by decide +kernel, rfl, by decide +kernel, by decide +kernel⟩
theorem sc_Cell_reads : FnScope ["self"] ["self"] (defScope s_Cell_reads) := ⟨rfl, rfl, rfl, by decide +kernel, rfl, by decide +kernel, by decide +kernel⟩
theorem sc_Joined_reads : FnScope ["self"] ["self"] (defScope s_Joined_reads) := ⟨rfl, rfl, rfl, by decide +kernel, rfl, by decide +kernel, by decide +kernel⟩
theorem sc_Deed_init : FnScope ["self", "names", "lows", "highs", "table", "spots", "term", "path"] ["self", "names", "lows", "highs", "table", "spots", "term", "path"] (defScope s_Deed_init) := ⟨rfl, rfl, rfl, by decide +kernel, rfl, by decide +kernel, by decide +kernel⟩
theorem sc_Program_init : FnScope ["self", "size", "deeds"] ["self", "size", "deeds"] (defScope s_Program_init) := ⟨rfl, rfl, rfl, by decide +kernel, rfl, by decide +kernel, by decide +kernel⟩
theorem sc_shared : FnScope ["one", "other"] ["one", "other"] (defScope s_shared) := ⟨rfl, rfl, rfl, by decide +kernel, rfl, by decide +kernel, by decide +kernel⟩
theorem sc_alike_numbers : FnScope ["path", "other", "most", "e"] ["path", "other", "most"] (defScope s_alike_numbers) := ⟨rfl, rfl, rfl, by decide +kernel, rfl, by decide +kernel, by decide +kernel⟩
theorem sc_touches : FnScope ["deed", "reads"] ["deed"] (defScope s_touches) := ⟨rfl, rfl, rfl, by decide +kernel, rfl, by decide +kernel, by decide +kernel⟩
theorem sc_meets : FnScope ["program", "touched", "found", "k", "a", "touch", "l", "b", "other"] ["program"] (defScope s_meets) := ⟨rfl, rfl, rfl, by decide +kernel, rfl, by decide +kernel, by decide +kernel⟩
theorem sc_all_touches : FnScope ["program", "found", "k", "deed", "a", "touch"] ["program"] (defScope s_all_touches) := ⟨rfl, rfl, rfl, by decide +kernel, rfl, by decide +kernel, by decide +kernel⟩
theorem sc_cases : FnScope ["program", "k", "l", "many"] ["program", "k", "l"] (defScope s_cases) := ⟨rfl, rfl, rfl, by decide +kernel, rfl, by decide +kernel, by decide +kernel⟩
theorem sc_l_cell : FnScope ["_law_script", "_law_k", "_law_number"] ["_law_script", "_law_k"] (defScope s_l_cell) := ⟨rfl, rfl, rfl, by decide +kernel, rfl, by decide +kernel, by decide +kernel⟩
theorem sc_l_whole : FnScope ["_law_found"] ["_law_found"] (defScope s_l_whole) := ⟨rfl, rfl, rfl, by decide +kernel, rfl, by decide +kernel, by decide +kernel⟩
theorem sc_l_mixed : FnScope ["_law_cell_here", "_law_k", "_law_number"] ["_law_cell_here", "_law_k"] (defScope s_l_mixed) := ⟨rfl, rfl, rfl, by decide +kernel, rfl, by decide +kernel, by decide +kernel⟩
theorem sc_l_name : FnScope ["_law_cell_here", "_law_e", "_law_some", "_law_number", "_law_word", "_law_k", "_law_at", "_law_name_here"] ["_law_cell_here", "_law_e"] (defScope s_l_name) := ⟨rfl, rfl, rfl, by decide +kernel, rfl, by decide +kernel, by decide +kernel⟩
theorem sc_l_spots : FnScope ["_law_number", "_law_bases", "_law_many_here", "_law_off", "_law_spots_here", "_law_k", "_law_part", "_law_base"] ["_law_number", "_law_bases", "_law_many_here", "_law_off"] (defScope s_l_spots) := ⟨rfl, rfl, rfl, by decide +kernel, rfl, by decide +kernel, by decide +kernel⟩
theorem sc_l_cell_of : FnScope ["_law_number", "_law_bases", "_law_heads_here", "_law_table", "_law_many_here", "_law_off"] ["_law_number", "_law_bases", "_law_heads_here"] (defScope s_l_cell_of) := ⟨rfl, rfl, rfl, by decide +kernel, rfl, by decide +kernel, by decide +kernel⟩
theorem sc_l_leaf : FnScope ["_law_number", "_law_bases", "_law_heads_here", "_law_table", "_law_spots_here"] ["_law_number", "_law_bases", "_law_heads_here"] (defScope s_l_leaf) := ⟨rfl, rfl, rfl, by decide +kernel, rfl, by decide +kernel, by decide +kernel⟩
theorem sc_l_term : FnScope ["_law_cell_here", "_law_bases", "_law_heads_here", "_law_term_here", "_law_k", "_law_sign", "_law_leaf_here"] ["_law_cell_here", "_law_bases", "_law_heads_here"] (defScope s_l_term) := ⟨rfl, rfl, rfl, by decide +kernel, rfl, by decide +kernel, by decide +kernel⟩
theorem sc_l_loop : FnScope ["_law_number", "_law_far", "_law_stack", "_law_cell_here", "_law_about", "_law_bases", "_law_low", "_law_high", "_law_more", "_law_low_spot", "_law_turn", "_law_name_here"] ["_law_number", "_law_far", "_law_stack", "_law_cell_here"] (defScope s_l_loop) := ⟨rfl, rfl, rfl, by decide +kernel, rfl, by decide +kernel, by decide +kernel⟩
theorem sc_l_row : FnScope ["_law_cell_here", "_law_stack", "_law_path", "_law_heads_here", "_law_bases", "_law_names", "_law_lows", "_law_highs", "_law_table", "_law_spots_here"] ["_law_cell_here", "_law_stack", "_law_path", "_law_heads_here"] (defScope s_l_row) := ⟨rfl, rfl, rfl, by decide +kernel, rfl, by decide +kernel, by decide +kernel⟩
theorem sc_l_heads : FnScope ["_law_script", "_law_cell_here", "_law_number", "_law_off", "_law_heads_here", "_law_t"] ["_law_script"] (defScope s_l_heads) := ⟨rfl, rfl, rfl, by decide +kernel, rfl, by decide +kernel, by decide +kernel⟩
theorem sc_l_rows : FnScope ["_law_script", "_law_many_here", "_law_far", "_law_stack", "_law_counts", "_law_path", "_law_rows_here", "_law_k", "_law_cell_here", "_law_number", "_law_closed", "_law_close", "_law_opens", "_law_e", "_law_loop_here"] ["_law_script", "_law_many_here"] (defScope s_l_rows) := ⟨rfl, rfl, rfl, by decide +kernel, rfl, by decide +kernel, by decide +kernel⟩
theorem sc_l_many : FnScope ["_law_script"] ["_law_script"] (defScope s_l_many) := ⟨rfl, rfl, rfl, by decide +kernel, rfl, by decide +kernel, by decide +kernel⟩
theorem sc_l_size : FnScope ["_law_script", "_law_cell_here"] ["_law_script"] (defScope s_l_size) := ⟨rfl, rfl, rfl, by decide +kernel, rfl, by decide +kernel, by decide +kernel⟩
theorem sc_l_object : FnScope ["_law_term_here"] ["_law_term_here"] (defScope s_l_object) := ⟨rfl, rfl, rfl, by decide +kernel, rfl, by decide +kernel, by decide +kernel⟩
theorem sc_l_made : FnScope ["_law_size_here", "_law_rows_here", "_law_deeds"] ["_law_size_here", "_law_rows_here"] (defScope s_l_made) := ⟨rfl, rfl, rfl, by decide +kernel, rfl, by decide +kernel, by decide +kernel⟩
theorem sc_l_reads : FnScope ["_law_term_here"] ["_law_term_here"] (defScope s_l_reads) := ⟨rfl, rfl, rfl, by decide +kernel, rfl, by decide +kernel, by decide +kernel⟩
theorem sc_l_touches : FnScope ["_law_row_here"] ["_law_row_here"] (defScope s_l_touches) := ⟨rfl, rfl, rfl, by decide +kernel, rfl, by decide +kernel, by decide +kernel⟩
theorem sc_l_meets : FnScope ["_law_rows_here", "_law_some", "_law_k", "_law_a", "_law_touch", "_law_found", "_law_one", "_law_l", "_law_b", "_law_other"] ["_law_rows_here"] (defScope s_l_meets) := ⟨rfl, rfl, rfl, by decide +kernel, rfl, by decide +kernel, by decide +kernel⟩
theorem sc_l_shared : FnScope ["_law_one", "_law_other", "_law_many_here"] ["_law_one", "_law_other"] (defScope s_l_shared) := ⟨rfl, rfl, rfl, by decide +kernel, rfl, by decide +kernel, by decide +kernel⟩
theorem sc_l_cases : FnScope ["_law_rows_here", "_law_k", "_law_l", "_law_many_here"] ["_law_rows_here", "_law_k", "_law_l"] (defScope s_l_cases) := ⟨rfl, rfl, rfl, by decide +kernel, rfl, by decide +kernel, by decide +kernel⟩
theorem sc_l_rising : FnScope ["_law_found", "_law_row_here", "_law_one", "_law_other"] ["_law_found"] (defScope s_l_rising) := ⟨rfl, rfl, rfl, by decide +kernel, rfl, by decide +kernel, by decide +kernel⟩
theorem sc_l_numbers : FnScope ["_law_found"] ["_law_found"] (defScope s_l_numbers) := ⟨rfl, rfl, rfl, by decide +kernel, rfl, by decide +kernel, by decide +kernel⟩
theorem sc_l_longer : FnScope ["_law_script", "_law_rows_here", "_law_cell_here", "_law_number", "_law_at", "_law_row_here", "_law_bases", "_law_term_here", "_law_k"] ["_law_script", "_law_rows_here"] (defScope s_l_longer) := ⟨rfl, rfl, rfl, by decide +kernel, rfl, by decide +kernel, by decide +kernel⟩
theorem sc_law : FnScope ["_law_script", "_law_rows_here", "_law_program", "_law_due", "_law_found", "_law_k", "_law_l", "_law_told"] ["_law_script"] (defScope s_law) := ⟨rfl, rfl, rfl, by decide +kernel, rfl, by decide +kernel, by decide +kernel⟩
theorem c_l_loop_0 : compB (mkSc [(".0", .local), ("_law_one", .local)]) (defScope s_l_loop) ["_law_number", "_law_far", "_law_stack", "_law_cell_here", "_law_about", "_law_bases", "_law_low", "_law_high", "_law_more", "_law_low_spot", "_law_turn", "_law_name_here"] ["_law_one"] [none] = true := by decide +kernel
theorem c_l_loop_0n : (["_law_one"] : List Str).Nodup := by decide +kernel
theorem c_touches_0 : compB (mkSc [(".0", .local), ("table", .local), ("spots", .local)]) (defScope s_touches) ["deed", "reads"] ["table", "spots"] [none, none] = true := by decide +kernel
theorem c_touches_0n : (["table", "spots"] : List Str).Nodup := by decide +kernel
theorem c_l_row_0 : compB (mkSc [(".0", .local), ("_law_one", .local)]) (defScope s_l_row) ["_law_cell_here", "_law_stack", "_law_path", "_law_heads_here", "_law_bases", "_law_names", "_law_lows", "_law_highs", "_law_table", "_law_spots_here"] ["_law_one"] [none] = true := by decide +kernel
theorem c_l_row_0n : (["_law_one"] : List Str).Nodup := by decide +kernel
theorem c_l_row_1 : compB (mkSc [(".0", .local), ("_law_one", .local)]) (defScope s_l_row) ["_law_cell_here", "_law_stack", "_law_path", "_law_heads_here", "_law_bases", "_law_names", "_law_lows", "_law_highs", "_law_table", "_law_spots_here"] ["_law_one"] [none] = true := by decide +kernel
theorem c_l_row_1n : (["_law_one"] : List Str).Nodup := by decide +kernel
theorem c_l_row_2 : compB (mkSc [(".0", .local), ("_law_one", .local)]) (defScope s_l_row) ["_law_cell_here", "_law_stack", "_law_path", "_law_heads_here", "_law_bases", "_law_names", "_law_lows", "_law_highs", "_law_table", "_law_spots_here"] ["_law_one"] [none] = true := by decide +kernel
theorem c_l_row_2n : (["_law_one"] : List Str).Nodup := by decide +kernel
theorem c_l_row_3 : compB (mkSc [(".0", .local), ("_law_one", .local)]) (defScope s_l_row) ["_law_cell_here", "_law_stack", "_law_path", "_law_heads_here", "_law_bases", "_law_names", "_law_lows", "_law_highs", "_law_table", "_law_spots_here"] ["_law_one"] [none] = true := by decide +kernel
theorem c_l_row_3n : (["_law_one"] : List Str).Nodup := by decide +kernel
theorem c_l_made_0 : compB (mkSc [(".0", .local), ("_law_row_here", .local), ("Deed", .globalImplicit), ("_law_object", .globalImplicit)]) (defScope s_l_made) ["_law_size_here", "_law_rows_here", "_law_deeds"] ["_law_row_here"] [none] = true := by decide +kernel
theorem c_l_made_0n : (["_law_row_here"] : List Str).Nodup := by decide +kernel
theorem c_l_cases_0 : compB (mkSc [(".0", .local), ("_law_e", .local), ("_law_k", .free), ("_law_l", .free), ("_law_many_here", .free)]) (defScope s_l_cases) ["_law_rows_here", "_law_k", "_law_l", "_law_many_here"] ["_law_e", "_law_k", "_law_l", "_law_many_here"] [none, some 1, some 2, some 3] = true := by decide +kernel
theorem c_l_cases_0n : (["_law_e", "_law_k", "_law_l", "_law_many_here"] : List Str).Nodup := by decide +kernel
theorem c_l_numbers_0 : compB (mkSc [(".0", .local), ("_law_n", .local), ("_law_whole", .globalImplicit)]) (defScope s_l_numbers) ["_law_found"] ["_law_n"] [none] = true := by decide +kernel
theorem c_l_numbers_0n : (["_law_n"] : List Str).Nodup := by decide +kernel
theorem c_l_rising_0 : compB (mkSc [(".0", .local), ("_law_n", .local), ("_law_whole", .globalImplicit)]) (defScope s_l_rising) ["_law_found", "_law_row_here", "_law_one", "_law_other"] ["_law_n"] [none] = true := by decide +kernel
theorem c_l_rising_0n : (["_law_n"] : List Str).Nodup := by decide +kernel
theorem c_l_longer_0 : compB (mkSc [(".0", .local), ("_law_name_here", .local)]) (defScope s_l_longer) ["_law_script", "_law_rows_here", "_law_cell_here", "_law_number", "_law_at", "_law_row_here", "_law_bases", "_law_term_here", "_law_k"] ["_law_name_here"] [none] = true := by decide +kernel
theorem c_l_longer_0n : (["_law_name_here"] : List Str).Nodup := by decide +kernel
structure Ad where
  f_Number_init : Addr
  d_Number_init : FuncData
  f_Value_init : Addr
  d_Value_init : FuncData
  f_Cell_init : Addr
  d_Cell_init : FuncData
  f_Joined_init : Addr
  d_Joined_init : FuncData
  f_Number_reads : Addr
  d_Number_reads : FuncData
  f_Value_reads : Addr
  d_Value_reads : FuncData
  f_Cell_reads : Addr
  d_Cell_reads : FuncData
  f_Joined_reads : Addr
  d_Joined_reads : FuncData
  f_Deed_init : Addr
  d_Deed_init : FuncData
  f_Program_init : Addr
  d_Program_init : FuncData
  f_shared : Addr
  d_shared : FuncData
  f_alike_numbers : Addr
  d_alike_numbers : FuncData
  f_touches : Addr
  d_touches : FuncData
  f_meets : Addr
  d_meets : FuncData
  f_all_touches : Addr
  d_all_touches : FuncData
  f_cases : Addr
  d_cases : FuncData
  f_l_cell : Addr
  d_l_cell : FuncData
  f_l_whole : Addr
  d_l_whole : FuncData
  f_l_mixed : Addr
  d_l_mixed : FuncData
  f_l_name : Addr
  d_l_name : FuncData
  f_l_spots : Addr
  d_l_spots : FuncData
  f_l_cell_of : Addr
  d_l_cell_of : FuncData
  f_l_leaf : Addr
  d_l_leaf : FuncData
  f_l_term : Addr
  d_l_term : FuncData
  f_l_loop : Addr
  d_l_loop : FuncData
  f_l_row : Addr
  d_l_row : FuncData
  f_l_heads : Addr
  d_l_heads : FuncData
  f_l_rows : Addr
  d_l_rows : FuncData
  f_l_many : Addr
  d_l_many : FuncData
  f_l_size : Addr
  d_l_size : FuncData
  f_l_object : Addr
  d_l_object : FuncData
  f_l_made : Addr
  d_l_made : FuncData
  f_l_reads : Addr
  d_l_reads : FuncData
  f_l_touches : Addr
  d_l_touches : FuncData
  f_l_meets : Addr
  d_l_meets : FuncData
  f_l_shared : Addr
  d_l_shared : FuncData
  f_l_cases : Addr
  d_l_cases : FuncData
  f_l_rising : Addr
  d_l_rising : FuncData
  f_l_numbers : Addr
  d_l_numbers : FuncData
  f_l_longer : Addr
  d_l_longer : FuncData
  f_law : Addr
  d_law : FuncData
  c_Term : Addr
  c_Number : Addr
  c_Value : Addr
  c_Cell : Addr
  c_Joined : Addr
  c_Deed : Addr
  c_Program : Addr
structure Tx (K : PySem.W.Frag) (mg : Str → Option Value) (a : Ad) : Prop where
  F_Number_init : Fun K "__init__" "Number.__init__" s_Number_init a.f_Number_init a.d_Number_init
  b_Number_init : Binds K a.d_Number_init ["self", "n"] []
  F_Value_init : Fun K "__init__" "Value.__init__" s_Value_init a.f_Value_init a.d_Value_init
  b_Value_init : Binds K a.d_Value_init ["self", "name"] []
  F_Cell_init : Fun K "__init__" "Cell.__init__" s_Cell_init a.f_Cell_init a.d_Cell_init
  b_Cell_init : Binds K a.d_Cell_init ["self", "table", "spots"] []
  F_Joined_init : Fun K "__init__" "Joined.__init__" s_Joined_init a.f_Joined_init a.d_Joined_init
  b_Joined_init : Binds K a.d_Joined_init ["self", "sign", "left", "right"] []
  F_Number_reads : Fun K "reads" "Number.reads" s_Number_reads a.f_Number_reads a.d_Number_reads
  b_Number_reads : Binds K a.d_Number_reads ["self"] []
  F_Value_reads : Fun K "reads" "Value.reads" s_Value_reads a.f_Value_reads a.d_Value_reads
  b_Value_reads : Binds K a.d_Value_reads ["self"] []
  F_Cell_reads : Fun K "reads" "Cell.reads" s_Cell_reads a.f_Cell_reads a.d_Cell_reads
  b_Cell_reads : Binds K a.d_Cell_reads ["self"] []
  F_Joined_reads : Fun K "reads" "Joined.reads" s_Joined_reads a.f_Joined_reads a.d_Joined_reads
  b_Joined_reads : Binds K a.d_Joined_reads ["self"] []
  F_Deed_init : Fun K "__init__" "Deed.__init__" s_Deed_init a.f_Deed_init a.d_Deed_init
  b_Deed_init : Binds K a.d_Deed_init ["self", "names", "lows", "highs", "table", "spots", "term", "path"] []
  F_Program_init : Fun K "__init__" "Program.__init__" s_Program_init a.f_Program_init a.d_Program_init
  b_Program_init : Binds K a.d_Program_init ["self", "size", "deeds"] []
  F_shared : Fun K "shared" "shared" s_shared a.f_shared a.d_shared
  b_shared : Binds K a.d_shared ["one", "other"] []
  m_shared : mg "shared" = some (.ref a.f_shared)
  F_alike_numbers : Fun K "alike_numbers" "alike_numbers" s_alike_numbers a.f_alike_numbers a.d_alike_numbers
  b_alike_numbers : Binds K a.d_alike_numbers ["path", "other", "most"] []
  m_alike_numbers : mg "alike_numbers" = some (.ref a.f_alike_numbers)
  F_touches : Fun K "touches" "touches" s_touches a.f_touches a.d_touches
  b_touches : Binds K a.d_touches ["deed"] []
  m_touches : mg "touches" = some (.ref a.f_touches)
  F_meets : Fun K "meets" "meets" s_meets a.f_meets a.d_meets
  b_meets : Binds K a.d_meets ["program"] []
  m_meets : mg "meets" = some (.ref a.f_meets)
  F_all_touches : Fun K "all_touches" "all_touches" s_all_touches a.f_all_touches a.d_all_touches
  b_all_touches : Binds K a.d_all_touches ["program"] []
  m_all_touches : mg "all_touches" = some (.ref a.f_all_touches)
  F_cases : Fun K "cases" "cases" s_cases a.f_cases a.d_cases
  b_cases : Binds K a.d_cases ["program", "k", "l"] []
  m_cases : mg "cases" = some (.ref a.f_cases)
  F_l_cell : Fun K "_law_cell" "_law_cell" s_l_cell a.f_l_cell a.d_l_cell
  b_l_cell : Binds K a.d_l_cell ["_law_script", "_law_k"] []
  m_l_cell : mg "_law_cell" = some (.ref a.f_l_cell)
  F_l_whole : Fun K "_law_whole" "_law_whole" s_l_whole a.f_l_whole a.d_l_whole
  b_l_whole : Binds K a.d_l_whole ["_law_found"] []
  m_l_whole : mg "_law_whole" = some (.ref a.f_l_whole)
  F_l_mixed : Fun K "_law_mixed" "_law_mixed" s_l_mixed a.f_l_mixed a.d_l_mixed
  b_l_mixed : Binds K a.d_l_mixed ["_law_cell_here", "_law_k"] []
  m_l_mixed : mg "_law_mixed" = some (.ref a.f_l_mixed)
  F_l_name : Fun K "_law_name" "_law_name" s_l_name a.f_l_name a.d_l_name
  b_l_name : Binds K a.d_l_name ["_law_cell_here", "_law_e"] []
  m_l_name : mg "_law_name" = some (.ref a.f_l_name)
  F_l_spots : Fun K "_law_spots" "_law_spots" s_l_spots a.f_l_spots a.d_l_spots
  b_l_spots : Binds K a.d_l_spots ["_law_number", "_law_bases", "_law_many_here", "_law_off"] []
  m_l_spots : mg "_law_spots" = some (.ref a.f_l_spots)
  F_l_cell_of : Fun K "_law_cell_of" "_law_cell_of" s_l_cell_of a.f_l_cell_of a.d_l_cell_of
  b_l_cell_of : Binds K a.d_l_cell_of ["_law_number", "_law_bases", "_law_heads_here"] []
  m_l_cell_of : mg "_law_cell_of" = some (.ref a.f_l_cell_of)
  F_l_leaf : Fun K "_law_leaf" "_law_leaf" s_l_leaf a.f_l_leaf a.d_l_leaf
  b_l_leaf : Binds K a.d_l_leaf ["_law_number", "_law_bases", "_law_heads_here"] []
  m_l_leaf : mg "_law_leaf" = some (.ref a.f_l_leaf)
  F_l_term : Fun K "_law_term" "_law_term" s_l_term a.f_l_term a.d_l_term
  b_l_term : Binds K a.d_l_term ["_law_cell_here", "_law_bases", "_law_heads_here"] []
  m_l_term : mg "_law_term" = some (.ref a.f_l_term)
  F_l_loop : Fun K "_law_loop" "_law_loop" s_l_loop a.f_l_loop a.d_l_loop
  b_l_loop : Binds K a.d_l_loop ["_law_number", "_law_far", "_law_stack", "_law_cell_here"] []
  m_l_loop : mg "_law_loop" = some (.ref a.f_l_loop)
  F_l_row : Fun K "_law_row" "_law_row" s_l_row a.f_l_row a.d_l_row
  b_l_row : Binds K a.d_l_row ["_law_cell_here", "_law_stack", "_law_path", "_law_heads_here"] []
  m_l_row : mg "_law_row" = some (.ref a.f_l_row)
  F_l_heads : Fun K "_law_heads" "_law_heads" s_l_heads a.f_l_heads a.d_l_heads
  b_l_heads : Binds K a.d_l_heads ["_law_script"] []
  m_l_heads : mg "_law_heads" = some (.ref a.f_l_heads)
  F_l_rows : Fun K "_law_rows" "_law_rows" s_l_rows a.f_l_rows a.d_l_rows
  b_l_rows : Binds K a.d_l_rows ["_law_script", "_law_many_here"] []
  m_l_rows : mg "_law_rows" = some (.ref a.f_l_rows)
  F_l_many : Fun K "_law_many" "_law_many" s_l_many a.f_l_many a.d_l_many
  b_l_many : Binds K a.d_l_many ["_law_script"] []
  m_l_many : mg "_law_many" = some (.ref a.f_l_many)
  F_l_size : Fun K "_law_size" "_law_size" s_l_size a.f_l_size a.d_l_size
  b_l_size : Binds K a.d_l_size ["_law_script"] []
  m_l_size : mg "_law_size" = some (.ref a.f_l_size)
  F_l_object : Fun K "_law_object" "_law_object" s_l_object a.f_l_object a.d_l_object
  b_l_object : Binds K a.d_l_object ["_law_term_here"] []
  m_l_object : mg "_law_object" = some (.ref a.f_l_object)
  F_l_made : Fun K "_law_made" "_law_made" s_l_made a.f_l_made a.d_l_made
  b_l_made : Binds K a.d_l_made ["_law_size_here", "_law_rows_here"] []
  m_l_made : mg "_law_made" = some (.ref a.f_l_made)
  F_l_reads : Fun K "_law_reads" "_law_reads" s_l_reads a.f_l_reads a.d_l_reads
  b_l_reads : Binds K a.d_l_reads ["_law_term_here"] []
  m_l_reads : mg "_law_reads" = some (.ref a.f_l_reads)
  F_l_touches : Fun K "_law_touches" "_law_touches" s_l_touches a.f_l_touches a.d_l_touches
  b_l_touches : Binds K a.d_l_touches ["_law_row_here"] []
  m_l_touches : mg "_law_touches" = some (.ref a.f_l_touches)
  F_l_meets : Fun K "_law_meets" "_law_meets" s_l_meets a.f_l_meets a.d_l_meets
  b_l_meets : Binds K a.d_l_meets ["_law_rows_here"] []
  m_l_meets : mg "_law_meets" = some (.ref a.f_l_meets)
  F_l_shared : Fun K "_law_shared" "_law_shared" s_l_shared a.f_l_shared a.d_l_shared
  b_l_shared : Binds K a.d_l_shared ["_law_one", "_law_other"] []
  m_l_shared : mg "_law_shared" = some (.ref a.f_l_shared)
  F_l_cases : Fun K "_law_cases" "_law_cases" s_l_cases a.f_l_cases a.d_l_cases
  b_l_cases : Binds K a.d_l_cases ["_law_rows_here", "_law_k", "_law_l"] []
  m_l_cases : mg "_law_cases" = some (.ref a.f_l_cases)
  F_l_rising : Fun K "_law_rising" "_law_rising" s_l_rising a.f_l_rising a.d_l_rising
  b_l_rising : Binds K a.d_l_rising ["_law_found"] []
  m_l_rising : mg "_law_rising" = some (.ref a.f_l_rising)
  F_l_numbers : Fun K "_law_numbers" "_law_numbers" s_l_numbers a.f_l_numbers a.d_l_numbers
  b_l_numbers : Binds K a.d_l_numbers ["_law_found"] []
  m_l_numbers : mg "_law_numbers" = some (.ref a.f_l_numbers)
  F_l_longer : Fun K "_law_longer" "_law_longer" s_l_longer a.f_l_longer a.d_l_longer
  b_l_longer : Binds K a.d_l_longer ["_law_script", "_law_rows_here"] []
  m_l_longer : mg "_law_longer" = some (.ref a.f_l_longer)
  F_law : Fun K "law" "law" s_law a.f_law a.d_law
  b_law : Binds K a.d_law ["_law_script"] []
  m_law : mg "law" = some (.ref a.f_law)
  cl_Term : Cls K a.c_Term
  mc_Term : mg "Term" = some (.ref a.c_Term)
  cl_Number : Cls K a.c_Number
  mc_Number : mg "Number" = some (.ref a.c_Number)
  mk_Number : Mk K a.c_Number a.f_Number_init
  me_Number_reads : Meth K a.c_Number "reads" a.f_Number_reads
  n_Number_n : NoAttr K a.c_Number "n"
  cl_Value : Cls K a.c_Value
  mc_Value : mg "Value" = some (.ref a.c_Value)
  mk_Value : Mk K a.c_Value a.f_Value_init
  me_Value_reads : Meth K a.c_Value "reads" a.f_Value_reads
  n_Value_name : NoAttr K a.c_Value "name"
  cl_Cell : Cls K a.c_Cell
  mc_Cell : mg "Cell" = some (.ref a.c_Cell)
  mk_Cell : Mk K a.c_Cell a.f_Cell_init
  me_Cell_reads : Meth K a.c_Cell "reads" a.f_Cell_reads
  n_Cell_table : NoAttr K a.c_Cell "table"
  n_Cell_spots : NoAttr K a.c_Cell "spots"
  cl_Joined : Cls K a.c_Joined
  mc_Joined : mg "Joined" = some (.ref a.c_Joined)
  mk_Joined : Mk K a.c_Joined a.f_Joined_init
  me_Joined_reads : Meth K a.c_Joined "reads" a.f_Joined_reads
  n_Joined_sign : NoAttr K a.c_Joined "sign"
  n_Joined_left : NoAttr K a.c_Joined "left"
  n_Joined_right : NoAttr K a.c_Joined "right"
  cl_Deed : Cls K a.c_Deed
  mc_Deed : mg "Deed" = some (.ref a.c_Deed)
  mk_Deed : Mk K a.c_Deed a.f_Deed_init
  n_Deed_names : NoAttr K a.c_Deed "names"
  n_Deed_lows : NoAttr K a.c_Deed "lows"
  n_Deed_highs : NoAttr K a.c_Deed "highs"
  n_Deed_table : NoAttr K a.c_Deed "table"
  n_Deed_spots : NoAttr K a.c_Deed "spots"
  n_Deed_term : NoAttr K a.c_Deed "term"
  n_Deed_path : NoAttr K a.c_Deed "path"
  cl_Program : Cls K a.c_Program
  mc_Program : mg "Program" = some (.ref a.c_Program)
  mk_Program : Mk K a.c_Program a.f_Program_init
  n_Program_size : NoAttr K a.c_Program "size"
  n_Program_deeds : NoAttr K a.c_Program "deeds"
  z_bool : mg "bool" = none
  z_enumerate : mg "enumerate" = none
  z_int : mg "int" = none
  z_isinstance : mg "isinstance" = none
  z_len : mg "len" = none
  z_list : mg "list" = none
  z_min : mg "min" = none
  z_range : mg "range" = none
  z_tuple : mg "tuple" = none
  z_zip : mg "zip" = none
noncomputable def csOf (a : Ad) : Cs := ⟨a.c_Number, a.c_Value, a.c_Cell, a.c_Joined⟩
section
variable {P : Program} {w : World} {K : PySem.W.Frag} {mg : Str → Option Value} {base : Heap} {a : Ad}
theorem ok_whole (T : Tx K mg a) : FnOk P w K mg base CX0 1 a.f_l_whole a.d_l_whole ["_law_found"] spWhole := by
  refine T.F_l_whole.ok sc_l_whole (fun vs H Q E h => ?_) (fun cdv A outer s H vs Q E hr h => ?_)
  · obtain ⟨_, rfl, _⟩ := h; rfl
  obtain ⟨x, rfl, hx, q⟩ := h
  refine ⟨_, (@pss_one _ _ _ (@ps_ret _ _ _ _ (@pe_and _ _ _ _ _ _ _ (@pe_callB _ _ _ _ _ _ _ _ _ call_isi (by rfl) T.z_isinstance bt_isinstance (@pa_cons _ _ _ _ _ (pv 0) (@pa_cons _ _ _ _ _ (@pe_bltn _ _ (.ty "int") _ _ (by rfl) T.z_int bt_int rfl (by decide) (by decide)) pa_nil (by rfl)) (by rfl)) (by decide) (by decide) (by rfl) (by rfl)) (@pe_one _ _ _ _ _ (@pe_not _ _ _ _ (@pe_callB _ _ _ _ _ _ _ _ _ call_isi (by rfl) T.z_isinstance bt_isinstance (@pa_cons _ _ _ _ _ (pv 0) (@pa_cons _ _ _ _ _ (@pe_bltn _ _ (.ty "bool") _ _ (by rfl) T.z_bool bt_bool rfl (by decide) (by decide)) pa_nil (by rfl)) (by rfl)) (by decide) (by decide) (by rfl) (by rfl))))))), ?_⟩
  cases x with
  | int i => exact ⟨_, rfl, _, _, _, _, _, rfl, rfl, .int i, rfl, _, rfl, _, rfl, _, _, _, _, _, rfl, rfl, .int i, rfl, _, rfl, q⟩
  | bl b => exact ⟨_, rfl, _, _, _, _, _, rfl, rfl, .bl b, rfl, _, rfl, _, rfl, _, _, _, _, _, rfl, rfl, .bl b, rfl, _, rfl, q⟩
  | non => exact ⟨_, rfl, _, _, _, _, _, rfl, rfl, .non, rfl, _, rfl, q⟩
  | str z => exact ⟨_, rfl, _, _, _, _, _, rfl, rfl, .str z, rfl, _, rfl, q⟩
  | _ => cases hx

theorem ok_cell (T : Tx K mg a) : FnOk P w K mg base CX0 1 a.f_l_cell a.d_l_cell ["_law_script", "_law_k"] (spCellA K) := by
  refine T.F_l_cell.ok sc_l_cell (fun vs H Q E h => ?_) (fun cdv A outer s H vs Q E hr h => ?_)
  · obtain ⟨_, _, _, rfl, _⟩ := h; rfl
  obtain ⟨p, ns, k, rfl, hS, h0, h1, q⟩ := h
  refine ⟨_, (@pss_cons _ _ _ _ _ (@ps_if _ _ _ _ _ _ _ _ (@pt_cmpR _ _ _ _ _ _ _ _ op_lt (pv 1) (@pe_callB _ _ _ _ _ _ _ _ _ call_len_seq (by rfl) T.z_len bt_len (@pa_cons _ _ _ _ _ (pv 0) pa_nil (by rfl)) (by decide) (by decide) (by rfl) (by rfl)) (@nomark _ _ (by decide) (by decide))) (@pss_one _ _ _ (@ps_ret _ _ _ _ (@pe_ix _ _ _ _ _ _ _ ix_list (pv 0) (pv 1) (fun _ _ => rfl)))) pss_nil) (@pss_cons _ _ _ _ _ (@ps_set _ _ (2) _ _ _ _ sc_l_cell.nd rfl (Or.inl rfl) (@pe_op _ _ _ _ _ _ _ _ op_add (@pe_op _ _ _ _ _ _ _ _ op_mul (pv 1) pe_int) pe_int) (by rfl) (by first | exact .inl rfl | exact .inr rfl | assumption)) (@pss_cons _ _ _ _ _ (@ps_if _ _ _ _ _ _ _ _ (@pt_cmpR _ _ _ _ _ _ _ _ op_gt (@pe_callB _ _ _ _ _ _ _ _ _ call_len_seq (by rfl) T.z_len bt_len (@pa_cons _ _ _ _ _ (pv 0) pa_nil (by rfl)) (by decide) (by decide) (by rfl) (by rfl)) pe_int (@nomark _ _ (by decide) (by decide))) (@pss_one _ _ _ (@ps_set _ _ (2) _ _ _ _ sc_l_cell.nd rfl (Or.inl rfl) (@pe_op _ _ _ _ _ _ _ _ op_mod (@pe_op _ _ _ _ _ _ _ _ op_add (@pe_op _ _ _ _ _ _ _ _ op_mul (@pe_ix _ _ _ _ _ _ _ ix_list (pv 0) (@pe_op _ _ _ _ _ _ _ _ op_mod (@pe_op _ _ _ _ _ _ _ _ op_mul (pv 1) pe_int) (@pe_callB _ _ _ _ _ _ _ _ _ call_len_seq (by rfl) T.z_len bt_len (@pa_cons _ _ _ _ _ (pv 0) pa_nil (by rfl)) (by decide) (by decide) (by rfl) (by rfl))) (fun _ _ => rfl)) pe_int) (@pe_op _ _ _ _ _ _ _ _ op_mul (pv 1) pe_int)) pe_int) (by rfl) (by first | exact .inl rfl | exact .inr rfl | assumption))) pss_nil) (@pss_one _ _ _ (@ps_ret _ _ _ _ (@pe_op _ _ _ _ _ _ _ _ op_mod (@pe_op _ _ _ _ _ _ _ _ op_mul (pv 2) (pv 2)) pe_int)))))), ?_⟩
  have hl : (ns.map V.int).length = ns.length := List.length_map _
  have p64 : (2 : Int) ^ 64 = 18446744073709551616 := by decide
  refine ⟨_, rfl, _, rfl, p, _, rfl, .inl hS, _, _, rfl, rfl, _, rfl, ?_⟩
  refine ite2 (fun c => ?_) (fun c => ?_)
  · have c' := dT c
    rw [hl] at c'
    exact ⟨_, rfl, _, rfl, p, _, _, _, rfl, rfl, hS, cell_in h0 c', q _⟩
  refine ⟨_, rfl, _, _, rfl, rfl, .inr ⟨by decide, by decide⟩, _, _, rfl, rfl, ?_⟩
  refine ⟨_, rfl, p, _, rfl, .inl hS, _, _, rfl, rfl, _, rfl, ?_⟩
  refine ite2 (fun c2 => ?_) (fun c2 => ?_)
  · have c2 := dT c2
    have m0 := Int.emod_nonneg (k * 7) (show ((ns.map V.int).length : Int) ≠ 0 by omega)
    have m1 := Int.emod_lt_of_pos (k * 7) c2
    refine ⟨_, rfl, _, rfl, _, _, rfl, rfl, .inr ⟨by decide, by decide⟩, _, rfl, p, _, rfl, .inl hS, _, _, rfl, rfl, c2, ?_⟩
    refine ⟨p, _, _, _, rfl, rfl, hS, cell_in m0 (by rw [hl] at m1 ⊢; exact m1), _, _, rfl, rfl, .inr ⟨by decide, by decide⟩, _, rfl, _, _, rfl, rfl, .inr ⟨by decide, by decide⟩, _, _, rfl, rfl, _, _, rfl, rfl, (by show (0 : Int) < 2147483647; decide), ?_⟩
    have b0 := Int.emod_nonneg (ns.getD (k * 7 % ((ns.map V.int).length : Int)).toNat 0 * 48271 + k * 7919) (show (2147483647 : Int) ≠ 0 by decide)
    have b1 := Int.emod_lt_of_pos (ns.getD (k * 7 % ((ns.map V.int).length : Int)).toNat 0 * 48271 + k * 7919) (show (0 : Int) < 2147483647 by decide)
    exact ⟨_, rfl, _, rfl, _, _, rfl, rfl, .inl ⟨by omega, by omega⟩, _, _, rfl, rfl, (by show (0 : Int) < 2147483629; decide), q _⟩
  · exact ⟨_, rfl, _, rfl, _, _, rfl, rfl, .inl ⟨by omega, by omega⟩, _, _, rfl, rfl, (by show (0 : Int) < 2147483629; decide), q _⟩

theorem ok_mixed (T : Tx K mg a) : FnOk P w K mg base CX0 1 a.f_l_mixed a.d_l_mixed ["_law_cell_here", "_law_k"] spMix2 := by
  refine T.F_l_mixed.ok sc_l_mixed (fun vs H Q E h => ?_) (fun cdv A outer s H vs Q E hr h => ?_)
  · obtain ⟨_, _, rfl, _⟩ := h; rfl
  obtain ⟨c, k, rfl, q⟩ := h
  refine ⟨_, (@pss_cons _ _ _ _ _ (@ps_set _ _ (2) _ _ _ _ sc_l_mixed.nd rfl (Or.inl rfl) (@pe_op _ _ _ _ _ _ _ _ op_mod (@pe_op _ _ _ _ _ _ _ _ op_mul (@pe_op _ _ _ _ _ _ _ _ op_add (@pe_op _ _ _ _ _ _ _ _ op_add (pv 0) (@pe_op _ _ _ _ _ _ _ _ op_mul pe_int (pv 1))) pe_int) pe_int) pe_int) (by rfl) (by first | exact .inl rfl | exact .inr rfl | assumption)) (@pss_one _ _ _ (@ps_ret _ _ _ _ (@pe_op _ _ _ _ _ _ _ _ op_mod (@pe_op _ _ _ _ _ _ _ _ op_mul (pv 2) (pv 2)) pe_int)))), ?_⟩
  have p64 : (2 : Int) ^ 64 = 18446744073709551616 := by decide
  have b0 := Int.emod_nonneg ((c + 7919 * k + 1) * 48271) (show (2147483647 : Int) ≠ 0 by decide)
  have b1 := Int.emod_lt_of_pos ((c + 7919 * k + 1) * 48271) (show (0 : Int) < 2147483647 by decide)
  refine ⟨_, rfl, _, rfl, _, _, rfl, rfl, .inl ⟨by decide, by decide⟩, _, _, rfl, rfl, _, _, rfl, rfl, _, _, rfl, rfl, .inr ⟨by decide, by decide⟩, _, _, rfl, rfl, (by show (0 : Int) < 2147483647; decide), ?_⟩
  exact ⟨_, rfl, _, rfl, _, _, rfl, rfl, .inl ⟨by omega, by omega⟩, _, _, rfl, rfl, (by show (0 : Int) < 2147483629; decide), q⟩

theorem ok_name (T : Tx K mg a) : FnOk P w K mg base CX0 2 a.f_l_name a.d_l_name ["_law_cell_here", "_law_e"] spName := by
  have G_l_mixed := ok_mixed (P := P) (w := w) (base := base) T
  refine T.F_l_name.ok sc_l_name (fun vs H Q E h => ?_) (fun cdv A outer s H vs Q E hr h => ?_)
  · obtain ⟨_, _, rfl, _⟩ := h; rfl
  obtain ⟨c, e, rfl, e0, e1, q⟩ := h
  refine ⟨_, (@pss_cons _ _ _ _ _ (@ps_set _ _ (2) _ _ _ _ sc_l_name.nd rfl (Or.inl rfl) pe_str (by rfl) (by first | exact .inl rfl | exact .inr rfl | assumption)) (@pss_cons _ _ _ _ _ (@ps_set _ _ (3) _ _ _ _ sc_l_name.nd rfl (Or.inl rfl) (@pe_call _ _ _ _ _ _ _ _ _ _ _ _ _ _ _ _ G_l_mixed (hr.mono (by omega)) (by rfl) T.m_l_mixed T.F_l_mixed.kp T.b_l_mixed .nil pass0 (@pa_cons _ _ _ _ _ (pv 0) (@pa_cons _ _ _ _ _ pe_int pa_nil (by rfl)) (by rfl)) (by decide) (by rfl) (by rfl)) (by rfl) (by first | exact .inl rfl | exact .inr rfl | assumption)) (@pss_cons _ _ _ _ _ (@ps_set _ _ (4) _ _ _ _ sc_l_name.nd rfl (Or.inl rfl) pe_str (by rfl) (by first | exact .inl rfl | exact .inr rfl | assumption)) (@pss_cons _ _ _ _ _ (@ps_for _ _ _ _ _ _ _ _ PassesOwn.never rfl (@pi_range1 _ _ _ _ _ _ (by rfl) T.z_range (@pa_cons _ _ _ _ _ (@pe_op _ _ _ _ _ _ _ _ op_mod (pv 3) pe_int) pa_nil (by rfl)) (by rfl)) (pg_name (i := 5) sc_l_name.nd rfl (Or.inl rfl)) (@pss_one _ _ _ (@ps_set _ _ (4) _ _ _ _ sc_l_name.nd rfl (Or.inl rfl) (@pe_op _ _ _ _ _ _ _ _ op_add_str (pv 4) (@pe_ix _ _ _ _ _ _ _ ix_str (pv 2) (@pe_op _ _ _ _ _ _ _ _ op_mod (@pe_op _ _ _ _ _ _ _ _ op_fdiv (pv 3) (@pe_op _ _ _ _ _ _ _ _ op_add (pv 5) pe_int)) pe_int) (fun _ _ => rfl))) (by rfl) (by first | exact .inl rfl | exact .inr rfl | assumption))) (by intro _ ; rfl)) (@pss_cons _ _ _ _ _ (@ps_set _ _ (6) _ _ _ _ sc_l_name.nd rfl (Or.inl rfl) (@pe_op _ _ _ _ _ _ _ _ op_mod (@pe_op _ _ _ _ _ _ _ _ op_fdiv (pv 3) pe_int) (@pe_op _ _ _ _ _ _ _ _ op_add (@pe_callB _ _ _ _ _ _ _ _ _ call_len_str (by rfl) T.z_len bt_len (@pa_cons _ _ _ _ _ (pv 4) pa_nil (by rfl)) (by decide) (by decide) (by rfl) (by rfl)) pe_int)) (by rfl) (by first | exact .inl rfl | exact .inr rfl | assumption)) (@pss_cons _ _ _ _ _ (@ps_set _ _ (7) _ _ _ _ sc_l_name.nd rfl (Or.inl rfl) (@pe_op _ _ _ _ _ _ _ _ op_add_str (@pe_op _ _ _ _ _ _ _ _ op_add_str (@pe_slice _ _ _ _ _ _ _ _ _ _ sl_str (pv 4) po_none (@po_some _ _ _ (pv 6))) (@pe_ix _ _ _ _ _ _ _ ix_str (pv 2) (@pe_op _ _ _ _ _ _ _ _ op_mod (@pe_op _ _ _ _ _ _ _ _ op_add (@pe_op _ _ _ _ _ _ _ _ op_fdiv (pv 3) pe_int) (@pe_op _ _ _ _ _ _ _ _ op_mul pe_int (pv 1))) pe_int) (fun _ _ => rfl))) (@pe_slice _ _ _ _ _ _ _ _ _ _ sl_str (pv 4) (@po_some _ _ _ (pv 6)) po_none)) (by rfl) (by first | exact .inl rfl | exact .inr rfl | assumption)) (@pss_cons _ _ _ _ _ (@ps_if _ _ _ _ _ _ _ _ (@pt_cmpR _ _ _ _ _ _ _ _ op_eq (@pe_op _ _ _ _ _ _ _ _ op_mod (@pe_op _ _ _ _ _ _ _ _ op_fdiv (pv 3) pe_int) pe_int) pe_int (@nomark _ _ (by decide) (by decide))) (@pss_one _ _ _ (@ps_set _ _ (7) _ _ _ _ sc_l_name.nd rfl (Or.inl rfl) (@pe_slice _ _ _ _ _ _ _ _ _ _ sl_str (@pe_op _ _ _ _ _ _ _ _ op_add_str (pv 4) pe_str) po_none (@po_some _ _ _ (@pe_op _ _ _ _ _ _ _ _ op_add pe_int (pv 1)))) (by rfl) (by first | exact .inl rfl | exact .inr rfl | assumption))) pss_nil) (@pss_cons _ _ _ _ _ (@ps_if _ _ _ _ _ _ _ _ (@pt_cmpR _ _ _ _ _ _ _ _ op_in_seq (pv 7) (@pe_tupq _ _ _ _ _ (@paq_cons _ _ _ _ _ pe_str (@paq_cons _ _ _ _ _ pe_str (@paq_cons _ _ _ _ _ pe_str paq_nil star_C) star_C) star_C)) (by with_unfolding_all rfl)) (@pss_one _ _ _ (@ps_set _ _ (7) _ _ _ _ sc_l_name.nd rfl (Or.inl rfl) (@pe_op _ _ _ _ _ _ _ _ op_add_str (pv 7) pe_str) (by rfl) (by first | exact .inl rfl | exact .inr rfl | assumption))) pss_nil) (@pss_one _ _ _ (@ps_ret _ _ _ _ (pv 7))))))))))), ?_⟩
  refine ⟨_, rfl, c, 11, rfl, ?_⟩
  obtain ⟨m0, m1⟩ := mix_b c 11
  generalize mixF c 11 = m at q m0 m1 ⊢
  have l0 := Int.emod_nonneg m (show (8 : Int) ≠ 0 by decide)
  have l1 := Int.emod_lt_of_pos m (show (0 : Int) < 8 by decide)
  dsimp only [gName]
  refine ⟨_, rfl, _, _, rfl, rfl, (by show (0 : Int) < 8; decide), m % 8, rfl, by omega, by omega, ?_⟩
  have hL := nmL_b m
  refine for_range (lo := 0) (n := nmL m) (fun i σ' H' => H' = H ∧ ∃ o5 o6 o7, σ' = [some (.int c), some (.int e), some (.str abc), some (.int m), some (.str (sOf (nmW m i))), o5, o6, o7]) ⟨rfl, _, _, _, rfl⟩ (fun i σ' H' hi p => ?_) (fun σ' H' p => ?_)
  · obtain ⟨rfl, o5, o6, o7, rfl⟩ := p
    have e0' : (0 : Int) + (i : Int) = (i : Int) := by omega
    rw [e0']
    refine ⟨_, rfl, _, rfl, _, rfl, _, rfl, _, _, rfl, rfl, _, _, rfl, rfl, ⟨(by show (0 : Int) < (i : Int) + 9; omega), (by show (i : Int) + 9 < 1073741824; omega)⟩, _, _, rfl, rfl, (by show (0 : Int) < 26; decide), _, _, _, rfl, rfl, abc_len, abc_at _, _, _, rfl, rfl, ?_, ?_⟩
    · rw [len_sOf, nmW_len]; exact szl (by show i + 1 ≤ 1000000; omega)
    have eW : sOf (nmW m i) ++ (⟨#[letC (m / ((i : Int) + 9))]⟩ : Str) = sOf (nmW m (i + 1)) := cds_ext (by
      rw [cds_app, cds_sOf, cds_sOf]
      unfold nmW
      rw [List.range_succ, List.map_append]
      rfl)
    exact ⟨rfl, _, _, _, congrArg (fun z => [some (V.int c), some (.int e), some (.str abc), some (.int m), some (.str z), some (.int (i : Int)), o6, o7]) eW⟩
  obtain ⟨rfl, o5, o6, o7, rfl⟩ := p
  have wl : (sOf (nmW m (nmL m))).length = nmL m := by rw [len_sOf, nmW_len]
  obtain ⟨a0, a1⟩ := nmAt_b m
  refine ⟨_, rfl, _, _, rfl, rfl, ⟨by decide, by decide⟩, _, rfl, _, rfl, ?_⟩
  rw [wl]
  refine ⟨szl (by omega), _, _, rfl, rfl, _, _, rfl, rfl, (by show (0 : Int) < (nmL m : Int) + 1; omega), ?_⟩
  dsimp only [gName]
  rw [← a1]
  have hc := nmW_len m (nmL m)
  -- the name
  refine ⟨_, rfl, _, rfl, _, rfl, _, rfl, szl (by omega), _, rfl, _, rfl, _, _, rfl, rfl, ⟨by decide, by decide⟩, _, rfl, _, _, rfl, rfl, .inl ⟨by decide, by decide⟩, _, _, rfl, rfl, _, _, rfl, rfl, (by show (0 : Int) < 26; decide), _, _, _, rfl, rfl, abc_len, abc_at _, _, _, rfl, rfl, ?_, ?_⟩
  · rw [len_sOf, cds_sOf, cut_to _ (by omega)]
    exact szl (by rw [List.length_take]; show _ + 1 ≤ 1000000; omega)
  refine ⟨_, rfl, _, rfl, _, rfl, _, rfl, szl (by omega), ?_⟩
  rw [cds_sOf, cut_to _ (by omega), cut_from _ (by omega)]
  have eA : sOf ((nmW m (nmL m)).take ((nmAt m : Nat) : Int).toNat) ++ (⟨#[letC (m / 72 + 5 * e)]⟩ : Str) ++ sOf ((nmW m (nmL m)).drop ((nmAt m : Nat) : Int).toNat) = sOf (nmA m e) := cds_ext (by rw [cds_app, cds_app, cds_sOf, cds_sOf, cds_sOf]; rfl)
  refine ⟨_, _, rfl, rfl, ?_, ?_⟩
  · rw [len_app, len_sOf, len_sOf, List.length_take, List.length_drop]
    exact szl (by show _ + 1 + _ ≤ 1000000; omega)
  rw [eA]
  dsimp only [gName]
  refine seq_any (fun σ2 H2 => H2 = H' ∧ ∃ o5 o6, σ2 = [some (.int c), some (.int e), some (.str abc), some (.int m), some (.str (sOf (nmW m (nmL m)))), o5, o6, some (.str (sOf (nmR m e)))]) (fun σ2 H2 mm => ?_) (fun rest => ?_)
  · obtain ⟨rfl, o5, o6, rfl⟩ := mm
    have rb := nmR_b (m := m) e0 e1
    refine seq_any (fun σ3 H3 => Same H2 H3 ∧ ∃ o5 o6, σ3 = [some (.int c), some (.int e), some (.str abc), some (.int m), some (.str (sOf (nmW m (nmL m)))), o5, o6, some (.str (sOf (nmC m e)))]) (fun σ3 H3 mm => ?_) (fun rest => ?_)
    · obtain ⟨e3, o5, o6, rfl⟩ := mm
      exact ⟨_, rfl, q _ e3⟩
    · refine ⟨_, rfl, szl (by show 3 ≤ 1000000; decide), fun tp htp => ?_⟩
      refine ⟨tp, [.str "for", .str "end", .str "size"], rfl, .inr (SqT.of upd_same), rfl, rfl, _, rfl, ?_⟩
      show if inV (V.str (sOf (nmR m e))) [.str "for", .str "end", .str "size"] = true then _ else _
      rw [in_resv]
      refine ite2 (fun cc => ?_) (fun cc => ?_)
      · refine ⟨_, rfl, _, _, rfl, rfl, ?_, ?_⟩
        · have hz2 : (Str.ofString "s").length = 1 := by decide +kernel
          rw [len_sOf, hz2]
          exact szl (by omega)
        · have ee : sOf (nmR m e) ++ Str.ofString "s" = sOf (nmC m e) := cds_ext (by
            rw [cds_app, cds_sOf, cds_sOf]
            unfold nmC
            rw [if_pos (dT cc)]
            congr 1)
          exact rest _ _ ⟨same_new htp _, o5, o6, congrArg (fun z => [some (V.int c), some (.int e), some (.str abc), some (.int m), some (.str (sOf (nmW m (nmL m)))), o5, o6, some (.str z)]) ee⟩
      · have ee : sOf (nmR m e) = sOf (nmC m e) := by
          unfold nmC
          rw [if_neg (dF cc)]
        exact rest _ _ ⟨same_new htp _, o5, o6, congrArg (fun z => [some (V.int c), some (.int e), some (.str abc), some (.int m), some (.str (sOf (nmW m (nmL m)))), o5, o6, some (.str z)]) ee⟩
  · refine ⟨_, rfl, _, _, rfl, rfl, ⟨by decide, by decide⟩, _, _, rfl, rfl, (by show (0 : Int) < 4; decide), rfl, _, rfl, ?_⟩
    have key : (V.int (m / 5003 % 4) = V.int 1) ↔ m / 5003 % 4 = 1 := ⟨fun e => V.int.inj e, fun e => by rw [e]⟩
    refine ite2 (fun cc => ?_) (fun cc => ?_)
    · have c2 := key.mp (dT cc)
      refine ⟨_, rfl, _, _, rfl, rfl, ?_, ?_⟩
      · have hz : (Str.ofString "qrstuvwx").length = 8 := by decide +kernel
        rw [wl, hz]
        exact szl (by omega)
      refine ⟨_, rfl, _, _, rfl, rfl, _, rfl, _, rfl, ?_, ?_⟩
      · rw [len_app, wl]
        have hz : (Str.ofString "qrstuvwx").length = 8 := by decide +kernel
        rw [hz]
        exact szl (by omega)
      have ee : sOf (cutC (cds (sOf (nmW m (nmL m)) ++ Str.ofString "qrstuvwx")) none (some (5 + e))) = sOf (nmR m e) := by
        rw [cds_app, cds_sOf, cut_to _ (by omega)]
        unfold nmR
        rw [if_pos c2]
        rfl
      exact rest _ _ ⟨rfl, _, _, congrArg (fun z => [some (V.int c), some (.int e), some (.str abc), some (.int m), some (.str (sOf (nmW m (nmL m)))), o5, some (V.int (nmAt m : Int)), some (.str z)]) ee⟩
    · have c2 := fun z => dF cc (key.mpr z)
      have ee : sOf (nmA m e) = sOf (nmR m e) := by
        unfold nmR
        rw [if_neg c2]
      exact rest _ _ ⟨rfl, _, _, congrArg (fun z => [some (V.int c), some (.int e), some (.str abc), some (.int m), some (.str (sOf (nmW m (nmL m)))), o5, some (V.int (nmAt m : Int)), some (.str z)]) ee⟩

theorem ok_spots (T : Tx K mg a) : FnOk P w K mg base CX0 1 a.f_l_spots a.d_l_spots ["_law_number", "_law_bases", "_law_many_here", "_law_off"] spSpots := by
  refine T.F_l_spots.ok sc_l_spots (fun vs H Q E h => ?_) (fun cdv A outer s H vs Q E hr h => ?_)
  · obtain ⟨_, _, _, _, rfl, _⟩ := h; rfl
  obtain ⟨n, m, off, b, rfl, n0, ⟨bs, hb, hb0, hb1, hbp⟩, m0, m1, q⟩ := h
  refine ⟨_, (@pss_cons _ _ _ _ _ (@ps_set _ _ (4) _ _ _ _ sc_l_spots.nd rfl (Or.inl rfl) (@pe_lst _ _ _ _ pa_nil) (by rfl) (by first | exact .inl rfl | exact .inr rfl | assumption)) (@pss_cons _ _ _ _ _ (@ps_for _ _ _ _ _ _ _ _ PassesOwn.never rfl (@pi_range1 _ _ _ _ _ _ (by rfl) T.z_range (@pa_cons _ _ _ _ _ (pv 2) pa_nil (by rfl)) (by rfl)) (pg_name (i := 5) sc_l_spots.nd rfl (Or.inl rfl)) (@pss_cons _ _ _ _ _ (@ps_set _ _ (6) _ _ _ _ sc_l_spots.nd rfl (Or.inl rfl) (@pe_op _ _ _ _ _ _ _ _ op_fdiv (pv 0) (@pe_ix _ _ _ _ _ _ _ ix_list (@pe_lstq _ _ _ _ (@paq_cons _ _ _ _ _ pe_int (@paq_cons _ _ _ _ _ pe_int (@paq_cons _ _ _ _ _ pe_int paq_nil star_C) star_C) star_C)) (pv 5) (fun _ _ => rfl))) (by rfl) (by first | exact .inl rfl | exact .inr rfl | assumption)) (@pss_cons _ _ _ _ _ (@ps_set _ _ (7) _ _ _ _ sc_l_spots.nd rfl (Or.inl rfl) (@pe_ix _ _ _ _ _ _ _ ix_list (pv 1) (@pe_op _ _ _ _ _ _ _ _ op_mod (pv 6) (@pe_callB _ _ _ _ _ _ _ _ _ call_len_seq (by rfl) T.z_len bt_len (@pa_cons _ _ _ _ _ (pv 1) pa_nil (by rfl)) (by decide) (by decide) (by rfl) (by rfl))) (fun _ _ => rfl)) (by rfl) (by first | exact .inl rfl | exact .inr rfl | assumption)) (@pss_one _ _ _ (@ps_expr _ _ _ _ (@pe_bm _ _ _ _ _ _ _ _ _ _ _ _ PySem.F.plainAttrs_list PySem.F.slot_list_append PySem.F.type_list_append mt_append (pv 4) (@pa_cons _ _ _ _ _ (@pe_tup _ _ _ _ _ (@pa_cons _ _ _ _ _ (@pe_ix _ _ _ _ _ _ _ ix_tup (pv 7) pe_int (fun _ _ => rfl)) (@pa_cons _ _ _ _ _ (@pe_op _ _ _ _ _ _ _ _ op_sub (@pe_op _ _ _ _ _ _ _ _ op_add (pv 3) (@pe_op _ _ _ _ _ _ _ _ op_mod (@pe_op _ _ _ _ _ _ _ _ op_fdiv (pv 6) pe_int) pe_int)) (@pe_ix _ _ _ _ _ _ _ ix_tup (pv 7) pe_int (fun _ _ => rfl))) pa_nil (by rfl)) (by rfl))) pa_nil (by rfl)) (by rfl) (by rfl) (by rfl) (by rfl) (by rfl)) (by rfl))))) (by intro _ ; rfl)) (@pss_one _ _ _ (@ps_ret _ _ _ _ (@pe_callTy _ _ _ _ _ _ _ _ _ call_tuple_of (by rfl) T.z_tuple bt_tuple (@pa_cons _ _ _ _ _ (pv 4) pa_nil (by rfl)) (by decide) (by decide) (by rfl) (by rfl)))))), ?_⟩
  refine ⟨szl (by show 0 ≤ 1000000; decide), fun l hl => ?_⟩
  refine ⟨_, rfl, m, rfl, by omega, by omega, ?_⟩
  have hb2 : (0 : Int) < (bs.length : Int) := by omega
  refine for_range (lo := 0) (n := m.toNat) (fun i σ' H' => Same H H' ∧ (∃ o5 o6 o7, σ' = [some (.int n), some (.ref b), some (.int m), some (.int off), some (.ref l), o5, o6, o7]) ∧ ∃ (xs : List V), H' l = some (.lst xs) ∧ xs.length = i ∧ PairsAt H' xs) ⟨same_new hl _, ⟨_, _, _, rfl⟩, [], upd_same, rfl, fun v hv => by cases hv⟩ (fun i σ' H' hi p => ?_) (fun σ' H' p => ?_)
  · obtain ⟨e, ⟨o5, o6, o7, rfl⟩, xs, hx, xl, tr⟩ := p
    have hi3 : (i : Int) < 3 := by omega
    obtain ⟨d, hd, ed⟩ := pickN (L := [1, 12, 144]) (i := 0 + (i : Int)) 3 rfl (by omega) (by omega)
    have hd : 0 < d ∧ d < 1073741824 := by
      simp only [List.mem_cons, List.not_mem_nil, or_false] at hd
      omega
    refine ⟨_, rfl, szl (by show 3 ≤ 1000000; decide), fun q1 hq1 => ?_⟩
    have s1 := same_new hq1 (.lst [V.int 1, V.int 12, V.int 144])
    refine ⟨_, rfl, q1, _, _, _, rfl, rfl, SqL.of upd_same, ed, _, _, rfl, rfl, hd, ?_⟩
    dsimp only [gName]
    have hb3 := s1 _ _ (e _ _ hb)
    have hx3 := s1 _ _ hx
    have e3 := e.trans s1
    have tr3 := tr.over s1
    generalize upd H' q1 (.lst [V.int 1, V.int 12, V.int 144]) = H2 at hb3 hx3 e3 tr3 s1
    generalize n / d = pt
    obtain ⟨v, hv, ev⟩ := at_mem (vs := bs) (i := pt % (bs.length : Int)) (Int.emod_nonneg _ (by omega)) (Int.emod_lt_of_pos _ hb2)
    obtain ⟨t, z, k, rfl, ht⟩ := hbp v hv
    have ht3 := e3 _ _ ht
    refine ⟨_, rfl, _, rfl, _, rfl, b, _, rfl, .inl (SqL.of hb3), _, _, rfl, rfl, hb2, b, _, _, _, rfl, rfl, SqL.of hb3, ev, ?_⟩
    dsimp only [gName]
    refine ⟨_, rfl, .inl ⟨rfl, _, SqL.of hx3⟩, _, rfl, t, _, 0, _, rfl, rfl, SqT.of ht3, rfl, _, rfl, _, rfl, _, _, rfl, rfl, ⟨by decide, by decide⟩, _, _, rfl, rfl, (by show (0 : Int) < 3; decide), _, _, rfl, rfl, _, rfl, t, _, 1, _, rfl, rfl, SqT.of ht3, rfl, _, _, rfl, rfl, szl (by show 2 ≤ 1000000; decide), fun t4 ht4 => ?_⟩
    have s4 := same_new ht4 (.tup [V.str z, V.int (off + pt / 4 % 3 - k)])
    have hx4 := s4 _ _ hx3
    have tr4 := tr3.over s4
    have hn4 : t4 ≠ l := fun z => by rw [z, hx3] at ht4; cases ht4
    refine ⟨l, _, _, rfl, rfl, hx4, szlt (by omega), ?_⟩
    refine ⟨fun a o ha => by rw [upd_ne (ne_of_none ha hl)]; exact s4 _ _ (e3 _ _ ha), ⟨_, _, _, rfl⟩, xs ++ [.ref t4], upd_same, by rw [List.length_append, xl]; rfl, fun v hv => ?_⟩
    rcases List.mem_append.mp hv with h | h
    · obtain ⟨t, z, n, rfl, ht⟩ := tr4 v h
      exact ⟨t, z, n, rfl, by rw [upd_ne (ne_of ht hx4 (by intro z; cases z))]; exact ht⟩
    · rw [List.mem_singleton] at h
      exact ⟨t4, z, _, h, by rw [upd_ne hn4]; exact upd_same⟩
  · obtain ⟨e, ⟨o5, o6, o7, rfl⟩, xs, hx, xl, tr⟩ := p
    refine ⟨_, rfl, l, _, rfl, .inl ⟨SqL.of hx, fun t ht => ?_⟩⟩
    exact q t _ (e.trans (same_new ht _)) ⟨xs, upd_same, by omega, tr.over (same_new ht _)⟩

theorem ok_cell_of (T : Tx K mg a) : FnOk P w K mg base CX0 2 a.f_l_cell_of a.d_l_cell_of ["_law_number", "_law_bases", "_law_heads_here"] spCellOf := by
  have G_l_spots := ok_spots (P := P) (w := w) (base := base) T
  refine T.F_l_cell_of.ok sc_l_cell_of (fun vs H Q E h => ?_) (fun cdv A outer s H vs Q E hr h => ?_)
  · obtain ⟨_, _, _, rfl, _⟩ := h; rfl
  obtain ⟨n, b, hd, rfl, n0, hB, ⟨hs, hh, hl, hp⟩, q⟩ := h
  refine ⟨_, (@pss_cons _ _ _ _ _ (@ps_asg _ _ _ _ _ _ (@pe_ix _ _ _ _ _ _ _ ix_list (pv 2) (@pe_ix _ _ _ _ _ _ _ ix_list (@pe_lstq _ _ _ _ (@paq_cons _ _ _ _ _ pe_int (@paq_cons _ _ _ _ _ pe_int (@paq_cons _ _ _ _ _ pe_int (@paq_cons _ _ _ _ _ pe_int (@paq_cons _ _ _ _ _ pe_int (@paq_cons _ _ _ _ _ pe_int paq_nil star_C) star_C) star_C) star_C) star_C) star_C)) (@pe_op _ _ _ _ _ _ _ _ op_mod (pv 0) pe_int) (fun _ _ => rfl)) (fun _ _ => rfl)) (pg_tup rfl (pgs_cons (pg_name (i := 3) sc_l_cell_of.nd rfl (Or.inl rfl)) (pgs_cons (pg_name (i := 4) sc_l_cell_of.nd rfl (Or.inl rfl)) (pgs_cons (pg_name (i := 5) sc_l_cell_of.nd rfl (Or.inl rfl)) pgs_nil)))) (by rfl) (by rfl) (by rfl)) (@pss_one _ _ _ (@ps_ret _ _ _ _ (@pe_tup _ _ _ _ _ (@pa_cons _ _ _ _ _ (pv 3) (@pa_cons _ _ _ _ _ (@pe_call _ _ _ _ _ _ _ _ _ _ _ _ _ _ _ _ G_l_spots (hr.mono (by omega)) (by rfl) T.m_l_spots T.F_l_spots.kp T.b_l_spots .nil pass0 (@pa_cons _ _ _ _ _ (@pe_op _ _ _ _ _ _ _ _ op_fdiv (pv 0) pe_int) (@pa_cons _ _ _ _ _ (pv 1) (@pa_cons _ _ _ _ _ (pv 4) (@pa_cons _ _ _ _ _ (pv 5) pa_nil (by rfl)) (by rfl)) (by rfl)) (by rfl)) (by decide) (by rfl) (by rfl)) pa_nil (by rfl)) (by rfl)))))), ?_⟩
  have f0 := Int.emod_nonneg n (show (6 : Int) ≠ 0 by decide)
  have f1 := Int.emod_lt_of_pos n (show (0 : Int) < 6 by decide)
  obtain ⟨d, hd2, ed⟩ := pickN (L := [0, 0, 0, 1, 1, 2]) (i := n % 6) 6 rfl f0 (by omega)
  have hd2 : 0 ≤ d ∧ d < 3 := by
    simp only [List.mem_cons, List.not_mem_nil, or_false] at hd2
    omega
  obtain ⟨v, hv, ev⟩ := at_mem (vs := hs) (i := d) hd2.1 (by omega)
  obtain ⟨t, z, m, k, rfl, ht, m0, m1⟩ := hp v hv
  refine ⟨_, rfl, szl (by show 6 ≤ 1000000; decide), fun q1 hq1 => ?_⟩
  have s1 := same_new hq1 (.lst [V.int 0, V.int 0, V.int 0, V.int 1, V.int 1, V.int 2])
  refine ⟨_, rfl, _, _, rfl, rfl, (by show (0 : Int) < 6; decide), q1, _, _, _, rfl, rfl, SqL.of upd_same, ed, hd, _, _, _, rfl, rfl, SqL.of (s1 _ _ hh), ev, ?_⟩
  refine ⟨t, _, rfl, SqT.of (s1 _ _ ht), rfl, _, _, rfl, _, _, rfl, _, _, rfl, rfl, ?_⟩
  dsimp only [gName]
  refine ⟨_, rfl, _, rfl, _, _, rfl, rfl, ⟨by decide, by decide⟩, _, rfl, _, rfl, _, rfl, n / 6, m, k, b, rfl, Int.ediv_nonneg n0 (by decide), hB.over s1, m0, m1, fun r H2 e2 hsp => ⟨szl (by show 2 ≤ 1000000; decide), fun t2 ht2 => ?_⟩⟩
  have s3 := same_new ht2 (.tup [V.str z, V.ref r])
  exact q t2 _ (s1.trans (e2.trans s3)) ⟨z, r, upd_same, hsp.over s3⟩

theorem ok_leaf (T : Tx K mg a) : FnOk P w K mg base CX0 3 a.f_l_leaf a.d_l_leaf ["_law_number", "_law_bases", "_law_heads_here"] spLeaf2 := by
  have G_l_cell_of := ok_cell_of (P := P) (w := w) (base := base) T
  refine T.F_l_leaf.ok sc_l_leaf (fun vs H Q E h => ?_) (fun cdv A outer s H vs Q E hr h => ?_)
  · obtain ⟨_, _, _, rfl, _⟩ := h; rfl
  obtain ⟨n, b, hd, rfl, n0, n1, hB, hH, q⟩ := h
  refine ⟨_, (@pss_cons _ _ _ _ _ (@ps_if _ _ _ _ _ _ _ _ (@pt_cmpR _ _ _ _ _ _ _ _ op_gt (@pe_op _ _ _ _ _ _ _ _ op_mod (pv 0) pe_int) pe_int (@nomark _ _ (by decide) (by decide))) (@pss_cons _ _ _ _ _ (@ps_asg _ _ _ _ _ _ (@pe_call _ _ _ _ _ _ _ _ _ _ _ _ _ _ _ _ G_l_cell_of (hr.mono (by omega)) (by rfl) T.m_l_cell_of T.F_l_cell_of.kp T.b_l_cell_of .nil pass0 (@pa_cons _ _ _ _ _ (@pe_op _ _ _ _ _ _ _ _ op_fdiv (pv 0) pe_int) (@pa_cons _ _ _ _ _ (pv 1) (@pa_cons _ _ _ _ _ (pv 2) pa_nil (by rfl)) (by rfl)) (by rfl)) (by decide) (by rfl) (by rfl)) (pg_tup rfl (pgs_cons (pg_name (i := 3) sc_l_leaf.nd rfl (Or.inl rfl)) (pgs_cons (pg_name (i := 4) sc_l_leaf.nd rfl (Or.inl rfl)) pgs_nil))) (by rfl) (by rfl) (by rfl)) (@pss_one _ _ _ (@ps_ret _ _ _ _ (@pe_tupq _ _ _ _ _ (@paq_cons _ _ _ _ _ pe_str (@paq_cons _ _ _ _ _ (pv 3) (@paq_cons _ _ _ _ _ (pv 4) paq_nil star_N) star_N) star_C))))) pss_nil) (@pss_cons _ _ _ _ _ (@ps_if _ _ _ _ _ _ _ _ ((@pw_and _ _ _ _ _ _ _ (@pt_cmpR _ _ _ _ _ _ _ _ op_eq (@pe_op _ _ _ _ _ _ _ _ op_mod (pv 0) pe_int) pe_int (@nomark _ _ (by decide) (by decide))) (@pw_and1 _ _ _ _ (@pt_cmpR _ _ _ _ _ _ _ _ op_gt (@pe_callB _ _ _ _ _ _ _ _ _ call_len_seq (by rfl) T.z_len bt_len (@pa_cons _ _ _ _ _ (pv 1) pa_nil (by rfl)) (by decide) (by decide) (by rfl) (by rfl)) pe_int (@nomark _ _ (by decide) (by decide)))))).pt (@pss_one _ _ _ (@ps_ret _ _ _ _ (@pe_tup _ _ _ _ _ (@pa_cons _ _ _ _ _ pe_str (@pa_cons _ _ _ _ _ (@pe_ix _ _ _ _ _ _ _ ix_tup (@pe_ix _ _ _ _ _ _ _ ix_list (pv 1) (@pe_op _ _ _ _ _ _ _ _ op_add pe_int (@pe_op _ _ _ _ _ _ _ _ op_mod (@pe_op _ _ _ _ _ _ _ _ op_fdiv (pv 0) pe_int) (@pe_op _ _ _ _ _ _ _ _ op_sub (@pe_callB _ _ _ _ _ _ _ _ _ call_len_seq (by rfl) T.z_len bt_len (@pa_cons _ _ _ _ _ (pv 1) pa_nil (by rfl)) (by decide) (by decide) (by rfl) (by rfl)) pe_int))) (fun _ _ => rfl)) pe_int (fun _ _ => rfl)) pa_nil (by rfl)) (by rfl))))) pss_nil) (@pss_one _ _ _ (@ps_ret _ _ _ _ (@pe_tup _ _ _ _ _ (@pa_cons _ _ _ _ _ pe_str (@pa_cons _ _ _ _ _ (@pe_ix _ _ _ _ _ _ _ ix_list (@pe_lst _ _ _ _ (@pa_cons _ _ _ _ _ (@pe_op _ _ _ _ _ _ _ _ op_mod (@pe_op _ _ _ _ _ _ _ _ op_fdiv (pv 0) pe_int) pe_int) (@pa_cons _ _ _ _ _ (@pe_op _ _ _ _ _ _ _ _ op_mod (@pe_op _ _ _ _ _ _ _ _ op_mul (pv 0) (pv 0)) (@pe_op _ _ _ _ _ _ _ _ op_pow pe_int pe_int)) pa_nil (by rfl)) (by rfl))) (@pe_op _ _ _ _ _ _ _ _ op_mod (@pe_op _ _ _ _ _ _ _ _ op_fdiv (pv 0) pe_int) pe_int) (fun _ _ => rfl)) pa_nil (by rfl)) (by rfl))))))), ?_⟩
  have p64 : (2 : Int) ^ 64 = 18446744073709551616 := by decide
  have d4 : 0 ≤ n / 4 := Int.ediv_nonneg n0 (by decide)
  refine ⟨_, rfl, _, _, rfl, rfl, (by show (0 : Int) < 4; decide), _, _, rfl, rfl, _, rfl, ?_⟩
  refine ite2 (fun c => ?_) (fun c => ?_)
  · refine ⟨_, rfl, _, _, rfl, rfl, ⟨by decide, by decide⟩, _, rfl, _, rfl, n / 4, b, hd, rfl, d4, hB, hH, fun r H1 e1 hC => ?_⟩
    obtain ⟨z, p, hr1, hsp⟩ := hC
    refine ⟨r, _, rfl, SqT.of hr1, rfl, _, _, rfl, _, _, rfl, rfl, ?_⟩
    dsimp only [gName]
    refine ⟨_, rfl, _, rfl, szl (by show 3 ≤ 1000000; decide), fun t2 ht2 => ?_⟩
    have s2 := same_new ht2 (.tup [V.str "c", V.str z, V.ref p])
    exact q _ _ _ (e1.trans s2) (.c z upd_same (hsp.over s2))
  · dsimp only [tNext]
    refine seq_any (fun σ' H' => H' = H ∧ σ' = [some (.int n), some (.ref b), some (.ref hd), none, none]) (fun σ' H' pp => ?_) (fun nx => ?_)
    · obtain ⟨rfl, rfl⟩ := pp
      obtain ⟨i, hi, ei⟩ := pickN (L := [n / 4 % 10, n * n % 10 ^ (18 : Int).toNat]) (i := n / 64 % 2) 2 rfl (Int.emod_nonneg _ (by decide)) (Int.emod_lt_of_pos _ (by decide))
      refine ⟨_, rfl, _, _, rfl, rfl, ⟨by decide, by decide⟩, _, _, rfl, rfl, (by show (0 : Int) < 10; decide), _, rfl, _, rfl, _, _, rfl, rfl, .inl ⟨by omega, by omega⟩, _, _, rfl, rfl, ⟨by decide, by decide, by decide⟩, _, _, rfl, rfl, (by show (0 : Int) < 10 ^ (18 : Int).toNat; decide), szl (by show 2 ≤ 1000000; decide), fun q1 hq1 => ?_⟩
      have s1 := same_new hq1 (.lst [V.int (n / 4 % 10), V.int (n * n % 10 ^ (18 : Int).toNat)])
      refine ⟨_, rfl, _, _, rfl, rfl, ⟨by decide, by decide⟩, _, _, rfl, rfl, (by show (0 : Int) < 2; decide), q1, _, _, _, rfl, rfl, SqL.of upd_same, ei, szl (by show 2 ≤ 1000000; decide), fun t2 ht2 => ?_⟩
      exact q _ _ _ (s1.trans (same_new ht2 _)) (.n i upd_same)
    · obtain ⟨bs, hb, hb0, hb1, hbp⟩ := hB
      refine ⟨_, rfl, _, _, rfl, rfl, (by show (0 : Int) < 4; decide), rfl, _, rfl, ?_⟩
      refine ite2 (fun c2 => ?_) (fun c2 => iteF (nx _ _ ⟨rfl, rfl⟩))
      refine ⟨_, rfl, b, _, rfl, .inl (SqL.of hb), _, _, rfl, rfl, _, rfl, ?_⟩
      refine ite2 (fun c3 => ?_) (fun c3 => nx _ _ ⟨rfl, rfl⟩)
      have c3 := dT c3
      have hb2 : (0 : Int) < (bs.length : Int) - 1 := by omega
      have e0 := Int.emod_nonneg (n / 4) (show ((bs.length : Int) - 1) ≠ 0 by omega)
      have e1 := Int.emod_lt_of_pos (n / 4) hb2
      obtain ⟨v, hv, ev⟩ := at_mem (vs := bs) (i := 1 + n / 4 % ((bs.length : Int) - 1)) (by omega) (by omega)
      obtain ⟨t, z, k, rfl, ht⟩ := hbp v hv
      refine ⟨_, rfl, _, rfl, _, _, rfl, rfl, ⟨by decide, by decide⟩, _, rfl, b, _, rfl, .inl (SqL.of hb), _, _, rfl, rfl, _, _, rfl, rfl, hb2, _, _, rfl, rfl, b, _, _, _, rfl, rfl, SqL.of hb, ev, t, _, 0, _, rfl, rfl, SqT.of ht, rfl, szl (by show 2 ≤ 1000000; decide), fun t2 ht2 => ?_⟩
      exact q _ _ _ (same_new ht2 _) (.v z upd_same)

theorem ok_term (T : Tx K mg a) : FnOk P w K mg base CX0 4 a.f_l_term a.d_l_term ["_law_cell_here", "_law_bases", "_law_heads_here"] spTerm2 := by
  have G_l_mixed := ok_mixed (P := P) (w := w) (base := base) T
  have G_l_leaf := ok_leaf (P := P) (w := w) (base := base) T
  refine T.F_l_term.ok sc_l_term (fun vs H Q E h => ?_) (fun cdv A outer s H vs Q E hr h => ?_)
  · obtain ⟨_, _, _, rfl, _⟩ := h; rfl
  obtain ⟨c, b, hd, rfl, hB, hH, q⟩ := h
  refine ⟨_, (@pss_cons _ _ _ _ _ (@ps_set _ _ (3) _ _ _ _ sc_l_term.nd rfl (Or.inl rfl) (@pe_call _ _ _ _ _ _ _ _ _ _ _ _ _ _ _ _ G_l_leaf (hr.mono (by omega)) (by rfl) T.m_l_leaf T.F_l_leaf.kp T.b_l_leaf .nil pass0 (@pa_cons _ _ _ _ _ (@pe_call _ _ _ _ _ _ _ _ _ _ _ _ _ _ _ _ G_l_mixed (hr.mono (by omega)) (by rfl) T.m_l_mixed T.F_l_mixed.kp T.b_l_mixed .nil pass0 (@pa_cons _ _ _ _ _ (pv 0) (@pa_cons _ _ _ _ _ pe_int pa_nil (by rfl)) (by rfl)) (by decide) (by rfl) (by rfl)) (@pa_cons _ _ _ _ _ (pv 1) (@pa_cons _ _ _ _ _ (pv 2) pa_nil (by rfl)) (by rfl)) (by rfl)) (by decide) (by rfl) (by rfl)) (by rfl) (by first | exact .inl rfl | exact .inr rfl | assumption)) (@pss_cons _ _ _ _ _ (@ps_for _ _ _ _ _ _ _ _ PassesOwn.never rfl (@pi_range1 _ _ _ _ _ _ (by rfl) T.z_range (@pa_cons _ _ _ _ _ (@pe_op _ _ _ _ _ _ _ _ op_mod (@pe_call _ _ _ _ _ _ _ _ _ _ _ _ _ _ _ _ G_l_mixed (hr.mono (by omega)) (by rfl) T.m_l_mixed T.F_l_mixed.kp T.b_l_mixed .nil pass0 (@pa_cons _ _ _ _ _ (pv 0) (@pa_cons _ _ _ _ _ pe_int pa_nil (by rfl)) (by rfl)) (by decide) (by rfl) (by rfl)) pe_int) pa_nil (by rfl)) (by rfl)) (pg_name (i := 4) sc_l_term.nd rfl (Or.inl rfl)) (@pss_cons _ _ _ _ _ (@ps_set _ _ (5) _ _ _ _ sc_l_term.nd rfl (Or.inl rfl) (@pe_ix _ _ _ _ _ _ _ ix_list (@pe_lstq _ _ _ _ (@paq_cons _ _ _ _ _ pe_str (@paq_cons _ _ _ _ _ pe_str (@paq_cons _ _ _ _ _ pe_str paq_nil star_C) star_C) star_C)) (@pe_op _ _ _ _ _ _ _ _ op_mod (@pe_op _ _ _ _ _ _ _ _ op_fdiv (@pe_call _ _ _ _ _ _ _ _ _ _ _ _ _ _ _ _ G_l_mixed (hr.mono (by omega)) (by rfl) T.m_l_mixed T.F_l_mixed.kp T.b_l_mixed .nil pass0 (@pa_cons _ _ _ _ _ (pv 0) (@pa_cons _ _ _ _ _ pe_int pa_nil (by rfl)) (by rfl)) (by decide) (by rfl) (by rfl)) (@pe_op _ _ _ _ _ _ _ _ op_add pe_int (pv 4))) pe_int) (fun _ _ => rfl)) (by rfl) (by first | exact .inl rfl | exact .inr rfl | assumption)) (@pss_cons _ _ _ _ _ (@ps_set _ _ (6) _ _ _ _ sc_l_term.nd rfl (Or.inl rfl) (@pe_call _ _ _ _ _ _ _ _ _ _ _ _ _ _ _ _ G_l_leaf (hr.mono (by omega)) (by rfl) T.m_l_leaf T.F_l_leaf.kp T.b_l_leaf .nil pass0 (@pa_cons _ _ _ _ _ (@pe_call _ _ _ _ _ _ _ _ _ _ _ _ _ _ _ _ G_l_mixed (hr.mono (by omega)) (by rfl) T.m_l_mixed T.F_l_mixed.kp T.b_l_mixed .nil pass0 (@pa_cons _ _ _ _ _ (pv 0) (@pa_cons _ _ _ _ _ (@pe_op _ _ _ _ _ _ _ _ op_add pe_int (pv 4)) pa_nil (by rfl)) (by rfl)) (by decide) (by rfl) (by rfl)) (@pa_cons _ _ _ _ _ (pv 1) (@pa_cons _ _ _ _ _ (pv 2) pa_nil (by rfl)) (by rfl)) (by rfl)) (by decide) (by rfl) (by rfl)) (by rfl) (by first | exact .inl rfl | exact .inr rfl | assumption)) (@pss_one _ _ _ (@ps_if _ _ _ _ _ _ _ _ (@pt_cmpR _ _ _ _ _ _ _ _ op_eq (@pe_op _ _ _ _ _ _ _ _ op_mod (@pe_op _ _ _ _ _ _ _ _ op_fdiv (@pe_call _ _ _ _ _ _ _ _ _ _ _ _ _ _ _ _ G_l_mixed (hr.mono (by omega)) (by rfl) T.m_l_mixed T.F_l_mixed.kp T.b_l_mixed .nil pass0 (@pa_cons _ _ _ _ _ (pv 0) (@pa_cons _ _ _ _ _ pe_int pa_nil (by rfl)) (by rfl)) (by decide) (by rfl) (by rfl)) (@pe_op _ _ _ _ _ _ _ _ op_add pe_int (pv 4))) pe_int) pe_int (@nomark _ _ (by decide) (by decide))) (@pss_one _ _ _ (@ps_set _ _ (3) _ _ _ _ sc_l_term.nd rfl (Or.inl rfl) (@pe_tupq _ _ _ _ _ (@paq_cons _ _ _ _ _ (pv 5) (@paq_cons _ _ _ _ _ (pv 6) (@paq_cons _ _ _ _ _ (pv 3) paq_nil star_N) star_N) star_N)) (by rfl) (by first | exact .inl rfl | exact .inr rfl | assumption))) (@pss_one _ _ _ (@ps_set _ _ (3) _ _ _ _ sc_l_term.nd rfl (Or.inl rfl) (@pe_tupq _ _ _ _ _ (@paq_cons _ _ _ _ _ (pv 5) (@paq_cons _ _ _ _ _ (pv 3) (@paq_cons _ _ _ _ _ (pv 6) paq_nil star_N) star_N) star_N)) (by rfl) (by first | exact .inl rfl | exact .inr rfl | assumption))))))) (by intro _ ; rfl)) (@pss_one _ _ _ (@ps_ret _ _ _ _ (pv 3))))), ?_⟩
  obtain ⟨a0, a1⟩ := mix_b c 5
  refine ⟨_, rfl, c, 5, rfl, _, rfl, _, rfl, mixF c 5, b, hd, rfl, a0, by omega, hB, hH, fun x0 H1 rs0 e1 tm0 => ?_⟩
  dsimp only [gName]
  have f0 := Int.emod_nonneg (mixF c 6) (show (3 : Int) ≠ 0 by decide)
  have f1 := Int.emod_lt_of_pos (mixF c 6) (show (0 : Int) < 3 by decide)
  obtain ⟨g0, g1⟩ := mix_b c 7
  refine ⟨_, rfl, c, 6, rfl, _, _, rfl, rfl, (by show (0 : Int) < 3; decide), _, rfl, by omega, by omega, ?_⟩
  refine for_range (lo := 0) (n := (mixF c 6 % 3).toNat) (fun i σ' H' => Same H H' ∧ ∃ (x : V) (m : Nat) (rs : Reads) (o4 o5 o6 : Option V), σ' = [some (.int c), some (.ref b), some (.ref hd), some x, o4, o5, o6] ∧ m = i + 1 ∧ TmT H' m x rs) ⟨e1, x0, 1, rs0, _, _, _, rfl, rfl, tm0⟩ (fun i σ' H' hi p => ?_) (fun σ' H' p => ?_)
  · obtain ⟨e, x, m, rs, o4, o5, o6, rfl, hm, tm⟩ := p
    have e0' : (0 : Int) + (i : Int) = (i : Int) := by omega
    rw [e0']
    refine ⟨szl (by show 3 ≤ 1000000; decide), fun q1 hq1 => ?_⟩
    have s1 := same_new hq1 (.lst [V.str "+", V.str "-", V.str "*"])
    have k0 := Int.emod_nonneg (mixF c 7 / (1 + (i : Int))) (show (3 : Int) ≠ 0 by decide)
    have k1 := Int.emod_lt_of_pos (mixF c 7 / (1 + (i : Int))) (show (0 : Int) < 3 by decide)
    obtain ⟨v, hv, ev⟩ := at_mem (vs := [V.str "+", V.str "-", V.str "*"]) (i := mixF c 7 / (1 + (i : Int)) % 3) k0 (by show _ < (3 : Int); omega)
    obtain ⟨z, hz, rfl⟩ : ∃ z ∈ [Str.ofString "+", Str.ofString "-", Str.ofString "*"], v = .str z := by
      simp only [List.mem_cons, List.not_mem_nil, or_false] at hv
      rcases hv with rfl | rfl | rfl
      · exact ⟨_, List.mem_cons_self, rfl⟩
      · exact ⟨_, List.mem_cons_of_mem _ List.mem_cons_self, rfl⟩
      · exact ⟨_, List.mem_cons_of_mem _ (List.mem_cons_of_mem _ List.mem_cons_self), rfl⟩
    refine ⟨_, rfl, c, 7, rfl, _, rfl, _, _, rfl, rfl, _, _, rfl, rfl, ⟨(by show (0 : Int) < 1 + (i : Int); omega), (by show 1 + (i : Int) < 1073741824; omega)⟩, _, _, rfl, rfl, (by show (0 : Int) < 3; decide), q1, _, _, _, rfl, rfl, SqL.of upd_same, ev, ?_⟩
    dsimp only [gName]
    have e2 := e.trans s1
    have tm2 := tm.over s1
    generalize upd H' q1 (.lst [V.str "+", V.str "-", V.str "*"]) = H2 at e2 tm2
    obtain ⟨b0, b1⟩ := mix_b c (8 + (i : Int))
    refine ⟨_, rfl, _, rfl, _, _, rfl, rfl, c, 8 + (i : Int), rfl, _, rfl, _, rfl, mixF c (8 + (i : Int)), b, hd, rfl, b0, by omega, hB.over e2, hH.over e2, fun x3 H3 rs3 e3 tm3 => ?_⟩
    dsimp only [gName]
    have tm2' := tm2.over e3
    have e23 := e2.trans e3
    refine ⟨_, rfl, c, 7, rfl, _, rfl, _, _, rfl, rfl, _, _, rfl, rfl, ⟨(by show (0 : Int) < 5 + (i : Int); omega), (by show 5 + (i : Int) < 1073741824; omega)⟩, _, _, rfl, rfl, (by show (0 : Int) < 2; decide), rfl, _, rfl, ?_⟩
    refine ite2 (fun cc => ?_) (fun cc => ?_)
    · refine ⟨_, rfl, _, rfl, _, rfl, szl (by show 3 ≤ 1000000; decide), fun t4 ht4 => ?_⟩
      have s4 := same_new ht4 (.tup [V.str z, x3, x])
      exact ⟨e23.trans s4, _, 1 + m, _, _, _, _, rfl, by omega, .j z hz upd_same (tm3.over s4) (tm2'.over s4)⟩
    · refine ⟨_, rfl, _, rfl, _, rfl, szl (by show 3 ≤ 1000000; decide), fun t4 ht4 => ?_⟩
      have s4 := same_new ht4 (.tup [V.str z, x, x3])
      exact ⟨e23.trans s4, _, m + 1, _, _, _, _, rfl, by omega, .j z hz upd_same (tm2'.over s4) (tm3.over s4)⟩
  · obtain ⟨e, x, m, rs, o4, o5, o6, rfl, hm, tm⟩ := p
    exact ⟨_, rfl, q _ _ m rs e (by omega) tm⟩

theorem ok_loop (T : Tx K mg a) : FnOk P w K mg base CX0 3 a.f_l_loop a.d_l_loop ["_law_number", "_law_far", "_law_stack", "_law_cell_here"] spLoop2 := by
  have G_l_name := ok_name (P := P) (w := w) (base := base) T
  refine T.F_l_loop.ok sc_l_loop (fun vs H Q E h => ?_) (fun cdv A outer s H vs Q E hr h => ?_)
  · obtain ⟨_, _, _, _, _, rfl, _⟩ := h; rfl
  obtain ⟨n, far, c, st, k, rfl, n0, ⟨vs, hv, hk, hlp⟩, k10, q⟩ := h
  refine ⟨_, (@pss_cons _ _ _ _ _ (@ps_set _ _ (4) _ _ _ _ sc_l_loop.nd rfl (Or.inl rfl) (@pe_ix _ _ _ _ _ _ _ ix_list (@pe_lstq _ _ _ _ (@paq_cons _ _ _ _ _ pe_int (@paq_cons _ _ _ _ _ pe_int (@paq_cons _ _ _ _ _ (pv 1) paq_nil star_N) star_C) star_C)) (@pe_op _ _ _ _ _ _ _ _ op_mod (pv 0) pe_int) (fun _ _ => rfl)) (by rfl) (by first | exact .inl rfl | exact .inr rfl | assumption)) (@pss_cons _ _ _ _ _ (@ps_set _ _ (5) _ _ _ _ sc_l_loop.nd rfl (Or.inl rfl) (@pe_op _ _ _ _ _ _ _ _ op_cat (@pe_lst _ _ _ _ (@pa_cons _ _ _ _ _ (@pe_tup _ _ _ _ _ (@pa_cons _ _ _ _ _ pe_str (@pa_cons _ _ _ _ _ pe_int pa_nil (by rfl)) (by rfl))) pa_nil (by rfl))) (@pe_compB _ _ _ _ _ _ _ ["_law_one"] [none] _ _ _ _ (by rfl) (@pi_list _ _ _ _ (pv 2)) c_l_loop_0 (fun _ _ _ _ _ _ => ⟨(pg_name (i := 0) c_l_loop_0n rfl (Or.inl rfl)), @pts_nil _, (@pe_tup _ _ _ _ _ (@pa_cons _ _ _ _ _ (@pe_ix _ _ _ _ _ _ _ (show IxR _ (rIxT K) from ix_tup) (pv 0) pe_int (fun _ _ => rfl)) (@pa_cons _ _ _ _ _ (@pe_ix _ _ _ _ _ _ _ (show IxR _ (rIxT K) from ix_tup) (pv 0) pe_int (fun _ _ => rfl)) pa_nil (by rfl)) (by rfl)))⟩) (by intro _ ; rfl))) (by rfl) (by first | exact .inl rfl | exact .inr rfl | assumption)) (@pss_cons _ _ _ _ _ (@ps_set _ _ (6) _ _ _ _ sc_l_loop.nd rfl (Or.inl rfl) (@pe_ix _ _ _ _ _ _ _ ix_list (pv 5) (@pe_op _ _ _ _ _ _ _ _ op_mod (@pe_op _ _ _ _ _ _ _ _ op_fdiv (pv 0) pe_int) (@pe_callB _ _ _ _ _ _ _ _ _ call_len_seq (by rfl) T.z_len bt_len (@pa_cons _ _ _ _ _ (pv 5) pa_nil (by rfl)) (by decide) (by decide) (by rfl) (by rfl))) (fun _ _ => rfl)) (by rfl) (by first | exact .inl rfl | exact .inr rfl | assumption)) (@pss_cons _ _ _ _ _ (@ps_set _ _ (7) _ _ _ _ sc_l_loop.nd rfl (Or.inl rfl) (@pe_ix _ _ _ _ _ _ _ ix_list (pv 5) (@pe_op _ _ _ _ _ _ _ _ op_mod (@pe_op _ _ _ _ _ _ _ _ op_fdiv (pv 0) pe_int) (@pe_callB _ _ _ _ _ _ _ _ _ call_len_seq (by rfl) T.z_len bt_len (@pa_cons _ _ _ _ _ (pv 5) pa_nil (by rfl)) (by decide) (by decide) (by rfl) (by rfl))) (fun _ _ => rfl)) (by rfl) (by first | exact .inl rfl | exact .inr rfl | assumption)) (@pss_cons _ _ _ _ _ (@ps_set _ _ (8) _ _ _ _ sc_l_loop.nd rfl (Or.inl rfl) (@pe_ix _ _ _ _ _ _ _ ix_list (@pe_lstq _ _ _ _ (@paq_cons _ _ _ _ _ pe_int (@paq_cons _ _ _ _ _ pe_int (@paq_cons _ _ _ _ _ pe_int (@paq_cons _ _ _ _ _ pe_int (@paq_cons _ _ _ _ _ pe_int (@paq_cons _ _ _ _ _ pe_int (@paq_cons _ _ _ _ _ (@pe_un _ _ _ _ _ _ un_neg pe_int) (@paq_cons _ _ _ _ _ pe_int paq_nil star_C) star_U) star_C) star_C) star_C) star_C) star_C) star_C)) (@pe_op _ _ _ _ _ _ _ _ op_mod (@pe_op _ _ _ _ _ _ _ _ op_fdiv (pv 0) pe_int) pe_int) (fun _ _ => rfl)) (by rfl) (by first | exact .inl rfl | exact .inr rfl | assumption)) (@pss_cons _ _ _ _ _ (@ps_set _ _ (9) _ _ _ _ sc_l_loop.nd rfl (Or.inl rfl) (@pe_tup _ _ _ _ _ (@pa_cons _ _ _ _ _ (@pe_ix _ _ _ _ _ _ _ ix_tup (pv 6) pe_int (fun _ _ => rfl)) (@pa_cons _ _ _ _ _ (@pe_op _ _ _ _ _ _ _ _ op_add (@pe_op _ _ _ _ _ _ _ _ op_sub (pv 4) (@pe_ix _ _ _ _ _ _ _ ix_tup (pv 6) pe_int (fun _ _ => rfl))) (@pe_op _ _ _ _ _ _ _ _ op_mod (@pe_op _ _ _ _ _ _ _ _ op_fdiv (pv 0) pe_int) pe_int)) pa_nil (by rfl)) (by rfl))) (by rfl) (by first | exact .inl rfl | exact .inr rfl | assumption)) (@pss_cons _ _ _ _ _ (@ps_set _ _ (10) _ _ _ _ sc_l_loop.nd rfl (Or.inl rfl) (@pe_op _ _ _ _ _ _ _ _ op_mod (@pe_op _ _ _ _ _ _ _ _ op_fdiv (pv 0) pe_int) pe_int) (by rfl) (by first | exact .inl rfl | exact .inr rfl | assumption)) (@pss_cons _ _ _ _ _ (@ps_if _ _ _ _ _ _ _ _ (@pt_cmpR _ _ _ _ _ _ _ _ (@op_neS _ (@hu64 _ _ hr)) (pv 2) (@pe_lst _ _ _ _ pa_nil) (@nomark _ _ (by decide) (by decide))) (@pss_one _ _ _ (@ps_set _ _ (10) _ _ _ _ sc_l_loop.nd rfl (Or.inl rfl) (@pe_ix _ _ _ _ _ _ _ ix_tup (@pe_ix _ _ _ _ _ _ _ ix_list (pv 2) pe_int (fun _ _ => rfl)) pe_int (fun _ _ => rfl)) (by rfl) (by first | exact .inl rfl | exact .inr rfl | assumption))) pss_nil) (@pss_cons _ _ _ _ _ (@ps_set _ _ (11) _ _ _ _ sc_l_loop.nd rfl (Or.inl rfl) (@pe_call _ _ _ _ _ _ _ _ _ _ _ _ _ _ _ _ G_l_name (hr.mono (by omega)) (by rfl) T.m_l_name T.F_l_name.kp T.b_l_name .nil pass0 (@pa_cons _ _ _ _ _ (pv 3) (@pa_cons _ _ _ _ _ (@pe_op _ _ _ _ _ _ _ _ op_mod (@pe_op _ _ _ _ _ _ _ _ op_add (@pe_callB _ _ _ _ _ _ _ _ _ call_len_seq (by rfl) T.z_len bt_len (@pa_cons _ _ _ _ _ (pv 2) pa_nil (by rfl)) (by decide) (by decide) (by rfl) (by rfl)) (pv 10)) pe_int) pa_nil (by rfl)) (by rfl)) (by decide) (by rfl) (by rfl)) (by rfl) (by first | exact .inl rfl | exact .inr rfl | assumption)) (@pss_one _ _ _ (@ps_ret _ _ _ _ (@pe_tupq _ _ _ _ _ (@paq_cons _ _ _ _ _ (pv 11) (@paq_cons _ _ _ _ _ (pv 9) (@paq_cons _ _ _ _ _ (@pe_tup _ _ _ _ _ (@pa_cons _ _ _ _ _ (@pe_ix _ _ _ _ _ _ _ ix_tup (pv 7) pe_int (fun _ _ => rfl)) (@pa_cons _ _ _ _ _ (@pe_op _ _ _ _ _ _ _ _ op_add (@pe_op _ _ _ _ _ _ _ _ op_sub (pv 4) (@pe_ix _ _ _ _ _ _ _ ix_tup (pv 7) pe_int (fun _ _ => rfl))) (pv 8)) pa_nil (by rfl)) (by rfl))) (@paq_cons _ _ _ _ _ (pv 4) (@paq_cons _ _ _ _ _ (pv 10) paq_nil star_N) star_N) star_T) star_N) star_N))))))))))))), ?_⟩
  -- about
  obtain ⟨ab, _, eab⟩ := pickN (L := [0, 0, far]) (i := n % 3) 3 rfl (Int.emod_nonneg _ (by decide)) (Int.emod_lt_of_pos _ (by decide))
  refine ⟨_, rfl, szl (by show 3 ≤ 1000000; decide), fun q1 hq1 => ⟨_, rfl, _, _, rfl, rfl, (by show (0 : Int) < 3; decide), q1, _, _, _, rfl, rfl, SqL.of upd_same, eab, ?_⟩⟩
  have e1 := same_new hq1 (.lst [V.int 0, V.int 0, V.int far])
  dsimp only [gName]
  generalize upd H q1 (.lst [V.int 0, V.int 0, V.int far]) = H1 at e1
  -- bases
  refine ⟨szl (by show 2 ≤ 1000000; decide), fun t0 ht0 => ⟨szl (by show 1 ≤ 1000000; decide), fun l0 hl0 => ?_⟩⟩
  have e2 := e1.trans ((same_new ht0 (.tup [V.str "", V.int 0])).trans (same_new hl0 (.lst [V.ref t0])))
  have ht02 : (upd (upd H1 t0 (.tup [V.str "", V.int 0])) l0 (.lst [V.ref t0])) t0 = some (.tup [V.str "", V.int 0]) := same_new hl0 _ _ _ upd_same
  have hl02 : (upd (upd H1 t0 (.tup [V.str "", V.int 0])) l0 (.lst [V.ref t0])) l0 = some (.lst [V.ref t0]) := upd_same
  generalize upd (upd H1 t0 (.tup [V.str "", V.int 0])) l0 (.lst [V.ref t0]) = H2 at e2 ht02 hl02
  refine ⟨_, rfl, st, rfl, ⟨_, SqL.of (e2 _ _ hv)⟩, ?_⟩
  refine comp_list (xs := vs) (fun i ys H' => Same H2 H' ∧ ys.length = i ∧ PairsAt H' ys) ⟨Same.refl _, rfl, fun v hv => by cases hv⟩ (szl (by omega)) (fun i ys H' hi p => ⟨SqL.of (p.1 _ _ (e2 _ _ hv)), by omega⟩) (fun i x ys H' hx p => ?_) (fun ys H' p r hr' => ?_)
  · obtain ⟨e3, yl, yp⟩ := p
    obtain ⟨p0, p1, p2, nm, b1, b2, n1, n2, ab2, tn, rfl, h0, _⟩ := (hlp x (List.mem_of_getElem? hx)).over (e2.trans e3)
    refine ⟨_, rfl, p0, _, 0, _, rfl, rfl, SqT.of h0, rfl, _, rfl, p0, _, 3, _, rfl, rfl, SqT.of h0, rfl, szl (by show 2 ≤ 1000000; decide), fun t4 ht4 => ?_⟩
    have s4 := same_new ht4 (.tup [V.str nm, V.int ab2])
    refine ⟨e3.trans s4, by rw [List.length_append, yl]; rfl, fun v hv' => ?_⟩
    rcases List.mem_append.mp hv' with h | h
    · exact (yp.over s4) v h
    · rw [List.mem_singleton] at h
      exact ⟨t4, nm, ab2, h, upd_same⟩
  obtain ⟨e3, yl, yp⟩ := p
  have s4 := same_new hr' (.lst ys)
  refine ⟨l0, r, _, _, rfl, rfl, s4 _ _ (e3 _ _ hl02), upd_same, szl (by simp only [List.length_singleton]; omega), fun bl hbl => ?_⟩
  have s5 := same_new hbl (.lst ([V.ref t0] ++ ys))
  have e5 := (e2.trans e3).trans (s4.trans s5)
  have hB : BasesAt (upd (upd H' r (.lst ys)) bl (.lst ([V.ref t0] ++ ys))) bl := by
    refine ⟨_, upd_same, by rw [List.length_append]; show 0 < 1 + ys.length; omega, by rw [List.length_append]; show 1 + ys.length ≤ 100; omega, fun v hv' => ?_⟩
    rcases List.mem_append.mp hv' with h | h
    · rw [List.mem_singleton] at h
      exact ⟨t0, _, _, h, s5 _ _ (s4 _ _ (e3 _ _ ht02))⟩
    · exact (yp.over (s4.trans s5)) v h
  dsimp only [gName]
  generalize upd (upd H' r (.lst ys)) bl (.lst ([V.ref t0] ++ ys)) = H5 at e5 hB
  clear s4 s5 e3 yp hl02 ht02
  obtain ⟨bs, hb, hb0, hb1, hbp⟩ := hB
  have hb2 : (0 : Int) < (bs.length : Int) := by omega
  -- low, high
  obtain ⟨v1, hv1, ev1⟩ := at_mem (vs := bs) (i := n / 3 % (bs.length : Int)) (Int.emod_nonneg _ (by omega)) (Int.emod_lt_of_pos _ hb2)
  obtain ⟨t1, z1, k1, rfl, ht1⟩ := hbp v1 hv1
  obtain ⟨v2, hv2, ev2⟩ := at_mem (vs := bs) (i := n / 13 % (bs.length : Int)) (Int.emod_nonneg _ (by omega)) (Int.emod_lt_of_pos _ hb2)
  obtain ⟨t2, z2, k2, rfl, ht2⟩ := hbp v2 hv2
  refine ⟨_, rfl, _, rfl, _, _, rfl, rfl, ⟨by decide, by decide⟩, _, rfl, bl, _, rfl, .inl (SqL.of hb), _, _, rfl, rfl, hb2, bl, _, _, _, rfl, rfl, SqL.of hb, ev1, ?_⟩
  refine ⟨_, rfl, _, rfl, _, _, rfl, rfl, ⟨by decide, by decide⟩, _, rfl, bl, _, rfl, .inl (SqL.of hb), _, _, rfl, rfl, hb2, bl, _, _, _, rfl, rfl, SqL.of hb, ev2, ?_⟩
  dsimp only [gName]
  -- more
  obtain ⟨mo, _, emo⟩ := pickN (L := [2, 1, 3, 0, 1, 2, -1, 1]) (i := n / 53 % 8) 8 rfl (Int.emod_nonneg _ (by decide)) (Int.emod_lt_of_pos _ (by decide))
  refine ⟨_, rfl, szl (by show 8 ≤ 1000000; decide), fun q2 hq2 => ⟨_, rfl, _, _, rfl, rfl, ⟨by decide, by decide⟩, _, _, rfl, rfl, (by show (0 : Int) < 8; decide), q2, _, _, _, rfl, rfl, SqL.of upd_same, emo, ?_⟩⟩
  have s6 := same_new hq2 (.lst [V.int 2, V.int 1, V.int 3, V.int 0, V.int 1, V.int 2, V.int (-1), V.int 1])
  dsimp only [gName]
  generalize upd H5 q2 (.lst [V.int 2, V.int 1, V.int 3, V.int 0, V.int 1, V.int 2, V.int (-1), V.int 1]) = H6 at s6
  have ht16 := s6 _ _ ht1
  have ht26 := s6 _ _ ht2
  have e6 := e5.trans s6
  -- low spot
  refine ⟨_, rfl, t1, _, 0, _, rfl, rfl, SqT.of ht16, rfl, _, rfl, _, rfl, t1, _, 1, _, rfl, rfl, SqT.of ht16, rfl, _, _, rfl, rfl, _, rfl, _, _, rfl, rfl, ⟨by decide, by decide⟩, _, _, rfl, rfl, (by show (0 : Int) < 2; decide), _, _, rfl, rfl, szl (by show 2 ≤ 1000000; decide), fun ls hls => ?_⟩
  have s7 := same_new hls (.tup [V.str z1, V.int (ab - k1 + n / 500 % 2)])
  have hls7 : (upd H6 ls (.tup [V.str z1, V.int (ab - k1 + n / 500 % 2)])) ls = some (.tup [V.str z1, V.int (ab - k1 + n / 500 % 2)]) := upd_same
  dsimp only [gName]
  generalize upd H6 ls (.tup [V.str z1, V.int (ab - k1 + n / 500 % 2)]) = H7 at s7 hls7
  have ht27 := s7 _ _ ht26
  have e7 := e6.trans s7
  refine ⟨_, rfl, _, _, rfl, rfl, ⟨by decide, by decide⟩, _, _, rfl, rfl, (by show (0 : Int) < 3; decide), ?_⟩
  have u0 := Int.emod_nonneg (n / 4000) (show (3 : Int) ≠ 0 by decide)
  have u1 := Int.emod_lt_of_pos (n / 4000) (show (0 : Int) < 3 by decide)
  dsimp only [gName]
  generalize n / 4000 % 3 = u at u0 u1 ⊢
  have hv7 := e7 _ _ hv
  obtain ⟨ts, tr, td, tl⟩ := lp_tr (K := K) fun v hv' => (hlp v hv').over e7
  refine seq_any (fun σ' H' => Same H7 H' ∧ ∃ u : Int, 0 ≤ u ∧ u ≤ 2 ∧ σ' = [some (.int n), some (.int far), some (.ref st), some (.int c), some (.int ab), some (.ref bl), some (.ref t1), some (.ref t2), some (.int mo), some (.ref ls), some (.int u), none]) (fun σ' H8 pp => ?_) (fun nx => ?_)
  · obtain ⟨e8, u, u0, u1, rfl⟩ := pp
    have f0 := Int.emod_nonneg ((vs.length : Int) + u) (show (3 : Int) ≠ 0 by decide)
    have f1 := Int.emod_lt_of_pos ((vs.length : Int) + u) (show (0 : Int) < 3 by decide)
    refine ⟨_, rfl, _, rfl, st, _, rfl, .inl (SqL.of (e8 _ _ hv7)), _, rfl, _, _, rfl, rfl, _, _, rfl, rfl, (by show (0 : Int) < 3; decide), c, _, rfl, f0, by omega, fun H9 e9 => ?_⟩
    dsimp only [gName]
    have e89 := e8.trans e9
    have ht29 := e89 _ _ ht27
    refine ⟨_, rfl, _, rfl, _, rfl, t2, _, 0, _, rfl, rfl, SqT.of ht29, rfl, _, rfl, _, rfl, t2, _, 1, _, rfl, rfl, SqT.of ht29, rfl, _, _, rfl, rfl, _, rfl, _, _, rfl, rfl, szl (by show 2 ≤ 1000000; decide), fun hs hhs => ⟨_, rfl, _, rfl, szl (by show 5 ≤ 1000000; decide), fun rr hrr => ?_⟩⟩
    have sA := same_new hhs (.tup [V.str z2, V.int (ab - k2 + mo)])
    have sB := same_new hrr (.tup [V.str (sOf (nmC (mixF c 11) (((vs.length : Int) + u) % 3))), V.ref ls, V.ref hs, V.int ab, V.int u])
    exact q _ _ (e7.trans (e89.trans (sA.trans sB))) ⟨rr, ls, hs, _, _, _, _, _, ab, u, rfl, upd_same, sB _ _ (sA _ _ (e89 _ _ hls7)), sB _ _ upd_same, u0, u1⟩
  · refine ⟨_, rfl, szl (by show 0 ≤ 1000000; decide), fun z hz => ?_⟩
    have s8 := same_new hz (.lst [])
    refine ⟨_, _, .lst (SqL.of (s8 _ _ hv7)) (tr.over s8), .lst (SqL.of upd_same) .nil, ⟨_, rfl⟩, ⟨_, rfl⟩, (by rw [simT]; cases ts <;> rfl), (by rw [depT]; omega), _, rfl, ?_⟩
    cases ts with
    | nil => exact iteE (v := false) rfl (iteF (nx _ _ ⟨s8, u, u0, by omega, rfl⟩))
    | cons t0' ts' =>
      refine iteE (v := true) rfl (iteT ?_)
      have hpos : 0 < vs.length := by rw [← tl]; exact Nat.succ_pos _
      have h0 : vs[0]? = some vs[0] := List.getElem?_eq_getElem hpos
      obtain ⟨p0, p1, p2, nm, b1, b2, n1, n2, ab2, tn, ev0, g0, _, _, w0, w1⟩ := (hlp vs[0] (List.getElem_mem _)).over (e7.trans s8)
      have at0 : atI vs (0 : Int) = some (.ref p0) := by rw [← ev0]; exact atI_nat (j := 0) h0
      refine ⟨_, rfl, st, _, 0, _, rfl, rfl, SqL.of (s8 _ _ hv7), at0, p0, _, 4, _, rfl, rfl, SqT.of g0, rfl, ?_⟩
      exact nx _ _ ⟨s8, tn, w0, w1, rfl⟩

theorem ok_inin (T : Tx K mg a) : FnOk P w K mg base CX0 1 a.f_Number_init a.d_Number_init ["self", "n"] (spIni a.c_Number ["n"]) := by
  refine T.F_Number_init.ok sc_Number_init (fun vs H Q E h => ?_) (fun cdv A outer s H vs Q E hr h => ?_)
  · obtain ⟨_, _, vs, rfl, hl, _⟩ := h; rw [List.length_cons, hl]; rfl
  obtain ⟨x, dx, vs, rfl, hl, hx, q⟩ := h
  obtain ⟨n, rfl⟩ : ∃ n, vs = [n] := by match vs, hl with | [n], _ => exact ⟨n, rfl⟩
  refine ⟨_, (@pss_one _ _ _ (@ps_fld _ _ _ _ _ _ _ _ (pv 0) (pv 1) rfl)), ?_⟩
  exact ⟨_, rfl, _, rfl, x, _, dx, _, rfl, hx, T.cl_Number, T.n_Number_n, (by show 0 < 1000; decide), q _ (fun b o e hb => by rw [upd_ne hb]; exact e) ⟨dx, upd_same⟩⟩
theorem ok_iniv (T : Tx K mg a) : FnOk P w K mg base CX0 1 a.f_Value_init a.d_Value_init ["self", "name"] (spIni a.c_Value ["name"]) := by
  refine T.F_Value_init.ok sc_Value_init (fun vs H Q E h => ?_) (fun cdv A outer s H vs Q E hr h => ?_)
  · obtain ⟨_, _, vs, rfl, hl, _⟩ := h; rw [List.length_cons, hl]; rfl
  obtain ⟨x, dx, vs, rfl, hl, hx, q⟩ := h
  obtain ⟨n, rfl⟩ : ∃ n, vs = [n] := by match vs, hl with | [n], _ => exact ⟨n, rfl⟩
  refine ⟨_, (@pss_one _ _ _ (@ps_fld _ _ _ _ _ _ _ _ (pv 0) (pv 1) rfl)), ?_⟩
  exact ⟨_, rfl, _, rfl, x, _, dx, _, rfl, hx, T.cl_Value, T.n_Value_name, (by show 0 < 1000; decide), q _ (fun b o e hb => by rw [upd_ne hb]; exact e) ⟨dx, upd_same⟩⟩
theorem ok_inic (T : Tx K mg a) : FnOk P w K mg base CX0 1 a.f_Cell_init a.d_Cell_init ["self", "table", "spots"] (spIni a.c_Cell ["table", "spots"]) := by
  refine T.F_Cell_init.ok sc_Cell_init (fun vs H Q E h => ?_) (fun cdv A outer s H vs Q E hr h => ?_)
  · obtain ⟨_, _, vs, rfl, hl, _⟩ := h; rw [List.length_cons, hl]; rfl
  obtain ⟨x, dx, vs, rfl, hl, hx, q⟩ := h
  obtain ⟨n, m, rfl⟩ : ∃ n m, vs = [n, m] := by match vs, hl with | [n, m], _ => exact ⟨n, m, rfl⟩
  refine ⟨_, (@pss_cons _ _ _ _ _ (@ps_fld _ _ _ _ _ _ _ _ (pv 0) (pv 1) rfl) (@pss_one _ _ _ (@ps_fld _ _ _ _ _ _ _ _ (pv 0) (pv 2) rfl))), ?_⟩
  refine ⟨_, rfl, _, rfl, x, _, dx, _, rfl, hx, T.cl_Cell, T.n_Cell_table, (by show 0 < 1000; decide), ?_⟩
  refine ⟨_, rfl, _, rfl, x, _, dx, _, rfl, upd_same, T.cl_Cell, T.n_Cell_spots, (by show 1 < 1000; decide), ?_⟩
  exact q _ (fun b o e hb => by repeat rw [upd_ne hb]
                                exact e) ⟨dx, upd_same⟩
theorem ok_inij (T : Tx K mg a) : FnOk P w K mg base CX0 1 a.f_Joined_init a.d_Joined_init ["self", "sign", "left", "right"] (spIni a.c_Joined ["sign", "left", "right"]) := by
  refine T.F_Joined_init.ok sc_Joined_init (fun vs H Q E h => ?_) (fun cdv A outer s H vs Q E hr h => ?_)
  · obtain ⟨_, _, vs, rfl, hl, _⟩ := h; rw [List.length_cons, hl]; rfl
  obtain ⟨x, dx, vs, rfl, hl, hx, q⟩ := h
  obtain ⟨n, m, o, rfl⟩ : ∃ n m o, vs = [n, m, o] := by match vs, hl with | [n, m, o], _ => exact ⟨n, m, o, rfl⟩
  refine ⟨_, (@pss_cons _ _ _ _ _ (@ps_fld _ _ _ _ _ _ _ _ (pv 0) (pv 1) rfl) (@pss_cons _ _ _ _ _ (@ps_fld _ _ _ _ _ _ _ _ (pv 0) (pv 2) rfl) (@pss_one _ _ _ (@ps_fld _ _ _ _ _ _ _ _ (pv 0) (pv 3) rfl)))), ?_⟩
  refine ⟨_, rfl, _, rfl, x, _, dx, _, rfl, hx, T.cl_Joined, T.n_Joined_sign, (by show 0 < 1000; decide), ?_⟩
  refine ⟨_, rfl, _, rfl, x, _, dx, _, rfl, upd_same, T.cl_Joined, T.n_Joined_left, (by show 1 < 1000; decide), ?_⟩
  refine ⟨_, rfl, _, rfl, x, _, dx, _, rfl, upd_same, T.cl_Joined, T.n_Joined_right, (by show 2 < 1000; decide), ?_⟩
  exact q _ (fun b o e hb => by repeat rw [upd_ne hb]
                                exact e) ⟨dx, upd_same⟩

theorem ok_nreads (T : Tx K mg a) : FnOk P w K mg base CX0 1 a.f_Number_reads a.d_Number_reads ["self"] spNone := by
  refine T.F_Number_reads.ok sc_Number_reads (fun vs H Q E h => ?_) (fun cdv A outer s H vs Q E hr h => ?_)
  · obtain ⟨_, rfl, _⟩ := h; rfl
  obtain ⟨x, rfl, q⟩ := h
  refine ⟨_, (@pss_one _ _ _ (@ps_ret _ _ _ _ (@pe_lst _ _ _ _ pa_nil))), ?_⟩
  exact ⟨szl (by show 0 ≤ 1000000; decide), fun r hr => q r _ (same_new hr _) upd_same⟩
theorem ok_vreads (T : Tx K mg a) : FnOk P w K mg base CX0 1 a.f_Value_reads a.d_Value_reads ["self"] spNone := by
  refine T.F_Value_reads.ok sc_Value_reads (fun vs H Q E h => ?_) (fun cdv A outer s H vs Q E hr h => ?_)
  · obtain ⟨_, rfl, _⟩ := h; rfl
  obtain ⟨x, rfl, q⟩ := h
  refine ⟨_, (@pss_one _ _ _ (@ps_ret _ _ _ _ (@pe_lst _ _ _ _ pa_nil))), ?_⟩
  exact ⟨szl (by show 0 ≤ 1000000; decide), fun r hr => q r _ (same_new hr _) upd_same⟩
theorem ok_creads (T : Tx K mg a) : FnOk P w K mg base CX0 1 a.f_Cell_reads a.d_Cell_reads ["self"] (spReadC a.c_Cell) := by
  refine T.F_Cell_reads.ok sc_Cell_reads (fun vs H Q E h => ?_) (fun cdv A outer s H vs Q E hr h => ?_)
  · obtain ⟨_, _, _, _, rfl, _⟩ := h; rfl
  obtain ⟨x, dx, z, v, rfl, hx, q⟩ := h
  refine ⟨_, (@pss_one _ _ _ (@ps_ret _ _ _ _ (@pe_lst _ _ _ _ (@pa_cons _ _ _ _ _ (@pe_tup _ _ _ _ _ (@pa_cons _ _ _ _ _ (@pe_fld _ _ _ _ _ (pv 0) rfl) (@pa_cons _ _ _ _ _ (@pe_fld _ _ _ _ _ (pv 0) rfl) pa_nil (by rfl)) (by rfl))) pa_nil (by rfl))))), ?_⟩
  refine ⟨_, rfl, x, _, dx, _, _, rfl, hx, T.cl_Cell, T.n_Cell_table, rfl, _, rfl, x, _, dx, _, _, rfl, hx, T.cl_Cell, T.n_Cell_spots, rfl, szl (by show 2 ≤ 1000000; decide), fun t ht => ⟨szl (by show 1 ≤ 1000000; decide), fun r hr => ?_⟩⟩
  exact q t r _ ((same_new ht _).trans (same_new hr _)) (same_new hr _ _ _ upd_same) upd_same
theorem ok_jreads (T : Tx K mg a) : ∀ n : Nat, FnOk P w K mg base CX0 (n + 1) a.f_Joined_reads a.d_Joined_reads ["self"] (spReadJ2 (csOf a) n)
  | 0 => by
    have no : ∀ vs H Q E, ¬ spReadJ2 (csOf a) 0 vs H Q E := fun vs H Q E h => by
      obtain ⟨_, _, _, _, _, m, k, _, _, _, _, h1, h2, hn, _⟩ := h
      have := h1.pos; have := h2.pos
      omega
    exact ⟨fun vs H Q E h => absurd h (no vs H Q E), fun A outer s H args us vs Q E _ _ _ _ h => absurd h (no vs H Q E)⟩
  | n + 1 => by
    have G_Number_reads := ok_nreads (P := P) (w := w) (base := base) T
    have G_Value_reads := ok_vreads (P := P) (w := w) (base := base) T
    have G_Cell_reads := ok_creads (P := P) (w := w) (base := base) T
    have G_Joined_reads := ok_jreads T n
    refine T.F_Joined_reads.ok sc_Joined_reads (fun vs H Q E h => ?_) (fun cdv A outer s H vs Q E hr h => ?_)
    · obtain ⟨_, _, _, _, _, _, _, _, _, rfl, _⟩ := h; rfl
    obtain ⟨x, dx, z, l, r, m, k, ts, us, rfl, hx, h1, h2, hn, hb, q⟩ := h
    refine ⟨_, (@pss_one _ _ _ (@ps_ret _ _ _ _ (@pe_op _ _ _ _ _ _ _ _ op_cat (@pe_alt _ _ _ _ (@pe_meth0 _ _ _ _ _ _ _ _ _ _ _ _ _ _ _ _ _ (@pe_fld _ _ _ _ _ (pv 0) rfl) T.cl_Number T.me_Number_reads G_Number_reads (hr.mono (by omega)) T.b_Number_reads .nil pass0 (by rfl)) (@pe_alt _ _ _ _ (@pe_meth0 _ _ _ _ _ _ _ _ _ _ _ _ _ _ _ _ _ (@pe_fld _ _ _ _ _ (pv 0) rfl) T.cl_Value T.me_Value_reads G_Value_reads (hr.mono (by omega)) T.b_Value_reads .nil pass0 (by rfl)) (@pe_alt _ _ _ _ (@pe_meth0 _ _ _ _ _ _ _ _ _ _ _ _ _ _ _ _ _ (@pe_fld _ _ _ _ _ (pv 0) rfl) T.cl_Cell T.me_Cell_reads G_Cell_reads (hr.mono (by omega)) T.b_Cell_reads .nil pass0 (by rfl)) (@pe_meth0 _ _ _ _ _ _ _ _ _ _ _ _ _ _ _ _ _ (@pe_fld _ _ _ _ _ (pv 0) rfl) T.cl_Joined T.me_Joined_reads G_Joined_reads (hr.mono (by omega)) T.b_Joined_reads .nil pass0 (by rfl))))) (@pe_alt _ _ _ _ (@pe_meth0 _ _ _ _ _ _ _ _ _ _ _ _ _ _ _ _ _ (@pe_fld _ _ _ _ _ (pv 0) rfl) T.cl_Number T.me_Number_reads G_Number_reads (hr.mono (by omega)) T.b_Number_reads .nil pass0 (by rfl)) (@pe_alt _ _ _ _ (@pe_meth0 _ _ _ _ _ _ _ _ _ _ _ _ _ _ _ _ _ (@pe_fld _ _ _ _ _ (pv 0) rfl) T.cl_Value T.me_Value_reads G_Value_reads (hr.mono (by omega)) T.b_Value_reads .nil pass0 (by rfl)) (@pe_alt _ _ _ _ (@pe_meth0 _ _ _ _ _ _ _ _ _ _ _ _ _ _ _ _ _ (@pe_fld _ _ _ _ _ (pv 0) rfl) T.cl_Cell T.me_Cell_reads G_Cell_reads (hr.mono (by omega)) T.b_Cell_reads .nil pass0 (by rfl)) (@pe_meth0 _ _ _ _ _ _ _ _ _ _ _ _ _ _ _ _ _ (@pe_fld _ _ _ _ _ (pv 0) rfl) T.cl_Joined T.me_Joined_reads G_Joined_reads (hr.mono (by omega)) T.b_Joined_reads .nil pass0 (by rfl)))))))), ?_⟩
    have p1 := h1.pos
    have p2 := h2.pos
    refine reads_any2 (c := csOf a) (n := n) (v := l) (fun R hR => ⟨_, rfl, x, _, dx, _, _, rfl, hx, T.cl_Joined, T.n_Joined_left, rfl, hR⟩) h1 (by omega) (by omega) (fun a1 ys1 H1 e1 g1 t1 => ?_)
    refine reads_any2 (c := csOf a) (n := n) (v := r) (fun R hR => ⟨_, rfl, x, _, dx, _, _, rfl, e1 _ _ hx, T.cl_Joined, T.n_Joined_right, rfl, hR⟩) (h2.over e1) (by omega) (by omega) (fun a2 ys2 H2 e2 g2 t2 => ?_)
    have l1 := t1.1
    have l2 := t2.1
    refine ⟨a1, a2, ys1, ys2, rfl, rfl, e2 _ _ g1, g2, szl (by omega), fun p hp => ?_⟩
    exact q p _ _ ((e1.trans e2).trans (same_new hp _)) upd_same (((t1.over e2).app t2).over (same_new hp _))

theorem ok_dinit (T : Tx K mg a) : FnOk P w K mg base CX0 1 a.f_Deed_init a.d_Deed_init ["self", "names", "lows", "highs", "table", "spots", "term", "path"] (spDInit a.c_Deed) := by
  refine T.F_Deed_init.ok sc_Deed_init (fun vs H Q E h => ?_) (fun cdv A outer s H vs Q E hr h => ?_)
  · obtain ⟨_, _, _, _, _, _, _, _, _, rfl, _⟩ := h; rfl
  obtain ⟨x, dx, v1, v2, v3, v4, v5, v6, v7, rfl, hx, q⟩ := h
  refine ⟨_, (@pss_cons _ _ _ _ _ (@ps_fld _ _ _ _ _ _ _ _ (pv 0) (pv 1) rfl) (@pss_cons _ _ _ _ _ (@ps_fld _ _ _ _ _ _ _ _ (pv 0) (pv 2) rfl) (@pss_cons _ _ _ _ _ (@ps_fld _ _ _ _ _ _ _ _ (pv 0) (pv 3) rfl) (@pss_cons _ _ _ _ _ (@ps_fld _ _ _ _ _ _ _ _ (pv 0) (pv 4) rfl) (@pss_cons _ _ _ _ _ (@ps_fld _ _ _ _ _ _ _ _ (pv 0) (pv 5) rfl) (@pss_cons _ _ _ _ _ (@ps_fld _ _ _ _ _ _ _ _ (pv 0) (pv 6) rfl) (@pss_one _ _ _ (@ps_fld _ _ _ _ _ _ _ _ (pv 0) (pv 7) rfl)))))))), ?_⟩
  refine ⟨_, rfl, _, rfl, x, _, dx, _, rfl, hx, T.cl_Deed, T.n_Deed_names, (by show 0 < 1000; decide), ?_⟩
  refine ⟨_, rfl, _, rfl, x, _, dx, _, rfl, upd_same, T.cl_Deed, T.n_Deed_lows, (by show 1 < 1000; decide), ?_⟩
  refine ⟨_, rfl, _, rfl, x, _, dx, _, rfl, upd_same, T.cl_Deed, T.n_Deed_highs, (by show 2 < 1000; decide), ?_⟩
  refine ⟨_, rfl, _, rfl, x, _, dx, _, rfl, upd_same, T.cl_Deed, T.n_Deed_table, (by show 3 < 1000; decide), ?_⟩
  refine ⟨_, rfl, _, rfl, x, _, dx, _, rfl, upd_same, T.cl_Deed, T.n_Deed_spots, (by show 4 < 1000; decide), ?_⟩
  refine ⟨_, rfl, _, rfl, x, _, dx, _, rfl, upd_same, T.cl_Deed, T.n_Deed_term, (by show 5 < 1000; decide), ?_⟩
  refine ⟨_, rfl, _, rfl, x, _, dx, _, rfl, upd_same, T.cl_Deed, T.n_Deed_path, (by show 6 < 1000; decide), ?_⟩
  exact q _ (fun b o e hb => by repeat rw [upd_ne hb]
                                exact e) ⟨dx, upd_same⟩

theorem ok_pini (T : Tx K mg a) : FnOk P w K mg base CX0 1 a.f_Program_init a.d_Program_init ["self", "size", "deeds"] (spPIni K a.c_Program) := by
  refine T.F_Program_init.ok sc_Program_init (fun vs H Q E h => ?_) (fun cdv A outer s H vs Q E hr h => ?_)
  · obtain ⟨_, _, _, _, _, rfl, _⟩ := h; rfl
  obtain ⟨x, dx, sz, p, ys, rfl, hx, hp, q⟩ := h
  refine ⟨_, (@pss_cons _ _ _ _ _ (@ps_fld _ _ _ _ _ _ _ _ (pv 0) (pv 1) rfl) (@pss_one _ _ _ (@ps_fld _ _ _ _ _ _ _ _ (pv 0) (@pe_callTy _ _ _ _ _ _ _ _ _ call_list_of (by rfl) T.z_list bt_list (@pa_cons _ _ _ _ _ (pv 2) pa_nil (by rfl)) (by decide) (by decide) (by rfl) (by rfl)) rfl))), ?_⟩
  refine ⟨_, rfl, _, rfl, x, _, dx, _, rfl, hx, T.cl_Program, T.n_Program_size, (by show 0 < 1000; decide), ?_⟩
  refine ⟨_, rfl, p, ys, rfl, .inl (SqL.updI hp hx), fun l hl => ?_⟩
  have nxl : x ≠ l := fun e => by rw [e, upd_same] at hl; cases hl
  have hlH : H l = none := by rw [upd_ne (Ne.symm nxl)] at hl; exact hl
  refine ⟨_, rfl, x, _, dx, _, rfl, (by rw [upd_ne nxl]; exact upd_same), T.cl_Program, T.n_Program_deeds, (by show 1 < 1000; decide), ?_⟩
  refine q l _ hlH (fun b o e hb => ?_) ?_ ⟨dx, upd_same⟩
  · rw [upd_ne hb, upd_ne (ne_of_none e hlH), upd_ne hb]
    exact e
  · rw [upd_ne (Ne.symm nxl)]
    exact upd_same

theorem ok_object (T : Tx K mg a) : ∀ n : Nat, FnOk P w K mg base CX0 (n + 2) a.f_l_object a.d_l_object ["_law_term_here"] (spObj (csOf a) n)
  | 0 => by
    have no : ∀ vs H Q E, ¬ spObj (csOf a) 0 vs H Q E := fun vs H Q E h => by
      obtain ⟨x, m, rs, _, hm, tm, _⟩ := h
      have := tm.pos
      omega
    exact ⟨fun vs H Q E h => absurd h (no vs H Q E), fun A outer s H args us vs Q E _ _ _ _ h => absurd h (no vs H Q E)⟩
  | n + 1 => by
    have G_Number_init := ok_inin (P := P) (w := w) (base := base) T
    have G_Value_init := ok_iniv (P := P) (w := w) (base := base) T
    have G_Cell_init := ok_inic (P := P) (w := w) (base := base) T
    have G_Joined_init := ok_inij (P := P) (w := w) (base := base) T
    have G_l_object := ok_object T n
    refine T.F_l_object.ok sc_l_object (fun vs H Q E h => ?_) (fun cdv A outer s H vs Q E hr h => ?_)
    · obtain ⟨_, _, _, rfl, _⟩ := h; rfl
    obtain ⟨x, m, rs, rfl, hm, tm, q⟩ := h
    refine ⟨_, (@pss_cons _ _ _ _ _ (@ps_if _ _ _ _ _ _ _ _ (@pt_cmpR _ _ _ _ _ _ _ _ op_eq (@pe_ix _ _ _ _ _ _ _ ix_tup (pv 0) pe_int (fun _ _ => rfl)) pe_str (@nomark _ _ (by decide) (by decide))) (@pss_one _ _ _ (@ps_ret _ _ _ _ (@pe_make _ _ _ _ _ _ _ _ _ _ _ _ _ _ _ _ _ T.mk_Number G_Number_init (hr.mono (by omega)) (by rfl) T.mc_Number T.b_Number_init .nil pass0 (@pa_cons _ _ _ _ _ (@pe_ix _ _ _ _ _ _ _ ix_tup (pv 0) pe_int (fun _ _ => rfl)) pa_nil (by rfl)) (by decide) (by rfl) (by rfl)))) pss_nil) (@pss_cons _ _ _ _ _ (@ps_if _ _ _ _ _ _ _ _ (@pt_cmpR _ _ _ _ _ _ _ _ op_eq (@pe_ix _ _ _ _ _ _ _ ix_tup (pv 0) pe_int (fun _ _ => rfl)) pe_str (@nomark _ _ (by decide) (by decide))) (@pss_one _ _ _ (@ps_ret _ _ _ _ (@pe_make _ _ _ _ _ _ _ _ _ _ _ _ _ _ _ _ _ T.mk_Value G_Value_init (hr.mono (by omega)) (by rfl) T.mc_Value T.b_Value_init .nil pass0 (@pa_cons _ _ _ _ _ (@pe_ix _ _ _ _ _ _ _ ix_tup (pv 0) pe_int (fun _ _ => rfl)) pa_nil (by rfl)) (by decide) (by rfl) (by rfl)))) pss_nil) (@pss_cons _ _ _ _ _ (@ps_if _ _ _ _ _ _ _ _ (@pt_cmpR _ _ _ _ _ _ _ _ op_eq (@pe_ix _ _ _ _ _ _ _ ix_tup (pv 0) pe_int (fun _ _ => rfl)) pe_str (@nomark _ _ (by decide) (by decide))) (@pss_one _ _ _ (@ps_ret _ _ _ _ (@pe_make _ _ _ _ _ _ _ _ _ _ _ _ _ _ _ _ _ T.mk_Cell G_Cell_init (hr.mono (by omega)) (by rfl) T.mc_Cell T.b_Cell_init .nil pass0 (@pa_cons _ _ _ _ _ (@pe_ix _ _ _ _ _ _ _ ix_tup (pv 0) pe_int (fun _ _ => rfl)) (@pa_cons _ _ _ _ _ (@pe_ix _ _ _ _ _ _ _ ix_tup (pv 0) pe_int (fun _ _ => rfl)) pa_nil (by rfl)) (by rfl)) (by decide) (by rfl) (by rfl)))) pss_nil) (@pss_one _ _ _ (@ps_ret _ _ _ _ (@pe_make _ _ _ _ _ _ _ _ _ _ _ _ _ _ _ _ _ T.mk_Joined G_Joined_init (hr.mono (by omega)) (by rfl) T.mc_Joined T.b_Joined_init .nil pass0 (@pa_cons _ _ _ _ _ (@pe_ix _ _ _ _ _ _ _ ix_tup (pv 0) pe_int (fun _ _ => rfl)) (@pa_cons _ _ _ _ _ (@pe_call _ _ _ _ _ _ _ _ _ _ _ _ _ _ _ _ G_l_object (hr.mono (by omega)) (by rfl) T.m_l_object T.F_l_object.kp T.b_l_object .nil pass0 (@pa_cons _ _ _ _ _ (@pe_ix _ _ _ _ _ _ _ ix_tup (pv 0) pe_int (fun _ _ => rfl)) pa_nil (by rfl)) (by decide) (by rfl) (by rfl)) (@pa_cons _ _ _ _ _ (@pe_call _ _ _ _ _ _ _ _ _ _ _ _ _ _ _ _ G_l_object (hr.mono (by omega)) (by rfl) T.m_l_object T.F_l_object.kp T.b_l_object .nil pass0 (@pa_cons _ _ _ _ _ (@pe_ix _ _ _ _ _ _ _ ix_tup (pv 0) pe_int (fun _ _ => rfl)) pa_nil (by rfl)) (by decide) (by rfl) (by rfl)) pa_nil (by rfl)) (by rfl)) (by rfl)) (by decide) (by rfl) (by rfl))))))), ?_⟩
    cases tm with
    | @n t i h =>
      refine ⟨_, rfl, t, _, 0, _, rfl, rfl, SqT.of h, rfl, rfl, _, rfl, iteE (v := true) (decide_eq_true rfl) (iteT ?_)⟩
      refine ⟨_, rfl, t, _, 1, _, rfl, rfl, SqT.of h, rfl, fun x dx nx ndx ne => ⟨x, dx, [_], rfl, rfl, upd_same, fun H2 k2 hx2 => ⟨rfl, ?_⟩⟩⟩
      obtain ⟨dx2, hx2⟩ := hx2
      exact q _ _ (made_same nx ndx k2) (.num i hx2)
    | @v t z h =>
      refine ⟨_, rfl, t, _, 0, _, rfl, rfl, SqT.of h, rfl, rfl, _, rfl, iteE (v := false) (dS (by decide +kernel)) (iteF ?_)⟩
      refine ⟨_, rfl, t, _, 0, _, rfl, rfl, SqT.of h, rfl, rfl, _, rfl, iteE (v := true) (decide_eq_true rfl) (iteT ?_)⟩
      refine ⟨_, rfl, t, _, 1, _, rfl, rfl, SqT.of h, rfl, fun x dx nx ndx ne => ⟨x, dx, [_], rfl, rfl, upd_same, fun H2 k2 hx2 => ⟨rfl, ?_⟩⟩⟩
      obtain ⟨dx2, hx2⟩ := hx2
      exact q _ _ (made_same nx ndx k2) (.val z hx2)
    | @c t p z h hsp =>
      refine ⟨_, rfl, t, _, 0, _, rfl, rfl, SqT.of h, rfl, rfl, _, rfl, iteE (v := false) (dS (by decide +kernel)) (iteF ?_)⟩
      refine ⟨_, rfl, t, _, 0, _, rfl, rfl, SqT.of h, rfl, rfl, _, rfl, iteE (v := false) (dS (by decide +kernel)) (iteF ?_)⟩
      refine ⟨_, rfl, t, _, 0, _, rfl, rfl, SqT.of h, rfl, rfl, _, rfl, iteE (v := true) (decide_eq_true rfl) (iteT ?_)⟩
      refine ⟨_, rfl, t, _, 1, _, rfl, rfl, SqT.of h, rfl, _, rfl, t, _, 2, _, rfl, rfl, SqT.of h, rfl, fun x dx nx ndx ne => ⟨x, dx, [_, _], rfl, rfl, upd_same, fun H2 k2 hx2 => ⟨rfl, ?_⟩⟩⟩
      obtain ⟨dx2, hx2⟩ := hx2
      exact q _ _ (made_same nx ndx k2) (.cel z hx2)
    | @j t l r m1 m2 rs us z hz h tl tr =>
      obtain ⟨z1, z2, z3⟩ := sign_ne hz
      have := tl.pos
      have := tr.pos
      refine ⟨_, rfl, t, _, 0, _, rfl, rfl, SqT.of h, rfl, rfl, _, rfl, iteE (v := false) (dS z1) (iteF ?_)⟩
      refine ⟨_, rfl, t, _, 0, _, rfl, rfl, SqT.of h, rfl, rfl, _, rfl, iteE (v := false) (dS z2) (iteF ?_)⟩
      refine ⟨_, rfl, t, _, 0, _, rfl, rfl, SqT.of h, rfl, rfl, _, rfl, iteE (v := false) (dS z3) (iteF ?_)⟩
      refine ⟨_, rfl, t, _, 0, _, rfl, rfl, SqT.of h, rfl, _, rfl, t, _, 1, _, rfl, rfl, SqT.of h, rfl, l, m1, rs, rfl, by omega, tl, fun y1 H1 e1 o1 => ?_⟩
      refine ⟨_, rfl, t, _, 2, _, rfl, rfl, SqT.of (e1 _ _ h), rfl, r, m2, us, rfl, by omega, tr.over e1, fun y2 H2 e2 o2 => ?_⟩
      refine fun x dx nx ndx ne => ⟨x, dx, [_, _, _], rfl, rfl, upd_same, fun H3 k3 hx3 => ⟨rfl, ?_⟩⟩
      obtain ⟨dx3, hx3⟩ := hx3
      have e3 := made_same nx ndx k3
      refine q _ _ (e1.trans (e2.trans e3)) ?_
      exact .joi z hx3 ((o1.over e2).over e3) (o2.over e3)

theorem ok_rds (T : Tx K mg a) : ∀ n : Nat, FnOk P w K mg base CX0 (n + 1) a.f_l_reads a.d_l_reads ["_law_term_here"] (spRds n)
  | 0 => by
    have no : ∀ vs H Q E, ¬ spRds 0 vs H Q E := fun vs H Q E h => by
      obtain ⟨x, m, rs, _, hm, _, tm, _⟩ := h
      have := tm.pos
      omega
    exact ⟨fun vs H Q E h => absurd h (no vs H Q E), fun A outer s H args us vs Q E _ _ _ _ h => absurd h (no vs H Q E)⟩
  | n + 1 => by
    have G_l_reads := ok_rds T n
    refine T.F_l_reads.ok sc_l_reads (fun vs H Q E h => ?_) (fun cdv A outer s H vs Q E hr h => ?_)
    · obtain ⟨_, _, _, rfl, _⟩ := h; rfl
    obtain ⟨x, m, rs, rfl, hm, hk, tm, q⟩ := h
    refine ⟨_, (@pss_cons _ _ _ _ _ (@ps_if _ _ _ _ _ _ _ _ (@pt_cmpR _ _ _ _ _ _ _ _ op_eq (@pe_ix _ _ _ _ _ _ _ ix_tup (pv 0) pe_int (fun _ _ => rfl)) pe_str (@nomark _ _ (by decide) (by decide))) (@pss_one _ _ _ (@ps_ret _ _ _ _ (@pe_lst _ _ _ _ (@pa_cons _ _ _ _ _ (@pe_tupq _ _ _ _ _ (@paq_cons _ _ _ _ _ pe_bl (@paq_cons _ _ _ _ _ (@pe_ix _ _ _ _ _ _ _ ix_tup (pv 0) pe_int (fun _ _ => rfl)) (@paq_cons _ _ _ _ _ (@pe_ix _ _ _ _ _ _ _ ix_tup (pv 0) pe_int (fun _ _ => rfl)) paq_nil star_S) star_S) star_C)) pa_nil (by rfl))))) pss_nil) (@pss_cons _ _ _ _ _ (@ps_if _ _ _ _ _ _ _ _ ((@pw_or _ _ _ _ _ _ _ (@pt_cmpR _ _ _ _ _ _ _ _ op_eq (@pe_ix _ _ _ _ _ _ _ ix_tup (pv 0) pe_int (fun _ _ => rfl)) pe_str (@nomark _ _ (by decide) (by decide))) (@pw_or1 _ _ _ _ (@pt_cmpR _ _ _ _ _ _ _ _ op_eq (@pe_ix _ _ _ _ _ _ _ ix_tup (pv 0) pe_int (fun _ _ => rfl)) pe_str (@nomark _ _ (by decide) (by decide)))))).pt (@pss_one _ _ _ (@ps_ret _ _ _ _ (@pe_lst _ _ _ _ pa_nil))) pss_nil) (@pss_one _ _ _ (@ps_ret _ _ _ _ (@pe_op _ _ _ _ _ _ _ _ op_cat (@pe_call _ _ _ _ _ _ _ _ _ _ _ _ _ _ _ _ G_l_reads (hr.mono (by omega)) (by rfl) T.m_l_reads T.F_l_reads.kp T.b_l_reads .nil pass0 (@pa_cons _ _ _ _ _ (@pe_ix _ _ _ _ _ _ _ ix_tup (pv 0) pe_int (fun _ _ => rfl)) pa_nil (by rfl)) (by decide) (by rfl) (by rfl)) (@pe_call _ _ _ _ _ _ _ _ _ _ _ _ _ _ _ _ G_l_reads (hr.mono (by omega)) (by rfl) T.m_l_reads T.F_l_reads.kp T.b_l_reads .nil pass0 (@pa_cons _ _ _ _ _ (@pe_ix _ _ _ _ _ _ _ ix_tup (pv 0) pe_int (fun _ _ => rfl)) pa_nil (by rfl)) (by decide) (by rfl) (by rfl))))))), ?_⟩
    cases tm with
    | @n t i h =>
      refine ⟨_, rfl, t, _, 0, _, rfl, rfl, SqT.of h, rfl, rfl, _, rfl, iteE (v := false) (dS (by decide +kernel)) (iteF ?_)⟩
      refine ⟨_, rfl, t, _, 0, _, rfl, rfl, SqT.of h, rfl, rfl, _, rfl, iteE (v := true) (decide_eq_true rfl) (iteT (iteT ?_))⟩
      exact ⟨szl (by show 0 ≤ 1000000; decide), fun l hl => q l _ [] (same_new hl _) upd_same .nil⟩
    | @v t z h =>
      refine ⟨_, rfl, t, _, 0, _, rfl, rfl, SqT.of h, rfl, rfl, _, rfl, iteE (v := false) (dS (by decide +kernel)) (iteF ?_)⟩
      refine ⟨_, rfl, t, _, 0, _, rfl, rfl, SqT.of h, rfl, rfl, _, rfl, iteE (v := false) (dS (by decide +kernel)) (iteF ?_)⟩
      refine ⟨_, rfl, t, _, 0, _, rfl, rfl, SqT.of h, rfl, rfl, _, rfl, iteE (v := true) (decide_eq_true rfl) (iteT ?_)⟩
      exact ⟨szl (by show 0 ≤ 1000000; decide), fun l hl => q l _ [] (same_new hl _) upd_same .nil⟩
    | @c t p z h hsp =>
      refine ⟨_, rfl, t, _, 0, _, rfl, rfl, SqT.of h, rfl, rfl, _, rfl, iteE (v := true) (decide_eq_true rfl) (iteT ?_)⟩
      refine ⟨_, rfl, t, _, 1, _, rfl, rfl, SqT.of h, rfl, _, rfl, t, _, 2, _, rfl, rfl, SqT.of h, rfl, szl (by show 3 ≤ 1000000; decide), fun t2 ht2 => ⟨szl (by show 1 ≤ 1000000; decide), fun l hl => ?_⟩⟩
      have s1 := same_new ht2 (.tup [V.bl false, V.str z, V.ref p])
      have s2 := same_new hl (.lst [V.ref t2])
      exact q l _ [.ref t2] (s1.trans s2) upd_same (.one (r := (z, p)) (s2 _ _ upd_same))
    | @j t l r m1 m2 rs us z hz h tl tr =>
      obtain ⟨z1, z2, z3⟩ := sign_ne hz
      have := tl.pos
      have := tr.pos
      refine ⟨_, rfl, t, _, 0, _, rfl, rfl, SqT.of h, rfl, rfl, _, rfl, iteE (v := false) (dS z3) (iteF ?_)⟩
      refine ⟨_, rfl, t, _, 0, _, rfl, rfl, SqT.of h, rfl, rfl, _, rfl, iteE (v := false) (dS z1) (iteF ?_)⟩
      refine ⟨_, rfl, t, _, 0, _, rfl, rfl, SqT.of h, rfl, rfl, _, rfl, iteE (v := false) (dS z2) (iteF ?_)⟩
      refine ⟨_, rfl, t, _, 1, _, rfl, rfl, SqT.of h, rfl, l, m1, rs, rfl, by omega, by omega, tl, fun l1 H1 xs1 e1 g1 o1 => ?_⟩
      refine ⟨_, rfl, t, _, 2, _, rfl, rfl, SqT.of (e1 _ _ h), rfl, r, m2, us, rfl, by omega, by omega, tr.over e1, fun l2 H2 xs2 e2 g2 o2 => ?_⟩
      have k1 := o1.1
      have k2 := o2.1
      refine ⟨l1, l2, _, _, rfl, rfl, e2 _ _ g1, g2, szl (by omega), fun p hp => ?_⟩
      have s3 := same_new hp (.lst (xs1 ++ xs2))
      exact q p _ _ (e1.trans (e2.trans s3)) upd_same (((o1.over e2).app o2).over s3)

theorem ok_heads (T : Tx K mg a) : FnOk P w K mg base CX0 3 a.f_l_heads a.d_l_heads ["_law_script"] (spHeads2 K) := by
  have G_l_cell := ok_cell (P := P) (w := w) (base := base) T
  have G_l_mixed := ok_mixed (P := P) (w := w) (base := base) T
  have G_l_name := ok_name (P := P) (w := w) (base := base) T
  refine T.F_l_heads.ok sc_l_heads (fun vs H Q E h => ?_) (fun cdv A outer s H vs Q E hr h => ?_)
  · obtain ⟨_, _, rfl, _⟩ := h; rfl
  obtain ⟨p, ns, rfl, hp, q⟩ := h
  refine ⟨_, (@pss_cons _ _ _ _ _ (@ps_set _ _ (1) _ _ _ _ sc_l_heads.nd rfl (Or.inl rfl) (@pe_call _ _ _ _ _ _ _ _ _ _ _ _ _ _ _ _ G_l_cell (hr.mono (by omega)) (by rfl) T.m_l_cell T.F_l_cell.kp T.b_l_cell .nil pass0 (@pa_cons _ _ _ _ _ (pv 0) (@pa_cons _ _ _ _ _ pe_int pa_nil (by rfl)) (by rfl)) (by decide) (by rfl) (by rfl)) (by rfl) (by first | exact .inl rfl | exact .inr rfl | assumption)) (@pss_cons _ _ _ _ _ (@ps_set _ _ (2) _ _ _ _ sc_l_heads.nd rfl (Or.inl rfl) (@pe_call _ _ _ _ _ _ _ _ _ _ _ _ _ _ _ _ G_l_mixed (hr.mono (by omega)) (by rfl) T.m_l_mixed T.F_l_mixed.kp T.b_l_mixed .nil pass0 (@pa_cons _ _ _ _ _ (pv 1) (@pa_cons _ _ _ _ _ pe_int pa_nil (by rfl)) (by rfl)) (by decide) (by rfl) (by rfl)) (by rfl) (by first | exact .inl rfl | exact .inr rfl | assumption)) (@pss_cons _ _ _ _ _ (@ps_set _ _ (3) _ _ _ _ sc_l_heads.nd rfl (Or.inl rfl) (@pe_ix _ _ _ _ _ _ _ ix_list (@pe_lstq _ _ _ _ (@paq_cons _ _ _ _ _ pe_int (@paq_cons _ _ _ _ _ pe_int (@paq_cons _ _ _ _ _ (@pe_op _ _ _ _ _ _ _ _ op_sub (@pe_op _ _ _ _ _ _ _ _ op_mod (pv 1) (@pe_op _ _ _ _ _ _ _ _ op_add (@pe_op _ _ _ _ _ _ _ _ op_mul pe_int (@pe_op _ _ _ _ _ _ _ _ op_pow pe_int pe_int)) pe_int)) (@pe_op _ _ _ _ _ _ _ _ op_pow pe_int pe_int)) paq_nil star_B) star_C) star_C)) (@pe_op _ _ _ _ _ _ _ _ op_mod (pv 2) pe_int) (fun _ _ => rfl)) (by rfl) (by first | exact .inl rfl | exact .inr rfl | assumption)) (@pss_cons _ _ _ _ _ (@ps_set _ _ (4) _ _ _ _ sc_l_heads.nd rfl (Or.inl rfl) (@pe_lst _ _ _ _ pa_nil) (by rfl) (by first | exact .inl rfl | exact .inr rfl | assumption)) (@pss_cons _ _ _ _ _ (@ps_for _ _ _ _ _ _ _ _ PassesOwn.never rfl (@pi_range1 _ _ _ _ _ _ (by rfl) T.z_range (@pa_cons _ _ _ _ _ pe_int pa_nil (by rfl)) (by rfl)) (pg_name (i := 5) sc_l_heads.nd rfl (Or.inl rfl)) (@pss_one _ _ _ (@ps_expr _ _ _ _ (@pe_bm _ _ _ _ _ _ _ _ _ _ _ _ PySem.F.plainAttrs_list PySem.F.slot_list_append PySem.F.type_list_append mt_append (pv 4) (@pa_cons _ _ _ _ _ (@pe_tupq _ _ _ _ _ (@paq_cons _ _ _ _ _ (@pe_call _ _ _ _ _ _ _ _ _ _ _ _ _ _ _ _ G_l_name (hr.mono (by omega)) (by rfl) T.m_l_name T.F_l_name.kp T.b_l_name .nil pass0 (@pa_cons _ _ _ _ _ (@pe_op _ _ _ _ _ _ _ _ op_fdiv (pv 2) pe_int) (@pa_cons _ _ _ _ _ (pv 5) pa_nil (by rfl)) (by rfl)) (by decide) (by rfl) (by rfl)) (@paq_cons _ _ _ _ _ (@pe_ix _ _ _ _ _ _ _ ix_list (@pe_lstq _ _ _ _ (@paq_cons _ _ _ _ _ pe_int (@paq_cons _ _ _ _ _ pe_int (@paq_cons _ _ _ _ _ pe_int (@paq_cons _ _ _ _ _ pe_int (@paq_cons _ _ _ _ _ pe_int (@paq_cons _ _ _ _ _ pe_int paq_nil star_C) star_C) star_C) star_C) star_C) star_C)) (@pe_op _ _ _ _ _ _ _ _ op_mod (@pe_op _ _ _ _ _ _ _ _ op_add (@pe_op _ _ _ _ _ _ _ _ op_fdiv (pv 2) pe_int) (pv 5)) pe_int) (fun _ _ => rfl)) (@paq_cons _ _ _ _ _ (pv 3) paq_nil star_N) star_S) star_K)) pa_nil (by rfl)) (by rfl) (by rfl) (by rfl) (by rfl) (by rfl)) (by rfl))) (by intro _ ; rfl)) (@pss_one _ _ _ (@ps_ret _ _ _ _ (pv 4)))))))), ?_⟩
  refine ⟨_, rfl, p, ns, 0, rfl, hp, by decide, by decide, fun c => ?_⟩
  dsimp only [gName]
  refine ⟨_, rfl, c, 0, rfl, ?_⟩
  obtain ⟨m0, m1⟩ := mix_b c 0
  generalize mixF c 0 = m at m0 m1 ⊢
  dsimp only [gName]
  obtain ⟨of', _, eof⟩ := pickN (L := [0, 0, c % (2 * 10 ^ (17 : Int).toNat + 1) - 10 ^ (17 : Int).toNat]) (i := m % 3) 3 rfl (Int.emod_nonneg _ (by decide)) (Int.emod_lt_of_pos _ (by decide))
  refine ⟨_, rfl, _, _, rfl, rfl, ⟨by decide, by decide, by decide⟩, _, _, rfl, rfl, .inl ⟨by decide, by decide⟩, _, _, rfl, rfl, _, _, rfl, rfl, (by show (0 : Int) < 2 * 10 ^ (17 : Int).toNat + 1; decide), _, _, rfl, rfl, ⟨by decide, by decide, by decide⟩, _, _, rfl, rfl, szl (by show 3 ≤ 1000000; decide), fun q1 hq1 => ?_⟩
  have s1 := same_new hq1 (.lst [V.int 0, V.int 0, V.int (c % (2 * 10 ^ (17 : Int).toNat + 1) - 10 ^ (17 : Int).toNat)])
  refine ⟨_, rfl, _, _, rfl, rfl, (by show (0 : Int) < 3; decide), q1, _, _, _, rfl, rfl, SqL.of upd_same, eof, ?_⟩
  dsimp only [gName]
  generalize upd H q1 (.lst [V.int 0, V.int 0, V.int (c % (2 * 10 ^ (17 : Int).toNat + 1) - 10 ^ (17 : Int).toNat)]) = H1 at s1
  refine ⟨szl (by show 0 ≤ 1000000; decide), fun l hl => ?_⟩
  have hl0 : H l = none := s1.free hl
  dsimp only [gName]
  refine ⟨3, rfl, by decide, by decide, ?_⟩
  refine for_range (lo := 0) (n := 3) (fun i σ' H' => Same H1 H' ∧ (∃ o5, σ' = [some (.ref p), some (.int c), some (.int m), some (.int of'), some (.ref l), o5]) ∧ ∃ xs : List V, H' l = some (.lst xs) ∧ xs.length = i ∧ ∀ v ∈ xs, ∃ (t : Addr) (z : Str) (m n : Int), v = .ref t ∧ H' t = some (.tup [.str z, .int m, .int n]) ∧ 1 ≤ m ∧ m ≤ 3) ⟨same_new hl _, ⟨_, rfl⟩, [], upd_same, rfl, fun v hv => by cases hv⟩ (fun i σ' H' hi pp => ?_) (fun σ' H' pp => ?_)
  · obtain ⟨e, ⟨o5, rfl⟩, xs, hx, xl, hxs⟩ := pp
    have e0' : (0 : Int) + (i : Int) = (i : Int) := by omega
    rw [e0']
    refine ⟨_, rfl, .inl ⟨rfl, _, SqL.of hx⟩, _, rfl, _, _, rfl, rfl, ⟨by decide, by decide⟩, _, rfl, m / 3, (i : Int), rfl, by omega, by omega, fun H2 e2 => ⟨szl (by show 6 ≤ 1000000; decide), fun q2 hq2 => ?_⟩⟩
    obtain ⟨k, hk, ek⟩ := pickN (L := [1, 2, 1, 3, 1, 2]) (i := (m / 7 + (i : Int)) % 6) 6 rfl (Int.emod_nonneg _ (by decide)) (Int.emod_lt_of_pos _ (by decide))
    have hk : 1 ≤ k ∧ k ≤ 3 := by
      simp only [List.mem_cons, List.not_mem_nil, or_false] at hk
      omega
    have s3 := same_new hq2 (.lst [V.int 1, V.int 2, V.int 1, V.int 3, V.int 1, V.int 2])
    refine ⟨_, rfl, _, _, rfl, rfl, ⟨by decide, by decide⟩, _, rfl, _, _, rfl, rfl, _, _, rfl, rfl, (by show (0 : Int) < 6; decide), q2, _, _, _, rfl, rfl, SqL.of upd_same, ek, _, rfl, szl (by show 3 ≤ 1000000; decide), fun t4 ht4 => ?_⟩
    have s4 := same_new ht4 (.tup [V.str (sOf (nmC (mixF (m / 3) 11) (i : Int))), V.int k, V.int of'])
    have e4 := e2.trans (s3.trans s4)
    have hx4 := e4 _ _ hx
    have ne4 : t4 ≠ l := fun z => by rw [z, s3 _ _ (e2 _ _ hx)] at ht4; cases ht4
    refine ⟨l, _, _, rfl, rfl, hx4, szlt (by omega), ?_⟩
    refine ⟨fun a o ha => by rw [upd_ne (ne_of_none ha hl)]; exact e4 _ _ (e _ _ ha), ⟨_, rfl⟩, _, upd_same, by rw [List.length_append, xl]; rfl, fun v hv => ?_⟩
    rcases List.mem_append.mp hv with hv | hv
    · obtain ⟨t, z, m', n', rfl, ht, h1, h2⟩ := hxs v hv
      exact ⟨t, z, m', n', rfl, by rw [upd_ne (ne_of ht hx (by intro z; cases z))]; exact e4 _ _ ht, h1, h2⟩
    · rw [List.mem_singleton] at hv
      exact ⟨t4, _, k, of', hv, by rw [upd_ne ne4]; exact upd_same, hk.1, hk.2⟩
  · obtain ⟨e, ⟨o5, rfl⟩, xs, hx, xl, hxs⟩ := pp
    exact ⟨_, rfl, q l _ (s1.trans e) ⟨xs, hx, xl, hxs⟩⟩

theorem ok_touches (T : Tx K mg a) : FnOk P w K mg base CX0 102 a.f_touches a.d_touches ["deed"] (spTouches (csOf a) a.c_Deed) := by
  have G_Number_reads := ok_nreads (P := P) (w := w) (base := base) T
  have G_Value_reads := ok_vreads (P := P) (w := w) (base := base) T
  have G_Cell_reads := ok_creads (P := P) (w := w) (base := base) T
  have G_Joined_reads := ok_jreads (P := P) (w := w) (base := base) T 100
  refine T.F_touches.ok sc_touches (fun vs H Q E h => ?_) (fun cdv A outer s H vs Q E hr h => ?_)
  · obtain ⟨_, _, _, _, _, rfl, _⟩ := h; rfl
  obtain ⟨v, z, p, m, rs, rfl, ⟨d, dx, v1, v2, v3, x, v7, rfl, hd, hto⟩, hm, q⟩ := h
  refine ⟨_, (@pss_cons _ _ _ _ _ (@ps_setcompB _ _ _ _ _ _ _ _ _ (1) _ ["table", "spots"] [none, none] _ _ _ _ sc_touches.nd rfl (Or.inl rfl) (by rfl) (@pi_list _ _ _ _ (@pe_alt _ _ _ _ (@pe_meth0 _ _ _ _ _ _ _ _ _ _ _ _ _ _ _ _ _ (@pe_fld _ _ _ _ _ (pv 0) rfl) T.cl_Number T.me_Number_reads G_Number_reads (hr.mono (by omega)) T.b_Number_reads .nil pass0 (by rfl)) (@pe_alt _ _ _ _ (@pe_meth0 _ _ _ _ _ _ _ _ _ _ _ _ _ _ _ _ _ (@pe_fld _ _ _ _ _ (pv 0) rfl) T.cl_Value T.me_Value_reads G_Value_reads (hr.mono (by omega)) T.b_Value_reads .nil pass0 (by rfl)) (@pe_alt _ _ _ _ (@pe_meth0 _ _ _ _ _ _ _ _ _ _ _ _ _ _ _ _ _ (@pe_fld _ _ _ _ _ (pv 0) rfl) T.cl_Cell T.me_Cell_reads G_Cell_reads (hr.mono (by omega)) T.b_Cell_reads .nil pass0 (by rfl)) (@pe_meth0 _ _ _ _ _ _ _ _ _ _ _ _ _ _ _ _ _ (@pe_fld _ _ _ _ _ (pv 0) rfl) T.cl_Joined T.me_Joined_reads G_Joined_reads (hr.mono (by omega)) T.b_Joined_reads .nil pass0 (by rfl)))))) c_touches_0 (fun _ _ _ _ _ _ => ⟨(show PG _ _ (gTup K 2 _) from (pg_tup rfl (pgs_cons (pg_name (i := 0) c_touches_0n rfl (Or.inl rfl)) (pgs_cons (pg_name (i := 1) c_touches_0n rfl (Or.inl rfl)) pgs_nil)))), @pts_nil _, (@pe_tupq _ _ _ _ _ (@paq_cons _ _ _ _ _ pe_bl (@paq_cons _ _ _ _ _ (pv 0) (@paq_cons _ _ _ _ _ (pv 1) paq_nil star_N) star_N) star_C))⟩) (by rfl) (by intro _ ; rfl) (by first | exact .inl rfl | exact .inr rfl | assumption)) (@pss_one _ _ _ (@ps_ret _ _ _ _ (@pe_op _ _ _ _ _ _ _ _ op_cat (@pe_lst _ _ _ _ (@pa_cons _ _ _ _ _ (@pe_tupq _ _ _ _ _ (@paq_cons _ _ _ _ _ pe_bl (@paq_cons _ _ _ _ _ (@pe_fld _ _ _ _ _ (pv 0) rfl) (@paq_cons _ _ _ _ _ (@pe_fld _ _ _ _ _ (pv 0) rfl) paq_nil star_A) star_A) star_C)) pa_nil (by rfl))) (pv 1))))), ?_⟩
  refine reads_any2 (c := csOf a) (n := 100) (v := x) (fun R hR => ⟨_, rfl, d, _, dx, _, _, rfl, hd, T.cl_Deed, T.n_Deed_term, rfl, hR⟩) hto (by omega) (by omega) (fun a1 ys1 H1 e1 g1 t1 => ?_)
  refine ⟨a1, rfl, ⟨_, SqL.of g1⟩, ?_⟩
  have l1 := t1.1
  have hp := hto.pos
  refine comp_listG (xs := ys1) (fun i ys H' => Same H1 H' ∧ RdsAt H' (tchF false) ys (rs.take i)) ⟨Same.refl _, .nil⟩ (szl (by omega)) (fun i ys H' hi pp => ⟨SqL.of (pp.1 _ _ g1), by rw [pp.2.1, List.length_take]; omega⟩) (fun i y ys H' hy pp => ?_) (fun ys H' pp r hr' => ?_)
  · obtain ⟨e2, hR⟩ := pp
    have hi : i < rs.length := by have := (List.getElem?_eq_some_iff.mp hy).1; omega
    have er : rs[i]? = some rs[i] := List.getElem?_eq_getElem hi
    obtain ⟨t, rfl, ht⟩ := t1.2 i y _ hy er
    refine ⟨t, _, rfl, SqT.of (e2 _ _ ht), rfl, _, _, rfl, _, _, rfl, rfl, outs2 (ρ := []) _ _, ?_⟩
    refine ⟨_, rfl, _, rfl, szl (by show 3 ≤ 1000000; decide), fun t2 ht2 => ?_⟩
    have s3 := same_new ht2 (.tup [V.bl false, .str rs[i].1, .ref rs[i].2])
    refine ⟨e2.trans s3, ?_⟩
    rw [take_snoc er]
    exact (hR.over s3).app (.one upd_same)
  obtain ⟨e2, hR⟩ := pp
  rw [l1, List.take_length] at hR
  have s3 := same_new hr' (.lst ys)
  have e3 := e1.trans (e2.trans s3)
  have hd3 := e3 _ _ hd
  have hl3 := hR.1
  dsimp only [gName]
  refine ⟨_, rfl, d, _, dx, _, _, rfl, hd3, T.cl_Deed, T.n_Deed_table, rfl, _, rfl, d, _, dx, _, _, rfl, hd3, T.cl_Deed, T.n_Deed_spots, rfl, szl (by show 3 ≤ 1000000; decide), fun t5 ht5 => ⟨szl (by show 1 ≤ 1000000; decide), fun l5 hl5 => ?_⟩⟩
  have s5 := same_new ht5 (.tup [V.bl true, .str z, .ref p])
  have s6 := same_new hl5 (.lst [V.ref t5])
  refine ⟨_, rfl, l5, r, _, _, rfl, rfl, upd_same, s6 _ _ (s5 _ _ upd_same), szl (by simp only [List.length_singleton]; omega), fun l7 hl7 => ?_⟩
  have s7 := same_new hl7 (.lst ([V.ref t5] ++ ys))
  have e57 := s5.trans (s6.trans s7)
  refine q l7 _ (e3.trans e57) ((e3.trans (s5.trans s6)).free hl7) ⟨t5, ys, upd_same, s7 _ _ (s6 _ _ upd_same), hR.over (s3.trans e57)⟩

theorem ok_row (T : Tx K mg a) : FnOk P w K mg base CX0 5 a.f_l_row a.d_l_row ["_law_cell_here", "_law_stack", "_law_path", "_law_heads_here"] spRow55 := by
  have G_l_mixed := ok_mixed (P := P) (w := w) (base := base) T
  have G_l_cell_of := ok_cell_of (P := P) (w := w) (base := base) T
  have G_l_term := ok_term (P := P) (w := w) (base := base) T
  refine T.F_l_row.ok sc_l_row (fun vs H Q E h => ?_) (fun cdv A outer s H vs Q E hr h => ?_)
  · obtain ⟨_, _, _, _, _, _, rfl, _⟩ := h; rfl
  obtain ⟨c, st, pt, hd, k, ps, rfl, ⟨vs, hv, hk, hlp⟩, k10, hpt, hH, q⟩ := h
  refine ⟨_, (@pss_cons _ _ _ _ _ (@ps_set _ _ (4) _ _ _ _ sc_l_row.nd rfl (Or.inl rfl) (@pe_op _ _ _ _ _ _ _ _ op_cat (@pe_lst _ _ _ _ (@pa_cons _ _ _ _ _ (@pe_tup _ _ _ _ _ (@pa_cons _ _ _ _ _ pe_str (@pa_cons _ _ _ _ _ pe_int pa_nil (by rfl)) (by rfl))) pa_nil (by rfl))) (@pe_compB _ _ _ _ _ _ _ ["_law_one"] [none] _ _ _ _ (by rfl) (@pi_list _ _ _ _ (pv 1)) c_l_row_0 (fun _ _ _ _ _ _ => ⟨(pg_name (i := 0) c_l_row_0n rfl (Or.inl rfl)), @pts_nil _, (@pe_tup _ _ _ _ _ (@pa_cons _ _ _ _ _ (@pe_ix _ _ _ _ _ _ _ (show IxR _ (rIxT K) from ix_tup) (pv 0) pe_int (fun _ _ => rfl)) (@pa_cons _ _ _ _ _ (@pe_ix _ _ _ _ _ _ _ (show IxR _ (rIxT K) from ix_tup) (pv 0) pe_int (fun _ _ => rfl)) pa_nil (by rfl)) (by rfl)))⟩) (by intro _ ; rfl))) (by rfl) (by first | exact .inl rfl | exact .inr rfl | assumption)) (@pss_cons _ _ _ _ _ (@ps_set _ _ (5) _ _ _ _ sc_l_row.nd rfl (Or.inl rfl) (@pe_callTy _ _ _ _ _ _ _ _ _ call_tuple_of (by rfl) T.z_tuple bt_tuple (@pa_cons _ _ _ _ _ (@pe_compB _ _ _ _ _ _ _ ["_law_one"] [none] _ _ _ _ (by rfl) (@pi_list _ _ _ _ (pv 1)) c_l_row_1 (fun _ _ _ _ _ _ => ⟨(pg_name (i := 0) c_l_row_1n rfl (Or.inl rfl)), @pts_nil _, (@pe_ix _ _ _ _ _ _ _ (show IxR _ (rIxT K) from ix_tup) (pv 0) pe_int (fun _ _ => rfl))⟩) (by intro _ ; rfl)) pa_nil (by rfl)) (by decide) (by decide) (by rfl) (by rfl)) (by rfl) (by first | exact .inl rfl | exact .inr rfl | assumption)) (@pss_cons _ _ _ _ _ (@ps_set _ _ (6) _ _ _ _ sc_l_row.nd rfl (Or.inl rfl) (@pe_callTy _ _ _ _ _ _ _ _ _ call_tuple_of (by rfl) T.z_tuple bt_tuple (@pa_cons _ _ _ _ _ (@pe_compB _ _ _ _ _ _ _ ["_law_one"] [none] _ _ _ _ (by rfl) (@pi_list _ _ _ _ (pv 1)) c_l_row_2 (fun _ _ _ _ _ _ => ⟨(pg_name (i := 0) c_l_row_2n rfl (Or.inl rfl)), @pts_nil _, (@pe_ix _ _ _ _ _ _ _ (show IxR _ (rIxT K) from ix_tup) (pv 0) pe_int (fun _ _ => rfl))⟩) (by intro _ ; rfl)) pa_nil (by rfl)) (by decide) (by decide) (by rfl) (by rfl)) (by rfl) (by first | exact .inl rfl | exact .inr rfl | assumption)) (@pss_cons _ _ _ _ _ (@ps_set _ _ (7) _ _ _ _ sc_l_row.nd rfl (Or.inl rfl) (@pe_callTy _ _ _ _ _ _ _ _ _ call_tuple_of (by rfl) T.z_tuple bt_tuple (@pa_cons _ _ _ _ _ (@pe_compB _ _ _ _ _ _ _ ["_law_one"] [none] _ _ _ _ (by rfl) (@pi_list _ _ _ _ (pv 1)) c_l_row_3 (fun _ _ _ _ _ _ => ⟨(pg_name (i := 0) c_l_row_3n rfl (Or.inl rfl)), @pts_nil _, (@pe_ix _ _ _ _ _ _ _ (show IxR _ (rIxT K) from ix_tup) (pv 0) pe_int (fun _ _ => rfl))⟩) (by intro _ ; rfl)) pa_nil (by rfl)) (by decide) (by decide) (by rfl) (by rfl)) (by rfl) (by first | exact .inl rfl | exact .inr rfl | assumption)) (@pss_cons _ _ _ _ _ (@ps_asg _ _ _ _ _ _ (@pe_call _ _ _ _ _ _ _ _ _ _ _ _ _ _ _ _ G_l_cell_of (hr.mono (by omega)) (by rfl) T.m_l_cell_of T.F_l_cell_of.kp T.b_l_cell_of .nil pass0 (@pa_cons _ _ _ _ _ (@pe_call _ _ _ _ _ _ _ _ _ _ _ _ _ _ _ _ G_l_mixed (hr.mono (by omega)) (by rfl) T.m_l_mixed T.F_l_mixed.kp T.b_l_mixed .nil pass0 (@pa_cons _ _ _ _ _ (pv 0) (@pa_cons _ _ _ _ _ pe_int pa_nil (by rfl)) (by rfl)) (by decide) (by rfl) (by rfl)) (@pa_cons _ _ _ _ _ (pv 4) (@pa_cons _ _ _ _ _ (pv 3) pa_nil (by rfl)) (by rfl)) (by rfl)) (by decide) (by rfl) (by rfl)) (pg_tup rfl (pgs_cons (pg_name (i := 8) sc_l_row.nd rfl (Or.inl rfl)) (pgs_cons (pg_name (i := 9) sc_l_row.nd rfl (Or.inl rfl)) pgs_nil))) (by rfl) (by rfl) (by rfl)) (@pss_one _ _ _ (@ps_ret _ _ _ _ (@pe_tupq _ _ _ _ _ (@paq_cons _ _ _ _ _ (pv 5) (@paq_cons _ _ _ _ _ (pv 6) (@paq_cons _ _ _ _ _ (pv 7) (@paq_cons _ _ _ _ _ (pv 8) (@paq_cons _ _ _ _ _ (pv 9) (@paq_cons _ _ _ _ _ (@pe_call _ _ _ _ _ _ _ _ _ _ _ _ _ _ _ _ G_l_term (hr.mono (by omega)) (by rfl) T.m_l_term T.F_l_term.kp T.b_l_term .nil pass0 (@pa_cons _ _ _ _ _ (pv 0) (@pa_cons _ _ _ _ _ (pv 4) (@pa_cons _ _ _ _ _ (pv 3) pa_nil (by rfl)) (by rfl)) (by rfl)) (by decide) (by rfl) (by rfl)) (@paq_cons _ _ _ _ _ (@pe_callTy _ _ _ _ _ _ _ _ _ call_tuple_of (by rfl) T.z_tuple bt_tuple (@pa_cons _ _ _ _ _ (pv 2) pa_nil (by rfl)) (by decide) (by decide) (by rfl) (by rfl)) paq_nil star_K) star_K) star_N) star_N) star_N) star_N) star_N))))))))), ?_⟩
  -- bases
  refine ⟨szl (by show 2 ≤ 1000000; decide), fun t0 ht0 => ⟨szl (by show 1 ≤ 1000000; decide), fun l0 hl0 => ?_⟩⟩
  have e2 := (same_new ht0 (.tup [V.str "", V.int 0])).trans (same_new hl0 (.lst [V.ref t0]))
  have ht02 : (upd (upd H t0 (.tup [V.str "", V.int 0])) l0 (.lst [V.ref t0])) t0 = some (.tup [V.str "", V.int 0]) := same_new hl0 _ _ _ upd_same
  have hl02 : (upd (upd H t0 (.tup [V.str "", V.int 0])) l0 (.lst [V.ref t0])) l0 = some (.lst [V.ref t0]) := upd_same
  generalize upd (upd H t0 (.tup [V.str "", V.int 0])) l0 (.lst [V.ref t0]) = H2 at e2 ht02 hl02
  refine ⟨_, rfl, st, rfl, ⟨_, SqL.of (e2 _ _ hv)⟩, ?_⟩
  refine comp_list (xs := vs) (fun i ys H' => Same H2 H' ∧ ys.length = i ∧ PairsAt H' ys) ⟨Same.refl _, rfl, fun v hv => by cases hv⟩ (szl (by omega)) (fun i ys H' hi p => ⟨SqL.of (p.1 _ _ (e2 _ _ hv)), by omega⟩) (fun i x ys H' hx p => ?_) (fun ys H' p r hr' => ?_)
  · obtain ⟨e3, yl, yp⟩ := p
    obtain ⟨p0, p1, p2, nm, b1, b2, n1, n2, ab2, tn, rfl, h0, _⟩ := (hlp x (List.mem_of_getElem? hx)).over (e2.trans e3)
    refine ⟨_, rfl, p0, _, 0, _, rfl, rfl, SqT.of h0, rfl, _, rfl, p0, _, 3, _, rfl, rfl, SqT.of h0, rfl, szl (by show 2 ≤ 1000000; decide), fun t4 ht4 => ?_⟩
    have s4 := same_new ht4 (.tup [V.str nm, V.int ab2])
    refine ⟨e3.trans s4, by rw [List.length_append, yl]; rfl, fun v hv' => ?_⟩
    rcases List.mem_append.mp hv' with h | h
    · exact (yp.over s4) v h
    · rw [List.mem_singleton] at h
      exact ⟨t4, nm, ab2, h, upd_same⟩
  obtain ⟨e3, yl, yp⟩ := p
  have s4 := same_new hr' (.lst ys)
  refine ⟨l0, r, _, _, rfl, rfl, s4 _ _ (e3 _ _ hl02), upd_same, szl (by simp only [List.length_singleton]; omega), fun bl hbl => ?_⟩
  have s5 := same_new hbl (.lst ([V.ref t0] ++ ys))
  have e5 := (e2.trans e3).trans (s4.trans s5)
  have hB : BasesAt (upd (upd H' r (.lst ys)) bl (.lst ([V.ref t0] ++ ys))) bl := by
    refine ⟨_, upd_same, by rw [List.length_append]; show 0 < 1 + ys.length; omega, by rw [List.length_append]; show 1 + ys.length ≤ 100; omega, fun v hv' => ?_⟩
    rcases List.mem_append.mp hv' with h | h
    · rw [List.mem_singleton] at h
      exact ⟨t0, _, _, h, s5 _ _ (s4 _ _ (e3 _ _ ht02))⟩
    · exact (yp.over (s4.trans s5)) v h
  dsimp only [gName]
  generalize upd (upd H' r (.lst ys)) bl (.lst ([V.ref t0] ++ ys)) = H5 at e5 hB
  clear s4 s5 e3 yp hl02 ht02 yl hr' hbl e2 hl0 ht0
  -- the names
  refine ⟨_, rfl, st, rfl, ⟨_, SqL.of (e5 _ _ hv)⟩, ?_⟩
  refine comp_list (xs := vs) (fun i ys H' => H' = H5 ∧ ys.length = i ∧ ∀ y ∈ ys, ∃ z, y = V.str z) ⟨rfl, rfl, fun y hy => by cases hy⟩ (szl (by omega)) (fun i ys H' hi p => by obtain ⟨rfl, p, _⟩ := p; exact ⟨SqL.of (e5 _ _ hv), by omega⟩) (fun i x ys H' hx p => ?_) (fun y1 H6 p r1 hr1 => ?_)
  · obtain ⟨rfl, yl, ystr⟩ := p
    obtain ⟨p0, p1, p2, nm, b1, b2, n1, n2, ab2, tn, rfl, h0, _⟩ := (hlp x (List.mem_of_getElem? hx)).over e5
    refine ⟨_, rfl, p0, _, 0, _, rfl, rfl, SqT.of h0, rfl, rfl, by rw [List.length_append, yl]; rfl, fun y hy => ?_⟩
    rcases List.mem_append.mp hy with z | z
    · exact ystr y z
    · exact ⟨nm, List.mem_singleton.mp z⟩
  obtain ⟨rfl, y1l, y1s⟩ := p
  refine ⟨r1, _, rfl, .inl ⟨SqL.of upd_same, fun u1 hu1 => ?_⟩⟩
  have s6 := (same_new hr1 (.lst y1)).trans (same_new hu1 (.tup y1))
  have hu7 : (upd (upd H6 r1 (.lst y1)) u1 (.tup y1)) u1 = some (.tup y1) := upd_same
  dsimp only [gName]
  generalize upd (upd H6 r1 (.lst y1)) u1 (.tup y1) = H7 at s6 hu7
  have e7 := e5.trans s6
  -- the lows
  refine ⟨_, rfl, st, rfl, ⟨_, SqL.of (e7 _ _ hv)⟩, ?_⟩
  refine comp_list (xs := vs) (fun i ys H' => H' = H7 ∧ ys.length = i) ⟨rfl, rfl⟩ (szl (by omega)) (fun i ys H' hi p => by obtain ⟨rfl, p⟩ := p; exact ⟨SqL.of (e7 _ _ hv), by omega⟩) (fun i x ys H' hx p => ?_) (fun y2 H8 p r2 hr2 => ?_)
  · obtain ⟨rfl, yl⟩ := p
    obtain ⟨p0, p1, p2, nm, b1, b2, n1, n2, ab2, tn, rfl, h0, _⟩ := (hlp x (List.mem_of_getElem? hx)).over e7
    exact ⟨_, rfl, p0, _, 1, _, rfl, rfl, SqT.of h0, rfl, rfl, by rw [List.length_append, yl]; rfl⟩
  obtain ⟨rfl, _⟩ := p
  refine ⟨r2, _, rfl, .inl ⟨SqL.of upd_same, fun u2 hu2 => ?_⟩⟩
  have s8 := (same_new hr2 (.lst y2)).trans (same_new hu2 (.tup y2))
  dsimp only [gName]
  generalize upd (upd H8 r2 (.lst y2)) u2 (.tup y2) = H9 at s8
  have e9 := e7.trans s8
  -- the highs
  refine ⟨_, rfl, st, rfl, ⟨_, SqL.of (e9 _ _ hv)⟩, ?_⟩
  refine comp_list (xs := vs) (fun i ys H' => H' = H9 ∧ ys.length = i) ⟨rfl, rfl⟩ (szl (by omega)) (fun i ys H' hi p => by obtain ⟨rfl, p⟩ := p; exact ⟨SqL.of (e9 _ _ hv), by omega⟩) (fun i x ys H' hx p => ?_) (fun y3 HA p r3 hr3 => ?_)
  · obtain ⟨rfl, yl⟩ := p
    obtain ⟨p0, p1, p2, nm, b1, b2, n1, n2, ab2, tn, rfl, h0, _⟩ := (hlp x (List.mem_of_getElem? hx)).over e9
    exact ⟨_, rfl, p0, _, 2, _, rfl, rfl, SqT.of h0, rfl, rfl, by rw [List.length_append, yl]; rfl⟩
  obtain ⟨rfl, _⟩ := p
  refine ⟨r3, _, rfl, .inl ⟨SqL.of upd_same, fun u3 hu3 => ?_⟩⟩
  have sA := (same_new hr3 (.lst y3)).trans (same_new hu3 (.tup y3))
  dsimp only [gName]
  generalize upd (upd HA r3 (.lst y3)) u3 (.tup y3) = HB at sA
  have eB := e9.trans sA
  have hB2 := hB.over (s6.trans (s8.trans sA))
  -- the cell, the term
  refine ⟨_, rfl, c, 4, rfl, _, rfl, _, rfl, mixF c 4, bl, hd, rfl, (mix_b c 4).1, hB2, hH.over eB, fun rc HC eC hC => ?_⟩
  obtain ⟨z, p, hrc, hsp⟩ := hC
  refine ⟨rc, _, rfl, SqT.of hrc, rfl, _, _, rfl, _, _, rfl, rfl, ?_⟩
  dsimp only [gName]
  have eBC := eB.trans eC
  refine ⟨_, rfl, _, rfl, _, rfl, _, rfl, _, rfl, _, rfl, _, rfl, _, rfl, c, bl, hd, rfl, hB2.over eC, hH.over eBC, fun x HD m rs eD m3 tm => ?_⟩
  have eD' := eBC.trans eD
  refine ⟨_, rfl, pt, _, rfl, .inl ⟨SqL.of (eD' _ _ hpt), fun u4 hu4 => ⟨szl (by show 7 ≤ 1000000; decide), fun rr hrr => ?_⟩⟩⟩
  have sE := (same_new hu4 (.tup (ps.map V.int))).trans (same_new hrr (.tup [V.ref u1, V.ref u2, V.ref u3, V.str z, V.ref p, x, V.ref u4]))
  refine q rr _ z p m rs (eD'.trans sE) ⟨rr, u1, u4, _, _, x, y1, rfl, upd_same, ?_, ?_, y1s, ?_, tm.over sE⟩ m3
  · exact ((s8.trans sA).trans (eC.trans (eD.trans sE))) _ _ hu7
  · rw [y1l]; exact hk
  · exact same_new hrr _ _ _ upd_same

theorem ok_many (T : Tx K mg a) : FnOk P w K mg base CX0 2 a.f_l_many a.d_l_many ["_law_script"] (spMany55 K) := by
  have G_l_cell := ok_cell (P := P) (w := w) (base := base) T
  have G_l_mixed := ok_mixed (P := P) (w := w) (base := base) T
  refine T.F_l_many.ok sc_l_many (fun vs H Q E h => ?_) (fun cdv A outer s H vs Q E hr h => ?_)
  · obtain ⟨_, _, rfl, _⟩ := h; rfl
  obtain ⟨p, ns, rfl, hp, h63, q⟩ := h
  refine ⟨_, (@pss_one _ _ _ (@ps_ret _ _ _ _ (@pe_ix _ _ _ _ _ _ _ ix_list (@pe_lstq _ _ _ _ (@paq_cons _ _ _ _ _ pe_int (@paq_cons _ _ _ _ _ pe_int (@paq_cons _ _ _ _ _ pe_int (@paq_cons _ _ _ _ _ pe_int (@paq_cons _ _ _ _ _ pe_int (@paq_cons _ _ _ _ _ pe_int (@paq_cons _ _ _ _ _ pe_int (@paq_cons _ _ _ _ _ pe_int paq_nil star_C) star_C) star_C) star_C) star_C) star_C) star_C) star_C)) (@pe_op _ _ _ _ _ _ _ _ op_mod (@pe_call _ _ _ _ _ _ _ _ _ _ _ _ _ _ _ _ G_l_mixed (hr.mono (by omega)) (by rfl) T.m_l_mixed T.F_l_mixed.kp T.b_l_mixed .nil pass0 (@pa_cons _ _ _ _ _ (@pe_call _ _ _ _ _ _ _ _ _ _ _ _ _ _ _ _ G_l_cell (hr.mono (by omega)) (by rfl) T.m_l_cell T.F_l_cell.kp T.b_l_cell .nil pass0 (@pa_cons _ _ _ _ _ (pv 0) (@pa_cons _ _ _ _ _ pe_int pa_nil (by rfl)) (by rfl)) (by decide) (by rfl) (by rfl)) (@pa_cons _ _ _ _ _ pe_int pa_nil (by rfl)) (by rfl)) (by decide) (by rfl) (by rfl)) pe_int) (fun _ _ => rfl)))), ?_⟩
  refine ⟨szl (by show 8 ≤ 1000000; decide), fun l hl => ?_⟩
  have s1 := same_new hl (.lst [V.int 1, V.int 2, V.int 3, V.int 2, V.int 1, V.int 3, V.int 2, V.int 6])
  refine ⟨_, rfl, p, ns, 0, rfl, s1.seq hp, by decide, by decide, fun c => ⟨c, 1, rfl, _, _, rfl, rfl, (by show (0 : Int) < 8; decide), ?_⟩⟩
  obtain ⟨d, hd, ed⟩ := pickN (L := [1, 2, 3, 2, 1, 3, 2, 6]) (i := mixF c 1 % 8) 8 rfl (Int.emod_nonneg _ (by decide)) (Int.emod_lt_of_pos _ (by decide))
  have hd : 1 ≤ d ∧ d ≤ 6 := by
    simp only [List.mem_cons, List.not_mem_nil, or_false] at hd
    omega
  obtain ⟨n, rfl⟩ : ∃ n : Nat, d = (n : Int) := ⟨d.toNat, by omega⟩
  exact ⟨l, _, _, _, rfl, rfl, SqL.of upd_same, ed, q _ n s1 (by omega) (by omega)⟩

theorem ok_size (T : Tx K mg a) : FnOk P w K mg base CX0 2 a.f_l_size a.d_l_size ["_law_script"] (spSize55 K) := by
  have G_l_cell := ok_cell (P := P) (w := w) (base := base) T
  have G_l_mixed := ok_mixed (P := P) (w := w) (base := base) T
  refine T.F_l_size.ok sc_l_size (fun vs H Q E h => ?_) (fun cdv A outer s H vs Q E hr h => ?_)
  · obtain ⟨_, _, rfl, _⟩ := h; rfl
  obtain ⟨p, ns, rfl, hp, h63, q⟩ := h
  refine ⟨_, (@pss_cons _ _ _ _ _ (@ps_set _ _ (1) _ _ _ _ sc_l_size.nd rfl (Or.inl rfl) (@pe_call _ _ _ _ _ _ _ _ _ _ _ _ _ _ _ _ G_l_cell (hr.mono (by omega)) (by rfl) T.m_l_cell T.F_l_cell.kp T.b_l_cell .nil pass0 (@pa_cons _ _ _ _ _ (pv 0) (@pa_cons _ _ _ _ _ pe_int pa_nil (by rfl)) (by rfl)) (by decide) (by rfl) (by rfl)) (by rfl) (by first | exact .inl rfl | exact .inr rfl | assumption)) (@pss_one _ _ _ (@ps_ret _ _ _ _ (@pe_ix _ _ _ _ _ _ _ ix_list (@pe_lst _ _ _ _ (@pa_cons _ _ _ _ _ (@pe_op _ _ _ _ _ _ _ _ op_add pe_int (@pe_op _ _ _ _ _ _ _ _ op_mod (pv 1) pe_int)) (@pa_cons _ _ _ _ _ (@pe_op _ _ _ _ _ _ _ _ op_add pe_int (@pe_op _ _ _ _ _ _ _ _ op_mod (pv 1) (@pe_op _ _ _ _ _ _ _ _ op_sub (@pe_op _ _ _ _ _ _ _ _ op_pow pe_int pe_int) pe_int))) pa_nil (by rfl)) (by rfl))) (@pe_op _ _ _ _ _ _ _ _ op_mod (@pe_call _ _ _ _ _ _ _ _ _ _ _ _ _ _ _ _ G_l_mixed (hr.mono (by omega)) (by rfl) T.m_l_mixed T.F_l_mixed.kp T.b_l_mixed .nil pass0 (@pa_cons _ _ _ _ _ (pv 1) (@pa_cons _ _ _ _ _ pe_int pa_nil (by rfl)) (by rfl)) (by decide) (by rfl) (by rfl)) pe_int) (fun _ _ => rfl))))), ?_⟩
  refine ⟨_, rfl, p, ns, 1, rfl, hp, by decide, by decide, fun c => ?_⟩
  dsimp only [gName]
  refine ⟨_, rfl, _, _, rfl, rfl, (by show (0 : Int) < 9; decide), _, _, rfl, rfl, _, rfl, _, _, rfl, rfl, ⟨by decide, by decide, by decide⟩, _, _, rfl, rfl, _, _, rfl, rfl, (by show (0 : Int) < 10 ^ (18 : Int).toNat - 2; decide), _, _, rfl, rfl, szl (by show 2 ≤ 1000000; decide), fun l hl => ?_⟩
  have s1 := same_new hl (.lst [V.int (2 + c % 9), V.int (2 + c % (10 ^ (18 : Int).toNat - 2))])
  refine ⟨_, rfl, c, 0, rfl, _, _, rfl, rfl, (by show (0 : Int) < 2; decide), ?_⟩
  obtain ⟨d, hd, ed⟩ := pickN (L := [2 + c % 9, 2 + c % (10 ^ (18 : Int).toNat - 2)]) (i := mixF c 0 % 2) 2 rfl (Int.emod_nonneg _ (by decide)) (Int.emod_lt_of_pos _ (by decide))
  exact ⟨l, _, _, _, rfl, rfl, SqL.of upd_same, ed, q _ d s1⟩

theorem ok_made (T : Tx K mg a) : FnOk P w K mg base CX0 103 a.f_l_made a.d_l_made ["_law_size_here", "_law_rows_here"] (spMade55 a.c_Program a.c_Deed (csOf a)) := by
  have G_Deed_init := ok_dinit (P := P) (w := w) (base := base) T
  have G_Program_init := ok_pini (P := P) (w := w) (base := base) T
  have G_l_object := ok_object (P := P) (w := w) (base := base) T 100
  refine T.F_l_made.ok sc_l_made (fun vs H Q E h => ?_) (fun cdv A outer s H vs Q E hr h => ?_)
  · obtain ⟨_, _, _, rfl, _⟩ := h; rfl
  obtain ⟨n, l, Rs, rfl, ⟨xs, hl, ax⟩, n6, ok, q⟩ := h
  refine ⟨_, (@pss_cons _ _ _ _ _ (@ps_setcompB _ _ _ _ _ _ _ _ _ (2) _ ["_law_row_here"] [none] _ _ _ _ sc_l_made.nd rfl (Or.inl rfl) (by rfl) (@pi_list _ _ _ _ (pv 1)) c_l_made_0 (fun _ _ _ _ _ _ => ⟨(pg_name (i := 0) c_l_made_0n rfl (Or.inl rfl)), @pts_nil _, (@pe_make _ _ _ _ _ _ _ _ _ _ _ _ _ _ _ _ _ T.mk_Deed G_Deed_init (hr.mono (by omega)) (by rfl) T.mc_Deed T.b_Deed_init .nil pass0 (@pa_cons _ _ _ _ _ (@pe_ix _ _ _ _ _ _ _ (show IxR _ (rIxT K) from ix_tup) (pv 0) pe_int (fun _ _ => rfl)) (@pa_cons _ _ _ _ _ (@pe_ix _ _ _ _ _ _ _ (show IxR _ (rIxT K) from ix_tup) (pv 0) pe_int (fun _ _ => rfl)) (@pa_cons _ _ _ _ _ (@pe_ix _ _ _ _ _ _ _ (show IxR _ (rIxT K) from ix_tup) (pv 0) pe_int (fun _ _ => rfl)) (@pa_cons _ _ _ _ _ (@pe_ix _ _ _ _ _ _ _ (show IxR _ (rIxT K) from ix_tup) (pv 0) pe_int (fun _ _ => rfl)) (@pa_cons _ _ _ _ _ (@pe_ix _ _ _ _ _ _ _ (show IxR _ (rIxT K) from ix_tup) (pv 0) pe_int (fun _ _ => rfl)) (@pa_cons _ _ _ _ _ (@pe_call _ _ _ _ _ _ _ _ _ _ _ _ _ _ _ _ G_l_object (hr.mono (by omega)) (by rfl) T.m_l_object T.F_l_object.kp T.b_l_object .nil pass0 (@pa_cons _ _ _ _ _ (@pe_ix _ _ _ _ _ _ _ (show IxR _ (rIxT K) from ix_tup) (pv 0) pe_int (fun _ _ => rfl)) pa_nil (by rfl)) (by decide) (by rfl) (by rfl)) (@pa_cons _ _ _ _ _ (@pe_ix _ _ _ _ _ _ _ (show IxR _ (rIxT K) from ix_tup) (pv 0) pe_int (fun _ _ => rfl)) pa_nil (by rfl)) (by rfl)) (by rfl)) (by rfl)) (by rfl)) (by rfl)) (by rfl)) (by decide) (by rfl) (by rfl))⟩) (by rfl) (by intro _ ; rfl) (by first | exact .inl rfl | exact .inr rfl | assumption)) (@pss_one _ _ _ (@ps_ret _ _ _ _ (@pe_make _ _ _ _ _ _ _ _ _ _ _ _ _ _ _ _ _ T.mk_Program G_Program_init (hr.mono (by omega)) (by rfl) T.mc_Program T.b_Program_init .nil pass0 (@pa_cons _ _ _ _ _ (pv 0) (@pa_cons _ _ _ _ _ (pv 2) pa_nil (by rfl)) (by rfl)) (by decide) (by rfl) (by rfl))))), ?_⟩
  have xl := ax.1
  refine ⟨_, rfl, l, rfl, ⟨_, SqL.of hl⟩, ?_⟩
  refine comp_list (xs := xs) (fun i ys H' => Same H H' ∧ All2 (D5At (csOf a) a.c_Deed H') ys (Rs.take i)) ⟨Same.refl _, .nil⟩ (szl (by omega)) (fun i ys H' hi pp => ⟨SqL.of (pp.1 _ _ hl), by rw [pp.2.1, List.length_take]; omega⟩) (fun i x ys H' hx pp => ?_) (fun ys H' pp dl hdl => ?_)
  · obtain ⟨e, ay⟩ := pp
    obtain ⟨R, hR, r, u1, u4, v1, v2, x, zs, rfl, hr1, hu1, zl, _, hu4, tm⟩ := ax.get' hx
    have rok := ok R (List.mem_of_getElem? hR)
    have hr1' := e _ _ hr1
    refine ⟨_, rfl, r, _, 0, _, rfl, rfl, SqT.of hr1', rfl, _, rfl, r, _, 1, _, rfl, rfl, SqT.of hr1', rfl, _, rfl, r, _, 2, _, rfl, rfl, SqT.of hr1', rfl, _, rfl, r, _, 3, _, rfl, rfl, SqT.of hr1', rfl, _, rfl, r, _, 4, _, rfl, rfl, SqT.of hr1', rfl, _, rfl, r, _, 5, _, rfl, rfl, SqT.of hr1', rfl, ?_⟩
    refine ⟨x, R.m, R.rs, rfl, by have := rok.ms; omega, tm.over e, fun y H2 e2 to => ?_⟩
    refine ⟨_, rfl, r, _, 6, _, rfl, rfl, SqT.of (e2 _ _ hr1'), rfl, ?_⟩
    intro d dd hd hdd hne2
    refine ⟨d, dd, _, _, _, _, _, _, _, rfl, upd_same, fun HB kB hdB => ⟨rfl, ?_⟩⟩
    obtain ⟨dxB, hdB⟩ := hdB
    have eAB := made_same hd hdd kB
    have eB := e2.trans eAB
    refine ⟨e.trans eB, ?_⟩
    rw [take_snoc hR]
    exact (ay.mono fun _ _ z => z.over eB).snoc ⟨d, dxB, u1, u4, _, _, y, zs, rfl, hdB, eB _ _ (e _ _ hu1), zl, eB _ _ (e _ _ hu4), to.over eAB⟩
  obtain ⟨e, ay⟩ := pp
  rw [List.take_of_length_le (by omega)] at ay
  have s1 := same_new hdl (.lst ys)
  have hdl1 : (upd H' dl (.lst ys)) dl = some (.lst ys) := upd_same
  have dl0 := e.free hdl
  dsimp only [gName]
  generalize upd H' dl (.lst ys) = H1 at s1 hdl1
  refine ⟨_, rfl, _, rfl, ?_⟩
  intro x dx hx hdx hxd
  have ntx : dl ≠ x := ne_of_none hdl1 hx
  have ntd : dl ≠ dx := ne_of_none hdl1 hdx
  refine ⟨x, dx, _, dl, ys, rfl, upd_same, SqL.of (by rw [upd_ne ntx, upd_ne ntd]; exact hdl1), fun d5 H6 hd5 k6 hd6 hx6 => ⟨rfl, ?_⟩⟩
  obtain ⟨dx6, hx6⟩ := hx6
  have e6 := made_same hx hdx k6
  have d50 : H d5 = none := by
    have nx5 : d5 ≠ x := fun z => by rw [z, upd_same] at hd5; cases hd5
    rw [upd_ne nx5] at hd5
    by_cases c : d5 = dx
    · rw [c, upd_same] at hd5; cases hd5
    · rw [upd_ne c] at hd5; exact (e.trans s1).free hd5
  exact q x dx6 d5 ys H6 (e.trans (s1.trans e6)) hx6 d50 hd6 (ay.mono fun _ _ z => z.over (s1.trans e6))

theorem ok_touchl (T : Tx K mg a) : FnOk P w K mg base CX0 103 a.f_l_touches a.d_l_touches ["_law_row_here"] spTouchL55 := by
  have G_l_reads := ok_rds (P := P) (w := w) (base := base) T 100
  refine T.F_l_touches.ok sc_l_touches (fun vs H Q E h => ?_) (fun cdv A outer s H vs Q E hr h => ?_)
  · obtain ⟨_, _, rfl, _⟩ := h; rfl
  obtain ⟨v, R, rfl, ⟨r, u1, u4, v1, v2, x, ys, rfl, hr1, hu1, yl, _, hu4, tm⟩, hm, q⟩ := h
  refine ⟨_, (@pss_one _ _ _ (@ps_ret _ _ _ _ (@pe_op _ _ _ _ _ _ _ _ op_cat (@pe_lst _ _ _ _ (@pa_cons _ _ _ _ _ (@pe_tupq _ _ _ _ _ (@paq_cons _ _ _ _ _ pe_bl (@paq_cons _ _ _ _ _ (@pe_ix _ _ _ _ _ _ _ ix_tup (pv 0) pe_int (fun _ _ => rfl)) (@paq_cons _ _ _ _ _ (@pe_ix _ _ _ _ _ _ _ ix_tup (pv 0) pe_int (fun _ _ => rfl)) paq_nil star_S) star_S) star_C)) pa_nil (by rfl))) (@pe_call _ _ _ _ _ _ _ _ _ _ _ _ _ _ _ _ G_l_reads (hr.mono (by omega)) (by rfl) T.m_l_reads T.F_l_reads.kp T.b_l_reads .nil pass0 (@pa_cons _ _ _ _ _ (@pe_ix _ _ _ _ _ _ _ ix_tup (pv 0) pe_int (fun _ _ => rfl)) pa_nil (by rfl)) (by decide) (by rfl) (by rfl))))), ?_⟩
  refine ⟨_, rfl, r, _, 3, _, rfl, rfl, SqT.of hr1, rfl, _, rfl, r, _, 4, _, rfl, rfl, SqT.of hr1, rfl, szl (by show 3 ≤ 1000000; decide), fun t ht => ⟨szl (by show 1 ≤ 1000000; decide), fun l hl => ?_⟩⟩
  have s1 := same_new ht (.tup [V.bl true, .str R.z, .ref R.p])
  have s2 := same_new hl (.lst [V.ref t])
  have e2 := s1.trans s2
  refine ⟨_, rfl, r, _, 5, _, rfl, rfl, SqT.of (e2 _ _ hr1), rfl, x, R.m, R.rs, rfl, hm, by omega, tm.over e2, fun l2 H3 zs e3 hl2 rd => ?_⟩
  have zl := rd.1
  have rl := tm.pos.2.1
  refine ⟨l, l2, _, _, rfl, rfl, e3 _ _ upd_same, hl2, szl (by simp only [List.length_singleton]; omega), fun l4 hl4 => ?_⟩
  have s4 := same_new hl4 (.lst ([V.ref t] ++ zs))
  have ht4 := (s2.trans (e3.trans s4)) _ _ (show (upd H t (.tup [V.bl true, .str R.z, .ref R.p])) t = _ from upd_same)
  exact q l4 _ _ (e2.trans (e3.trans s4)) ((e2.trans e3).free hl4) upd_same (All2.cons ⟨t, R.p, rfl, ht4⟩ (rds_th (fun _ => rfl) (rd.over s4)))

theorem ok_allt (T : Tx K mg a) : FnOk P w K mg base CX0 103 a.f_all_touches a.d_all_touches ["program"] (spAllT55 a.c_Program a.c_Deed (csOf a)) := by
  have G_touches := ok_touches (P := P) (w := w) (base := base) T
  refine T.F_all_touches.ok sc_all_touches (fun vs H Q E h => ?_) (fun cdv A outer s H vs Q E hr h => ?_)
  · obtain ⟨_, _, rfl, _⟩ := h; rfl
  obtain ⟨v, Rs, rfl, ⟨x, dx, dl, sz, xs, rfl, hx, hdl, ax⟩, ok, n6, q⟩ := h
  refine ⟨_, (@pss_cons _ _ _ _ _ (@ps_set _ _ (1) _ _ _ _ sc_all_touches.nd rfl (Or.inl rfl) (@pe_lst _ _ _ _ pa_nil) (by rfl) (by first | exact .inl rfl | exact .inr rfl | assumption)) (@pss_cons _ _ _ _ _ (@ps_for _ _ _ _ _ _ _ _ PassesOwn.never rfl (@pi_enum _ _ _ _ _ _ _ _ (by rfl) T.z_enumerate (@pa_cons _ _ _ _ _ (@pe_fld _ _ _ _ _ (pv 0) rfl) pa_nil (by rfl)) (by rfl)) (pg_tup rfl (pgs_cons (pg_name (i := 2) sc_all_touches.nd rfl (Or.inl rfl)) (pgs_cons (pg_name (i := 3) sc_all_touches.nd rfl (Or.inl rfl)) pgs_nil))) (@pss_one _ _ _ (@ps_for _ _ _ _ _ _ _ _ PassesOwn.never rfl (@pi_enum _ _ _ _ _ _ _ _ (by rfl) T.z_enumerate (@pa_cons _ _ _ _ _ (@pe_call _ _ _ _ _ _ _ _ _ _ _ _ _ _ _ _ G_touches (hr.mono (by omega)) (by rfl) T.m_touches T.F_touches.kp T.b_touches .nil pass0 (@pa_cons _ _ _ _ _ (pv 3) pa_nil (by rfl)) (by decide) (by rfl) (by rfl)) pa_nil (by rfl)) (by rfl)) (pg_tup rfl (pgs_cons (pg_name (i := 4) sc_all_touches.nd rfl (Or.inl rfl)) (pgs_cons (pg_name (i := 5) sc_all_touches.nd rfl (Or.inl rfl)) pgs_nil))) (@pss_one _ _ _ (@ps_expr _ _ _ _ (@pe_bm _ _ _ _ _ _ _ _ _ _ _ _ PySem.F.plainAttrs_list PySem.F.slot_list_append PySem.F.type_list_append mt_append (pv 1) (@pa_cons _ _ _ _ _ (@pe_tupq _ _ _ _ _ (@paq_cons _ _ _ _ _ (pv 2) (@paq_cons _ _ _ _ _ (pv 4) (@paq_cons _ _ _ _ _ (pv 5) paq_nil star_N) star_N) star_N)) pa_nil (by rfl)) (by rfl) (by rfl) (by rfl) (by rfl) (by rfl)) (by rfl))) (by intro _ ; rfl))) (by intro _ ; rfl)) (@pss_one _ _ _ (@ps_ret _ _ _ _ (pv 1))))), ?_⟩
  have xl := ax.1
  refine ⟨szl (by show 0 ≤ 1000000; decide), fun fo hfo => ?_⟩
  have e1 := same_new hfo (.lst [])
  have hfo1 : (upd H fo (.lst [])) fo = some (.lst []) := upd_same
  dsimp only [gName]
  generalize upd H fo (.lst []) = H1 at e1 hfo1
  refine ⟨_, rfl, x, _, dx, _, _, rfl, e1 _ _ hx, T.cl_Program, T.n_Program_deeds, rfl, dl, rfl, ⟨_, SqL.of (e1 _ _ hdl)⟩, ?_⟩
  refine for_enum (xs := xs) (fun i σ' H' => ∃ (ys : List V) (o2 o3 o4 o5 : Option V), σ' = [some (.ref x), some (.ref fo), o2, o3, o4, o5] ∧ Same H H' ∧ H' fo = some (.lst ys) ∧ All2 (T3At H') ys (al5 (Rs.take i))) ⟨[], _, _, _, _, rfl, e1, hfo1, .nil⟩ (fun i σ' H' _ pp => by obtain ⟨_, _, _, _, _, _, e, _⟩ := pp; exact SqL.of (e _ _ hdl)) (fun i y Tt σ' H' hy pp hT => ?_) (fun σ' H' pp => ?_)
  rotate_left
  · obtain ⟨ys, o2, o3, o4, o5, rfl, e, hy, ay⟩ := pp
    rw [List.take_of_length_le (by omega)] at ay
    exact ⟨_, rfl, q fo ys _ e hfo hy ay⟩
  obtain ⟨ys, o2, o3, o4, o5, rfl, e, hys, ay⟩ := pp
  obtain ⟨R, hR, d5⟩ := ax.get' hy
  have rok := ok R (List.mem_of_getElem? hR)
  have il : i < Rs.length := (List.getElem?_eq_some_iff.mp hR).1
  have sT := same_new hT (.tup [V.int (i : Int), y])
  have e2 := e.trans sT
  have hys2 := sT _ _ hys
  have ay2 := ay.mono fun _ _ z => z.over sT
  refine ⟨Tt, _, rfl, SqT.of upd_same, rfl, _, _, rfl, _, _, rfl, rfl, ?_⟩
  generalize upd H' Tt (.tup [V.int (i : Int), y]) = H2 at e2 hys2 ay2
  refine ⟨_, rfl, y, R.z, R.p, R.m, R.rs, rfl, (d5.over e2).tm, by have := rok.ms; omega, fun l H3 e3 hl0 th => ?_⟩
  obtain ⟨ts, hts, ath⟩ := tch_th th
  have tsl := ath.1
  have tll := tl5_len rok
  have hys3 := e3 _ _ hys2
  have nlf : l ≠ fo := fun z => by rw [z, hys2] at hl0; cases hl0
  have ay3 := ay2.mono fun _ _ z => z.over e3
  have pl := al5_len (Rs := Rs.take i) (fun R hR => ok R (List.mem_of_mem_take hR)) (by rw [List.length_take]; omega)
  refine ⟨l, rfl, ⟨_, SqL.of hts⟩, ?_⟩
  refine for_enum (xs := ts) (fun j σ' H4 => ∃ (zs : List V) (o4 o5 : Option V), σ' = [some (.ref x), some (.ref fo), some (.int (i : Int)), some y, o4, o5] ∧ (∀ b o, b ≠ fo → H3 b = some o → H4 b = some o) ∧ H4 fo = some (.lst zs) ∧ All2 (T3At H4) zs (al5 (Rs.take i) ++ Pm.tk3 i 0 ((tl5 R).take j))) ⟨ys, _, _, rfl, fun _ _ _ h => h, hys3, by show All2 _ _ (_ ++ []); rw [List.append_nil]; exact ay3⟩ (fun j σ' H4 _ pp => by obtain ⟨_, _, _, _, k4, _⟩ := pp; exact SqL.of (k4 _ _ nlf hts)) (fun j y2 Tt2 σ' H4 hy2 pp hT2 => ?_) (fun σ' H4 pp => ?_)
  · obtain ⟨zs, o4, o5, rfl, k4, hzs, az⟩ := pp
    obtain ⟨tb, htb, u, p, rfl, hu⟩ := ath.get' hy2
    have jl : j < (tl5 R).length := (List.getElem?_eq_some_iff.mp htb).1
    have nu : u ≠ fo := fun z => by rw [z, hys3] at hu; cases hu
    have hu4 := k4 _ _ nu hu
    have sT2 := same_new hT2 (.tup [V.int (j : Int), V.ref u])
    refine ⟨Tt2, _, rfl, SqT.of upd_same, rfl, _, _, rfl, _, _, rfl, rfl, ?_⟩
    refine ⟨_, rfl, .inl ⟨rfl, _, SqL.of (sT2 _ _ hzs)⟩, _, rfl, _, rfl, _, rfl, szl (by show 3 ≤ 1000000; decide), fun r hr => ?_⟩
    have s6 := same_new hr (.tup [V.int (i : Int), V.int (j : Int), V.ref u])
    have e6 := sT2.trans s6
    have hz6 := e6 _ _ hzs
    have zl := az.1
    rw [List.length_append, Pm.tk3_len, List.length_take] at zl
    have nr : r ≠ fo := fun z => by rw [z, sT2 _ _ hzs] at hr; cases hr
    refine ⟨fo, _, _, rfl, rfl, hz6, szlt (by omega), ?_⟩
    have tk := TK.upd (o := .lst (zs ++ [V.ref r])) hz6
    refine ⟨zs ++ [.ref r], _, _, rfl, fun b o hb h => by rw [upd_ne hb]; exact e6 _ _ (k4 b o hb h), upd_same, ?_⟩
    rw [take_snoc htb, Pm.tk3_snoc, ← List.append_assoc]
    refine (az.mono fun _ _ z => (z.over e6).tk tk).snoc ⟨r, u, p, rfl, ?_, tk _ _ (e6 _ _ hu4)⟩
    rw [List.length_take, Nat.min_eq_left (Nat.le_of_lt jl), Nat.zero_add]
    exact tk _ _ upd_same
  · obtain ⟨zs, o4, o5, rfl, k4, hzs, az⟩ := pp
    rw [tsl, List.take_length] at az
    refine ⟨zs, _, _, _, _, rfl, fun b o hb => k4 _ _ (ne_of_none hb hfo) (e3 _ _ (e2 _ _ hb)), hzs, ?_⟩
    show All2 _ _ (Pm.all3 0 ((Rs.take (i + 1)).map tl5))
    rw [take_snoc hR, List.map_append]
    show All2 _ _ (Pm.all3 0 ((Rs.take i).map tl5 ++ [tl5 R]))
    rw [Pm.all3_snoc, List.length_map, List.length_take, Nat.min_eq_left (Nat.le_of_lt il), Nat.zero_add]
    exact az

theorem ok_meets (T : Tx K mg a) : FnOk P w K mg base CX0 104 a.f_meets a.d_meets ["program"] (spMeets55 a.c_Program a.c_Deed (csOf a)) := by
  have G_all_touches := ok_allt (P := P) (w := w) (base := base) T
  refine T.F_meets.ok sc_meets (fun vs H Q E h => ?_) (fun cdv A outer s H vs Q E hr h => ?_)
  · obtain ⟨_, _, rfl, _⟩ := h; rfl
  obtain ⟨v, Rs, rfl, hP, ok, n6, q⟩ := h
  refine ⟨_, (@pss_cons _ _ _ _ _ (@ps_set _ _ (1) _ _ _ _ sc_meets.nd rfl (Or.inl rfl) (@pe_call _ _ _ _ _ _ _ _ _ _ _ _ _ _ _ _ G_all_touches (hr.mono (by omega)) (by rfl) T.m_all_touches T.F_all_touches.kp T.b_all_touches .nil pass0 (@pa_cons _ _ _ _ _ (pv 0) pa_nil (by rfl)) (by decide) (by rfl) (by rfl)) (by rfl) (by first | exact .inl rfl | exact .inr rfl | assumption)) (@pss_cons _ _ _ _ _ (@ps_set _ _ (2) _ _ _ _ sc_meets.nd rfl (Or.inl rfl) (@pe_lst _ _ _ _ pa_nil) (by rfl) (by first | exact .inl rfl | exact .inr rfl | assumption)) (@pss_cons _ _ _ _ _ (@ps_for _ _ _ _ _ _ _ _ PassesOwn.never rfl (@pi_list _ _ _ _ (pv 1)) (pg_tup rfl (pgs_cons (pg_name (i := 3) sc_meets.nd rfl (Or.inl rfl)) (pgs_cons (pg_name (i := 4) sc_meets.nd rfl (Or.inl rfl)) (pgs_cons (pg_name (i := 5) sc_meets.nd rfl (Or.inl rfl)) pgs_nil)))) (@pss_one _ _ _ (@ps_for _ _ _ _ _ _ _ _ PassesOwn.never rfl (@pi_list _ _ _ _ (pv 1)) (pg_tup rfl (pgs_cons (pg_name (i := 6) sc_meets.nd rfl (Or.inl rfl)) (pgs_cons (pg_name (i := 7) sc_meets.nd rfl (Or.inl rfl)) (pgs_cons (pg_name (i := 8) sc_meets.nd rfl (Or.inl rfl)) pgs_nil)))) (@pss_one _ _ _ (@ps_if _ _ _ _ _ _ _ _ ((@pw_and _ _ _ _ _ _ _ (@pt_cmpR _ _ _ _ _ _ _ _ op_eq (@pe_ix _ _ _ _ _ _ _ ix_tup (pv 5) pe_int (fun _ _ => rfl)) (@pe_ix _ _ _ _ _ _ _ ix_tup (pv 8) pe_int (fun _ _ => rfl)) (@nomark _ _ (by decide) (by decide))) (@pw_and1 _ _ _ _ ((@pw_or _ _ _ _ _ _ _ (@pt_val _ _ _ (@pe_ix _ _ _ _ _ _ _ ix_tup (pv 5) pe_int (fun _ _ => rfl)) (by intro _ ; rfl)) (@pw_or1 _ _ _ _ (@pt_val _ _ _ (@pe_ix _ _ _ _ _ _ _ ix_tup (pv 8) pe_int (fun _ _ => rfl)) (by intro _ ; rfl))))).pt))).pt (@pss_one _ _ _ (@ps_expr _ _ _ _ (@pe_bm _ _ _ _ _ _ _ _ _ _ _ _ PySem.F.plainAttrs_list PySem.F.slot_list_append PySem.F.type_list_append mt_append (pv 2) (@pa_cons _ _ _ _ _ (@pe_tupq _ _ _ _ _ (@paq_cons _ _ _ _ _ (pv 3) (@paq_cons _ _ _ _ _ (pv 4) (@paq_cons _ _ _ _ _ (pv 6) (@paq_cons _ _ _ _ _ (pv 7) paq_nil star_N) star_N) star_N) star_N)) pa_nil (by rfl)) (by rfl) (by rfl) (by rfl) (by rfl) (by rfl)) (by rfl))) pss_nil)) (by intro _ ; rfl))) (by intro _ ; rfl)) (@pss_one _ _ _ (@ps_ret _ _ _ _ (pv 2)))))), ?_⟩
  refine ⟨_, rfl, v, Rs, rfl, hP, ok, n6, fun to ys H1 e1 hto0 hto at1 => ?_⟩
  dsimp only [gName]
  refine ⟨szl (by show 0 ≤ 1000000; decide), fun fo hfo => ?_⟩
  have e2 := same_new hfo (.lst [])
  have hfo2 : (upd H1 fo (.lst [])) fo = some (.lst []) := upd_same
  dsimp only [gName]
  generalize upd H1 fo (.lst []) = H2 at e2 hfo2
  have tl := al5_len ok n6
  have ysl := at1.1
  have nyf : to ≠ fo := ne_of_none hto hfo
  refine ⟨_, rfl, to, rfl, ⟨_, SqL.of (e2 _ _ hto)⟩, ?_⟩
  refine for_list (xs := ys) (fun i σ' H' => ∃ (zs : List V) (o3 o4 o5 o6 o7 o8 : Option V), σ' = [some v, some (.ref to), some (.ref fo), o3, o4, o5, o6, o7, o8] ∧ Same H1 H' ∧ H' fo = some (.lst zs) ∧ All2 (Q4At H') zs (Pm.mtF ((al5 Rs).take i) (al5 Rs))) ⟨[], _, _, _, _, _, _, rfl, e2, hfo2, .nil⟩ (fun i σ' H' _ pp => by obtain ⟨_, _, _, _, _, _, _, _, e, _⟩ := pp; exact SqL.of (e _ _ hto)) (fun i y σ' H' hy pp => ?_) (fun σ' H' pp => ?_)
  rotate_left
  · obtain ⟨zs, o3, o4, o5, o6, o7, o8, rfl, e, hzs, az⟩ := pp
    rw [List.take_of_length_le (by omega)] at az
    exact ⟨_, rfl, q fo _ (e1.trans e) (e1.free hfo) ⟨zs, hzs, az⟩⟩
  obtain ⟨zs, o3, o4, o5, o6, o7, o8, rfl, e, hzs, az⟩ := pp
  obtain ⟨X, hX, t, u, p1, rfl, ht, hu⟩ := (at1.mono fun _ _ z => z.over e).get' hy
  have il : i < (al5 Rs).length := (List.getElem?_eq_some_iff.mp hX).1
  refine ⟨t, _, rfl, SqT.of ht, rfl, _, _, rfl, _, _, rfl, _, _, rfl, rfl, ?_⟩
  have mlen := Pm.mtF_len (al5 Rs) ((al5 Rs).take i)
  rw [List.length_take, Nat.min_eq_left (Nat.le_of_lt il)] at mlen
  have ml2 : i * (al5 Rs).length ≤ 186 * 186 := Nat.mul_le_mul (by omega) tl
  refine ⟨_, rfl, to, rfl, ⟨_, SqL.of (e _ _ hto)⟩, ?_⟩
  refine for_list (xs := ys) (fun j σ' H4 => ∃ (ws : List V) (o6 o7 o8 : Option V), σ' = [some v, some (.ref to), some (.ref fo), some (.int (X.k : Int)), some (.int (X.a : Int)), some (.ref u), o6, o7, o8] ∧ (∀ b o, b ≠ fo → H' b = some o → H4 b = some o) ∧ H4 fo = some (.lst ws) ∧ All2 (Q4At H4) ws (Pm.mtF ((al5 Rs).take i) (al5 Rs) ++ Pm.in1 X ((al5 Rs).take j))) ⟨zs, _, _, _, rfl, fun _ _ _ h => h, hzs, by show All2 _ _ (_ ++ []); rw [List.append_nil]; exact az⟩ (fun j σ' H4 _ pp => by obtain ⟨_, _, _, _, _, k4, _⟩ := pp; exact SqL.of (k4 _ _ nyf (e _ _ hto))) (fun j y2 σ' H4 hy2 pp => ?_) (fun σ' H4 pp => ?_)
  rotate_left
  · obtain ⟨ws, o6, o7, o8, rfl, k4, hws, aw⟩ := pp
    rw [ysl, List.take_length, ← Pm.mtF_snoc, ← take_snoc hX] at aw
    exact ⟨ws, _, _, _, _, _, _, rfl, fun b o hb => k4 _ _ (ne_of_none hb hfo) (e _ _ hb), hws, aw⟩
  obtain ⟨ws, o6, o7, o8, rfl, k4, hws, aw⟩ := pp
  have tk4 : TK H' H4 := fun b o hb => k4 _ _ (ne_of hb hzs (by intro z; cases z)) hb
  obtain ⟨Y, hY, t2, u2, p2, rfl, ht2, hu2⟩ := (at1.mono fun _ _ z => (z.over e).tk tk4).get' hy2
  have hu4 := tk4 _ _ hu
  refine ⟨t2, _, rfl, SqT.of ht2, rfl, _, _, rfl, _, _, rfl, _, _, rfl, rfl, ?_⟩
  have wl := aw.1
  have il2 := Pm.in1_len X ((al5 Rs).take j)
  rw [List.length_append] at wl
  rw [List.length_take] at il2
  refine if_thn (fun H'' => H'' = H4 ∧ Pm.ok X Y = true) (fun H'' hh => ?_) (fun go => ?_)
  · obtain ⟨rfl, h⟩ := hh
    refine ⟨_, rfl, .inl ⟨rfl, _, SqL.of hws⟩, _, rfl, _, rfl, _, rfl, _, rfl, szl (by show 4 ≤ 1000000; decide), fun r hr => ?_⟩
    have s6 := same_new hr (.tup [V.int (X.k : Int), V.int (X.a : Int), V.int (Y.k : Int), V.int (Y.a : Int)])
    have hw6 := s6 _ _ hws
    refine ⟨fo, _, _, rfl, rfl, hw6, szlt (by omega), ?_⟩
    have tk := TK.upd (o := .lst (ws ++ [V.ref r])) hw6
    refine ⟨ws ++ [.ref r], _, _, _, rfl, fun b o hb h => by rw [upd_ne hb]; exact s6 _ _ (k4 b o hb h), upd_same, ?_⟩
    rw [take_snoc hY, Pm.in1_snoc, h, if_pos rfl, ← List.append_assoc]
    exact (aw.mono fun _ _ z => (z.over s6).tk tk).snoc ⟨r, rfl, tk _ _ upd_same⟩
  have no : Pm.ok X Y = false → All2 (Q4At H4) ws (Pm.mtF ((al5 Rs).take i) (al5 Rs) ++ Pm.in1 X ((al5 Rs).take (j + 1))) := fun h => by
    rw [take_snoc hY, Pm.in1_snoc, h, if_neg (by decide), List.append_nil]
    exact aw
  refine ⟨_, rfl, u, _, 1, _, rfl, rfl, SqT.of hu4, rfl, _, rfl, u2, _, 1, _, rfl, rfl, SqT.of hu2, rfl, rfl, _, rfl, ?_⟩
  by_cases cz : X.z = Y.z
  · refine iteE (v := true) (decide_eq_true (congrArg V.str cz)) (iteT ?_)
    refine ⟨_, rfl, u, _, 0, _, rfl, rfl, SqT.of hu4, rfl, _, rfl, ?_⟩
    cases cb : X.b with
    | true => exact iteT (go _ ⟨rfl, by unfold Pm.ok; rw [decide_eq_true cz, cb]; rfl⟩)
    | false =>
      refine iteF ?_
      refine ⟨_, rfl, u2, _, 0, _, rfl, rfl, SqT.of hu2, rfl, _, rfl, ?_⟩
      cases cd : Y.b with
      | true => exact iteT (go _ ⟨rfl, by unfold Pm.ok; rw [decide_eq_true cz, cb, cd]; rfl⟩)
      | false => exact iteF ⟨ws, _, _, _, rfl, k4, hws, no (by unfold Pm.ok; rw [cb, cd, Bool.or_self, Bool.and_false])⟩
  · refine iteE (v := false) (decide_eq_false fun z => cz (V.str.inj z)) (iteF ?_)
    exact ⟨ws, _, _, _, rfl, k4, hws, no (by unfold Pm.ok; rw [decide_eq_false cz]; rfl)⟩

theorem ok_lmeets (T : Tx K mg a) : FnOk P w K mg base CX0 104 a.f_l_meets a.d_l_meets ["_law_rows_here"] spMeetsL55 := by
  have G_l_touches := ok_touchl (P := P) (w := w) (base := base) T
  refine T.F_l_meets.ok sc_l_meets (fun vs H Q E h => ?_) (fun cdv A outer s H vs Q E hr h => ?_)
  · obtain ⟨_, _, rfl, _⟩ := h; rfl
  obtain ⟨l, Rs, rfl, ⟨xs, hl, ax⟩, ok, n6, q⟩ := h
  refine ⟨_, (@pss_cons _ _ _ _ _ (@ps_set _ _ (1) _ _ _ _ sc_l_meets.nd rfl (Or.inl rfl) (@pe_lst _ _ _ _ pa_nil) (by rfl) (by first | exact .inl rfl | exact .inr rfl | assumption)) (@pss_cons _ _ _ _ _ (@ps_for _ _ _ _ _ _ _ _ PassesOwn.never rfl (@pi_range1 _ _ _ _ _ _ (by rfl) T.z_range (@pa_cons _ _ _ _ _ (@pe_callB _ _ _ _ _ _ _ _ _ call_len_seq (by rfl) T.z_len bt_len (@pa_cons _ _ _ _ _ (pv 0) pa_nil (by rfl)) (by decide) (by decide) (by rfl) (by rfl)) pa_nil (by rfl)) (by rfl)) (pg_name (i := 2) sc_l_meets.nd rfl (Or.inl rfl)) (@pss_one _ _ _ (@ps_for _ _ _ _ _ _ _ _ PassesOwn.never rfl (@pi_enum _ _ _ _ _ _ _ _ (by rfl) T.z_enumerate (@pa_cons _ _ _ _ _ (@pe_call _ _ _ _ _ _ _ _ _ _ _ _ _ _ _ _ G_l_touches (hr.mono (by omega)) (by rfl) T.m_l_touches T.F_l_touches.kp T.b_l_touches .nil pass0 (@pa_cons _ _ _ _ _ (@pe_ix _ _ _ _ _ _ _ ix_list (pv 0) (pv 2) (fun _ _ => rfl)) pa_nil (by rfl)) (by decide) (by rfl) (by rfl)) pa_nil (by rfl)) (by rfl)) (pg_tup rfl (pgs_cons (pg_name (i := 3) sc_l_meets.nd rfl (Or.inl rfl)) (pgs_cons (pg_name (i := 4) sc_l_meets.nd rfl (Or.inl rfl)) pgs_nil))) (@pss_one _ _ _ (@ps_expr _ _ _ _ (@pe_bm _ _ _ _ _ _ _ _ _ _ _ _ PySem.F.plainAttrs_list PySem.F.slot_list_append PySem.F.type_list_append mt_append (pv 1) (@pa_cons _ _ _ _ _ (@pe_tupq _ _ _ _ _ (@paq_cons _ _ _ _ _ (pv 2) (@paq_cons _ _ _ _ _ (pv 3) (@paq_cons _ _ _ _ _ (pv 4) paq_nil star_N) star_N) star_N)) pa_nil (by rfl)) (by rfl) (by rfl) (by rfl) (by rfl) (by rfl)) (by rfl))) (by intro _ ; rfl))) (by intro _ ; rfl)) (@pss_cons _ _ _ _ _ (@ps_set _ _ (5) _ _ _ _ sc_l_meets.nd rfl (Or.inl rfl) (@pe_lst _ _ _ _ pa_nil) (by rfl) (by first | exact .inl rfl | exact .inr rfl | assumption)) (@pss_cons _ _ _ _ _ (@ps_for _ _ _ _ _ _ _ _ PassesOwn.never rfl (@pi_list _ _ _ _ (pv 1)) (pg_tup rfl (pgs_cons (pg_name (i := 2) sc_l_meets.nd rfl (Or.inl rfl)) (pgs_cons (pg_name (i := 3) sc_l_meets.nd rfl (Or.inl rfl)) (pgs_cons (pg_name (i := 6) sc_l_meets.nd rfl (Or.inl rfl)) pgs_nil)))) (@pss_one _ _ _ (@ps_for _ _ _ _ _ _ _ _ PassesOwn.never rfl (@pi_list _ _ _ _ (pv 1)) (pg_tup rfl (pgs_cons (pg_name (i := 7) sc_l_meets.nd rfl (Or.inl rfl)) (pgs_cons (pg_name (i := 8) sc_l_meets.nd rfl (Or.inl rfl)) (pgs_cons (pg_name (i := 9) sc_l_meets.nd rfl (Or.inl rfl)) pgs_nil)))) (@pss_one _ _ _ (@ps_if _ _ _ _ _ _ _ _ ((@pw_and _ _ _ _ _ _ _ (@pt_cmpR _ _ _ _ _ _ _ _ op_eq (@pe_ix _ _ _ _ _ _ _ ix_tup (pv 6) pe_int (fun _ _ => rfl)) (@pe_ix _ _ _ _ _ _ _ ix_tup (pv 9) pe_int (fun _ _ => rfl)) (@nomark _ _ (by decide) (by decide))) (@pw_and1 _ _ _ _ ((@pw_or _ _ _ _ _ _ _ (@pt_val _ _ _ (@pe_ix _ _ _ _ _ _ _ ix_tup (pv 6) pe_int (fun _ _ => rfl)) (by intro _ ; rfl)) (@pw_or1 _ _ _ _ (@pt_val _ _ _ (@pe_ix _ _ _ _ _ _ _ ix_tup (pv 9) pe_int (fun _ _ => rfl)) (by intro _ ; rfl))))).pt))).pt (@pss_one _ _ _ (@ps_expr _ _ _ _ (@pe_bm _ _ _ _ _ _ _ _ _ _ _ _ PySem.F.plainAttrs_list PySem.F.slot_list_append PySem.F.type_list_append mt_append (pv 5) (@pa_cons _ _ _ _ _ (@pe_tupq _ _ _ _ _ (@paq_cons _ _ _ _ _ (pv 2) (@paq_cons _ _ _ _ _ (pv 3) (@paq_cons _ _ _ _ _ (pv 7) (@paq_cons _ _ _ _ _ (pv 8) paq_nil star_N) star_N) star_N) star_N)) pa_nil (by rfl)) (by rfl) (by rfl) (by rfl) (by rfl) (by rfl)) (by rfl))) pss_nil)) (by intro _ ; rfl))) (by intro _ ; rfl)) (@pss_one _ _ _ (@ps_ret _ _ _ _ (pv 5))))))), ?_⟩
  have xl := ax.1
  refine ⟨szl (by show 0 ≤ 1000000; decide), fun to hto0 => ?_⟩
  have e1 := same_new hto0 (.lst [])
  have hto1 : (upd H to (.lst [])) to = some (.lst []) := upd_same
  dsimp only [gName]
  generalize upd H to (.lst []) = H0 at e1 hto1
  refine seq_any (fun σ' H' => ∃ (ys : List V) (o2 o3 o4 : Option V), σ' = [some (.ref l), some (.ref to), o2, o3, o4, none, none, none, none, none] ∧ Same H H' ∧ H' to = some (.lst ys) ∧ All2 (T3At H') ys (al5 Rs)) (fun σ' H1 pp => ?_) (fun nx => ?_)
  rotate_left
  · refine ⟨_, rfl, l, _, rfl, .inl (SqL.of (e1 _ _ hl)), _, rfl, by omega, by omega, ?_⟩
    rw [Int.toNat_natCast]
    refine for_range (lo := 0) (n := xs.length) (fun i σ' H' => ∃ (ys : List V) (o2 o3 o4 : Option V), σ' = [some (.ref l), some (.ref to), o2, o3, o4, none, none, none, none, none] ∧ Same H H' ∧ H' to = some (.lst ys) ∧ All2 (T3At H') ys (al5 (Rs.take i))) ⟨[], _, _, _, rfl, e1, hto1, .nil⟩ (fun i σ' H' hi pp => ?_) (fun σ' H' pp => ?_)
    rotate_left
    · obtain ⟨ys, o2, o3, o4, rfl, e, hy, ay⟩ := pp
      rw [List.take_of_length_le (by omega)] at ay
      exact nx _ _ ⟨ys, _, _, _, rfl, e, hy, ay⟩
    obtain ⟨ys, o2, o3, o4, rfl, e, hys, ay⟩ := pp
    have hR : Rs[i]? = some (Rs[i]'(by omega)) := List.getElem?_eq_getElem (by omega)
    generalize Rs[i]'(by omega) = R at hR
    obtain ⟨y, hy, r5⟩ := ax.get hR
    have rok := ok R (List.mem_of_getElem? hR)
    have il : i < Rs.length := (List.getElem?_eq_some_iff.mp hR).1
    rw [Int.zero_add]
    refine ⟨_, rfl, _, rfl, l, _, _, _, rfl, rfl, SqL.of (e _ _ hl), atI_nat hy, y, R, rfl, r5.over e, by have := rok.ms; omega, fun tr ts H3 e3 htr0 hts ath => ?_⟩
    have tsl := ath.1
    have tll := tl5_len rok
    have hys3 := e3 _ _ hys
    have ay3 := ay.mono fun _ _ z => z.over e3
    have pl := al5_len (Rs := Rs.take i) (fun R hR => ok R (List.mem_of_mem_take hR)) (by rw [List.length_take]; omega)
    have nlf : tr ≠ to := fun z => by rw [z, hys] at htr0; cases htr0
    refine ⟨tr, rfl, ⟨_, SqL.of hts⟩, ?_⟩
    refine for_enum (xs := ts) (fun j σ' H4 => ∃ (zs : List V) (o3 o4 : Option V), σ' = [some (.ref l), some (.ref to), some (.int (i : Int)), o3, o4, none, none, none, none, none] ∧ (∀ b o, b ≠ to → H3 b = some o → H4 b = some o) ∧ H4 to = some (.lst zs) ∧ All2 (T3At H4) zs (al5 (Rs.take i) ++ Pm.tk3 i 0 ((tl5 R).take j))) ⟨ys, _, _, rfl, fun _ _ _ h => h, hys3, by show All2 _ _ (_ ++ []); rw [List.append_nil]; exact ay3⟩ (fun j σ' H4 _ pp => by obtain ⟨_, _, _, _, k4, _⟩ := pp; exact SqL.of (k4 _ _ nlf hts)) (fun j y2 Tt2 σ' H4 hy2 pp hT2 => ?_) (fun σ' H4 pp => ?_)
    · obtain ⟨zs, o4, o5, rfl, k4, hzs, az⟩ := pp
      obtain ⟨tb, htb, u, p, rfl, hu⟩ := ath.get' hy2
      have jl : j < (tl5 R).length := (List.getElem?_eq_some_iff.mp htb).1
      have nu : u ≠ to := fun z => by rw [z, hys3] at hu; cases hu
      have hu4 := k4 _ _ nu hu
      have sT2 := same_new hT2 (.tup [V.int (j : Int), V.ref u])
      refine ⟨Tt2, _, rfl, SqT.of upd_same, rfl, _, _, rfl, _, _, rfl, rfl, ?_⟩
      refine ⟨_, rfl, .inl ⟨rfl, _, SqL.of (sT2 _ _ hzs)⟩, _, rfl, _, rfl, _, rfl, szl (by show 3 ≤ 1000000; decide), fun r hr => ?_⟩
      have s6 := same_new hr (.tup [V.int (i : Int), V.int (j : Int), V.ref u])
      have e6 := sT2.trans s6
      have hz6 := e6 _ _ hzs
      have zl := az.1
      rw [List.length_append, Pm.tk3_len, List.length_take] at zl
      refine ⟨to, _, _, rfl, rfl, hz6, szlt (by omega), ?_⟩
      have tk := TK.upd (o := .lst (zs ++ [V.ref r])) hz6
      refine ⟨zs ++ [.ref r], _, _, rfl, fun b o hb h => by rw [upd_ne hb]; exact e6 _ _ (k4 b o hb h), upd_same, ?_⟩
      rw [take_snoc htb, Pm.tk3_snoc, ← List.append_assoc]
      refine (az.mono fun _ _ z => (z.over e6).tk tk).snoc ⟨r, u, p, rfl, ?_, tk _ _ (e6 _ _ hu4)⟩
      rw [List.length_take, Nat.min_eq_left (Nat.le_of_lt jl), Nat.zero_add]
      exact tk _ _ upd_same
    · obtain ⟨zs, o4, o5, rfl, k4, hzs, az⟩ := pp
      rw [tsl, List.take_length] at az
      refine ⟨zs, _, _, _, rfl, fun b o hb => k4 _ _ (ne_of_none hb hto0) (e3 _ _ (e _ _ hb)), hzs, ?_⟩
      show All2 _ _ (Pm.all3 0 ((Rs.take (i + 1)).map tl5))
      rw [take_snoc hR, List.map_append]
      show All2 _ _ (Pm.all3 0 ((Rs.take i).map tl5 ++ [tl5 R]))
      rw [Pm.all3_snoc, List.length_map, List.length_take, Nat.min_eq_left (Nat.le_of_lt il), Nat.zero_add]
      exact az
  obtain ⟨ys, o2, o3, o4, rfl, e1', hto, at1⟩ := pp
  refine ⟨szl (by show 0 ≤ 1000000; decide), fun fo hfo => ?_⟩
  have e2 := same_new hfo (.lst [])
  have hfo2 : (upd H1 fo (.lst [])) fo = some (.lst []) := upd_same
  dsimp only [gName]
  generalize upd H1 fo (.lst []) = H2 at e2 hfo2
  have tl := al5_len ok n6
  have ysl := at1.1
  have nyf : to ≠ fo := ne_of_none hto hfo
  refine ⟨_, rfl, to, rfl, ⟨_, SqL.of (e2 _ _ hto)⟩, ?_⟩
  refine for_list (xs := ys) (fun i σ' H' => ∃ (zs : List V) (q2 q3 q4 q6 q7 q8 q9 : Option V), σ' = [some (.ref l), some (.ref to), q2, q3, q4, some (.ref fo), q6, q7, q8, q9] ∧ Same H1 H' ∧ H' fo = some (.lst zs) ∧ All2 (Q4At H') zs (Pm.mtF ((al5 Rs).take i) (al5 Rs))) ⟨[], _, _, _, _, _, _, _, rfl, e2, hfo2, .nil⟩ (fun i σ' H' _ pp => by obtain ⟨_, _, _, _, _, _, _, _, _, e, _⟩ := pp; exact SqL.of (e _ _ hto)) (fun i y σ' H' hy pp => ?_) (fun σ' H' pp => ?_)
  rotate_left
  · obtain ⟨zs, q2, q3, q4, q6, q7, q8, q9, rfl, e, hzs, az⟩ := pp
    rw [List.take_of_length_le (by omega)] at az
    exact ⟨_, rfl, q fo _ (e1'.trans e) ⟨zs, hzs, az⟩⟩
  obtain ⟨zs, q2, q3, q4, q6, q7, q8, q9, rfl, e, hzs, az⟩ := pp
  obtain ⟨X, hX, t, u, p1, rfl, ht, hu⟩ := (at1.mono fun _ _ z => z.over e).get' hy
  have il : i < (al5 Rs).length := (List.getElem?_eq_some_iff.mp hX).1
  refine ⟨t, _, rfl, SqT.of ht, rfl, _, _, rfl, _, _, rfl, _, _, rfl, rfl, ?_⟩
  have mlen := Pm.mtF_len (al5 Rs) ((al5 Rs).take i)
  rw [List.length_take, Nat.min_eq_left (Nat.le_of_lt il)] at mlen
  have ml2 : i * (al5 Rs).length ≤ 186 * 186 := Nat.mul_le_mul (by omega) tl
  refine ⟨_, rfl, to, rfl, ⟨_, SqL.of (e _ _ hto)⟩, ?_⟩
  refine for_list (xs := ys) (fun j σ' H4 => ∃ (ws : List V) (q7 q8 q9 : Option V), σ' = [some (.ref l), some (.ref to), some (.int (X.k : Int)), some (.int (X.a : Int)), q4, some (.ref fo), some (.ref u), q7, q8, q9] ∧ (∀ b o, b ≠ fo → H' b = some o → H4 b = some o) ∧ H4 fo = some (.lst ws) ∧ All2 (Q4At H4) ws (Pm.mtF ((al5 Rs).take i) (al5 Rs) ++ Pm.in1 X ((al5 Rs).take j))) ⟨zs, _, _, _, rfl, fun _ _ _ h => h, hzs, by show All2 _ _ (_ ++ []); rw [List.append_nil]; exact az⟩ (fun j σ' H4 _ pp => by obtain ⟨_, _, _, _, _, k4, _⟩ := pp; exact SqL.of (k4 _ _ nyf (e _ _ hto))) (fun j y2 σ' H4 hy2 pp => ?_) (fun σ' H4 pp => ?_)
  rotate_left
  · obtain ⟨ws, q7, q8, q9, rfl, k4, hws, aw⟩ := pp
    rw [ysl, List.take_length, ← Pm.mtF_snoc, ← take_snoc hX] at aw
    exact ⟨ws, _, _, _, _, _, _, _, rfl, fun b o hb => k4 _ _ (ne_of_none hb hfo) (e _ _ hb), hws, aw⟩
  obtain ⟨ws, q7, q8, q9, rfl, k4, hws, aw⟩ := pp
  have tk4 : TK H' H4 := fun b o hb => k4 _ _ (ne_of hb hzs (by intro z; cases z)) hb
  obtain ⟨Y, hY, t2, u2, p2, rfl, ht2, hu2⟩ := (at1.mono fun _ _ z => (z.over e).tk tk4).get' hy2
  have hu4 := tk4 _ _ hu
  refine ⟨t2, _, rfl, SqT.of ht2, rfl, _, _, rfl, _, _, rfl, _, _, rfl, rfl, ?_⟩
  have wl := aw.1
  have il2 := Pm.in1_len X ((al5 Rs).take j)
  rw [List.length_append] at wl
  rw [List.length_take] at il2
  refine if_thn (fun H'' => H'' = H4 ∧ Pm.ok X Y = true) (fun H'' hh => ?_) (fun go => ?_)
  · obtain ⟨rfl, h⟩ := hh
    refine ⟨_, rfl, .inl ⟨rfl, _, SqL.of hws⟩, _, rfl, _, rfl, _, rfl, _, rfl, szl (by show 4 ≤ 1000000; decide), fun r hr => ?_⟩
    have s6 := same_new hr (.tup [V.int (X.k : Int), V.int (X.a : Int), V.int (Y.k : Int), V.int (Y.a : Int)])
    have hw6 := s6 _ _ hws
    refine ⟨fo, _, _, rfl, rfl, hw6, szlt (by omega), ?_⟩
    have tk := TK.upd (o := .lst (ws ++ [V.ref r])) hw6
    refine ⟨ws ++ [.ref r], _, _, _, rfl, fun b o hb h => by rw [upd_ne hb]; exact s6 _ _ (k4 b o hb h), upd_same, ?_⟩
    rw [take_snoc hY, Pm.in1_snoc, h, if_pos rfl, ← List.append_assoc]
    exact (aw.mono fun _ _ z => (z.over s6).tk tk).snoc ⟨r, rfl, tk _ _ upd_same⟩
  have no : Pm.ok X Y = false → All2 (Q4At H4) ws (Pm.mtF ((al5 Rs).take i) (al5 Rs) ++ Pm.in1 X ((al5 Rs).take (j + 1))) := fun h => by
    rw [take_snoc hY, Pm.in1_snoc, h, if_neg (by decide), List.append_nil]
    exact aw
  refine ⟨_, rfl, u, _, 1, _, rfl, rfl, SqT.of hu4, rfl, _, rfl, u2, _, 1, _, rfl, rfl, SqT.of hu2, rfl, rfl, _, rfl, ?_⟩
  by_cases cz : X.z = Y.z
  · refine iteE (v := true) (decide_eq_true (congrArg V.str cz)) (iteT ?_)
    refine ⟨_, rfl, u, _, 0, _, rfl, rfl, SqT.of hu4, rfl, _, rfl, ?_⟩
    cases cb : X.b with
    | true => exact iteT (go _ ⟨rfl, by unfold Pm.ok; rw [decide_eq_true cz, cb]; rfl⟩)
    | false =>
      refine iteF ?_
      refine ⟨_, rfl, u2, _, 0, _, rfl, rfl, SqT.of hu2, rfl, _, rfl, ?_⟩
      cases cd : Y.b with
      | true => exact iteT (go _ ⟨rfl, by unfold Pm.ok; rw [decide_eq_true cz, cb, cd]; rfl⟩)
      | false => exact iteF ⟨ws, _, _, _, rfl, k4, hws, no (by unfold Pm.ok; rw [cb, cd, Bool.or_self, Bool.and_false])⟩
  · refine iteE (v := false) (decide_eq_false fun z => cz (V.str.inj z)) (iteF ?_)
    exact ⟨ws, _, _, _, rfl, k4, hws, no (by unfold Pm.ok; rw [decide_eq_false cz]; rfl)⟩

theorem ok_alike_numbers (T : Tx K mg a) : FnOk P w K mg base CX0 1 a.f_alike_numbers a.d_alike_numbers ["path", "other", "most"] spAlikeN := by
  refine T.F_alike_numbers.ok sc_alike_numbers (fun vs H Q E h => ?_) (fun cdv A outer s H vs Q E hr h => ?_)
  · obtain ⟨_, _, _, _, _, _, rfl, _⟩ := h; rfl
  obtain ⟨p1, p2, xs, ys, m, k, rfl, hp1, hp2, hm1, hm2, hm3, hkm, ke, kn, q⟩ := h
  refine ⟨_, (@pss_cons _ _ _ _ _ (@ps_for _ _ _ _ _ _ _ _ PassesOwn.never rfl (@pi_range1 _ _ _ _ _ _ (by rfl) T.z_range (@pa_cons _ _ _ _ _ (pv 2) pa_nil (by rfl)) (by rfl)) (pg_name (i := 3) sc_alike_numbers.nd rfl (Or.inl rfl)) (@pss_one _ _ _ (@ps_if _ _ _ _ _ _ _ _ (@pt_cmpR _ _ _ _ _ _ _ _ op_ne (@pe_ix _ _ _ _ _ _ _ ix_tup (pv 0) (pv 3) (fun _ _ => rfl)) (@pe_ix _ _ _ _ _ _ _ ix_tup (pv 1) (pv 3) (fun _ _ => rfl)) (@nomark _ _ (by decide) (by decide))) (@pss_one _ _ _ (@ps_ret _ _ _ _ (pv 3))) pss_nil)) (by intro _ ; rfl)) (@pss_one _ _ _ (@ps_ret _ _ _ _ (pv 2)))), ?_⟩
  refine ⟨_, rfl, _, rfl, by omega, by omega, ?_⟩
  refine for_range (lo := 0) (n := m) (fun i σ' H' => H' = H ∧ (∃ o, σ' = [some (.ref p1), some (.ref p2), some (.int (m : Int)), o]) ∧ i ≤ k) ⟨rfl, ⟨_, rfl⟩, Nat.zero_le _⟩ (fun i σ' H' hi p => ?_) (fun σ' H' p => ?_)
  · obtain ⟨rfl, ⟨o, rfl⟩, hik⟩ := p
    have a1 : atI (xs.map V.int) (0 + (i : Int)) = some (.int (xs.getD i 0)) := by
      have := cell_in (ns := xs) (k := 0 + (i : Int)) (by omega) (by omega)
      rwa [show (0 + (i : Int)).toNat = i by rw [Int.zero_add]; rfl] at this
    have a2 : atI (ys.map V.int) (0 + (i : Int)) = some (.int (ys.getD i 0)) := by
      have := cell_in (ns := ys) (k := 0 + (i : Int)) (by omega) (by omega)
      rwa [show (0 + (i : Int)).toNat = i by rw [Int.zero_add]; rfl] at this
    refine ⟨_, rfl, _, rfl, p1, _, _, _, rfl, rfl, SqT.of hp1, a1, ?_⟩
    refine ⟨_, rfl, _, rfl, p2, _, _, _, rfl, rfl, SqT.of hp2, a2, rfl, _, rfl, ?_⟩
    by_cases hk : i < k
    · refine iteE (ndF (congrArg V.int (ke i hk))) (iteF ?_)
      exact ⟨rfl, ⟨_, rfl⟩, hk⟩
    · have e : i = k := by omega
      subst e
      refine iteE (ndT (fun z => kn hi (V.int.inj z))) (iteT ?_)
      exact ⟨_, rfl, by rw [Int.zero_add]; exact q⟩
  · obtain ⟨rfl, ⟨o, rfl⟩, hik⟩ := p
    have e : m = k := by omega
    subst e
    exact ⟨_, rfl, q⟩

theorem ok_shared (T : Tx K mg a) : FnOk P w K mg base CX0 2 a.f_shared a.d_shared ["one", "other"] (spShared55 a.c_Deed (csOf a)) := by
  have G_alike_numbers := ok_alike_numbers (P := P) (w := w) (base := base) T
  refine T.F_shared.ok sc_shared (fun vs H Q E h => ?_) (fun cdv A outer s H vs Q E hr h => ?_)
  · obtain ⟨_, _, _, _, _, rfl, _⟩ := h; rfl
  obtain ⟨x, y, R, S, k, rfl, hx, hy, oR, oS, ⟨k1, k2, ke, kn⟩, q⟩ := h
  refine ⟨_, (@pss_one _ _ _ (@ps_ret _ _ _ _ (@pe_call _ _ _ _ _ _ _ _ _ _ _ _ _ _ _ _ G_alike_numbers (hr.mono (by omega)) (by rfl) T.m_alike_numbers T.F_alike_numbers.kp T.b_alike_numbers .nil pass0 (@pa_cons _ _ _ _ _ (@pe_fld _ _ _ _ _ (pv 0) rfl) (@pa_cons _ _ _ _ _ (@pe_fld _ _ _ _ _ (pv 1) rfl) (@pa_cons _ _ _ _ _ (@pe_callB _ _ _ _ _ _ _ _ _ (@call_min2 _ rfl) (by rfl) T.z_min bt_min (@pa_cons _ _ _ _ _ (@pe_callB _ _ _ _ _ _ _ _ _ call_len_seq (by rfl) T.z_len bt_len (@pa_cons _ _ _ _ _ (@pe_fld _ _ _ _ _ (pv 0) rfl) pa_nil (by rfl)) (by decide) (by decide) (by rfl) (by rfl)) (@pa_cons _ _ _ _ _ (@pe_callB _ _ _ _ _ _ _ _ _ call_len_seq (by rfl) T.z_len bt_len (@pa_cons _ _ _ _ _ (@pe_fld _ _ _ _ _ (pv 1) rfl) pa_nil (by rfl)) (by decide) (by decide) (by rfl) (by rfl)) pa_nil (by rfl)) (by rfl)) (by decide) (by decide) (by rfl) (by rfl)) pa_nil (by rfl)) (by rfl)) (by rfl)) (by decide) (by rfl) (by rfl)))), ?_⟩
  obtain ⟨d1, dx1, nm1, pt1, _, _, _, xs1, rfl, hd1, hn1, l1, hp1, _⟩ := hx
  obtain ⟨d2, dx2, nm2, pt2, _, _, _, xs2, rfl, hd2, hn2, l2, hp2, _⟩ := hy
  have p1 := oR.pl
  have p2 := oS.pl
  have q1 := oR.n3
  have q2 := oS.n3
  have hm : (if ((xs2.length : Nat) : Int) < ((xs1.length : Nat) : Int) then ((xs2.length : Nat) : Int) else ((xs1.length : Nat) : Int)) = ((min R.n S.n : Nat) : Int) := by split <;> omega
  refine ⟨_, rfl, d1, _, dx1, _, _, rfl, hd1, T.cl_Deed, T.n_Deed_path, rfl, _, rfl, d2, _, dx2, _, _, rfl, hd2, T.cl_Deed, T.n_Deed_path, rfl, ?_⟩
  refine ⟨_, rfl, d1, _, dx1, _, _, rfl, hd1, T.cl_Deed, T.n_Deed_names, rfl, nm1, _, rfl, .inr (SqT.of hn1), ?_⟩
  refine ⟨_, rfl, d2, _, dx2, _, _, rfl, hd2, T.cl_Deed, T.n_Deed_names, rfl, nm2, _, rfl, .inr (SqT.of hn2), ?_⟩
  refine ⟨_, _, rfl, ?_⟩
  rw [hm]
  exact ⟨pt1, pt2, R.path, S.path, min R.n S.n, k, rfl, hp1, hp2, by omega, by omega, by omega, by omega, ke, kn, q⟩

theorem ok_cases (T : Tx K mg a) : FnOk P w K mg base CX0 3 a.f_cases a.d_cases ["program", "k", "l"] (spCases55 a.c_Program a.c_Deed (csOf a)) := by
  have G_shared := ok_shared (P := P) (w := w) (base := base) T
  refine T.F_cases.ok sc_cases (fun vs H Q E h => ?_) (fun cdv A outer s H vs Q E hr h => ?_)
  · obtain ⟨_, _, _, _, _, _, _, rfl, _⟩ := h; rfl
  obtain ⟨v, Rs, k, l, n, R, S, rfl, ⟨x, dx, dl, sz, xs, rfl, hx, hdl, ax⟩, ok, hR, hS, pf, q⟩ := h
  refine ⟨_, (@pss_cons _ _ _ _ _ (@ps_set _ _ (3) _ _ _ _ sc_cases.nd rfl (Or.inl rfl) (@pe_call _ _ _ _ _ _ _ _ _ _ _ _ _ _ _ _ G_shared (hr.mono (by omega)) (by rfl) T.m_shared T.F_shared.kp T.b_shared .nil pass0 (@pa_cons _ _ _ _ _ (@pe_ix _ _ _ _ _ _ _ ix_list (@pe_fld _ _ _ _ _ (pv 0) rfl) (pv 1) (fun _ _ => rfl)) (@pa_cons _ _ _ _ _ (@pe_ix _ _ _ _ _ _ _ ix_list (@pe_fld _ _ _ _ _ (pv 0) rfl) (pv 2) (fun _ _ => rfl)) pa_nil (by rfl)) (by rfl)) (by decide) (by rfl) (by rfl)) (by rfl) (by first | exact .inl rfl | exact .inr rfl | assumption)) (@pss_cons _ _ _ _ _ (@ps_if _ _ _ _ _ _ _ _ (@pt_cmpR _ _ _ _ _ _ _ _ op_lt (pv 1) (pv 2) (@nomark _ _ (by decide) (by decide))) (@pss_one _ _ _ (@ps_aug _ _ (3) _ _ _ _ _ _ sc_cases.nd rfl (Or.inl rfl) pe_int ip_add (by first | exact .inl rfl | exact .inr rfl | assumption))) pss_nil) (@pss_one _ _ _ (@ps_ret _ _ _ _ (@pe_lrange _ _ _ _ _ _ _ rfl (by rfl) T.z_list (by rfl) T.z_range (@pa_cons _ _ _ _ _ (pv 3) pa_nil (by rfl)) (by rfl)))))), ?_⟩
  obtain ⟨y1, hy1, d1⟩ := ax.get hR
  obtain ⟨y2, hy2, d2⟩ := ax.get hS
  have oR := ok R (List.mem_of_getElem? hR)
  have k1 := pf.1
  have k3 := oR.n3
  refine ⟨_, rfl, x, _, dx, _, _, rfl, hx, T.cl_Program, T.n_Program_deeds, rfl, _, rfl, dl, _, _, _, rfl, rfl, SqL.of hdl, atI_nat hy1, _, rfl, x, _, dx, _, _, rfl, hx, T.cl_Program, T.n_Program_deeds, rfl, _, rfl, dl, _, _, _, rfl, rfl, SqL.of hdl, atI_nat hy2, y1, y2, R, S, n, rfl, d1, d2, oR, ok S (List.mem_of_getElem? hS), pf, ?_⟩
  dsimp only [gName]
  refine seq_any (fun σ' H' => H' = H ∧ σ' = [some (.ref x), some (.int (k : Int)), some (.int (l : Int)), some (.int ((caN k l n : Nat) : Int))]) (fun σ' H' pp => ?_) (fun nx => ?_)
  · obtain ⟨rfl, rfl⟩ := pp
    have c4 : caN k l n ≤ 4 := by unfold caN; split <;> omega
    exact ⟨_, rfl, caN k l n, rfl, by omega, fun r hr => q r _ (same_new hr _) hr upd_same⟩
  refine ⟨_, rfl, _, rfl, _, _, rfl, rfl, _, rfl, ite2 (fun c => ?_) (fun c => ?_)⟩
  · have c := dT c
    have : caN k l n = n + 1 := if_pos (by omega)
    exact ⟨_, rfl, _, _, rfl, rfl, nx _ _ ⟨rfl, by rw [this]; rfl⟩⟩
  · have c := dF c
    have : caN k l n = n := if_neg (by omega)
    exact nx _ _ ⟨rfl, by rw [this]; rfl⟩

theorem ok_lshared (T : Tx K mg a) : FnOk P w K mg base CX0 1 a.f_l_shared a.d_l_shared ["_law_one", "_law_other"] spSharedL55 := by
  refine T.F_l_shared.ok sc_l_shared (fun vs H Q E h => ?_) (fun cdv A outer s H vs Q E hr h => ?_)
  · obtain ⟨_, _, _, _, _, rfl, _⟩ := h; rfl
  obtain ⟨x, y, R, S, k, rfl, hx, hy, oR, oS, ⟨k1, k2, ke, kn⟩, q⟩ := h
  refine ⟨_, (@pss_cons _ _ _ _ _ (@ps_set _ _ (2) _ _ _ _ sc_l_shared.nd rfl (Or.inl rfl) pe_int (by rfl) (by first | exact .inl rfl | exact .inr rfl | assumption)) (@pss_cons _ _ _ _ _ (@ps_while _ _ _ _ _ _ PassesOwn.never ((@pw_and _ _ _ _ _ _ _ (@pt_cmpR _ _ _ _ _ _ _ _ op_lt (pv 2) (@pe_callB _ _ _ _ _ _ _ _ _ call_len_seq (by rfl) T.z_len bt_len (@pa_cons _ _ _ _ _ (@pe_ix _ _ _ _ _ _ _ ix_tup (pv 0) pe_int (fun _ _ => rfl)) pa_nil (by rfl)) (by decide) (by decide) (by rfl) (by rfl)) (@nomark _ _ (by decide) (by decide))) (@pw_and _ _ _ _ _ _ _ (@pt_cmpR _ _ _ _ _ _ _ _ op_lt (pv 2) (@pe_callB _ _ _ _ _ _ _ _ _ call_len_seq (by rfl) T.z_len bt_len (@pa_cons _ _ _ _ _ (@pe_ix _ _ _ _ _ _ _ ix_tup (pv 1) pe_int (fun _ _ => rfl)) pa_nil (by rfl)) (by decide) (by decide) (by rfl) (by rfl)) (@nomark _ _ (by decide) (by decide))) (@pw_and1 _ _ _ _ (@pt_cmpR _ _ _ _ _ _ _ _ op_eq (@pe_ix _ _ _ _ _ _ _ ix_tup (@pe_ix _ _ _ _ _ _ _ ix_tup (pv 0) pe_int (fun _ _ => rfl)) (pv 2) (fun _ _ => rfl)) (@pe_ix _ _ _ _ _ _ _ ix_tup (@pe_ix _ _ _ _ _ _ _ ix_tup (pv 1) pe_int (fun _ _ => rfl)) (pv 2) (fun _ _ => rfl)) (@nomark _ _ (by decide) (by decide))))))).pt (@pss_one _ _ _ (@ps_set _ _ (2) _ _ _ _ sc_l_shared.nd rfl (Or.inl rfl) (@pe_op _ _ _ _ _ _ _ _ op_add (pv 2) pe_int) (by rfl) (by first | exact .inl rfl | exact .inr rfl | assumption)))) (@pss_one _ _ _ (@ps_ret _ _ _ _ (pv 2))))), ?_⟩
  obtain ⟨r1, u1, w1, _, _, _, xs1, rfl, hr1, hu1, l1, _, hw1, _⟩ := hx
  obtain ⟨r2, u2, w2, _, _, _, xs2, rfl, hr2, hu2, l2, _, hw2, _⟩ := hy
  have p1 := oR.pl
  have p2 := oS.pl
  have q1 := oR.n3
  refine seq_asgC ?_
  refine seq_any (fun σ' H' => H' = H ∧ σ' = [some (.ref r1), some (.ref r2), some (.int (k : Int))]) (fun σ' H' pp => ?_) (fun nx => ?_)
  · obtain ⟨rfl, rfl⟩ := pp
    exact ⟨_, rfl, q⟩
  refine while_ix k (fun i σ' H' => H' = H ∧ σ' = [some (.ref r1), some (.ref r2), some (.int (i : Int))] ∧ i ≤ k) ⟨rfl, rfl, Nat.zero_le _⟩ (fun i σ' H' hi pp => ?_) (MT.and (MT.test (ME.op (MR.i0 _) (ME.var _) (ME.cb MB.len (MA.cons (ME.op (MR.ixT _) (ME.var _) (ME.c _)) MA.nil)))) (MT.and (MT.test (ME.op (MR.i0 _) (ME.var _) (ME.cb MB.len (MA.cons (ME.op (MR.ixT _) (ME.var _) (ME.c _)) MA.nil)))) (MT.test (ME.op MR.eq (ME.op (MR.ixT _) (ME.op (MR.ixT _) (ME.var _) (ME.c _)) (ME.var _)) (ME.op (MR.ixT _) (ME.op (MR.ixT _) (ME.var _) (ME.c _)) (ME.var _))))))
  · obtain ⟨rfl, rfl, ik⟩ := pp
    refine ⟨_, rfl, _, rfl, r1, _, 0, _, rfl, rfl, SqT.of hr1, rfl, u1, _, rfl, .inr (SqT.of hu1), _, _, rfl, rfl, _, rfl, ite2 (fun c => ?_) (fun c => ?_)⟩
    rotate_left
    · have c := dF c
      have e : i = k := by omega
      subst e
      exact nx _ _ ⟨rfl, rfl⟩
    have c := dT c
    refine ⟨_, rfl, _, rfl, r2, _, 0, _, rfl, rfl, SqT.of hr2, rfl, u2, _, rfl, .inr (SqT.of hu2), _, _, rfl, rfl, _, rfl, ite2 (fun c2 => ?_) (fun c2 => ?_)⟩
    rotate_left
    · have c2 := dF c2
      have e : i = k := by omega
      subst e
      exact nx _ _ ⟨rfl, rfl⟩
    have c2 := dT c2
    have at1 : atI (R.path.map V.int) (i : Int) = some (.int (R.path.getD i 0)) := cell_in (ns := R.path) (k := (i : Int)) (Int.natCast_nonneg _) (by omega)
    have at2 : atI (S.path.map V.int) (i : Int) = some (.int (S.path.getD i 0)) := cell_in (ns := S.path) (k := (i : Int)) (Int.natCast_nonneg _) (by omega)
    refine ⟨_, rfl, r1, _, 6, _, rfl, rfl, SqT.of hr1, rfl, _, rfl, w1, _, _, _, rfl, rfl, SqT.of hw1, at1, _, rfl, r2, _, 6, _, rfl, rfl, SqT.of hr2, rfl, _, rfl, w2, _, _, _, rfl, rfl, SqT.of hw2, at2, rfl, _, rfl, ?_⟩
    by_cases hk : i < k
    · refine iteE (v := true) (decide_eq_true (congrArg V.int (ke i hk))) (iteT ?_)
      exact ⟨hk, _, rfl, _, _, rfl, rfl, rfl, rfl, hk⟩
    · have e : i = k := by omega
      subst e
      refine iteE (v := false) (decide_eq_false fun z => kn (by omega) (V.int.inj z)) (iteF ?_)
      exact nx _ _ ⟨rfl, rfl⟩

theorem ok_lcases (T : Tx K mg a) : FnOk P w K mg base CX0 2 a.f_l_cases a.d_l_cases ["_law_rows_here", "_law_k", "_law_l"] spCasesL55 := by
  have G_l_shared := ok_lshared (P := P) (w := w) (base := base) T
  refine T.F_l_cases.ok sc_l_cases (fun vs H Q E h => ?_) (fun cdv A outer s H vs Q E hr h => ?_)
  · obtain ⟨_, _, _, _, _, _, _, rfl, _⟩ := h; rfl
  obtain ⟨l0, Rs, k, l, n, R, S, rfl, ⟨xs, hl0, ax⟩, ok, hR, hS, pf, q⟩ := h
  refine ⟨_, (@pss_cons _ _ _ _ _ (@ps_set _ _ (3) _ _ _ _ sc_l_cases.nd rfl (Or.inr rfl) (@pe_call _ _ _ _ _ _ _ _ _ _ _ _ _ _ _ _ G_l_shared (hr.mono (by omega)) (by rfl) T.m_l_shared T.F_l_shared.kp T.b_l_shared .nil pass0 (@pa_cons _ _ _ _ _ (@pe_ix _ _ _ _ _ _ _ ix_list (pv 0) (pv 1) (fun _ _ => rfl)) (@pa_cons _ _ _ _ _ (@pe_ix _ _ _ _ _ _ _ ix_list (pv 0) (pv 2) (fun _ _ => rfl)) pa_nil (by rfl)) (by rfl)) (by decide) (by rfl) (by rfl)) (by rfl) (by first | exact .inl rfl | exact .inr rfl | assumption)) (@pss_one _ _ _ (@ps_ret _ _ _ _ (@pe_compB _ _ _ _ _ _ _ ["_law_e", "_law_k", "_law_l", "_law_many_here"] [none, some 1, some 2, some 3] _ _ _ _ (by rfl) (@pi_range1 _ _ _ _ _ _ (by rfl) T.z_range (@pa_cons _ _ _ _ _ (@pe_op _ _ _ _ _ _ _ _ op_add (pv 3) pe_int) pa_nil (by rfl)) (by rfl)) c_l_cases_0 (fun _ _ _ _ _ _ => ⟨(pg_name (i := 0) c_l_cases_0n rfl (Or.inl rfl)), (@pts_one _ _ _ ((@pw_or _ _ _ _ _ _ _ (@pt_cmpR _ _ _ _ _ _ _ _ op_lt (pv 0) (pv 3) (@nomark _ _ (by decide) (by decide))) (@pw_or1 _ _ _ _ (@pt_cmpR _ _ _ _ _ _ _ _ op_lt (pv 1) (pv 2) (@nomark _ _ (by decide) (by decide)))))).pt), (pv 0)⟩) (by intro _ ; rfl))))), ?_⟩
  obtain ⟨y1, hy1, d1⟩ := ax.get hR
  obtain ⟨y2, hy2, d2⟩ := ax.get hS
  have oR := ok R (List.mem_of_getElem? hR)
  have k1 := pf.1
  have k3 := oR.n3
  refine ⟨_, rfl, _, rfl, l0, _, _, _, rfl, rfl, SqL.of hl0, atI_nat hy1, _, rfl, _, rfl, l0, _, _, _, rfl, rfl, SqL.of hl0, atI_nat hy2, y1, y2, R, S, n, rfl, d1, d2, oR, ok S (List.mem_of_getElem? hS), pf, ?_⟩
  dsimp only [gName]
  refine ⟨_, rfl, _, _, rfl, rfl, _, rfl, by omega, by omega, ?_⟩
  refine comp_range (n := n + 1) (fun m ys H' => H' = H ∧ ys = (List.range (if k < l then m else min m n)).map (fun i : Nat => V.int (i : Int))) ⟨rfl, by split <;> simp⟩ (szl (by omega)) (fun m ys H' hm pp => by rw [pp.2, List.length_map, List.length_range]; split <;> omega) (fun m ys H' hm pp => ?_) (fun ys H' pp r hr => ?_)
  · obtain ⟨rfl, rfl⟩ := pp
    have grow : (k < l ∨ m < n) → (List.range (if k < l then m else min m n)).map (fun i : Nat => V.int (i : Int)) ++ [V.int (0 + (m : Int))] = (List.range (if k < l then m + 1 else min (m + 1) n)).map (fun i : Nat => V.int (i : Int)) := fun h => by
      have e1 : (if k < l then m else min m n) = m := by split <;> omega
      have e2 : (if k < l then m + 1 else min (m + 1) n) = m + 1 := by split <;> omega
      rw [e1, e2, List.range_succ, List.map_append, Int.zero_add]
      rfl
    refine ⟨_, rfl, _, rfl, _, _, rfl, rfl, _, rfl, ite2 (fun c => ?_) (fun c => ?_)⟩
    · have c := dT c
      exact iteT ⟨_, rfl, rfl, grow (.inr (by omega))⟩
    have c := dF c
    refine ⟨_, rfl, _, rfl, _, _, rfl, rfl, _, rfl, ?_⟩
    by_cases c2 : (k : Int) < (l : Int)
    · refine iteE (v := true) (decide_eq_true c2) (iteT ⟨_, rfl, rfl, grow (.inl (by omega))⟩)
    · refine iteE (v := false) (decide_eq_false c2) (iteF ⟨rfl, ?_⟩)
      rw [if_neg (by omega), if_neg (by omega), Nat.min_eq_right (by omega), Nat.min_eq_right (by omega)]
  obtain ⟨rfl, rfl⟩ := pp
  refine q r _ (same_new hr _) ?_
  rw [upd_same]
  have : (if k < l then n + 1 else min (n + 1) n) = caN k l n := by unfold caN; split <;> omega
  rw [this]

theorem ok_numbers (T : Tx K mg a) : FnOk P w K mg base CX0 2 a.f_l_numbers a.d_l_numbers ["_law_found"] spNumbers55 := by
  have G_l_whole := ok_whole (P := P) (w := w) (base := base) T
  refine T.F_l_numbers.ok sc_l_numbers (fun vs H Q E h => ?_) (fun cdv A outer s H vs Q E hr h => ?_)
  · obtain ⟨_, _, rfl, _⟩ := h; rfl
  obtain ⟨l, L, rfl, hl, L1, q⟩ := h
  refine ⟨_, (@pss_one _ _ _ (@ps_ret _ _ _ _ (@pe_and _ _ _ _ _ _ _ (@pe_callB _ _ _ _ _ _ _ _ _ call_isi (by rfl) T.z_isinstance bt_isinstance (@pa_cons _ _ _ _ _ (pv 0) (@pa_cons _ _ _ _ _ (@pe_bltn _ _ (.ty "list") _ _ (by rfl) T.z_list bt_list rfl (by decide) (by decide)) pa_nil (by rfl)) (by rfl)) (by decide) (by decide) (by rfl) (by rfl)) (@pe_one _ _ _ _ _ (@pe_cmpR _ _ _ _ _ _ _ _ op_eq (@pe_callB _ _ _ _ _ _ _ _ _ call_len_seq (by rfl) T.z_len bt_len (@pa_cons _ _ _ _ _ (@pe_compB _ _ _ _ _ _ _ ["_law_n"] [none] _ _ _ _ (by rfl) (@pi_list _ _ _ _ (pv 0)) c_l_numbers_0 (fun _ _ _ _ _ _ => ⟨(pg_name (i := 0) c_l_numbers_0n rfl (Or.inl rfl)), (by exact (pts_one (pt_val (pe_call G_l_whole (hr.mono (by omega)) (by rfl) T.m_l_whole T.F_l_whole.kp T.b_l_whole .nil pass0 (pa_cons (pv 0) pa_nil))))), (pv 0)⟩) (by intro _ ; rfl)) pa_nil (by rfl)) (by decide) (by decide) (by rfl) (by rfl)) (@pe_callB _ _ _ _ _ _ _ _ _ call_len_seq (by rfl) T.z_len bt_len (@pa_cons _ _ _ _ _ (pv 0) pa_nil (by rfl)) (by decide) (by decide) (by rfl) (by rfl)) (@nomark _ _ (by decide) (by decide))))))), ?_⟩
  refine ⟨_, rfl, _, _, _, _, _, rfl, rfl, .lst hl, rfl, _, rfl, ?_⟩
  refine ⟨_, rfl, l, rfl, ⟨_, SqL.of hl⟩, ?_⟩
  refine comp_list (xs := L.map V.int) (fun i ys H' => H' = H ∧ ys.length = i) ⟨rfl, rfl⟩ (szl (by rw [List.length_map]; omega)) (fun i ys H' hi pp => ⟨by rw [pp.1]; exact SqL.of hl, by rw [pp.2]; exact Nat.le_refl _⟩) (fun i x ys H' hx pp => ?_) (fun ys H' pp r hr => ?_)
  · obtain ⟨rfl, yl⟩ := pp
    rw [List.getElem?_map] at hx
    cases c : L[i]? with
    | none => rw [c] at hx; cases hx
    | some n =>
      rw [c] at hx
      cases hx
      exact ⟨_, rfl, .int n, rfl, rfl, _, rfl, iteT ⟨_, rfl, rfl, by rw [List.length_append, yl]; rfl⟩⟩
  obtain ⟨rfl, yl⟩ := pp
  have s1 := same_new hr (.lst ys)
  refine ⟨r, _, rfl, .inl (SqL.of upd_same), _, rfl, l, _, rfl, .inl (SqL.of (s1 _ _ hl)), rfl, ?_⟩
  rw [yl]
  rw [show decide (V.int ((L.map V.int).length : Int) = V.int ((L.map V.int).length : Int)) = true from decide_eq_true rfl]
  exact q _ s1

theorem ok_rising (T : Tx K mg a) : FnOk P w K mg base CX0 2 a.f_l_rising a.d_l_rising ["_law_found"] spRising55 := by
  have G_l_whole := ok_whole (P := P) (w := w) (base := base) T
  refine T.F_l_rising.ok sc_l_rising (fun vs H Q E h => ?_) (fun cdv A outer s H vs Q E hr h => ?_)
  · obtain ⟨_, _, rfl, _⟩ := h; rfl
  obtain ⟨l, L, rfl, ⟨ys, hl, ay⟩, sorted, L1, q⟩ := h
  refine ⟨_, (@pss_cons _ _ _ _ _ (@ps_if _ _ _ _ _ _ _ _ (@pt_not _ _ _ _ (@pt_val _ _ _ (@pe_callB _ _ _ _ _ _ _ _ _ call_isi (by rfl) T.z_isinstance bt_isinstance (@pa_cons _ _ _ _ _ (pv 0) (@pa_cons _ _ _ _ _ (@pe_bltn _ _ (.ty "list") _ _ (by rfl) T.z_list bt_list rfl (by decide) (by decide)) pa_nil (by rfl)) (by rfl)) (by decide) (by decide) (by rfl) (by rfl)) (by intro _ ; rfl))) (@pss_one _ _ _ (@ps_ret _ _ _ _ pe_bl)) pss_nil) (@pss_cons _ _ _ _ _ (@ps_for _ _ _ _ _ _ _ _ PassesOwn.never rfl (@pi_list _ _ _ _ (pv 0)) (pg_name (i := 1) sc_l_rising.nd rfl (Or.inl rfl)) (@pss_one _ _ _ (@ps_if _ _ _ _ _ _ _ _ ((@pw_or _ _ _ _ _ _ _ (@pt_not _ _ _ _ (@pt_val _ _ _ (@pe_callB _ _ _ _ _ _ _ _ _ call_isi (by rfl) T.z_isinstance bt_isinstance (@pa_cons _ _ _ _ _ (pv 1) (@pa_cons _ _ _ _ _ (@pe_bltn _ _ (.ty "tuple") _ _ (by rfl) T.z_tuple bt_tuple rfl (by decide) (by decide)) pa_nil (by rfl)) (by rfl)) (by decide) (by decide) (by rfl) (by rfl)) (by intro _ ; rfl))) (@pw_or _ _ _ _ _ _ _ (@pt_cmpR _ _ _ _ _ _ _ _ op_ne (@pe_callB _ _ _ _ _ _ _ _ _ call_len_seq (by rfl) T.z_len bt_len (@pa_cons _ _ _ _ _ (pv 1) pa_nil (by rfl)) (by decide) (by decide) (by rfl) (by rfl)) pe_int (@nomark _ _ (by decide) (by decide))) (@pw_or1 _ _ _ _ (@pt_cmpR _ _ _ _ _ _ _ _ op_ne (@pe_callB _ _ _ _ _ _ _ _ _ call_len_seq (by rfl) T.z_len bt_len (@pa_cons _ _ _ _ _ (@pe_compB _ _ _ _ _ _ _ ["_law_n"] [none] _ _ _ _ (by rfl) (@pi_tup _ _ _ _ (pv 1)) c_l_rising_0 (fun _ _ _ _ _ _ => ⟨(pg_name (i := 0) c_l_rising_0n rfl (Or.inl rfl)), (by exact (pts_one (pt_val (pe_call G_l_whole (hr.mono (by omega)) (by rfl) T.m_l_whole T.F_l_whole.kp T.b_l_whole .nil pass0 (pa_cons (pv 0) pa_nil))))), (pv 0)⟩) (by intro _ ; rfl)) pa_nil (by rfl)) (by decide) (by decide) (by rfl) (by rfl)) pe_int (@nomark _ _ (by decide) (by decide))))))).pt (@pss_one _ _ _ (@ps_ret _ _ _ _ pe_bl)) pss_nil)) (by intro _ ; rfl)) (@pss_cons _ _ _ _ _ (@ps_for _ _ _ _ _ _ _ _ PassesOwn.never rfl (@pi_zip2 _ _ _ _ _ _ _ _ _ (by rfl) T.z_zip (@pa_cons _ _ _ _ _ (@pe_slice _ _ _ _ _ _ _ _ _ _ sl_list (pv 0) po_none (@po_some _ _ _ (@pe_un _ _ _ _ _ _ un_neg pe_int))) (@pa_cons _ _ _ _ _ (@pe_slice _ _ _ _ _ _ _ _ _ _ sl_list (pv 0) (@po_some _ _ _ pe_int) po_none) pa_nil (by rfl)) (by rfl)) (by rfl) (by rfl)) (pg_tup rfl (pgs_cons (pg_name (i := 2) sc_l_rising.nd rfl (Or.inl rfl)) (pgs_cons (pg_name (i := 3) sc_l_rising.nd rfl (Or.inl rfl)) pgs_nil))) (@pss_one _ _ _ (@ps_if _ _ _ _ _ _ _ _ (@pt_not _ _ _ _ (@pt_cmpR _ _ _ _ _ _ _ _ (@op_ltT _ (Nat.lt_of_succ_lt (@hu_of _ _ hr))) (pv 2) (pv 3) (@nomark _ _ (by decide) (by decide)))) (@pss_one _ _ _ (@ps_ret _ _ _ _ pe_bl)) pss_nil)) (by intro _ ; rfl)) (@pss_one _ _ _ (@ps_ret _ _ _ _ pe_bl))))), ?_⟩
  have yl := ay.1
  refine ⟨_, rfl, _, _, _, _, _, rfl, rfl, .lst hl, rfl, _, rfl, iteF ?_⟩
  dsimp only [tNext]
  refine seq_any (fun σ' H' => Same H H' ∧ ∃ o1, σ' = [some (.ref l), o1, none, none]) (fun σ' H1 pp => ?_) (fun nx => ?_)
  rotate_left
  · refine ⟨_, rfl, l, rfl, ⟨_, SqL.of hl⟩, ?_⟩
    refine for_list (xs := ys) (fun i σ' H' => Same H H' ∧ ∃ o1, σ' = [some (.ref l), o1, none, none]) ⟨Same.refl _, _, rfl⟩ (fun i σ' H' _ pp => SqL.of (pp.1 _ _ hl)) (fun i y σ' H' hy pp => ?_) (fun σ' H' pp => ?_)
    · obtain ⟨e, o1, rfl⟩ := pp
      obtain ⟨q4, hq4, t, rfl, ht⟩ := ay.get' hy
      have ht1 := e _ _ ht
      refine ⟨_, rfl, _, _, _, _, _, rfl, rfl, .tup ht1, rfl, _, rfl, iteF ?_⟩
      refine ⟨_, rfl, t, _, rfl, .inr (SqT.of ht1), rfl, _, rfl, iteE (ndF rfl) (iteF ?_)⟩
      refine ⟨_, rfl, t, rfl, ⟨_, SqT.of ht1⟩, ?_⟩
      refine comp_tup (xs := [V.int (q4.1 : Int), V.int (q4.2.1 : Int), V.int (q4.2.2.1 : Int), V.int (q4.2.2.2 : Int)]) (fun i zs H2 => H2 = H' ∧ zs.length = i) ⟨rfl, rfl⟩ (szl (by show 4 ≤ 1000000; decide)) (fun i zs H2 hi pp => ⟨by rw [pp.1]; exact SqT.of ht1, by rw [pp.2]; exact Nat.le_refl _⟩) (fun i x zs H2 hx pp => ?_) (fun zs H2 pp r hr => ?_)
      · obtain ⟨rfl, zl⟩ := pp
        obtain ⟨n, rfl⟩ : ∃ n : Int, x = V.int n := by
          have := List.mem_of_getElem? hx
          simp only [List.mem_cons, List.not_mem_nil, or_false] at this
          rcases this with rfl | rfl | rfl | rfl <;> exact ⟨_, rfl⟩
        exact ⟨_, rfl, .int n, rfl, rfl, _, rfl, iteT ⟨_, rfl, rfl, by rw [List.length_append, zl]; rfl⟩⟩
      obtain ⟨rfl, zl⟩ := pp
      have s1 := same_new hr (.lst zs)
      refine ⟨r, _, rfl, .inl (SqL.of upd_same), rfl, _, rfl, iteE (ndF (by rw [zl]; rfl)) (iteF ?_)⟩
      exact ⟨e.trans s1, _, rfl⟩
    · exact nx _ _ pp
  obtain ⟨e, o1, rfl⟩ := pp
  have c1 : cutV ys none (some (-1)) = ys.take (ys.length - 1) := by
    rcases List.eq_nil_or_concat ys with rfl | ⟨zs, z, rfl⟩
    · rfl
    · rw [List.concat_eq_append]
      rw [show cutV (zs ++ [z]) none (some (-1)) = zs from cutV_neg zs [z] (Nat.succ_pos _) rfl, List.length_append, List.length_singleton, Nat.add_sub_cancel, List.take_left' rfl]
  have c2 : cutV ys (some 1) none = ys.drop 1 := cut_from ys (i := 1) (by decide)
  refine ⟨_, rfl, _, rfl, _, rfl, l, _, rfl, SqL.of (e _ _ hl), fun l1 hl1 => ?_⟩
  rw [c1]
  have s2 := same_new hl1 (.lst (ys.take (ys.length - 1)))
  refine ⟨_, rfl, _, rfl, l, _, rfl, SqL.of (s2 _ _ (e _ _ hl)), fun l2 hl2 => ?_⟩
  rw [c2]
  have s3 := same_new hl2 (.lst (ys.drop 1))
  have e3 := e.trans (s2.trans s3)
  have hl13 := s3 _ _ (show (upd H1 l1 (.lst (ys.take (ys.length - 1)))) l1 = some (.lst (ys.take (ys.length - 1))) from upd_same)
  have hl23 : (upd (upd H1 l1 (.lst (ys.take (ys.length - 1)))) l2 (.lst (ys.drop 1))) l2 = some (.lst (ys.drop 1)) := upd_same
  generalize upd (upd H1 l1 (.lst (ys.take (ys.length - 1)))) l2 (.lst (ys.drop 1)) = H3 at e3 hl13 hl23
  refine ⟨l1, l2, rfl, ⟨_, SqL.of hl13⟩, ⟨_, SqL.of hl23⟩, ?_⟩
  refine for_zip (xs := ys.take (ys.length - 1)) (ys := ys.drop 1) (by rw [List.length_take, List.length_drop]; omega) (fun i σ' H' => Same H3 H' ∧ ∃ o1 o2 o3, σ' = [some (.ref l), o1, o2, o3]) ⟨Same.refl _, _, _, _, rfl⟩ (fun i σ' H' _ pp => ⟨SqL.of (pp.1 _ _ hl13), SqL.of (pp.1 _ _ hl23)⟩) (fun i y z Tt σ' H' hy hz pp hT => ?_) (fun σ' H' pp => ?_)
  · obtain ⟨e4, o1, o2, o3, rfl⟩ := pp
    have li := (List.getElem?_eq_some_iff.mp hy).1
    rw [List.length_take] at li
    rw [List.getElem?_take_of_lt (by omega)] at hy
    rw [List.getElem?_drop, Nat.add_comm] at hz
    obtain ⟨p4, hp4, t, rfl, ht⟩ := (ay.mono fun _ _ z => z.over (e3.trans e4)).get' hy
    obtain ⟨r4, hr4, u, rfl, hu⟩ := (ay.mono fun _ _ z => z.over (e3.trans e4)).get' hz
    obtain ⟨b1, g1⟩ := List.getElem?_eq_some_iff.mp hp4
    obtain ⟨b2, g2⟩ := List.getElem?_eq_some_iff.mp hr4
    have lt := List.pairwise_iff_getElem.mp sorted i (i + 1) b1 b2 (by omega)
    rw [g1, g2] at lt
    have sT := same_new hT (.tup [V.ref t, V.ref u])
    refine ⟨Tt, _, rfl, SqT.of upd_same, rfl, _, _, rfl, _, _, rfl, rfl, ?_⟩
    refine ⟨_, rfl, _, rfl, t, u, [(p4.1 : Int), p4.2.1, p4.2.2.1, p4.2.2.2], [(r4.1 : Int), r4.2.1, r4.2.2.1, r4.2.2.2], rfl, rfl, SqT.of (sT _ _ ht), SqT.of (sT _ _ hu), _, rfl, ?_⟩
    rw [lex_q4 lt]
    exact iteF ⟨e4.trans sT, _, _, _, rfl⟩
  · exact q _ (e3.trans pp.1)

theorem ok_rows (T : Tx K mg a) : FnOk P w K mg base CX0 6 a.f_l_rows a.d_l_rows ["_law_script", "_law_many_here"] (spRows55 K) := by
  have G_l_cell := ok_cell (P := P) (w := w) (base := base) T
  have G_l_mixed := ok_mixed (P := P) (w := w) (base := base) T
  have G_l_loop := ok_loop (P := P) (w := w) (base := base) T
  have G_l_row := ok_row (P := P) (w := w) (base := base) T
  have G_l_heads := ok_heads (P := P) (w := w) (base := base) T
  refine T.F_l_rows.ok sc_l_rows (fun vs H Q E h => ?_) (fun cdv A outer s H vs Q E hr h => ?_)
  · obtain ⟨_, _, _, rfl, _⟩ := h; rfl
  obtain ⟨p, ns, n, rfl, hp, h63, n6, q⟩ := h
  refine ⟨_, (@pss_cons _ _ _ _ _ (@ps_set _ _ (2) _ _ _ _ sc_l_rows.nd rfl (Or.inl rfl) (@pe_op _ _ _ _ _ _ _ _ op_sub (@pe_op _ _ _ _ _ _ _ _ op_mod (@pe_call _ _ _ _ _ _ _ _ _ _ _ _ _ _ _ _ G_l_cell (hr.mono (by omega)) (by rfl) T.m_l_cell T.F_l_cell.kp T.b_l_cell .nil pass0 (@pa_cons _ _ _ _ _ (pv 0) (@pa_cons _ _ _ _ _ pe_int pa_nil (by rfl)) (by rfl)) (by decide) (by rfl) (by rfl)) (@pe_op _ _ _ _ _ _ _ _ op_add (@pe_op _ _ _ _ _ _ _ _ op_mul pe_int (@pe_op _ _ _ _ _ _ _ _ op_pow pe_int pe_int)) pe_int)) (@pe_op _ _ _ _ _ _ _ _ op_pow pe_int pe_int)) (by rfl) (by first | exact .inl rfl | exact .inr rfl | assumption)) (@pss_cons _ _ _ _ _ (@ps_set _ _ (3) _ _ _ _ sc_l_rows.nd rfl (Or.inl rfl) (@pe_lst _ _ _ _ pa_nil) (by rfl) (by first | exact .inl rfl | exact .inr rfl | assumption)) (@pss_cons _ _ _ _ _ (@ps_set _ _ (4) _ _ _ _ sc_l_rows.nd rfl (Or.inl rfl) (@pe_lst _ _ _ _ (@pa_cons _ _ _ _ _ pe_int pa_nil (by rfl))) (by rfl) (by first | exact .inl rfl | exact .inr rfl | assumption)) (@pss_cons _ _ _ _ _ (@ps_set _ _ (5) _ _ _ _ sc_l_rows.nd rfl (Or.inl rfl) (@pe_lst _ _ _ _ pa_nil) (by rfl) (by first | exact .inl rfl | exact .inr rfl | assumption)) (@pss_cons _ _ _ _ _ (@ps_set _ _ (6) _ _ _ _ sc_l_rows.nd rfl (Or.inl rfl) (@pe_lst _ _ _ _ pa_nil) (by rfl) (by first | exact .inl rfl | exact .inr rfl | assumption)) (@pss_cons _ _ _ _ _ (@ps_for _ _ _ _ _ _ _ _ PassesOwn.never rfl (@pi_range1 _ _ _ _ _ _ (by rfl) T.z_range (@pa_cons _ _ _ _ _ (pv 1) pa_nil (by rfl)) (by rfl)) (pg_name (i := 7) sc_l_rows.nd rfl (Or.inl rfl)) (@pss_cons _ _ _ _ _ (@ps_set _ _ (8) _ _ _ _ sc_l_rows.nd rfl (Or.inl rfl) (@pe_call _ _ _ _ _ _ _ _ _ _ _ _ _ _ _ _ G_l_cell (hr.mono (by omega)) (by rfl) T.m_l_cell T.F_l_cell.kp T.b_l_cell .nil pass0 (@pa_cons _ _ _ _ _ (pv 0) (@pa_cons _ _ _ _ _ (@pe_op _ _ _ _ _ _ _ _ op_add pe_int (pv 7)) pa_nil (by rfl)) (by rfl)) (by decide) (by rfl) (by rfl)) (by rfl) (by first | exact .inl rfl | exact .inr rfl | assumption)) (@pss_cons _ _ _ _ _ (@ps_set _ _ (9) _ _ _ _ sc_l_rows.nd rfl (Or.inl rfl) (@pe_call _ _ _ _ _ _ _ _ _ _ _ _ _ _ _ _ G_l_mixed (hr.mono (by omega)) (by rfl) T.m_l_mixed T.F_l_mixed.kp T.b_l_mixed .nil pass0 (@pa_cons _ _ _ _ _ (pv 8) (@pa_cons _ _ _ _ _ pe_int pa_nil (by rfl)) (by rfl)) (by decide) (by rfl) (by rfl)) (by rfl) (by first | exact .inl rfl | exact .inr rfl | assumption)) (@pss_cons _ _ _ _ _ (@ps_set _ _ (10) _ _ _ _ sc_l_rows.nd rfl (Or.inl rfl) pe_non (by rfl) (by first | exact .inl rfl | exact .inr rfl | assumption)) (@pss_cons _ _ _ _ _ (@ps_for _ _ _ _ _ _ _ _ PassesOwn.never rfl (@pi_range1 _ _ _ _ _ _ (by rfl) T.z_range (@pa_cons _ _ _ _ _ (@pe_op _ _ _ _ _ _ _ _ op_mod (pv 9) (@pe_op _ _ _ _ _ _ _ _ op_add (@pe_callB _ _ _ _ _ _ _ _ _ call_len_seq (by rfl) T.z_len bt_len (@pa_cons _ _ _ _ _ (pv 3) pa_nil (by rfl)) (by decide) (by decide) (by rfl) (by rfl)) pe_int)) pa_nil (by rfl)) (by rfl)) (pg_name (i := 11) sc_l_rows.nd rfl (Or.inl rfl)) (@pss_cons _ _ _ _ _ (@ps_set _ _ (10) _ _ _ _ sc_l_rows.nd rfl (Or.inl rfl) (@pe_ix _ _ _ _ _ _ _ ix_list (pv 3) (@pe_un _ _ _ _ _ _ un_neg pe_int) (fun _ _ => rfl)) (by rfl) (by first | exact .inl rfl | exact .inr rfl | assumption)) (@pss_cons _ _ _ _ _ (@ps_set _ _ (3) _ _ _ _ sc_l_rows.nd rfl (Or.inl rfl) (@pe_slice _ _ _ _ _ _ _ _ _ _ sl_list (pv 3) po_none (@po_some _ _ _ (@pe_un _ _ _ _ _ _ un_neg pe_int))) (by rfl) (by first | exact .inl rfl | exact .inr rfl | assumption)) (@pss_cons _ _ _ _ _ (@ps_set _ _ (4) _ _ _ _ sc_l_rows.nd rfl (Or.inl rfl) (@pe_slice _ _ _ _ _ _ _ _ _ _ sl_list (pv 4) po_none (@po_some _ _ _ (@pe_un _ _ _ _ _ _ un_neg pe_int))) (by rfl) (by first | exact .inl rfl | exact .inr rfl | assumption)) (@pss_one _ _ _ (@ps_set _ _ (5) _ _ _ _ sc_l_rows.nd rfl (Or.inl rfl) (@pe_slice _ _ _ _ _ _ _ _ _ _ sl_list (pv 5) po_none (@po_some _ _ _ (@pe_un _ _ _ _ _ _ un_neg pe_int))) (by rfl) (by first | exact .inl rfl | exact .inr rfl | assumption)))))) (by intro _ ; rfl)) (@pss_cons _ _ _ _ _ (@ps_set _ _ (12) _ _ _ _ sc_l_rows.nd rfl (Or.inl rfl) (@pe_ix _ _ _ _ _ _ _ ix_list (@pe_lstq _ _ _ _ (@paq_cons _ _ _ _ _ pe_int (@paq_cons _ _ _ _ _ pe_int (@paq_cons _ _ _ _ _ pe_int (@paq_cons _ _ _ _ _ pe_int (@paq_cons _ _ _ _ _ pe_int (@paq_cons _ _ _ _ _ pe_int (@paq_cons _ _ _ _ _ pe_int (@paq_cons _ _ _ _ _ pe_int paq_nil star_C) star_C) star_C) star_C) star_C) star_C) star_C) star_C)) (@pe_op _ _ _ _ _ _ _ _ op_mod (@pe_op _ _ _ _ _ _ _ _ op_fdiv (pv 9) pe_int) pe_int) (fun _ _ => rfl)) (by rfl) (by first | exact .inl rfl | exact .inr rfl | assumption)) (@pss_cons _ _ _ _ _ (@ps_if _ _ _ _ _ _ _ _ (@pt_cmpR _ _ _ _ _ _ _ _ op_gt (pv 7) pe_int (@nomark _ _ (by decide) (by decide))) (@pss_one _ _ _ (@ps_set _ _ (12) _ _ _ _ sc_l_rows.nd rfl (Or.inl rfl) (@pe_ix _ _ _ _ _ _ _ ix_list (@pe_lstq _ _ _ _ (@paq_cons _ _ _ _ _ pe_int (@paq_cons _ _ _ _ _ pe_int (@paq_cons _ _ _ _ _ pe_int (@paq_cons _ _ _ _ _ pe_int (@paq_cons _ _ _ _ _ pe_int (@paq_cons _ _ _ _ _ pe_int (@paq_cons _ _ _ _ _ pe_int (@paq_cons _ _ _ _ _ pe_int paq_nil star_C) star_C) star_C) star_C) star_C) star_C) star_C) star_C)) (@pe_op _ _ _ _ _ _ _ _ op_mod (@pe_op _ _ _ _ _ _ _ _ op_fdiv (pv 9) pe_int) pe_int) (fun _ _ => rfl)) (by rfl) (by first | exact .inl rfl | exact .inr rfl | assumption))) pss_nil) (@pss_cons _ _ _ _ _ (@ps_for _ _ _ _ _ _ _ _ PassesOwn.never rfl (@pi_range1 _ _ _ _ _ _ (by rfl) T.z_range (@pa_cons _ _ _ _ _ (@pe_callB _ _ _ _ _ _ _ _ _ (@call_min2 _ rfl) (by rfl) T.z_min bt_min (@pa_cons _ _ _ _ _ (pv 12) (@pa_cons _ _ _ _ _ (@pe_op _ _ _ _ _ _ _ _ op_sub pe_int (@pe_callB _ _ _ _ _ _ _ _ _ call_len_seq (by rfl) T.z_len bt_len (@pa_cons _ _ _ _ _ (pv 3) pa_nil (by rfl)) (by decide) (by decide) (by rfl) (by rfl))) pa_nil (by rfl)) (by rfl)) (by decide) (by decide) (by rfl) (by rfl)) pa_nil (by rfl)) (by rfl)) (pg_name (i := 13) sc_l_rows.nd rfl (Or.inl rfl)) (@pss_cons _ _ _ _ _ (@ps_set _ _ (14) _ _ _ _ sc_l_rows.nd rfl (Or.inl rfl) (@pe_call _ _ _ _ _ _ _ _ _ _ _ _ _ _ _ _ G_l_loop (hr.mono (by omega)) (by rfl) T.m_l_loop T.F_l_loop.kp T.b_l_loop .nil pass0 (@pa_cons _ _ _ _ _ (@pe_call _ _ _ _ _ _ _ _ _ _ _ _ _ _ _ _ G_l_mixed (hr.mono (by omega)) (by rfl) T.m_l_mixed T.F_l_mixed.kp T.b_l_mixed .nil pass0 (@pa_cons _ _ _ _ _ (pv 8) (@pa_cons _ _ _ _ _ (@pe_op _ _ _ _ _ _ _ _ op_add pe_int (pv 13)) pa_nil (by rfl)) (by rfl)) (by decide) (by rfl) (by rfl)) (@pa_cons _ _ _ _ _ (pv 2) (@pa_cons _ _ _ _ _ (pv 3) (@pa_cons _ _ _ _ _ (@pe_call _ _ _ _ _ _ _ _ _ _ _ _ _ _ _ _ G_l_cell (hr.mono (by omega)) (by rfl) T.m_l_cell T.F_l_cell.kp T.b_l_cell .nil pass0 (@pa_cons _ _ _ _ _ (pv 0) (@pa_cons _ _ _ _ _ pe_int pa_nil (by rfl)) (by rfl)) (by decide) (by rfl) (by rfl)) pa_nil (by rfl)) (by rfl)) (by rfl)) (by rfl)) (by decide) (by rfl) (by rfl)) (by rfl) (by first | exact .inl rfl | exact .inr rfl | assumption)) (@pss_cons _ _ _ _ _ (@ps_if _ _ _ _ _ _ _ _ ((@pw_and _ _ _ _ _ _ _ (@pt_cmpR _ _ _ _ _ _ _ _ op_eq (pv 13) pe_int (@nomark _ _ (by decide) (by decide))) (@pw_and _ _ _ _ _ _ _ (@pt_cmpR _ _ _ _ _ _ _ _ op_notN (pv 10) pe_non (@nomark _ _ (by decide) (by decide))) (@pw_and1 _ _ _ _ (@pt_cmpR _ _ _ _ _ _ _ _ op_eq (@pe_op _ _ _ _ _ _ _ _ op_mod (@pe_op _ _ _ _ _ _ _ _ op_fdiv (pv 9) pe_int) pe_int) pe_int (@nomark _ _ (by decide) (by decide))))))).pt (@pss_one _ _ _ (@ps_set _ _ (14) _ _ _ _ sc_l_rows.nd rfl (Or.inl rfl) (pv 10) (by rfl) (by first | exact .inl rfl | exact .inr rfl | assumption))) pss_nil) (@pss_cons _ _ _ _ _ (@ps_set _ _ (3) _ _ _ _ sc_l_rows.nd rfl (Or.inl rfl) (@pe_op _ _ _ _ _ _ _ _ op_cat (pv 3) (@pe_lst _ _ _ _ (@pa_cons _ _ _ _ _ (pv 14) pa_nil (by rfl)))) (by rfl) (by first | exact .inl rfl | exact .inr rfl | assumption)) (@pss_cons _ _ _ _ _ (@ps_set _ _ (5) _ _ _ _ sc_l_rows.nd rfl (Or.inl rfl) (@pe_op _ _ _ _ _ _ _ _ op_cat (pv 5) (@pe_lst _ _ _ _ (@pa_cons _ _ _ _ _ (@pe_ix _ _ _ _ _ _ _ ix_list (pv 4) (@pe_un _ _ _ _ _ _ un_neg pe_int) (fun _ _ => rfl)) pa_nil (by rfl)))) (by rfl) (by first | exact .inl rfl | exact .inr rfl | assumption)) (@pss_one _ _ _ (@ps_set _ _ (4) _ _ _ _ sc_l_rows.nd rfl (Or.inl rfl) (@pe_op _ _ _ _ _ _ _ _ op_cat (@pe_slice _ _ _ _ _ _ _ _ _ _ sl_list (pv 4) po_none (@po_some _ _ _ (@pe_un _ _ _ _ _ _ un_neg pe_int))) (@pe_lst _ _ _ _ (@pa_cons _ _ _ _ _ (@pe_op _ _ _ _ _ _ _ _ op_add (@pe_ix _ _ _ _ _ _ _ ix_list (pv 4) (@pe_un _ _ _ _ _ _ un_neg pe_int) (fun _ _ => rfl)) pe_int) (@pa_cons _ _ _ _ _ pe_int pa_nil (by rfl)) (by rfl)))) (by rfl) (by first | exact .inl rfl | exact .inr rfl | assumption))))))) (by intro _ ; rfl)) (@pss_cons _ _ _ _ _ (@ps_expr _ _ _ _ (@pe_bm _ _ _ _ _ _ _ _ _ _ _ _ PySem.F.plainAttrs_list PySem.F.slot_list_append PySem.F.type_list_append mt_append (pv 6) (@pa_cons _ _ _ _ _ (@pe_call _ _ _ _ _ _ _ _ _ _ _ _ _ _ _ _ G_l_row (hr.mono (by omega)) (by rfl) T.m_l_row T.F_l_row.kp T.b_l_row .nil pass0 (@pa_cons _ _ _ _ _ (pv 8) (@pa_cons _ _ _ _ _ (pv 3) (@pa_cons _ _ _ _ _ (@pe_op _ _ _ _ _ _ _ _ op_cat (pv 5) (@pe_lst _ _ _ _ (@pa_cons _ _ _ _ _ (@pe_ix _ _ _ _ _ _ _ ix_list (pv 4) (@pe_un _ _ _ _ _ _ un_neg pe_int) (fun _ _ => rfl)) pa_nil (by rfl)))) (@pa_cons _ _ _ _ _ (@pe_call _ _ _ _ _ _ _ _ _ _ _ _ _ _ _ _ G_l_heads (hr.mono (by omega)) (by rfl) T.m_l_heads T.F_l_heads.kp T.b_l_heads .nil pass0 (@pa_cons _ _ _ _ _ (pv 0) pa_nil (by rfl)) (by decide) (by rfl) (by rfl)) pa_nil (by rfl)) (by rfl)) (by rfl)) (by rfl)) (by decide) (by rfl) (by rfl)) pa_nil (by rfl)) (by rfl) (by rfl) (by rfl) (by rfl) (by rfl)) (by rfl)) (@pss_one _ _ _ (@ps_set _ _ (4) _ _ _ _ sc_l_rows.nd rfl (Or.inl rfl) (@pe_op _ _ _ _ _ _ _ _ op_cat (@pe_slice _ _ _ _ _ _ _ _ _ _ sl_list (pv 4) po_none (@po_some _ _ _ (@pe_un _ _ _ _ _ _ un_neg pe_int))) (@pe_lst _ _ _ _ (@pa_cons _ _ _ _ _ (@pe_op _ _ _ _ _ _ _ _ op_add (@pe_ix _ _ _ _ _ _ _ ix_list (pv 4) (@pe_un _ _ _ _ _ _ un_neg pe_int) (fun _ _ => rfl)) pe_int) pa_nil (by rfl)))) (by rfl) (by first | exact .inl rfl | exact .inr rfl | assumption))))))))))) (by intro _ ; rfl)) (@pss_one _ _ _ (@ps_ret _ _ _ _ (pv 6))))))))), ?_⟩
  refine ⟨_, rfl, p, ns, 2, rfl, hp, by decide, by decide, fun c2 => ⟨_, _, rfl, rfl, ⟨by decide, by decide, by decide⟩, _, _, rfl, rfl, .inl ⟨by decide, by decide⟩, _, _, rfl, rfl, _, _, rfl, rfl, (by show (0 : Int) < 2 * 10 ^ (17 : Int).toNat + 1; decide), _, _, rfl, rfl, ⟨by decide, by decide, by decide⟩, _, _, rfl, rfl, ?_⟩⟩
  dsimp only [gName]
  generalize c2 % (2 * 10 ^ (17 : Int).toNat + 1) - 10 ^ (17 : Int).toNat = far
  refine ⟨szl (by show 0 ≤ 1000000; decide), fun st0 hst0 => ?_⟩
  have s1 := same_new hst0 (.lst [])
  have h1a : (upd H st0 (.lst [])) st0 = some (.lst []) := upd_same
  dsimp only [gName]
  generalize upd H st0 (.lst []) = H1 at s1 h1a
  refine ⟨szl (by show 1 ≤ 1000000; decide), fun co0 hco0 => ?_⟩
  have s2 := same_new hco0 (.lst [V.int 0])
  have h2b : (upd H1 co0 (.lst [V.int 0])) co0 = some (.lst [V.int 0]) := upd_same
  have h2a := s2 _ _ h1a
  dsimp only [gName]
  generalize upd H1 co0 (.lst [V.int 0]) = H2 at s2 h2a h2b
  refine ⟨szl (by show 0 ≤ 1000000; decide), fun pa0 hpa0 => ?_⟩
  have s3 := same_new hpa0 (.lst [])
  have h3c : (upd H2 pa0 (.lst [])) pa0 = some (.lst []) := upd_same
  have h3a := s3 _ _ h2a
  have h3b := s3 _ _ h2b
  dsimp only [gName]
  generalize upd H2 pa0 (.lst []) = H3 at s3 h3a h3b h3c
  refine ⟨szl (by show 0 ≤ 1000000; decide), fun ro hro => ?_⟩
  have s4 := same_new hro (.lst [])
  have h4d : (upd H3 ro (.lst [])) ro = some (.lst []) := upd_same
  have h4a := s4 _ _ h3a
  have h4b := s4 _ _ h3b
  have h4c := s4 _ _ h3c
  have e4 := s1.trans (s2.trans (s3.trans s4))
  have ro0 : H ro = none := (s1.trans (s2.trans s3)).free hro
  have na : st0 ≠ ro := ne_of_none h3a hro
  have nb : co0 ≠ ro := ne_of_none h3b hro
  have nc : pa0 ≠ ro := ne_of_none h3c hro
  dsimp only [gName]
  generalize upd H3 ro (.lst []) = H4 at s4 h4a h4b h4c h4d e4
  refine ⟨_, rfl, (n : Int), rfl, by omega, by omega, ?_⟩
  rw [Int.toNat_natCast]
  -- the state between two rows
  refine for_range (lo := 0) (n := n) (fun i σ' H' => ∃ (st co pa : Addr) (k : Nat) (vs : List V) (C Pp : List Int) (xs : List V) (Rs : List R5) (o7 o8 o9 o10 o11 o12 o13 o14 : Option V), σ' = [some (.ref p), some (.int (n : Int)), some (.int far), some (.ref st), some (.ref co), some (.ref pa), some (.ref ro), o7, o8, o9, o10, o11, o12, o13, o14] ∧ Same H H' ∧ H' st = some (.lst vs) ∧ vs.length = k ∧ (∀ v ∈ vs, LpAt H' v) ∧ k ≤ 3 ∧ H' co = some (.lst (C.map V.int)) ∧ C.length = k + 1 ∧ H' pa = some (.lst (Pp.map V.int)) ∧ Pp.length = k ∧ st ≠ ro ∧ co ≠ ro ∧ pa ≠ ro ∧ H' ro = some (.lst xs) ∧ All2 (R5At H') xs Rs ∧ Rs.length = i ∧ (∀ R ∈ Rs, R.Ok ∧ R.m ≤ 3)) ⟨st0, co0, pa0, 0, [], [0], [], [], [], _, _, _, _, _, _, _, _, rfl, e4, h4a, rfl, (fun v hv => by cases hv), by decide, h4b, rfl, h4c, rfl, na, nb, nc, h4d, .nil, rfl, (fun v hv => by cases hv)⟩ (fun i σ' H' hi pp => ?_) (fun σ' H' pp => ?_)
  rotate_left
  · obtain ⟨st, co, pa, k, vs, C, Pp, xs, Rs, _, _, _, _, _, _, _, _, rfl, e, _, _, _, _, _, _, _, _, _, _, _, hxs, axs, Rl, Rok⟩ := pp
    exact ⟨_, rfl, q ro _ Rs e ⟨xs, hxs, axs⟩ Rl Rok⟩
  obtain ⟨st, co, pa, k, vs, C, Pp, xs, Rs, o7, o8, o9, o10, o11, o12, o13, o14, rfl, e, hst, vl, vlp, k3, hco, Cl, hpa, Pl, nst, nco, npa, hxs, axs, Rl, Rok⟩ := pp
  have xl := axs.1
  refine ⟨_, rfl, _, rfl, _, _, rfl, rfl, p, ns, _, rfl, e.seq hp, by omega, by omega, fun ci => ?_⟩
  dsimp only [gName]
  refine ⟨_, rfl, ci, 0, rfl, ?_⟩
  obtain ⟨a0, a1⟩ := mix_b ci 0
  dsimp only [gName]
  generalize mixF ci 0 = nn at a0 a1
  refine seq_asgC ?_
  -- closing
  have f0 := Int.emod_nonneg nn (show ((vs.length : Int) + 1) ≠ 0 by omega)
  have f1 := Int.emod_lt_of_pos nn (show (0 : Int) < (vs.length : Int) + 1 by omega)
  refine seq_any (fun σ' H2 => ∃ (st co pa : Addr) (k : Nat) (vs : List V) (C Pp : List Int) (cl : V) (o10 : Option V), σ' = [some (.ref p), some (.int (n : Int)), some (.int far), some (.ref st), some (.ref co), some (.ref pa), some (.ref ro), some (.int (0 + (i : Int))), some (.int ci), some (.int nn), some cl, o10, o12, o13, o14] ∧ Same H' H2 ∧ H2 st = some (.lst vs) ∧ vs.length = k ∧ (∀ v ∈ vs, LpAt H2 v) ∧ k ≤ 3 ∧ H2 co = some (.lst (C.map V.int)) ∧ C.length = k + 1 ∧ H2 pa = some (.lst (Pp.map V.int)) ∧ Pp.length = k ∧ st ≠ ro ∧ co ≠ ro ∧ pa ≠ ro ∧ (cl = .non ∨ LpAt H2 cl)) (fun σ' H2 pp => ?_) (fun nx => ?_)
  rotate_left
  · refine ⟨_, rfl, _, rfl, st, _, rfl, .inl (SqL.of hst), _, _, rfl, rfl, _, _, rfl, rfl, (by show (0 : Int) < (vs.length : Int) + 1; omega), _, rfl, by omega, by omega, ?_⟩
    refine for_range (lo := 0) (n := (nn % ((vs.length : Int) + 1)).toNat) (fun j σ' H2 => ∃ (st co pa : Addr) (k2 : Nat) (vs2 : List V) (C Pp : List Int) (cl : V) (o10 : Option V), σ' = [some (.ref p), some (.int (n : Int)), some (.int far), some (.ref st), some (.ref co), some (.ref pa), some (.ref ro), some (.int (0 + (i : Int))), some (.int ci), some (.int nn), some cl, o10, o12, o13, o14] ∧ Same H' H2 ∧ H2 st = some (.lst vs2) ∧ vs2.length = k2 ∧ (∀ v ∈ vs2, LpAt H2 v) ∧ k2 + j = vs.length ∧ H2 co = some (.lst (C.map V.int)) ∧ C.length = k2 + 1 ∧ H2 pa = some (.lst (Pp.map V.int)) ∧ Pp.length = k2 ∧ st ≠ ro ∧ co ≠ ro ∧ pa ≠ ro ∧ (cl = .non ∨ LpAt H2 cl)) ⟨st, co, pa, k, vs, C, Pp, .non, _, rfl, Same.refl _, hst, vl, vlp, by omega, hco, Cl, hpa, Pl, nst, nco, npa, .inl rfl⟩ (fun j σ' H2 hj pp => ?_) (fun σ' H2 pp => ?_)
    rotate_left
    · obtain ⟨st, co, pa, k2, vs2, C, Pp, cl, o10, rfl, e2, g1, g2, g3, g4, g5, g6, g7, g8, g9, g10, g11, g12⟩ := pp
      exact nx _ _ ⟨st, co, pa, k2, vs2, C, Pp, cl, _, rfl, e2, g1, g2, g3, by omega, g5, g6, g7, g8, g9, g10, g11, g12⟩
    obtain ⟨st, co, pa, k2, vs2, C, Pp, cl, o10, rfl, e2, g1, g2, g3, g4, g5, g6, g7, g8, g9, g10, g11, g12⟩ := pp
    have kp : 0 < k2 := by omega
    obtain ⟨vs3, v0, rfl, v3l⟩ := snoc_of (l := vs2) (n := k2 - 1) (by omega)
    obtain ⟨C3, c0, rfl, C3l⟩ := snoc_of (l := C) (n := k2) (by omega)
    obtain ⟨P3, p0, rfl, P3l⟩ := snoc_of (l := Pp) (n := k2 - 1) (by omega)
    have lv0 := g3 v0 (List.mem_append_right _ List.mem_cons_self)
    have at0 : atI (vs3 ++ [v0]) (-1) = some v0 := atI_last vs3 v0
    refine ⟨_, rfl, _, rfl, st, _, _, _, rfl, rfl, SqL.of g1, at0, ?_⟩
    dsimp only [gName]
    refine ⟨_, rfl, _, rfl, _, rfl, st, _, rfl, SqL.of g1, fun n1 hn1 => ?_⟩
    rw [show cutV (vs3 ++ [v0]) none (some (-1)) = vs3 from cutV_neg vs3 [v0] (Nat.succ_pos _) rfl]
    have t1 := same_new hn1 (.lst vs3)
    have k1 : (upd H2 n1 (.lst vs3)) n1 = some (.lst vs3) := upd_same
    have m1 : n1 ≠ ro := fun z => by rw [z, e2 _ _ hxs] at hn1; cases hn1
    dsimp only [gName]
    generalize upd H2 n1 (.lst vs3) = HA at t1 k1
    refine ⟨_, rfl, _, rfl, _, rfl, co, _, rfl, SqL.of (t1 _ _ g5), fun n2 hn2 => ?_⟩
    rw [List.map_append, show cutV (C3.map V.int ++ [c0].map V.int) none (some (-1)) = C3.map V.int from cutV_neg (C3.map V.int) [V.int c0] (Nat.succ_pos _) rfl]
    have t2 := same_new hn2 (.lst (C3.map V.int))
    have k2' : (upd HA n2 (.lst (C3.map V.int))) n2 = some (.lst (C3.map V.int)) := upd_same
    have m2 : n2 ≠ ro := fun z => by rw [z, t1 _ _ (e2 _ _ hxs)] at hn2; cases hn2
    dsimp only [gName]
    generalize upd HA n2 (.lst (C3.map V.int)) = HB at t2 k2'
    refine ⟨_, rfl, _, rfl, _, rfl, pa, _, rfl, SqL.of (t2 _ _ (t1 _ _ g7)), fun n3 hn3 => ?_⟩
    rw [List.map_append, show cutV (P3.map V.int ++ [p0].map V.int) none (some (-1)) = P3.map V.int from cutV_neg (P3.map V.int) [V.int p0] (Nat.succ_pos _) rfl]
    have t3 := same_new hn3 (.lst (P3.map V.int))
    have m3 : n3 ≠ ro := fun z => by rw [z, t2 _ _ (t1 _ _ (e2 _ _ hxs))] at hn3; cases hn3
    have tt := t1.trans (t2.trans t3)
    refine ⟨n1, n2, n3, k2 - 1, vs3, C3, P3, v0, _, rfl, e2.trans tt, (t2.trans t3) _ _ k1, v3l, fun v hv => (g3 v (List.mem_append_left _ hv)).over tt, by omega, t3 _ _ k2', by omega, upd_same, by omega, m1, m2, m3, .inr (lv0.over tt)⟩
  obtain ⟨st, co, pa, k, vs, C, Pp, cl, o10', rfl, e2, hst, vl, vlp, k3, hco, Cl, hpa, Pl, nst, nco, npa, hcl⟩ := pp
  -- how many are opened
  have e02 := e.trans e2
  have hxs2 := e2 _ _ hxs
  have axs2 := axs.mono fun _ _ z => z.over e2
  have opl : ∀ {v : List Int}, v.length = 8 → (∀ x ∈ v, 0 ≤ x ∧ x ≤ 3) → ∃ d, atI (v.map V.int) (nn / 4 % 8) = some (.int d) ∧ 0 ≤ d ∧ d ≤ 3 := fun {v} hv ha => by
    obtain ⟨d, hd, ed⟩ := pickN (L := v) (i := nn / 4 % 8) 8 hv (Int.emod_nonneg _ (by decide)) (Int.emod_lt_of_pos _ (by decide))
    exact ⟨d, ed, ha d hd⟩
  obtain ⟨d1, ed1, b1⟩ := opl (v := [1, 2, 2, 3, 1, 2, 0, 1]) rfl (by decide)
  obtain ⟨d2, ed2, b2⟩ := opl (v := [0, 1, 0, 1, 2, 0, 1, 0]) rfl (by decide)
  refine ⟨szl (by show 8 ≤ 1000000; decide), fun q1 hq1 => ⟨_, rfl, _, _, rfl, rfl, ⟨by decide, by decide⟩, _, _, rfl, rfl, (by show (0 : Int) < 8; decide), q1, _, _, _, rfl, rfl, SqL.of upd_same, ed1, ?_⟩⟩
  have t1 := same_new hq1 (.lst [V.int 1, V.int 2, V.int 2, V.int 3, V.int 1, V.int 2, V.int 0, V.int 1])
  dsimp only [gName]
  generalize upd H2 q1 (.lst [V.int 1, V.int 2, V.int 2, V.int 3, V.int 1, V.int 2, V.int 0, V.int 1]) = HA at t1
  refine seq_any (fun σ' H5 => ∃ op : Int, σ' = [some (.ref p), some (.int (n : Int)), some (.int far), some (.ref st), some (.ref co), some (.ref pa), some (.ref ro), some (.int (0 + (i : Int))), some (.int ci), some (.int nn), some cl, o10', some (.int op), o13, o14] ∧ Same H2 H5 ∧ 0 ≤ op ∧ op ≤ 3) (fun σ' H5 pp => ?_) (fun nx => ?_)
  rotate_left
  · refine ⟨_, rfl, _, _, rfl, rfl, _, rfl, ite2 (fun _ => ?_) (fun _ => ?_)⟩
    · refine ⟨szl (by show 8 ≤ 1000000; decide), fun q2 hq2 => ⟨_, rfl, _, _, rfl, rfl, ⟨by decide, by decide⟩, _, _, rfl, rfl, (by show (0 : Int) < 8; decide), q2, _, _, _, rfl, rfl, SqL.of upd_same, ed2, ?_⟩⟩
      exact nx _ _ ⟨_, rfl, t1.trans (same_new hq2 _), b2⟩
    · exact nx _ _ ⟨_, rfl, t1, b1⟩
  obtain ⟨op, rfl, t2, op0, op3⟩ := pp
  have hst5 := t2 _ _ hst
  -- opening
  refine seq_any (fun σ' H6 => ∃ (st co pa : Addr) (k : Nat) (vs : List V) (C Pp : List Int) (o13 o14 : Option V), σ' = [some (.ref p), some (.int (n : Int)), some (.int far), some (.ref st), some (.ref co), some (.ref pa), some (.ref ro), some (.int (0 + (i : Int))), some (.int ci), some (.int nn), some cl, o10', some (.int op), o13, o14] ∧ Same H2 H6 ∧ H6 st = some (.lst vs) ∧ vs.length = k ∧ (∀ v ∈ vs, LpAt H6 v) ∧ k ≤ 3 ∧ H6 co = some (.lst (C.map V.int)) ∧ C.length = k + 1 ∧ H6 pa = some (.lst (Pp.map V.int)) ∧ Pp.length = k ∧ st ≠ ro ∧ co ≠ ro ∧ pa ≠ ro) (fun σ' H6 pp => ?_) (fun nx => ?_)
  rotate_left
  · refine ⟨_, rfl, _, rfl, st, _, rfl, .inl (SqL.of hst5), _, _, rfl, rfl, _, _, rfl, _, rfl, ?_, ?_, ?_⟩
    · split <;> omega
    · split <;> omega
    obtain ⟨m0, em0, m0l⟩ : ∃ m0 : Nat, (if 3 - (vs.length : Int) < op then 3 - (vs.length : Int) else op) = (m0 : Int) ∧ vs.length + m0 ≤ 3 := by
      split
      · exact ⟨(3 - (vs.length : Int)).toNat, by omega, by omega⟩
      · exact ⟨op.toNat, by omega, by omega⟩
    rw [em0, Int.toNat_natCast]
    refine for_range (lo := 0) (n := m0) (fun j σ' H6 => ∃ (st co pa : Addr) (k2 : Nat) (vs2 : List V) (C Pp : List Int) (o13 o14 : Option V), σ' = [some (.ref p), some (.int (n : Int)), some (.int far), some (.ref st), some (.ref co), some (.ref pa), some (.ref ro), some (.int (0 + (i : Int))), some (.int ci), some (.int nn), some cl, o10', some (.int op), o13, o14] ∧ Same H2 H6 ∧ H6 st = some (.lst vs2) ∧ vs2.length = k2 ∧ (∀ v ∈ vs2, LpAt H6 v) ∧ k2 = vs.length + j ∧ H6 co = some (.lst (C.map V.int)) ∧ C.length = k2 + 1 ∧ H6 pa = some (.lst (Pp.map V.int)) ∧ Pp.length = k2 ∧ st ≠ ro ∧ co ≠ ro ∧ pa ≠ ro) ⟨st, co, pa, k, vs, C, Pp, _, _, rfl, t2, hst5, vl, fun v hv => (vlp v hv).over t2, by omega, t2 _ _ hco, Cl, t2 _ _ hpa, Pl, nst, nco, npa⟩ (fun j σ' H6 hj pp => ?_) (fun σ' H6 pp => ?_)
    rotate_left
    · obtain ⟨st, co, pa, k2, vs2, C, Pp, o13, o14, rfl, e3, g1, g2, g3, g4, g5, g6, g7, g8, g9, g10, g11⟩ := pp
      exact nx _ _ ⟨st, co, pa, k2, vs2, C, Pp, _, _, rfl, e3, g1, g2, g3, by omega, g5, g6, g7, g8, g9, g10, g11⟩
    obtain ⟨st, co, pa, k2, vs2, C, Pp, o13, o14, rfl, e3, g1, g2, g3, g4, g5, g6, g7, g8, g9, g10, g11⟩ := pp
    obtain ⟨z0, z1⟩ := mix_b ci (1 + (0 + (j : Int)))
    refine ⟨_, rfl, _, rfl, _, _, rfl, rfl, ci, _, rfl, _, rfl, _, rfl, _, rfl, p, ns, 1, rfl, (e02.trans e3).seq hp, by decide, by decide, fun c1 => ⟨_, far, c1, st, k2, rfl, z0, ⟨vs2, g1, g2, g3⟩, by omega, fun x H7 e7 lx => ?_⟩⟩
    dsimp only [gName]
    refine seq_any (fun σ' H8 => H8 = H7 ∧ ∃ y, LpAt H7 y ∧ σ' = [some (.ref p), some (.int (n : Int)), some (.int far), some (.ref st), some (.ref co), some (.ref pa), some (.ref ro), some (.int (0 + (i : Int))), some (.int ci), some (.int nn), some cl, o10', some (.int op), some (.int (0 + (j : Int))), some y]) (fun σ' H8 pp => ?_) (fun nx2 => ?_)
    rotate_left
    · refine ⟨_, rfl, rfl, _, rfl, ite2 (fun _ => ?_) (fun _ => nx2 _ _ ⟨rfl, x, lx, rfl⟩)⟩
      refine ⟨_, rfl, rfl, _, rfl, ite2 (fun cc => ?_) (fun _ => nx2 _ _ ⟨rfl, x, lx, rfl⟩)⟩
      refine ⟨_, rfl, _, _, rfl, rfl, ⟨by decide, by decide⟩, _, _, rfl, rfl, (by show (0 : Int) < 3; decide), rfl, _, rfl, ite2 (fun _ => ?_) (fun _ => nx2 _ _ ⟨rfl, x, lx, rfl⟩)⟩
      rcases hcl with rfl | hcl
      · exact absurd cc (by decide)
      · exact ⟨_, rfl, nx2 _ _ ⟨rfl, cl, hcl.over (e3.trans e7), rfl⟩⟩
    obtain ⟨rfl, y, ly, rfl⟩ := pp
    -- the stack, the path, the counts
    have g1' := e7 _ _ g1
    have g5' := e7 _ _ g5
    have g7' := e7 _ _ g7
    have hx7 := e7 _ _ (e3 _ _ hxs2)
    obtain ⟨C3, c0, rfl, C3l⟩ := snoc_of (l := C) (n := k2) (by omega)
    have atc : atI ((C3 ++ [c0]).map V.int) (-1) = some (.int c0) := by rw [List.map_append]; exact atI_last _ _
    refine ⟨_, rfl, _, rfl, szl (by show 1 ≤ 1000000; decide), fun u1 hu1 => ?_⟩
    have w1 := same_new hu1 (.lst [y])
    refine ⟨st, u1, _, _, rfl, rfl, w1 _ _ g1', upd_same, szl (by rw [List.length_singleton]; omega), fun n1 hn1 => ?_⟩
    have w2 := w1.trans (same_new hn1 (.lst (vs2 ++ [y])))
    have f1 : (upd (upd H8 u1 (.lst [y])) n1 (.lst (vs2 ++ [y]))) n1 = some (.lst (vs2 ++ [y])) := upd_same
    have m1 : n1 ≠ ro := fun z => by rw [z, w1 _ _ hx7] at hn1; cases hn1
    dsimp only [gName]
    generalize upd (upd H8 u1 (.lst [y])) n1 (.lst (vs2 ++ [y])) = HB at w2 f1
    refine ⟨_, rfl, _, rfl, _, rfl, co, _, _, _, rfl, rfl, SqL.of (w2 _ _ g5'), atc, szl (by show 1 ≤ 1000000; decide), fun u2 hu2 => ?_⟩
    have w3 := same_new hu2 (.lst [V.int c0])
    refine ⟨pa, u2, _, _, rfl, rfl, w3 _ _ (w2 _ _ g7'), upd_same, szl (by rw [List.length_map, List.length_singleton]; omega), fun n2 hn2 => ?_⟩
    have w4 := w3.trans (same_new hn2 (.lst (Pp.map V.int ++ [V.int c0])))
    have f2 : (upd (upd HB u2 (.lst [V.int c0])) n2 (.lst (Pp.map V.int ++ [V.int c0]))) n2 = some (.lst (Pp.map V.int ++ [V.int c0])) := upd_same
    have m2 : n2 ≠ ro := fun z => by rw [z, w3 _ _ (w2 _ _ hx7)] at hn2; cases hn2
    dsimp only [gName]
    generalize upd (upd HB u2 (.lst [V.int c0])) n2 (.lst (Pp.map V.int ++ [V.int c0])) = HC at w4 f2
    have w24 := w2.trans w4
    refine ⟨_, rfl, _, rfl, _, rfl, co, _, rfl, SqL.of (w24 _ _ g5'), fun u3 hu3 => ?_⟩
    rw [List.map_append, show cutV (C3.map V.int ++ [c0].map V.int) none (some (-1)) = C3.map V.int from cutV_neg (C3.map V.int) [V.int c0] (Nat.succ_pos _) rfl]
    have w5 := same_new hu3 (.lst (C3.map V.int))
    rw [List.map_append] at atc g5'
    refine ⟨_, rfl, _, rfl, co, _, _, _, rfl, rfl, SqL.of (w5 _ _ (w24 _ _ g5')), atc, _, _, rfl, rfl, szl (by show 2 ≤ 1000000; decide), fun u4 hu4 => ?_⟩
    have w6 := same_new hu4 (.lst [V.int (c0 + 1), V.int 0])
    refine ⟨u3, u4, _, _, rfl, rfl, w6 _ _ upd_same, upd_same, szl (by rw [List.length_map]; show C3.length + 2 ≤ _; omega), fun n3 hn3 => ?_⟩
    have w7 := w5.trans (w6.trans (same_new hn3 (.lst (C3.map V.int ++ [V.int (c0 + 1), V.int 0]))))
    have m3 : n3 ≠ ro := fun z => by rw [z, (w5.trans w6) _ _ (w24 _ _ hx7)] at hn3; cases hn3
    have wA := w24.trans w7
    refine ⟨n1, n3, n2, k2 + 1, vs2 ++ [y], C3 ++ [c0 + 1, 0], Pp ++ [c0], _, _, rfl, e3.trans (e7.trans wA), (w4.trans w7) _ _ f1, by rw [List.length_append, List.length_singleton]; omega, fun v hv => ?_, by omega, ?_, by rw [List.length_append]; show C3.length + 2 = _; omega, ?_, by rw [List.length_append, List.length_singleton]; omega, m1, m3, m2⟩
    · rcases List.mem_append.mp hv with z | z
      · exact (g3 v z).over (e7.trans wA)
      · rw [List.mem_singleton.mp z]; exact ly.over wA
    · rw [upd_same, List.map_append]; rfl
    · rw [List.map_append]; exact w7 _ _ f2
  obtain ⟨st, co, pa, k, vs, C, Pp, o13', o14', rfl, e3, hst, vl, vlp, k3, hco, Cl, hpa, Pl, nst, nco, npa⟩ := pp
  have e03 := e02.trans e3
  have hx3 := e3 _ _ hxs2
  have axs3 := axs2.mono fun _ _ z => z.over e3
  obtain ⟨C3, c0, rfl, C3l⟩ := snoc_of (l := C) (n := k) (by omega)
  have atc : atI ((C3 ++ [c0]).map V.int) (-1) = some (.int c0) := by rw [List.map_append]; exact atI_last _ _
  refine ⟨_, rfl, .inl ⟨rfl, _, SqL.of hx3⟩, _, rfl, _, rfl, _, rfl, _, rfl, _, rfl, co, _, _, _, rfl, rfl, SqL.of hco, atc, szl (by show 1 ≤ 1000000; decide), fun u2 hu2 => ?_⟩
  have w3 := same_new hu2 (.lst [V.int c0])
  refine ⟨pa, u2, _, _, rfl, rfl, w3 _ _ hpa, upd_same, szl (by rw [List.length_map, List.length_singleton]; omega), fun n2 hn2 => ?_⟩
  have w4 := w3.trans (same_new hn2 (.lst (Pp.map V.int ++ [V.int c0])))
  have f2 : (upd (upd H6 u2 (.lst [V.int c0])) n2 (.lst (Pp.map V.int ++ [V.int c0]))) n2 = some (.lst (Pp.map V.int ++ [V.int c0])) := upd_same
  generalize upd (upd H6 u2 (.lst [V.int c0])) n2 (.lst (Pp.map V.int ++ [V.int c0])) = HC at w4 f2
  refine ⟨_, rfl, p, ns, rfl, (e03.trans w4).seq hp, fun hd HD eD hH => ?_⟩
  have wD := w4.trans eD
  refine ⟨ci, st, n2, hd, k, Pp ++ [c0], rfl, ⟨vs, wD _ _ hst, vl, fun v hv => (vlp v hv).over wD⟩, by omega, by rw [List.map_append]; exact eD _ _ f2, hH, fun r HE z pz m rs eE r5 m3 => ?_⟩
  have wE := wD.trans eE
  have hxE := wE _ _ hx3
  refine ⟨ro, _, _, rfl, rfl, hxE, szlt (by omega), ?_⟩
  have tkF := TK.upd (o := .lst (xs ++ [V.ref r])) hxE
  have nlF : NL HE (upd HE ro (.lst (xs ++ [V.ref r]))) := NL.upd hxE
  have keep : ∀ b o, b ≠ ro → HE b = some o → (upd HE ro (.lst (xs ++ [V.ref r]))) b = some o := fun b o hb h => by rw [upd_ne hb]; exact h
  have fr : (upd HE ro (.lst (xs ++ [V.ref r]))) ro = some (.lst (xs ++ [V.ref r])) := upd_same
  have axF : All2 (R5At (upd HE ro (.lst (xs ++ [V.ref r])))) (xs ++ [V.ref r]) (Rs ++ [⟨k, Pp ++ [c0], z, pz, m, rs⟩]) := (axs3.mono fun _ _ q => (q.over wE).tk tkF).snoc (r5.tk tkF)
  have same : Same H (upd HE ro (.lst (xs ++ [V.ref r]))) := fun b o hb => keep b o (ne_of_none hb ro0) (wE _ _ (e03 _ _ hb))
  have vlF : ∀ v ∈ vs, LpAt (upd HE ro (.lst (xs ++ [V.ref r]))) v := fun v hv => by
    obtain ⟨q0, q1, q2, nm, b1, b2, n1, n2, ab, tn, h0, h1, h2, h3, h4⟩ := (vlp v hv).over wE
    exact ⟨q0, q1, q2, nm, b1, b2, n1, n2, ab, tn, h0, tkF _ _ h1, tkF _ _ h2, tkF _ _ h3, h4⟩
  have hstF := keep _ _ nst (wE _ _ hst)
  have hcoF := keep _ _ nco (wE _ _ hco)
  have hpaF := keep _ _ npa (wE _ _ hpa)
  have rlen := r5
  generalize upd HE ro (.lst (xs ++ [V.ref r])) = HF at fr axF same vlF hstF hcoF hpaF
  refine ⟨_, rfl, _, rfl, _, rfl, co, _, rfl, SqL.of hcoF, fun u3 hu3 => ?_⟩
  rw [List.map_append, show cutV (C3.map V.int ++ [c0].map V.int) none (some (-1)) = C3.map V.int from cutV_neg (C3.map V.int) [V.int c0] (Nat.succ_pos _) rfl]
  have w5 := same_new hu3 (.lst (C3.map V.int))
  rw [List.map_append] at atc hcoF
  refine ⟨_, rfl, _, rfl, co, _, _, _, rfl, rfl, SqL.of (w5 _ _ hcoF), atc, _, _, rfl, rfl, szl (by show 1 ≤ 1000000; decide), fun u4 hu4 => ?_⟩
  have w6 := same_new hu4 (.lst [V.int (c0 + 1)])
  refine ⟨u3, u4, _, _, rfl, rfl, w6 _ _ upd_same, upd_same, szl (by rw [List.length_map, List.length_singleton]; omega), fun n3 hn3 => ?_⟩
  have w7 := w5.trans (w6.trans (same_new hn3 (.lst (C3.map V.int ++ [V.int (c0 + 1)]))))
  have m3' : n3 ≠ ro := fun q => by rw [q, (w5.trans w6) _ _ fr] at hn3; cases hn3
  refine ⟨st, n3, pa, k, vs, C3 ++ [c0 + 1], Pp, _, _, _, _, _, _, _, _, _, _, rfl, same.trans w7, w7 _ _ hstF, vl, fun v hv => (vlF v hv).over w7, k3, ?_, by rw [List.length_append, List.length_singleton]; omega, w7 _ _ hpaF, Pl, nst, m3', npa, w7 _ _ fr, axF.mono fun _ _ q => q.over w7, by rw [List.length_append, List.length_singleton]; omega, fun R hR => ?_⟩
  · rw [upd_same, List.map_append]; rfl
  · rcases List.mem_append.mp hR with q | q
    · exact Rok R q
    · rw [List.mem_singleton.mp q]
      refine ⟨⟨k3, by show (Pp ++ [c0]).length = k + 1; rw [List.length_append, List.length_singleton, Pl], by show m ≤ 30; omega, ?_⟩, m3⟩
      obtain ⟨_, _, _, _, _, _, _, _, _, _, _, _, _, tm⟩ := r5
      exact tm.pos.2.1

theorem ok_longer (T : Tx K mg a) : FnOk P w K mg base CX0 5 a.f_l_longer a.d_l_longer ["_law_script", "_law_rows_here"] (spLonger55 K) := by
  have G_l_cell := ok_cell (P := P) (w := w) (base := base) T
  have G_l_mixed := ok_mixed (P := P) (w := w) (base := base) T
  have G_l_leaf := ok_leaf (P := P) (w := w) (base := base) T
  have G_l_heads := ok_heads (P := P) (w := w) (base := base) T
  refine T.F_l_longer.ok sc_l_longer (fun vs H Q E h => ?_) (fun cdv A outer s H vs Q E hr h => ?_)
  · obtain ⟨_, _, _, _, rfl, _⟩ := h; rfl
  obtain ⟨p, l, ns, Rs, rfl, hp, h63, hRs, Rp, R6, Rok, q⟩ := h
  refine ⟨_, (@pss_cons _ _ _ _ _ (@ps_set _ _ (2) _ _ _ _ sc_l_longer.nd rfl (Or.inl rfl) (@pe_call _ _ _ _ _ _ _ _ _ _ _ _ _ _ _ _ G_l_cell (hr.mono (by omega)) (by rfl) T.m_l_cell T.F_l_cell.kp T.b_l_cell .nil pass0 (@pa_cons _ _ _ _ _ (pv 0) (@pa_cons _ _ _ _ _ pe_int pa_nil (by rfl)) (by rfl)) (by decide) (by rfl) (by rfl)) (by rfl) (by first | exact .inl rfl | exact .inr rfl | assumption)) (@pss_cons _ _ _ _ _ (@ps_set _ _ (3) _ _ _ _ sc_l_longer.nd rfl (Or.inl rfl) (@pe_call _ _ _ _ _ _ _ _ _ _ _ _ _ _ _ _ G_l_mixed (hr.mono (by omega)) (by rfl) T.m_l_mixed T.F_l_mixed.kp T.b_l_mixed .nil pass0 (@pa_cons _ _ _ _ _ (pv 2) (@pa_cons _ _ _ _ _ pe_int pa_nil (by rfl)) (by rfl)) (by decide) (by rfl) (by rfl)) (by rfl) (by first | exact .inl rfl | exact .inr rfl | assumption)) (@pss_cons _ _ _ _ _ (@ps_if _ _ _ _ _ _ _ _ (@pt_cmpR _ _ _ _ _ _ _ _ op_ne (@pe_op _ _ _ _ _ _ _ _ op_mod (pv 3) pe_int) pe_int (@nomark _ _ (by decide) (by decide))) (@pss_one _ _ _ (@ps_ret _ _ _ _ (pv 1))) pss_nil) (@pss_cons _ _ _ _ _ (@ps_set _ _ (4) _ _ _ _ sc_l_longer.nd rfl (Or.inl rfl) (@pe_op _ _ _ _ _ _ _ _ op_mod (@pe_op _ _ _ _ _ _ _ _ op_fdiv (pv 3) pe_int) (@pe_callB _ _ _ _ _ _ _ _ _ call_len_seq (by rfl) T.z_len bt_len (@pa_cons _ _ _ _ _ (pv 1) pa_nil (by rfl)) (by decide) (by decide) (by rfl) (by rfl))) (by rfl) (by first | exact .inl rfl | exact .inr rfl | assumption)) (@pss_cons _ _ _ _ _ (@ps_set _ _ (5) _ _ _ _ sc_l_longer.nd rfl (Or.inl rfl) (@pe_ix _ _ _ _ _ _ _ ix_list (pv 1) (pv 4) (fun _ _ => rfl)) (by rfl) (by first | exact .inl rfl | exact .inr rfl | assumption)) (@pss_cons _ _ _ _ _ (@ps_set _ _ (6) _ _ _ _ sc_l_longer.nd rfl (Or.inl rfl) (@pe_op _ _ _ _ _ _ _ _ op_cat (@pe_lst _ _ _ _ (@pa_cons _ _ _ _ _ (@pe_tup _ _ _ _ _ (@pa_cons _ _ _ _ _ pe_str (@pa_cons _ _ _ _ _ pe_int pa_nil (by rfl)) (by rfl))) pa_nil (by rfl))) (@pe_compB _ _ _ _ _ _ _ ["_law_name_here"] [none] _ _ _ _ (by rfl) (@pi_tup _ _ _ _ (@pe_ix _ _ _ _ _ _ _ ix_tup (pv 5) pe_int (fun _ _ => rfl))) c_l_longer_0 (fun _ _ _ _ _ _ => ⟨(pg_name (i := 0) c_l_longer_0n rfl (Or.inl rfl)), @pts_nil _, (@pe_tup _ _ _ _ _ (@pa_cons _ _ _ _ _ (pv 0) (@pa_cons _ _ _ _ _ pe_int pa_nil (by rfl)) (by rfl)))⟩) (by intro _ ; rfl))) (by rfl) (by first | exact .inl rfl | exact .inr rfl | assumption)) (@pss_cons _ _ _ _ _ (@ps_set _ _ (7) _ _ _ _ sc_l_longer.nd rfl (Or.inl rfl) (@pe_ix _ _ _ _ _ _ _ ix_tup (pv 5) pe_int (fun _ _ => rfl)) (by rfl) (by first | exact .inl rfl | exact .inr rfl | assumption)) (@pss_cons _ _ _ _ _ (@ps_for _ _ _ _ _ _ _ _ PassesOwn.never rfl (@pi_range1 _ _ _ _ _ _ (by rfl) T.z_range (@pa_cons _ _ _ _ _ (@pe_op _ _ _ _ _ _ _ _ op_add pe_int (@pe_op _ _ _ _ _ _ _ _ op_mod (@pe_op _ _ _ _ _ _ _ _ op_fdiv (pv 3) pe_int) pe_int)) pa_nil (by rfl)) (by rfl)) (pg_name (i := 8) sc_l_longer.nd rfl (Or.inl rfl)) (@pss_one _ _ _ (@ps_set _ _ (7) _ _ _ _ sc_l_longer.nd rfl (Or.inl rfl) (@pe_tupq _ _ _ _ _ (@paq_cons _ _ _ _ _ pe_str (@paq_cons _ _ _ _ _ (pv 7) (@paq_cons _ _ _ _ _ (@pe_call _ _ _ _ _ _ _ _ _ _ _ _ _ _ _ _ G_l_leaf (hr.mono (by omega)) (by rfl) T.m_l_leaf T.F_l_leaf.kp T.b_l_leaf .nil pass0 (@pa_cons _ _ _ _ _ (@pe_call _ _ _ _ _ _ _ _ _ _ _ _ _ _ _ _ G_l_mixed (hr.mono (by omega)) (by rfl) T.m_l_mixed T.F_l_mixed.kp T.b_l_mixed .nil pass0 (@pa_cons _ _ _ _ _ (pv 2) (@pa_cons _ _ _ _ _ (@pe_op _ _ _ _ _ _ _ _ op_add pe_int (pv 8)) pa_nil (by rfl)) (by rfl)) (by decide) (by rfl) (by rfl)) (@pa_cons _ _ _ _ _ (pv 6) (@pa_cons _ _ _ _ _ (@pe_call _ _ _ _ _ _ _ _ _ _ _ _ _ _ _ _ G_l_heads (hr.mono (by omega)) (by rfl) T.m_l_heads T.F_l_heads.kp T.b_l_heads .nil pass0 (@pa_cons _ _ _ _ _ (pv 0) pa_nil (by rfl)) (by decide) (by rfl) (by rfl)) pa_nil (by rfl)) (by rfl)) (by rfl)) (by decide) (by rfl) (by rfl)) paq_nil star_K) star_N) star_C)) (by rfl) (by first | exact .inl rfl | exact .inr rfl | assumption))) (by intro _ ; rfl)) (@pss_one _ _ _ (@ps_ret _ _ _ _ (@pe_op _ _ _ _ _ _ _ _ op_cat (@pe_op _ _ _ _ _ _ _ _ op_cat (@pe_slice _ _ _ _ _ _ _ _ _ _ sl_list (pv 1) po_none (@po_some _ _ _ (pv 4))) (@pe_lst _ _ _ _ (@pa_cons _ _ _ _ _ (@pe_tupq _ _ _ _ _ (@paq_cons _ _ _ _ _ (@pe_ix _ _ _ _ _ _ _ ix_tup (pv 5) pe_int (fun _ _ => rfl)) (@paq_cons _ _ _ _ _ (@pe_ix _ _ _ _ _ _ _ ix_tup (pv 5) pe_int (fun _ _ => rfl)) (@paq_cons _ _ _ _ _ (@pe_ix _ _ _ _ _ _ _ ix_tup (pv 5) pe_int (fun _ _ => rfl)) (@paq_cons _ _ _ _ _ (@pe_ix _ _ _ _ _ _ _ ix_tup (pv 5) pe_int (fun _ _ => rfl)) (@paq_cons _ _ _ _ _ (@pe_ix _ _ _ _ _ _ _ ix_tup (pv 5) pe_int (fun _ _ => rfl)) (@paq_cons _ _ _ _ _ (pv 7) (@paq_cons _ _ _ _ _ (@pe_ix _ _ _ _ _ _ _ ix_tup (pv 5) pe_int (fun _ _ => rfl)) paq_nil star_S) star_N) star_S) star_S) star_S) star_S) star_S)) pa_nil (by rfl)))) (@pe_slice _ _ _ _ _ _ _ _ _ _ sl_list (pv 1) (@po_some _ _ _ (@pe_op _ _ _ _ _ _ _ _ op_add (pv 4) pe_int)) po_none)))))))))))), ?_⟩
  refine ⟨_, rfl, p, ns, 2, rfl, hp, by decide, by decide, fun ci => ?_⟩
  dsimp only [gName]
  refine ⟨_, rfl, ci, 3, rfl, ?_⟩
  obtain ⟨a0, a1⟩ := mix_b ci 3
  dsimp only [gName]
  generalize mixF ci 3 = nn at a0 a1
  refine ⟨_, rfl, _, _, rfl, rfl, (by show (0 : Int) < 4; decide), rfl, _, rfl, ite2 (fun _ => ?_) (fun _ => ?_)⟩
  · exact ⟨_, rfl, q l _ Rs (Same.refl _) hRs rfl (fun R hR => (Rok R hR).1)⟩
  obtain ⟨xs, hl, ax⟩ := hRs
  have xl := ax.1
  have pos : (0 : Int) < (xs.length : Int) := by omega
  refine ⟨_, rfl, _, _, rfl, rfl, ⟨by decide, by decide⟩, _, rfl, l, _, rfl, .inl (SqL.of hl), _, _, rfl, rfl, pos, ?_⟩
  obtain ⟨at0, hat, at1⟩ : ∃ at0 : Nat, nn / 4 % (xs.length : Int) = (at0 : Int) ∧ at0 < xs.length := by
    have h0 := Int.emod_nonneg (nn / 4) (show (xs.length : Int) ≠ 0 by omega)
    have h1 := Int.emod_lt_of_pos (nn / 4) pos
    exact ⟨(nn / 4 % (xs.length : Int)).toNat, by omega, by omega⟩
  dsimp only [gName]
  rw [hat]
  have hR : Rs[at0]? = some (Rs[at0]'(by omega)) := List.getElem?_eq_getElem (by omega)
  generalize Rs[at0]'(by omega) = R at hR
  obtain ⟨y, hy, r, u1, u4, v1, v2, x, ys, rfl, hr1, hu1, yl, ystr, hu4, tm⟩ := ax.get hR
  obtain ⟨rok, rm⟩ := Rok R (List.mem_of_getElem? hR)
  refine ⟨_, rfl, _, rfl, l, _, _, _, rfl, rfl, SqL.of hl, atI_nat hy, ?_⟩
  dsimp only [gName]
  -- bases
  refine ⟨szl (by show 2 ≤ 1000000; decide), fun t0 ht0 => ⟨szl (by show 1 ≤ 1000000; decide), fun l0 hl0 => ?_⟩⟩
  have e2 := (same_new ht0 (.tup [V.str "", V.int 0])).trans (same_new hl0 (.lst [V.ref t0]))
  have ht02 : (upd (upd H t0 (.tup [V.str "", V.int 0])) l0 (.lst [V.ref t0])) t0 = some (.tup [V.str "", V.int 0]) := same_new hl0 _ _ _ upd_same
  have hl02 : (upd (upd H t0 (.tup [V.str "", V.int 0])) l0 (.lst [V.ref t0])) l0 = some (.lst [V.ref t0]) := upd_same
  generalize upd (upd H t0 (.tup [V.str "", V.int 0])) l0 (.lst [V.ref t0]) = H2 at e2 ht02 hl02
  have n3 := rok.n3
  refine ⟨_, rfl, r, _, 0, _, rfl, rfl, SqT.of (e2 _ _ hr1), rfl, u1, rfl, ⟨_, SqT.of (e2 _ _ hu1)⟩, ?_⟩
  refine comp_tup (xs := ys) (fun i zs H' => Same H2 H' ∧ zs.length = i ∧ PairsAt H' zs) ⟨Same.refl _, rfl, fun v hv => by cases hv⟩ (szl (by omega)) (fun i zs H' hi pp => ⟨SqT.of (pp.1 _ _ (e2 _ _ hu1)), by omega⟩) (fun i x zs H' hx pp => ?_) (fun zs H' pp rr hrr => ?_)
  · obtain ⟨e3, zl, zp⟩ := pp
    obtain ⟨z, rfl⟩ := ystr x (List.mem_of_getElem? hx)
    refine ⟨_, rfl, szl (by show 2 ≤ 1000000; decide), fun t4 ht4 => ?_⟩
    have s4 := same_new ht4 (.tup [V.str z, V.int 0])
    refine ⟨e3.trans s4, by rw [List.length_append, zl]; rfl, fun v hv' => ?_⟩
    rcases List.mem_append.mp hv' with h | h
    · exact (zp.over s4) v h
    · rw [List.mem_singleton] at h
      exact ⟨t4, z, 0, h, upd_same⟩
  obtain ⟨e3, zl, zp⟩ := pp
  have s4 := same_new hrr (.lst zs)
  refine ⟨l0, rr, _, _, rfl, rfl, s4 _ _ (e3 _ _ hl02), upd_same, szl (by simp only [List.length_singleton]; omega), fun bl hbl => ?_⟩
  have s5 := same_new hbl (.lst ([V.ref t0] ++ zs))
  have e5 := (e2.trans e3).trans (s4.trans s5)
  have hB : BasesAt (upd (upd H' rr (.lst zs)) bl (.lst ([V.ref t0] ++ zs))) bl := by
    refine ⟨_, upd_same, by rw [List.length_append]; show 0 < 1 + zs.length; omega, by rw [List.length_append]; show 1 + zs.length ≤ 100; omega, fun v hv' => ?_⟩
    rcases List.mem_append.mp hv' with h | h
    · rw [List.mem_singleton] at h
      exact ⟨t0, _, _, h, s5 _ _ (s4 _ _ (e3 _ _ ht02))⟩
    · exact (zp.over (s4.trans s5)) v h
  dsimp only [gName]
  generalize upd (upd H' rr (.lst zs)) bl (.lst ([V.ref t0] ++ zs)) = H5 at e5 hB
  refine ⟨_, rfl, r, _, 5, _, rfl, rfl, SqT.of (e5 _ _ hr1), rfl, ?_⟩
  dsimp only [gName]
  have z0 := Int.emod_nonneg (nn / 32) (show (8 : Int) ≠ 0 by decide)
  have z1 := Int.emod_lt_of_pos (nn / 32) (show (0 : Int) < 8 by decide)
  refine seq_any (fun σ' H6 => ∃ (x6 : V) (m6 : Nat) (rs6 : Reads) (o8 : Option V), σ' = [some (.ref p), some (.ref l), some (.int ci), some (.int nn), some (.int (at0 : Int)), some (.ref r), some (.ref bl), some x6, o8] ∧ Same H5 H6 ∧ TmT H6 m6 x6 rs6 ∧ m6 ≤ 20) (fun σ' H6 pp => ?_) (fun nx => ?_)
  rotate_left
  · refine ⟨_, rfl, _, _, rfl, rfl, ⟨by decide, by decide⟩, _, _, rfl, rfl, (by show (0 : Int) < 8; decide), _, _, rfl, rfl, _, rfl, by omega, by omega, ?_⟩
    refine for_range (lo := 0) (n := (4 + nn / 32 % 8).toNat) (fun i σ' H6 => ∃ (x6 : V) (m6 : Nat) (rs6 : Reads) (o8 : Option V), σ' = [some (.ref p), some (.ref l), some (.int ci), some (.int nn), some (.int (at0 : Int)), some (.ref r), some (.ref bl), some x6, o8] ∧ Same H5 H6 ∧ TmT H6 m6 x6 rs6 ∧ m6 ≤ 3 + i) ⟨x, R.m, R.rs, _, rfl, Same.refl _, tm.over e5, by omega⟩ (fun i σ' H6 hi pp => ?_) (fun σ' H6 pp => ?_)
    · obtain ⟨x6, m6, rs6, o8, rfl, e6, tm6, m6l⟩ := pp
      obtain ⟨w0, w1⟩ := mix_b ci (12 + (0 + (i : Int)))
      have hp6 := (e5.trans e6).seq hp
      refine ⟨_, rfl, _, rfl, _, rfl, _, _, rfl, rfl, ci, _, rfl, _, rfl, _, rfl, p, ns, rfl, hp6, fun hd H7 e7 hH => ?_⟩
      refine ⟨_, bl, hd, rfl, w0, by omega, hB.over (e6.trans e7), hH, fun x8 H8 rs8 e8 tm8 => ⟨szl (by show 3 ≤ 1000000; decide), fun t9 ht9 => ?_⟩⟩
      have s9 := same_new ht9 (.tup [V.str "+", x6, x8])
      exact ⟨.ref t9, m6 + 1, rs6 ++ rs8, _, rfl, e6.trans (e7.trans (e8.trans s9)), .j "+" List.mem_cons_self upd_same (tm6.over (e7.trans (e8.trans s9))) (tm8.over s9), by omega⟩
    · obtain ⟨x6, m6, rs6, o8, rfl, e6, tm6, m6l⟩ := pp
      exact nx _ _ ⟨x6, m6, rs6, _, rfl, e6, tm6, by omega⟩
  obtain ⟨x6, m6, rs6, o8, rfl, e6, tm6, m6l⟩ := pp
  have e06 := e5.trans e6
  have hl6 := e06 _ _ hl
  have hr6 := e06 _ _ hr1
  refine ⟨_, rfl, _, rfl, _, rfl, l, _, rfl, SqL.of hl6, fun sa hsa => ?_⟩
  have c1 : cutV xs none (some (at0 : Int)) = xs.take at0 := by
    have h : cutV xs none (some (at0 : Int)) = xs.take (at0 : Int).toNat := cut_to _ (by omega)
    rw [h, Int.toNat_natCast]
  rw [c1]
  have t1 := same_new hsa (.lst (xs.take at0))
  have f1 : (upd H6 sa (.lst (xs.take at0))) sa = some (.lst (xs.take at0)) := upd_same
  generalize upd H6 sa (.lst (xs.take at0)) = H7 at t1 f1
  have hr7 := t1 _ _ hr6
  refine ⟨_, rfl, r, _, 0, _, rfl, rfl, SqT.of hr7, rfl, _, rfl, r, _, 1, _, rfl, rfl, SqT.of hr7, rfl, _, rfl, r, _, 2, _, rfl, rfl, SqT.of hr7, rfl, _, rfl, r, _, 3, _, rfl, rfl, SqT.of hr7, rfl, _, rfl, r, _, 4, _, rfl, rfl, SqT.of hr7, rfl, _, rfl, _, rfl, r, _, 6, _, rfl, rfl, SqT.of hr7, rfl, szl (by show 7 ≤ 1000000; decide), fun rn hrn => ⟨szl (by show 1 ≤ 1000000; decide), fun ln hln => ?_⟩⟩
  have t2 := same_new hrn (.tup [V.ref u1, v1, v2, V.str R.z, V.ref R.p, x6, V.ref u4])
  have t3 := same_new hln (.lst [V.ref rn])
  have f2 : (upd (upd H7 rn (.tup [V.ref u1, v1, v2, V.str R.z, V.ref R.p, x6, V.ref u4])) ln (.lst [V.ref rn])) rn = some (.tup [V.ref u1, v1, v2, V.str R.z, V.ref R.p, x6, V.ref u4]) := t3 _ _ upd_same
  have f3 : (upd (upd H7 rn (.tup [V.ref u1, v1, v2, V.str R.z, V.ref R.p, x6, V.ref u4])) ln (.lst [V.ref rn])) ln = some (.lst [V.ref rn]) := upd_same
  have t23 := t2.trans t3
  generalize upd (upd H7 rn (.tup [V.ref u1, v1, v2, V.str R.z, V.ref R.p, x6, V.ref u4])) ln (.lst [V.ref rn]) = H8 at t23 f2 f3
  refine ⟨sa, ln, _, _, rfl, rfl, t23 _ _ f1, f3, szl (by rw [List.length_take, List.length_singleton]; omega), fun lb hlb => ?_⟩
  have t4 := same_new hlb (.lst (xs.take at0 ++ [V.ref rn]))
  have f4 : (upd H8 lb (.lst (xs.take at0 ++ [V.ref rn]))) lb = some (.lst (xs.take at0 ++ [V.ref rn])) := upd_same
  generalize upd H8 lb (.lst (xs.take at0 ++ [V.ref rn])) = H9 at t4 f4
  have hl9 := (t1.trans (t23.trans t4)) _ _ hl6
  refine ⟨_, rfl, _, rfl, _, _, rfl, rfl, _, rfl, l, _, rfl, SqL.of hl9, fun sb hsb => ?_⟩
  have c2 : cutV xs (some ((at0 : Int) + 1)) none = xs.drop (at0 + 1) := by
    have h : cutV xs (some ((at0 : Int) + 1)) none = xs.drop ((at0 : Int) + 1).toNat := cut_from _ (by omega)
    rw [h]
    rfl
  rw [c2]
  have t5 := same_new hsb (.lst (xs.drop (at0 + 1)))
  refine ⟨lb, sb, _, _, rfl, rfl, t5 _ _ f4, upd_same, szl (by rw [List.length_append, List.length_take, List.length_singleton, List.length_drop]; omega), fun lr hlr => ?_⟩
  have t6 := same_new hlr (.lst (xs.take at0 ++ [V.ref rn] ++ xs.drop (at0 + 1)))
  have tA := t1.trans (t23.trans (t4.trans (t5.trans t6)))
  have e0A := e06.trans tA
  refine q lr _ (Rs.take at0 ++ [⟨R.n, R.path, R.z, R.p, m6, rs6⟩] ++ Rs.drop (at0 + 1)) e0A ⟨_, upd_same, ?_⟩ ?_ fun S hS => ?_
  · have axA := ax.mono fun _ _ z => z.over e0A
    refine ((axA.take at0).snoc ?_).app (axA.drop (at0 + 1))
    exact ⟨rn, u1, u4, v1, v2, x6, ys, rfl, (t4.trans (t5.trans t6)) _ _ f2, e0A _ _ hu1, yl, ystr, e0A _ _ hu4, tm6.over tA⟩
  · rw [List.length_append, List.length_append, List.length_take, List.length_singleton, List.length_drop]
    omega
  · rcases List.mem_append.mp hS with z | z
    · rcases List.mem_append.mp z with z | z
      · exact (Rok S (List.mem_of_mem_take z)).1
      · rw [List.mem_singleton.mp z]
        exact ⟨rok.n3, rok.pl, by show m6 ≤ 30; omega, tm6.pos.2.1⟩
    · exact (Rok S (List.mem_of_mem_drop z)).1

theorem ok_law (T : Tx K mg a) : FnOk P w K mg base CX0 110 a.f_law a.d_law ["_law_script"] (spLaw K) := by
  have G_l_rows := ok_rows (P := P) (w := w) (base := base) T
  have G_l_many := ok_many (P := P) (w := w) (base := base) T
  have G_l_longer := ok_longer (P := P) (w := w) (base := base) T
  have G_l_size := ok_size (P := P) (w := w) (base := base) T
  have G_l_made := ok_made (P := P) (w := w) (base := base) T
  have G_l_meets := ok_lmeets (P := P) (w := w) (base := base) T
  have G_meets := ok_meets (P := P) (w := w) (base := base) T
  have G_l_rising := ok_rising (P := P) (w := w) (base := base) T
  have G_cases := ok_cases (P := P) (w := w) (base := base) T
  have G_l_numbers := ok_numbers (P := P) (w := w) (base := base) T
  have G_l_cases := ok_lcases (P := P) (w := w) (base := base) T
  refine T.F_law.ok sc_law (fun vs H Q E h => ?_) (fun cdv A outer s H vs Q E hr h => ?_)
  · obtain ⟨_, _, rfl, _⟩ := h; rfl
  obtain ⟨p, ns, rfl, hp, h63, _, q⟩ := h
  refine ⟨_, (@pss_cons _ _ _ _ _ (@ps_set _ _ (1) _ _ _ _ sc_law.nd rfl (Or.inl rfl) (@pe_call _ _ _ _ _ _ _ _ _ _ _ _ _ _ _ _ G_l_longer (hr.mono (by omega)) (by rfl) T.m_l_longer T.F_l_longer.kp T.b_l_longer .nil pass0 (@pa_cons _ _ _ _ _ (pv 0) (@pa_cons _ _ _ _ _ (@pe_call _ _ _ _ _ _ _ _ _ _ _ _ _ _ _ _ G_l_rows (hr.mono (by omega)) (by rfl) T.m_l_rows T.F_l_rows.kp T.b_l_rows .nil pass0 (@pa_cons _ _ _ _ _ (pv 0) (@pa_cons _ _ _ _ _ (@pe_call _ _ _ _ _ _ _ _ _ _ _ _ _ _ _ _ G_l_many (hr.mono (by omega)) (by rfl) T.m_l_many T.F_l_many.kp T.b_l_many .nil pass0 (@pa_cons _ _ _ _ _ (pv 0) pa_nil (by rfl)) (by decide) (by rfl) (by rfl)) pa_nil (by rfl)) (by rfl)) (by decide) (by rfl) (by rfl)) pa_nil (by rfl)) (by rfl)) (by decide) (by rfl) (by rfl)) (by rfl) (by first | exact .inl rfl | exact .inr rfl | assumption)) (@pss_cons _ _ _ _ _ (@ps_set _ _ (2) _ _ _ _ sc_law.nd rfl (Or.inl rfl) (@pe_call _ _ _ _ _ _ _ _ _ _ _ _ _ _ _ _ G_l_made (hr.mono (by omega)) (by rfl) T.m_l_made T.F_l_made.kp T.b_l_made .nil pass0 (@pa_cons _ _ _ _ _ (@pe_call _ _ _ _ _ _ _ _ _ _ _ _ _ _ _ _ G_l_size (hr.mono (by omega)) (by rfl) T.m_l_size T.F_l_size.kp T.b_l_size .nil pass0 (@pa_cons _ _ _ _ _ (pv 0) pa_nil (by rfl)) (by decide) (by rfl) (by rfl)) (@pa_cons _ _ _ _ _ (pv 1) pa_nil (by rfl)) (by rfl)) (by decide) (by rfl) (by rfl)) (by rfl) (by first | exact .inl rfl | exact .inr rfl | assumption)) (@pss_cons _ _ _ _ _ (@ps_set _ _ (3) _ _ _ _ sc_law.nd rfl (Or.inl rfl) (@pe_call _ _ _ _ _ _ _ _ _ _ _ _ _ _ _ _ G_l_meets (hr.mono (by omega)) (by rfl) T.m_l_meets T.F_l_meets.kp T.b_l_meets .nil pass0 (@pa_cons _ _ _ _ _ (pv 1) pa_nil (by rfl)) (by decide) (by rfl) (by rfl)) (by rfl) (by first | exact .inl rfl | exact .inr rfl | assumption)) (@pss_cons _ _ _ _ _ (@ps_set _ _ (4) _ _ _ _ sc_law.nd rfl (Or.inl rfl) (@pe_call _ _ _ _ _ _ _ _ _ _ _ _ _ _ _ _ G_meets (hr.mono (by omega)) (by rfl) T.m_meets T.F_meets.kp T.b_meets .nil pass0 (@pa_cons _ _ _ _ _ (pv 2) pa_nil (by rfl)) (by decide) (by rfl) (by rfl)) (by rfl) (by first | exact .inl rfl | exact .inr rfl | assumption)) (@pss_cons _ _ _ _ _ (@ps_if _ _ _ _ _ _ _ _ ((@pw_or _ _ _ _ _ _ _ (@pt_not _ _ _ _ (@pt_val _ _ _ (@pe_call _ _ _ _ _ _ _ _ _ _ _ _ _ _ _ _ G_l_rising (hr.mono (by omega)) (by rfl) T.m_l_rising T.F_l_rising.kp T.b_l_rising .nil pass0 (@pa_cons _ _ _ _ _ (pv 4) pa_nil (by rfl)) (by decide) (by rfl) (by rfl)) (by intro _ ; rfl))) (@pw_or1 _ _ _ _ (@pt_cmpR _ _ _ _ _ _ _ _ (@op_neS _ (@hu64 _ _ hr)) (pv 4) (pv 3) (@nomark _ _ (by decide) (by decide)))))).pt (@pss_one _ _ _ (@ps_ret _ _ _ _ pe_bl)) pss_nil) (@pss_cons _ _ _ _ _ (@ps_expr _ _ _ _ (@pe_bm0 _ _ _ _ _ _ _ _ _ PySem.F.plainAttrs_list PySem.F.slot_list_clear PySem.F.type_list_clear mt_clear (pv 4) (by rfl) (by rfl)) (by rfl)) (@pss_cons _ _ _ _ _ (@ps_for _ _ _ _ _ _ _ _ PassesOwn.never rfl (@pi_range1 _ _ _ _ _ _ (by rfl) T.z_range (@pa_cons _ _ _ _ _ (@pe_callB _ _ _ _ _ _ _ _ _ call_len_seq (by rfl) T.z_len bt_len (@pa_cons _ _ _ _ _ (pv 1) pa_nil (by rfl)) (by decide) (by decide) (by rfl) (by rfl)) pa_nil (by rfl)) (by rfl)) (pg_name (i := 5) sc_law.nd rfl (Or.inl rfl)) (@pss_one _ _ _ (@ps_for _ _ _ _ _ _ _ _ PassesOwn.never rfl (@pi_range1 _ _ _ _ _ _ (by rfl) T.z_range (@pa_cons _ _ _ _ _ (@pe_callB _ _ _ _ _ _ _ _ _ call_len_seq (by rfl) T.z_len bt_len (@pa_cons _ _ _ _ _ (pv 1) pa_nil (by rfl)) (by decide) (by decide) (by rfl) (by rfl)) pa_nil (by rfl)) (by rfl)) (pg_name (i := 6) sc_law.nd rfl (Or.inl rfl)) (@pss_cons _ _ _ _ _ (@ps_set _ _ (7) _ _ _ _ sc_law.nd rfl (Or.inl rfl) (@pe_call _ _ _ _ _ _ _ _ _ _ _ _ _ _ _ _ G_cases (hr.mono (by omega)) (by rfl) T.m_cases T.F_cases.kp T.b_cases .nil pass0 (@pa_cons _ _ _ _ _ (pv 2) (@pa_cons _ _ _ _ _ (pv 5) (@pa_cons _ _ _ _ _ (pv 6) pa_nil (by rfl)) (by rfl)) (by rfl)) (by decide) (by rfl) (by rfl)) (by rfl) (by first | exact .inl rfl | exact .inr rfl | assumption)) (@pss_cons _ _ _ _ _ (@ps_if _ _ _ _ _ _ _ _ ((@pw_or _ _ _ _ _ _ _ (@pt_not _ _ _ _ (@pt_val _ _ _ (@pe_call _ _ _ _ _ _ _ _ _ _ _ _ _ _ _ _ G_l_numbers (hr.mono (by omega)) (by rfl) T.m_l_numbers T.F_l_numbers.kp T.b_l_numbers .nil pass0 (@pa_cons _ _ _ _ _ (pv 7) pa_nil (by rfl)) (by decide) (by rfl) (by rfl)) (by intro _ ; rfl))) (@pw_or1 _ _ _ _ (@pt_cmpR _ _ _ _ _ _ _ _ (@op_neS _ (@hu64 _ _ hr)) (pv 7) (@pe_call _ _ _ _ _ _ _ _ _ _ _ _ _ _ _ _ G_l_cases (hr.mono (by omega)) (by rfl) T.m_l_cases T.F_l_cases.kp T.b_l_cases .nil pass0 (@pa_cons _ _ _ _ _ (pv 1) (@pa_cons _ _ _ _ _ (pv 5) (@pa_cons _ _ _ _ _ (pv 6) pa_nil (by rfl)) (by rfl)) (by rfl)) (by decide) (by rfl) (by rfl)) (@nomark _ _ (by decide) (by decide)))))).pt (@pss_one _ _ _ (@ps_ret _ _ _ _ pe_bl)) pss_nil) (@pss_cons _ _ _ _ _ (@ps_expr _ _ _ _ (@pe_bm _ _ _ _ _ _ _ _ _ _ _ _ PySem.F.plainAttrs_list PySem.F.slot_list_append PySem.F.type_list_append mt_append (pv 7) (@pa_cons _ _ _ _ _ pe_int pa_nil (by rfl)) (by rfl) (by rfl) (by rfl) (by rfl) (by rfl)) (by rfl)) (@pss_one _ _ _ (@ps_if _ _ _ _ _ _ _ _ (@pt_cmpR _ _ _ _ _ _ _ _ (@op_neS _ (@hu64 _ _ hr)) (@pe_call _ _ _ _ _ _ _ _ _ _ _ _ _ _ _ _ G_cases (hr.mono (by omega)) (by rfl) T.m_cases T.F_cases.kp T.b_cases .nil pass0 (@pa_cons _ _ _ _ _ (pv 2) (@pa_cons _ _ _ _ _ (pv 5) (@pa_cons _ _ _ _ _ (pv 6) pa_nil (by rfl)) (by rfl)) (by rfl)) (by decide) (by rfl) (by rfl)) (@pe_call _ _ _ _ _ _ _ _ _ _ _ _ _ _ _ _ G_l_cases (hr.mono (by omega)) (by rfl) T.m_l_cases T.F_l_cases.kp T.b_l_cases .nil pass0 (@pa_cons _ _ _ _ _ (pv 1) (@pa_cons _ _ _ _ _ (pv 5) (@pa_cons _ _ _ _ _ (pv 6) pa_nil (by rfl)) (by rfl)) (by rfl)) (by decide) (by rfl) (by rfl)) (@nomark _ _ (by decide) (by decide))) (@pss_one _ _ _ (@ps_ret _ _ _ _ pe_bl)) pss_nil))))) (by intro _ ; rfl))) (by intro _ ; rfl)) (@pss_cons _ _ _ _ _ (@ps_if _ _ _ _ _ _ _ _ ((@pw_or _ _ _ _ _ _ _ (@pt_cmpR _ _ _ _ _ _ _ _ (@op_neS _ (@hu64 _ _ hr)) (@pe_call _ _ _ _ _ _ _ _ _ _ _ _ _ _ _ _ G_meets (hr.mono (by omega)) (by rfl) T.m_meets T.F_meets.kp T.b_meets .nil pass0 (@pa_cons _ _ _ _ _ (pv 2) pa_nil (by rfl)) (by decide) (by rfl) (by rfl)) (pv 3) (@nomark _ _ (by decide) (by decide))) (@pw_or1 _ _ _ _ (@pt_cmpR _ _ _ _ _ _ _ _ op_ne (@pe_callB _ _ _ _ _ _ _ _ _ call_len_seq (by rfl) T.z_len bt_len (@pa_cons _ _ _ _ _ (@pe_fld _ _ _ _ _ (pv 2) rfl) pa_nil (by rfl)) (by decide) (by decide) (by rfl) (by rfl)) (@pe_callB _ _ _ _ _ _ _ _ _ call_len_seq (by rfl) T.z_len bt_len (@pa_cons _ _ _ _ _ (pv 1) pa_nil (by rfl)) (by decide) (by decide) (by rfl) (by rfl)) (@nomark _ _ (by decide) (by decide)))))).pt (@pss_one _ _ _ (@ps_ret _ _ _ _ pe_bl)) pss_nil) (@pss_cons _ _ _ _ _ (@ps_if _ _ _ _ _ _ _ _ (@pt_cmpR _ _ _ _ _ _ _ _ op_gt (@pe_callB _ _ _ _ _ _ _ _ _ call_len_seq (by rfl) T.z_len bt_len (@pa_cons _ _ _ _ _ (pv 1) pa_nil (by rfl)) (by decide) (by decide) (by rfl) (by rfl)) pe_int (@nomark _ _ (by decide) (by decide))) (@pss_cons _ _ _ _ _ (@ps_expr _ _ _ _ (@pe_bm0 _ _ _ _ _ _ _ _ _ PySem.F.plainAttrs_list PySem.F.slot_list_pop PySem.F.type_list_pop mt_pop (@pe_fld _ _ _ _ _ (pv 2) rfl) (by rfl) (by rfl)) (by rfl)) (@pss_one _ _ _ (@ps_ret _ _ _ _ (@pe_cmpR _ _ _ _ _ _ _ _ (@op_eqS _ (@hu64 _ _ hr)) (@pe_call _ _ _ _ _ _ _ _ _ _ _ _ _ _ _ _ G_meets (hr.mono (by omega)) (by rfl) T.m_meets T.F_meets.kp T.b_meets .nil pass0 (@pa_cons _ _ _ _ _ (pv 2) pa_nil (by rfl)) (by decide) (by rfl) (by rfl)) (@pe_call _ _ _ _ _ _ _ _ _ _ _ _ _ _ _ _ G_l_meets (hr.mono (by omega)) (by rfl) T.m_l_meets T.F_l_meets.kp T.b_l_meets .nil pass0 (@pa_cons _ _ _ _ _ (@pe_slice _ _ _ _ _ _ _ _ _ _ sl_list (pv 1) po_none (@po_some _ _ _ (@pe_un _ _ _ _ _ _ un_neg pe_int))) pa_nil (by rfl)) (by decide) (by rfl) (by rfl)) (@nomark _ _ (by decide) (by decide)))))) pss_nil) (@pss_one _ _ _ (@ps_ret _ _ _ _ pe_bl))))))))))), ?_⟩
  refine ⟨_, rfl, _, rfl, _, rfl, p, ns, rfl, hp, h63, fun H1 n e1 n1 n6 => ?_⟩
  refine ⟨p, ns, n, rfl, e1.seq hp, h63, n6, fun r0 H2 Rs0 e2 hr0 R0l R0ok => ?_⟩
  have e02 := e1.trans e2
  refine ⟨p, r0, ns, Rs0, rfl, e02.seq hp, h63, hr0, by omega, by omega, R0ok, fun rl H3 Rs e3 hRs Rl Rok => ?_⟩
  have e03 := e02.trans e3
  dsimp only [gName]
  refine ⟨_, rfl, p, ns, rfl, e03.seq hp, h63, fun H4 sz e4 => ?_⟩
  refine ⟨_, rfl, sz, rl, Rs, rfl, hRs.over e4, by omega, Rok, fun x dx dl xs H5 e5 hx dl0 hdl ax => ?_⟩
  have e45 := e4.trans e5
  have hRs5 := hRs.over e45
  dsimp only [gName]
  have hP : ∀ HX, Same H5 HX → P5At a.c_Program a.c_Deed (csOf a) HX (.ref x) Rs := fun HX e => ⟨x, dx, dl, _, xs, rfl, e _ _ hx, e _ _ hdl, ax.mono fun _ _ z => z.over e⟩
  have R6 : Rs.length ≤ 6 := by omega
  -- due, found
  refine ⟨_, rfl, rl, Rs, rfl, hRs5, Rok, R6, fun du H6 e6 hdu => ?_⟩
  dsimp only [gName]
  refine ⟨_, rfl, .ref x, Rs, rfl, hP _ e6, Rok, R6, fun fo H7 e7 fo0 hfo => ?_⟩
  dsimp only [gName]
  have tl := al5_len Rok R6
  have ml := mt_len tl
  have srt := Pm.mt_sorted (Pm.all3_sorted 0 (Rs.map tl5)).1
  have dep1 : depT (.lst ((Pm.mt (al5 Rs)).map q4T)) ≤ 60 := by rw [depT]; have := q4_dep (Pm.mt (al5 Rs)); omega
  have e57 := e6.trans e7
  refine ⟨_, rfl, fo, Pm.mt (al5 Rs), rfl, hfo, srt, by omega, fun H8 e8 => ⟨_, rfl, iteF ?_⟩⟩
  have e78 := e7.trans e8
  refine ⟨_, rfl, _, rfl, ne_same5 (q4_list (hfo.over e8)) (q4_list (hdu.over e78)) dep1 ⟨_, rfl, iteF ?_⟩⟩
  dsimp only [tNext]
  -- found is emptied
  obtain ⟨fs, hfs, _⟩ := hfo.over e8
  refine ⟨_, rfl, .inl ⟨rfl, _, SqL.of hfs⟩, fo, _, rfl, rfl, hfs, ?_⟩
  have s6C : Same H6 (upd H8 fo (.lst [])) := fun b o hb => by rw [upd_ne (ne_of_none hb fo0)]; exact e78 _ _ hb
  generalize upd H8 fo (.lst []) = HC at s6C
  obtain ⟨rx, hrl, arx⟩ := hRs5.over e6
  have hRs6 : R5sAt H6 rl Rs := ⟨rx, hrl, arx⟩
  have rxl := arx.1
  have depR : ∀ m : Nat, depT (.lst (((List.range m).map fun i : Nat => (i : Int)).map fun i => Tr.v (.int i))) ≤ 60 := fun m => by rw [depT, ints_dep]; decide
  -- all cases
  dsimp only
  refine seq_any (fun σ' H' => Same H6 H' ∧ ∃ o5 o6 o7, σ' = [some (.ref p), some (.ref rl), some (.ref x), some (.ref du), some (.ref fo), o5, o6, o7]) (fun σ' H' pp => ?_) (fun nx => ?_)
  rotate_left
  · refine ⟨_, rfl, rl, _, rfl, .inl (SqL.of (s6C _ _ hrl)), _, rfl, by omega, by omega, ?_⟩
    rw [Int.toNat_natCast]
    refine for_range (lo := 0) (n := rx.length) (fun i σ' H' => Same H6 H' ∧ ∃ o5 o6 o7, σ' = [some (.ref p), some (.ref rl), some (.ref x), some (.ref du), some (.ref fo), o5, o6, o7]) ⟨s6C, _, _, _, rfl⟩ (fun i σ' H' hi pp => ?_) (fun σ' H' pp => nx _ _ pp)
    obtain ⟨eA, o5, o6, o7, rfl⟩ := pp
    refine ⟨_, rfl, rl, _, rfl, .inl (SqL.of (eA _ _ hrl)), _, rfl, by omega, by omega, ?_⟩
    rw [Int.toNat_natCast]
    refine for_range (lo := 0) (n := rx.length) (fun j σ' H' => Same H6 H' ∧ ∃ o6 o7, σ' = [some (.ref p), some (.ref rl), some (.ref x), some (.ref du), some (.ref fo), some (.int (0 + (i : Int))), o6, o7]) ⟨eA, _, _, rfl⟩ (fun j σ' H' hj pp => ?_) (fun σ' H' pp => by obtain ⟨h1, h2, h3, h4⟩ := pp; exact ⟨h1, _, _, _, h4⟩)
    obtain ⟨eB, o6, o7, rfl⟩ := pp
    have hRi : Rs[i]? = some (Rs[i]'(by omega)) := List.getElem?_eq_getElem (by omega)
    have hRj : Rs[j]? = some (Rs[j]'(by omega)) := List.getElem?_eq_getElem (by omega)
    generalize Rs[i]'(by omega) = R at hRi
    generalize Rs[j]'(by omega) = S at hRj
    obtain ⟨k, pf⟩ := pf_ex R S
    have kl : caN i j k ≤ 4 := by
      have := pf.1
      have := (Rok R (List.mem_of_getElem? hRi)).n3
      unfold caN
      split <;> omega
    rw [Int.zero_add, Int.zero_add]
    refine ⟨_, rfl, _, rfl, _, rfl, .ref x, Rs, i, j, k, R, S, rfl, hP _ (e6.trans eB), Rok, hRi, hRj, pf, fun to HD eD to0 hto => ?_⟩
    dsimp only [gName]
    have hto2 : HD to = some (.lst (((List.range (caN i j k)).map fun i : Nat => (i : Int)).map V.int)) := by rw [hto, List.map_map]; rfl
    refine ⟨_, rfl, to, _, rfl, hto2, by rw [List.length_map, List.length_range]; omega, fun HE eE => ⟨_, rfl, iteF ?_⟩⟩
    have eBE := eB.trans (eD.trans eE)
    refine ⟨_, rfl, _, rfl, _, rfl, _, rfl, rl, Rs, i, j, k, R, S, rfl, hRs6.over eBE, Rok, hRi, hRj, pf, fun tc HF eF htc => ?_⟩
    refine ne_same5 (rng_tr (eF _ _ (eE _ _ hto))) (rng_tr htc) (depR _) ⟨_, rfl, iteF ?_⟩
    dsimp only [tNext]
    have htoF := (eE.trans eF) _ _ hto
    refine ⟨_, rfl, .inl ⟨rfl, _, SqL.of htoF⟩, to, _, _, rfl, rfl, htoF, szlt (by rw [List.length_map, List.length_range]; omega), ?_⟩
    have eG : Same H6 (upd HF to (.lst ((List.range (caN i j k)).map (fun i : Nat => V.int (i : Int)) ++ [V.int 0]))) := fun b o hb => by
      rw [upd_ne (ne_of_none (eB _ _ hb) to0)]
      exact (eBE.trans eF) _ _ hb
    generalize upd HF to (.lst ((List.range (caN i j k)).map (fun i : Nat => V.int (i : Int)) ++ [V.int 0])) = HG at eG
    refine ⟨_, rfl, _, rfl, _, rfl, .ref x, Rs, i, j, k, R, S, rfl, hP _ (e6.trans eG), Rok, hRi, hRj, pf, fun t2 HI eI _ ht2 => ?_⟩
    refine ⟨_, rfl, _, rfl, _, rfl, rl, Rs, i, j, k, R, S, rfl, hRs6.over (eG.trans eI), Rok, hRi, hRj, pf, fun t3 HJ eJ ht3 => ?_⟩
    refine ne_same5 (rng_tr (eJ _ _ ht2)) (rng_tr ht3) (depR _) ⟨_, rfl, iteF ?_⟩
    exact ⟨eG.trans (eI.trans eJ), _, _, rfl⟩
  obtain ⟨eA, o5, o6, o7, rfl⟩ := pp
  -- again
  refine ⟨_, rfl, .ref x, Rs, rfl, hP _ (e6.trans eA), Rok, R6, fun m2 HB eB _ hm2 => ?_⟩
  have e6B := eA.trans eB
  refine ⟨_, rfl, ne_same5 (q4_list hm2) (q4_list (hdu.over e6B)) dep1 ⟨_, rfl, iteF ?_⟩⟩
  have hxB := (e6.trans e6B) _ _ hx
  have hdB := (e6.trans e6B) _ _ hdl
  have hrB := e6B _ _ hrl
  have xl := ax.1
  refine ⟨_, rfl, x, _, dx, _, _, rfl, hxB, T.cl_Program, T.n_Program_deeds, rfl, dl, _, rfl, .inl (SqL.of hdB), _, rfl, rl, _, rfl, .inl (SqL.of hrB), rfl, _, rfl, iteE (ndF (by rw [xl, rxl])) (iteF ?_)⟩
  dsimp only [tNext]
  refine ⟨_, rfl, rl, _, rfl, .inl (SqL.of hrB), _, _, rfl, rfl, _, rfl, ite2 (fun c => ?_) (fun _ => q _)⟩
  have c := dT c
  obtain ⟨Rs', R0, rfl, Rl'⟩ := snoc_of (l := Rs) (n := Rs.length - 1) (by omega)
  obtain ⟨xs', x0, rfl, xl'⟩ := snoc_of (l := xs) (n := xs.length - 1) (by omega)
  obtain ⟨rx', rx0, rfl, rxl'⟩ := snoc_of (l := rx) (n := rx.length - 1) (by omega)
  rw [List.length_append, List.length_singleton] at Rl' xl' rxl' xl rxl
  rw [List.length_append, List.length_singleton] at xl rxl
  refine ⟨_, rfl, x, _, dx, _, _, rfl, hxB, T.cl_Program, T.n_Program_deeds, rfl, .inl ⟨rfl, _, SqL.of hdB⟩, dl, _, x0, rfl, rfl, hdB, pop_last.1, ?_⟩
  rw [pop_last.2]
  have nlB : NL HB (upd HB dl (.lst xs')) := NL.upd hdB
  have ndr : rl ≠ dl := fun z => by
    have := hRs.over e4
    obtain ⟨_, h1, _⟩ := this
    rw [z] at h1
    rw [dl0] at h1
    cases h1
  have hd2 : (upd HB dl (.lst xs')) dl = some (.lst xs') := upd_same
  have hx2 := nlB _ _ hxB (fun _ z => by cases z)
  have hr2 : (upd HB dl (.lst xs')) rl = some (.lst (rx' ++ [rx0])) := by rw [upd_ne ndr]; exact hrB
  have ax2 : All2 (D5At (csOf a) a.c_Deed (upd HB dl (.lst xs'))) xs' Rs' := by
    have := (ax.mono fun _ _ z => (z.over (e6.trans e6B)).nl nlB).take xs'.length
    rw [List.take_left' rfl, List.take_left' (by omega)] at this
    exact this
  have ar2 : All2 (R5At (upd HB dl (.lst xs'))) rx' Rs' := by
    have := (arx.mono fun _ _ z => (z.over e6B).tk nlB.tk).take rx'.length
    rw [List.take_left' rfl, List.take_left' (by omega)] at this
    exact this
  generalize upd HB dl (.lst xs') = HD at hd2 hx2 hr2 ax2 ar2
  have Rok' : ∀ R ∈ Rs', R.Ok := fun R hR => Rok R (List.mem_append_left _ hR)
  have R6' : Rs'.length ≤ 6 := by rw [List.length_append] at R6; omega
  refine ⟨_, rfl, .ref x, Rs', rfl, ⟨x, dx, dl, _, xs', rfl, hx2, hd2, ax2⟩, Rok', R6', fun m3 HE eE _ hm3 => ?_⟩
  refine ⟨_, rfl, _, rfl, _, rfl, rl, _, rfl, SqL.of (eE _ _ hr2), fun l3 hl3 => ?_⟩
  rw [show cutV (rx' ++ [rx0]) none (some (-1)) = rx' from cutV_neg rx' [rx0] (Nat.succ_pos _) rfl]
  have s3 := same_new hl3 (.lst rx')
  refine ⟨l3, Rs', rfl, ⟨rx', upd_same, ar2.mono fun _ _ z => z.over (eE.trans s3)⟩, Rok', R6', fun d3 HF eF hd3 => ?_⟩
  exact eq_same5 (q4_list (hm3.over (s3.trans eF))) (q4_list hd3) (by rw [depT]; have := q4_dep (Pm.mt (al5 Rs')); omega) (q _)


end
theorem len_1 {us : List Value} (h : us.length = 1) : ∃ x0, us = [x0] := by
  rcases us with _ | ⟨x0, us⟩
  · cases h
  rcases us with _ | ⟨y, us⟩
  · exact ⟨x0, rfl⟩
  · simp only [List.length_cons] at h; omega
theorem len_2 {us : List Value} (h : us.length = 2) : ∃ x0 x1, us = [x0, x1] := by
  rcases us with _ | ⟨x0, us⟩
  · cases h
  rcases us with _ | ⟨x1, us⟩
  · cases h
  rcases us with _ | ⟨y, us⟩
  · exact ⟨x0, x1, rfl⟩
  · simp only [List.length_cons] at h; omega
theorem len_3 {us : List Value} (h : us.length = 3) : ∃ x0 x1 x2, us = [x0, x1, x2] := by
  rcases us with _ | ⟨x0, us⟩
  · cases h
  rcases us with _ | ⟨x1, us⟩
  · cases h
  rcases us with _ | ⟨x2, us⟩
  · cases h
  rcases us with _ | ⟨y, us⟩
  · exact ⟨x0, x1, x2, rfl⟩
  · simp only [List.length_cons] at h; omega
theorem len_4 {us : List Value} (h : us.length = 4) : ∃ x0 x1 x2 x3, us = [x0, x1, x2, x3] := by
  rcases us with _ | ⟨x0, us⟩
  · cases h
  rcases us with _ | ⟨x1, us⟩
  · cases h
  rcases us with _ | ⟨x2, us⟩
  · cases h
  rcases us with _ | ⟨x3, us⟩
  · cases h
  rcases us with _ | ⟨y, us⟩
  · exact ⟨x0, x1, x2, x3, rfl⟩
  · simp only [List.length_cons] at h; omega
theorem len_8 {us : List Value} (h : us.length = 8) : ∃ x0 x1 x2 x3 x4 x5 x6 x7, us = [x0, x1, x2, x3, x4, x5, x6, x7] := by
  rcases us with _ | ⟨x0, us⟩
  · cases h
  rcases us with _ | ⟨x1, us⟩
  · cases h
  rcases us with _ | ⟨x2, us⟩
  · cases h
  rcases us with _ | ⟨x3, us⟩
  · cases h
  rcases us with _ | ⟨x4, us⟩
  · cases h
  rcases us with _ | ⟨x5, us⟩
  · cases h
  rcases us with _ | ⟨x6, us⟩
  · cases h
  rcases us with _ | ⟨x7, us⟩
  · cases h
  rcases us with _ | ⟨y, us⟩
  · exact ⟨x0, x1, x2, x3, x4, x5, x6, x7, rfl⟩
  · simp only [List.length_cons] at h; omega
theorem bd_Number_init {kV doc pm : Value} {an : Option Addr} {cdv ct : Value} {us : List Value} (h : us.length = 2) : bindArgs (PySem.W.fnOf "__init__" "Number.__init__" (defArgs s_Number_init) (defBody s_Number_init) (defScope s_Number_init) .none kV doc pm an cdv ct) ⟨us, []⟩ = pure ((["self", "n"] : List Str).zip us) := by
  obtain ⟨_, _, rfl⟩ := len_2 h
  rfl
theorem bd_Value_init {kV doc pm : Value} {an : Option Addr} {cdv ct : Value} {us : List Value} (h : us.length = 2) : bindArgs (PySem.W.fnOf "__init__" "Value.__init__" (defArgs s_Value_init) (defBody s_Value_init) (defScope s_Value_init) .none kV doc pm an cdv ct) ⟨us, []⟩ = pure ((["self", "name"] : List Str).zip us) := by
  obtain ⟨_, _, rfl⟩ := len_2 h
  rfl
theorem bd_Cell_init {kV doc pm : Value} {an : Option Addr} {cdv ct : Value} {us : List Value} (h : us.length = 3) : bindArgs (PySem.W.fnOf "__init__" "Cell.__init__" (defArgs s_Cell_init) (defBody s_Cell_init) (defScope s_Cell_init) .none kV doc pm an cdv ct) ⟨us, []⟩ = pure ((["self", "table", "spots"] : List Str).zip us) := by
  obtain ⟨_, _, _, rfl⟩ := len_3 h
  rfl
theorem bd_Joined_init {kV doc pm : Value} {an : Option Addr} {cdv ct : Value} {us : List Value} (h : us.length = 4) : bindArgs (PySem.W.fnOf "__init__" "Joined.__init__" (defArgs s_Joined_init) (defBody s_Joined_init) (defScope s_Joined_init) .none kV doc pm an cdv ct) ⟨us, []⟩ = pure ((["self", "sign", "left", "right"] : List Str).zip us) := by
  obtain ⟨_, _, _, _, rfl⟩ := len_4 h
  rfl
theorem bd_Number_reads {kV doc pm : Value} {an : Option Addr} {cdv ct : Value} {us : List Value} (h : us.length = 1) : bindArgs (PySem.W.fnOf "reads" "Number.reads" (defArgs s_Number_reads) (defBody s_Number_reads) (defScope s_Number_reads) .none kV doc pm an cdv ct) ⟨us, []⟩ = pure ((["self"] : List Str).zip us) := by
  obtain ⟨_, rfl⟩ := len_1 h
  rfl
theorem bd_Value_reads {kV doc pm : Value} {an : Option Addr} {cdv ct : Value} {us : List Value} (h : us.length = 1) : bindArgs (PySem.W.fnOf "reads" "Value.reads" (defArgs s_Value_reads) (defBody s_Value_reads) (defScope s_Value_reads) .none kV doc pm an cdv ct) ⟨us, []⟩ = pure ((["self"] : List Str).zip us) := by
  obtain ⟨_, rfl⟩ := len_1 h
  rfl
theorem bd_Cell_reads {kV doc pm : Value} {an : Option Addr} {cdv ct : Value} {us : List Value} (h : us.length = 1) : bindArgs (PySem.W.fnOf "reads" "Cell.reads" (defArgs s_Cell_reads) (defBody s_Cell_reads) (defScope s_Cell_reads) .none kV doc pm an cdv ct) ⟨us, []⟩ = pure ((["self"] : List Str).zip us) := by
  obtain ⟨_, rfl⟩ := len_1 h
  rfl
theorem bd_Joined_reads {kV doc pm : Value} {an : Option Addr} {cdv ct : Value} {us : List Value} (h : us.length = 1) : bindArgs (PySem.W.fnOf "reads" "Joined.reads" (defArgs s_Joined_reads) (defBody s_Joined_reads) (defScope s_Joined_reads) .none kV doc pm an cdv ct) ⟨us, []⟩ = pure ((["self"] : List Str).zip us) := by
  obtain ⟨_, rfl⟩ := len_1 h
  rfl
theorem bd_Deed_init {kV doc pm : Value} {an : Option Addr} {cdv ct : Value} {us : List Value} (h : us.length = 8) : bindArgs (PySem.W.fnOf "__init__" "Deed.__init__" (defArgs s_Deed_init) (defBody s_Deed_init) (defScope s_Deed_init) .none kV doc pm an cdv ct) ⟨us, []⟩ = pure ((["self", "names", "lows", "highs", "table", "spots", "term", "path"] : List Str).zip us) := by
  obtain ⟨_, _, _, _, _, _, _, _, rfl⟩ := len_8 h
  rfl
theorem bd_Program_init {kV doc pm : Value} {an : Option Addr} {cdv ct : Value} {us : List Value} (h : us.length = 3) : bindArgs (PySem.W.fnOf "__init__" "Program.__init__" (defArgs s_Program_init) (defBody s_Program_init) (defScope s_Program_init) .none kV doc pm an cdv ct) ⟨us, []⟩ = pure ((["self", "size", "deeds"] : List Str).zip us) := by
  obtain ⟨_, _, _, rfl⟩ := len_3 h
  rfl
theorem bd_shared {kV doc pm : Value} {an : Option Addr} {cdv ct : Value} {us : List Value} (h : us.length = 2) : bindArgs (PySem.W.fnOf "shared" "shared" (defArgs s_shared) (defBody s_shared) (defScope s_shared) .none kV doc pm an cdv ct) ⟨us, []⟩ = pure ((["one", "other"] : List Str).zip us) := by
  obtain ⟨_, _, rfl⟩ := len_2 h
  rfl
theorem bd_alike_numbers {kV doc pm : Value} {an : Option Addr} {cdv ct : Value} {us : List Value} (h : us.length = 3) : bindArgs (PySem.W.fnOf "alike_numbers" "alike_numbers" (defArgs s_alike_numbers) (defBody s_alike_numbers) (defScope s_alike_numbers) .none kV doc pm an cdv ct) ⟨us, []⟩ = pure ((["path", "other", "most"] : List Str).zip us) := by
  obtain ⟨_, _, _, rfl⟩ := len_3 h
  rfl
theorem bd_touches {kV doc pm : Value} {an : Option Addr} {cdv ct : Value} {us : List Value} (h : us.length = 1) : bindArgs (PySem.W.fnOf "touches" "touches" (defArgs s_touches) (defBody s_touches) (defScope s_touches) .none kV doc pm an cdv ct) ⟨us, []⟩ = pure ((["deed"] : List Str).zip us) := by
  obtain ⟨_, rfl⟩ := len_1 h
  rfl
theorem bd_meets {kV doc pm : Value} {an : Option Addr} {cdv ct : Value} {us : List Value} (h : us.length = 1) : bindArgs (PySem.W.fnOf "meets" "meets" (defArgs s_meets) (defBody s_meets) (defScope s_meets) .none kV doc pm an cdv ct) ⟨us, []⟩ = pure ((["program"] : List Str).zip us) := by
  obtain ⟨_, rfl⟩ := len_1 h
  rfl
theorem bd_all_touches {kV doc pm : Value} {an : Option Addr} {cdv ct : Value} {us : List Value} (h : us.length = 1) : bindArgs (PySem.W.fnOf "all_touches" "all_touches" (defArgs s_all_touches) (defBody s_all_touches) (defScope s_all_touches) .none kV doc pm an cdv ct) ⟨us, []⟩ = pure ((["program"] : List Str).zip us) := by
  obtain ⟨_, rfl⟩ := len_1 h
  rfl
theorem bd_cases {kV doc pm : Value} {an : Option Addr} {cdv ct : Value} {us : List Value} (h : us.length = 3) : bindArgs (PySem.W.fnOf "cases" "cases" (defArgs s_cases) (defBody s_cases) (defScope s_cases) .none kV doc pm an cdv ct) ⟨us, []⟩ = pure ((["program", "k", "l"] : List Str).zip us) := by
  obtain ⟨_, _, _, rfl⟩ := len_3 h
  rfl
theorem bd_l_cell {kV doc pm : Value} {an : Option Addr} {cdv ct : Value} {us : List Value} (h : us.length = 2) : bindArgs (PySem.W.fnOf "_law_cell" "_law_cell" (defArgs s_l_cell) (defBody s_l_cell) (defScope s_l_cell) .none kV doc pm an cdv ct) ⟨us, []⟩ = pure ((["_law_script", "_law_k"] : List Str).zip us) := by
  obtain ⟨_, _, rfl⟩ := len_2 h
  rfl
theorem bd_l_whole {kV doc pm : Value} {an : Option Addr} {cdv ct : Value} {us : List Value} (h : us.length = 1) : bindArgs (PySem.W.fnOf "_law_whole" "_law_whole" (defArgs s_l_whole) (defBody s_l_whole) (defScope s_l_whole) .none kV doc pm an cdv ct) ⟨us, []⟩ = pure ((["_law_found"] : List Str).zip us) := by
  obtain ⟨_, rfl⟩ := len_1 h
  rfl
theorem bd_l_mixed {kV doc pm : Value} {an : Option Addr} {cdv ct : Value} {us : List Value} (h : us.length = 2) : bindArgs (PySem.W.fnOf "_law_mixed" "_law_mixed" (defArgs s_l_mixed) (defBody s_l_mixed) (defScope s_l_mixed) .none kV doc pm an cdv ct) ⟨us, []⟩ = pure ((["_law_cell_here", "_law_k"] : List Str).zip us) := by
  obtain ⟨_, _, rfl⟩ := len_2 h
  rfl
theorem bd_l_name {kV doc pm : Value} {an : Option Addr} {cdv ct : Value} {us : List Value} (h : us.length = 2) : bindArgs (PySem.W.fnOf "_law_name" "_law_name" (defArgs s_l_name) (defBody s_l_name) (defScope s_l_name) .none kV doc pm an cdv ct) ⟨us, []⟩ = pure ((["_law_cell_here", "_law_e"] : List Str).zip us) := by
  obtain ⟨_, _, rfl⟩ := len_2 h
  rfl
theorem bd_l_spots {kV doc pm : Value} {an : Option Addr} {cdv ct : Value} {us : List Value} (h : us.length = 4) : bindArgs (PySem.W.fnOf "_law_spots" "_law_spots" (defArgs s_l_spots) (defBody s_l_spots) (defScope s_l_spots) .none kV doc pm an cdv ct) ⟨us, []⟩ = pure ((["_law_number", "_law_bases", "_law_many_here", "_law_off"] : List Str).zip us) := by
  obtain ⟨_, _, _, _, rfl⟩ := len_4 h
  rfl
theorem bd_l_cell_of {kV doc pm : Value} {an : Option Addr} {cdv ct : Value} {us : List Value} (h : us.length = 3) : bindArgs (PySem.W.fnOf "_law_cell_of" "_law_cell_of" (defArgs s_l_cell_of) (defBody s_l_cell_of) (defScope s_l_cell_of) .none kV doc pm an cdv ct) ⟨us, []⟩ = pure ((["_law_number", "_law_bases", "_law_heads_here"] : List Str).zip us) := by
  obtain ⟨_, _, _, rfl⟩ := len_3 h
  rfl
theorem bd_l_leaf {kV doc pm : Value} {an : Option Addr} {cdv ct : Value} {us : List Value} (h : us.length = 3) : bindArgs (PySem.W.fnOf "_law_leaf" "_law_leaf" (defArgs s_l_leaf) (defBody s_l_leaf) (defScope s_l_leaf) .none kV doc pm an cdv ct) ⟨us, []⟩ = pure ((["_law_number", "_law_bases", "_law_heads_here"] : List Str).zip us) := by
  obtain ⟨_, _, _, rfl⟩ := len_3 h
  rfl
theorem bd_l_term {kV doc pm : Value} {an : Option Addr} {cdv ct : Value} {us : List Value} (h : us.length = 3) : bindArgs (PySem.W.fnOf "_law_term" "_law_term" (defArgs s_l_term) (defBody s_l_term) (defScope s_l_term) .none kV doc pm an cdv ct) ⟨us, []⟩ = pure ((["_law_cell_here", "_law_bases", "_law_heads_here"] : List Str).zip us) := by
  obtain ⟨_, _, _, rfl⟩ := len_3 h
  rfl
theorem bd_l_loop {kV doc pm : Value} {an : Option Addr} {cdv ct : Value} {us : List Value} (h : us.length = 4) : bindArgs (PySem.W.fnOf "_law_loop" "_law_loop" (defArgs s_l_loop) (defBody s_l_loop) (defScope s_l_loop) .none kV doc pm an cdv ct) ⟨us, []⟩ = pure ((["_law_number", "_law_far", "_law_stack", "_law_cell_here"] : List Str).zip us) := by
  obtain ⟨_, _, _, _, rfl⟩ := len_4 h
  rfl
theorem bd_l_row {kV doc pm : Value} {an : Option Addr} {cdv ct : Value} {us : List Value} (h : us.length = 4) : bindArgs (PySem.W.fnOf "_law_row" "_law_row" (defArgs s_l_row) (defBody s_l_row) (defScope s_l_row) .none kV doc pm an cdv ct) ⟨us, []⟩ = pure ((["_law_cell_here", "_law_stack", "_law_path", "_law_heads_here"] : List Str).zip us) := by
  obtain ⟨_, _, _, _, rfl⟩ := len_4 h
  rfl
theorem bd_l_heads {kV doc pm : Value} {an : Option Addr} {cdv ct : Value} {us : List Value} (h : us.length = 1) : bindArgs (PySem.W.fnOf "_law_heads" "_law_heads" (defArgs s_l_heads) (defBody s_l_heads) (defScope s_l_heads) .none kV doc pm an cdv ct) ⟨us, []⟩ = pure ((["_law_script"] : List Str).zip us) := by
  obtain ⟨_, rfl⟩ := len_1 h
  rfl
theorem bd_l_rows {kV doc pm : Value} {an : Option Addr} {cdv ct : Value} {us : List Value} (h : us.length = 2) : bindArgs (PySem.W.fnOf "_law_rows" "_law_rows" (defArgs s_l_rows) (defBody s_l_rows) (defScope s_l_rows) .none kV doc pm an cdv ct) ⟨us, []⟩ = pure ((["_law_script", "_law_many_here"] : List Str).zip us) := by
  obtain ⟨_, _, rfl⟩ := len_2 h
  rfl
theorem bd_l_many {kV doc pm : Value} {an : Option Addr} {cdv ct : Value} {us : List Value} (h : us.length = 1) : bindArgs (PySem.W.fnOf "_law_many" "_law_many" (defArgs s_l_many) (defBody s_l_many) (defScope s_l_many) .none kV doc pm an cdv ct) ⟨us, []⟩ = pure ((["_law_script"] : List Str).zip us) := by
  obtain ⟨_, rfl⟩ := len_1 h
  rfl
theorem bd_l_size {kV doc pm : Value} {an : Option Addr} {cdv ct : Value} {us : List Value} (h : us.length = 1) : bindArgs (PySem.W.fnOf "_law_size" "_law_size" (defArgs s_l_size) (defBody s_l_size) (defScope s_l_size) .none kV doc pm an cdv ct) ⟨us, []⟩ = pure ((["_law_script"] : List Str).zip us) := by
  obtain ⟨_, rfl⟩ := len_1 h
  rfl
theorem bd_l_object {kV doc pm : Value} {an : Option Addr} {cdv ct : Value} {us : List Value} (h : us.length = 1) : bindArgs (PySem.W.fnOf "_law_object" "_law_object" (defArgs s_l_object) (defBody s_l_object) (defScope s_l_object) .none kV doc pm an cdv ct) ⟨us, []⟩ = pure ((["_law_term_here"] : List Str).zip us) := by
  obtain ⟨_, rfl⟩ := len_1 h
  rfl
theorem bd_l_made {kV doc pm : Value} {an : Option Addr} {cdv ct : Value} {us : List Value} (h : us.length = 2) : bindArgs (PySem.W.fnOf "_law_made" "_law_made" (defArgs s_l_made) (defBody s_l_made) (defScope s_l_made) .none kV doc pm an cdv ct) ⟨us, []⟩ = pure ((["_law_size_here", "_law_rows_here"] : List Str).zip us) := by
  obtain ⟨_, _, rfl⟩ := len_2 h
  rfl
theorem bd_l_reads {kV doc pm : Value} {an : Option Addr} {cdv ct : Value} {us : List Value} (h : us.length = 1) : bindArgs (PySem.W.fnOf "_law_reads" "_law_reads" (defArgs s_l_reads) (defBody s_l_reads) (defScope s_l_reads) .none kV doc pm an cdv ct) ⟨us, []⟩ = pure ((["_law_term_here"] : List Str).zip us) := by
  obtain ⟨_, rfl⟩ := len_1 h
  rfl
theorem bd_l_touches {kV doc pm : Value} {an : Option Addr} {cdv ct : Value} {us : List Value} (h : us.length = 1) : bindArgs (PySem.W.fnOf "_law_touches" "_law_touches" (defArgs s_l_touches) (defBody s_l_touches) (defScope s_l_touches) .none kV doc pm an cdv ct) ⟨us, []⟩ = pure ((["_law_row_here"] : List Str).zip us) := by
  obtain ⟨_, rfl⟩ := len_1 h
  rfl
theorem bd_l_meets {kV doc pm : Value} {an : Option Addr} {cdv ct : Value} {us : List Value} (h : us.length = 1) : bindArgs (PySem.W.fnOf "_law_meets" "_law_meets" (defArgs s_l_meets) (defBody s_l_meets) (defScope s_l_meets) .none kV doc pm an cdv ct) ⟨us, []⟩ = pure ((["_law_rows_here"] : List Str).zip us) := by
  obtain ⟨_, rfl⟩ := len_1 h
  rfl
theorem bd_l_shared {kV doc pm : Value} {an : Option Addr} {cdv ct : Value} {us : List Value} (h : us.length = 2) : bindArgs (PySem.W.fnOf "_law_shared" "_law_shared" (defArgs s_l_shared) (defBody s_l_shared) (defScope s_l_shared) .none kV doc pm an cdv ct) ⟨us, []⟩ = pure ((["_law_one", "_law_other"] : List Str).zip us) := by
  obtain ⟨_, _, rfl⟩ := len_2 h
  rfl
theorem bd_l_cases {kV doc pm : Value} {an : Option Addr} {cdv ct : Value} {us : List Value} (h : us.length = 3) : bindArgs (PySem.W.fnOf "_law_cases" "_law_cases" (defArgs s_l_cases) (defBody s_l_cases) (defScope s_l_cases) .none kV doc pm an cdv ct) ⟨us, []⟩ = pure ((["_law_rows_here", "_law_k", "_law_l"] : List Str).zip us) := by
  obtain ⟨_, _, _, rfl⟩ := len_3 h
  rfl
theorem bd_l_rising {kV doc pm : Value} {an : Option Addr} {cdv ct : Value} {us : List Value} (h : us.length = 1) : bindArgs (PySem.W.fnOf "_law_rising" "_law_rising" (defArgs s_l_rising) (defBody s_l_rising) (defScope s_l_rising) .none kV doc pm an cdv ct) ⟨us, []⟩ = pure ((["_law_found"] : List Str).zip us) := by
  obtain ⟨_, rfl⟩ := len_1 h
  rfl
theorem bd_l_numbers {kV doc pm : Value} {an : Option Addr} {cdv ct : Value} {us : List Value} (h : us.length = 1) : bindArgs (PySem.W.fnOf "_law_numbers" "_law_numbers" (defArgs s_l_numbers) (defBody s_l_numbers) (defScope s_l_numbers) .none kV doc pm an cdv ct) ⟨us, []⟩ = pure ((["_law_found"] : List Str).zip us) := by
  obtain ⟨_, rfl⟩ := len_1 h
  rfl
theorem bd_l_longer {kV doc pm : Value} {an : Option Addr} {cdv ct : Value} {us : List Value} (h : us.length = 2) : bindArgs (PySem.W.fnOf "_law_longer" "_law_longer" (defArgs s_l_longer) (defBody s_l_longer) (defScope s_l_longer) .none kV doc pm an cdv ct) ⟨us, []⟩ = pure ((["_law_script", "_law_rows_here"] : List Str).zip us) := by
  obtain ⟨_, _, rfl⟩ := len_2 h
  rfl
theorem bd_law {kV doc pm : Value} {an : Option Addr} {cdv ct : Value} {us : List Value} (h : us.length = 1) : bindArgs (PySem.W.fnOf "law" "law" (defArgs s_law) (defBody s_law) (defScope s_law) .none kV doc pm an cdv ct) ⟨us, []⟩ = pure ((["_law_script"] : List Str).zip us) := by
  obtain ⟨_, rfl⟩ := len_1 h
  rfl
theorem txt_mk {K : PySem.W.Frag} {h : Heap} {mg : Str → Option Value} {fa : Addr} (X : K.In h) (G : h.Ns mainGlobals mg) (hfa : mg "law" = some (.ref fa))
    {C_Term : Addr} {C_Number : Addr} {C_Value : Addr} {C_Cell : Addr} {C_Joined : Addr} {C_Deed : Addr} {C_Program : Addr} {f1 : Addr} {od1 an1 : Option Addr} {sl1 : Array (Option Value)} {oc1 kV1 dc1 pm1 cd1 ct1 : Value} {f2 : Addr} {od2 an2 : Option Addr} {sl2 : Array (Option Value)} {oc2 kV2 dc2 pm2 cd2 ct2 : Value} {f3 : Addr} {od3 an3 : Option Addr} {sl3 : Array (Option Value)} {oc3 kV3 dc3 pm3 cd3 ct3 : Value} {f4 : Addr} {od4 an4 : Option Addr} {sl4 : Array (Option Value)} {oc4 kV4 dc4 pm4 cd4 ct4 : Value} {f5 : Addr} {od5 an5 : Option Addr} {sl5 : Array (Option Value)} {oc5 kV5 dc5 pm5 cd5 ct5 : Value} {f6 : Addr} {od6 an6 : Option Addr} {sl6 : Array (Option Value)} {oc6 kV6 dc6 pm6 cd6 ct6 : Value} {f7 : Addr} {od7 an7 : Option Addr} {sl7 : Array (Option Value)} {oc7 kV7 dc7 pm7 cd7 ct7 : Value} {f8 : Addr} {od8 an8 : Option Addr} {sl8 : Array (Option Value)} {oc8 kV8 dc8 pm8 cd8 ct8 : Value} {f9 : Addr} {od9 an9 : Option Addr} {sl9 : Array (Option Value)} {oc9 kV9 dc9 pm9 cd9 ct9 : Value} {f10 : Addr} {od10 an10 : Option Addr} {sl10 : Array (Option Value)} {oc10 kV10 dc10 pm10 cd10 ct10 : Value} {f11 : Addr} {od11 an11 : Option Addr} {sl11 : Array (Option Value)} {oc11 kV11 dc11 pm11 cd11 ct11 : Value} {f12 : Addr} {od12 an12 : Option Addr} {sl12 : Array (Option Value)} {oc12 kV12 dc12 pm12 cd12 ct12 : Value} {f13 : Addr} {od13 an13 : Option Addr} {sl13 : Array (Option Value)} {oc13 kV13 dc13 pm13 cd13 ct13 : Value} {f14 : Addr} {od14 an14 : Option Addr} {sl14 : Array (Option Value)} {oc14 kV14 dc14 pm14 cd14 ct14 : Value} {f15 : Addr} {od15 an15 : Option Addr} {sl15 : Array (Option Value)} {oc15 kV15 dc15 pm15 cd15 ct15 : Value} {f16 : Addr} {od16 an16 : Option Addr} {sl16 : Array (Option Value)} {oc16 kV16 dc16 pm16 cd16 ct16 : Value} {f17 : Addr} {od17 an17 : Option Addr} {sl17 : Array (Option Value)} {oc17 kV17 dc17 pm17 cd17 ct17 : Value} {f18 : Addr} {od18 an18 : Option Addr} {sl18 : Array (Option Value)} {oc18 kV18 dc18 pm18 cd18 ct18 : Value} {f19 : Addr} {od19 an19 : Option Addr} {sl19 : Array (Option Value)} {oc19 kV19 dc19 pm19 cd19 ct19 : Value} {f20 : Addr} {od20 an20 : Option Addr} {sl20 : Array (Option Value)} {oc20 kV20 dc20 pm20 cd20 ct20 : Value} {f21 : Addr} {od21 an21 : Option Addr} {sl21 : Array (Option Value)} {oc21 kV21 dc21 pm21 cd21 ct21 : Value} {f22 : Addr} {od22 an22 : Option Addr} {sl22 : Array (Option Value)} {oc22 kV22 dc22 pm22 cd22 ct22 : Value} {f23 : Addr} {od23 an23 : Option Addr} {sl23 : Array (Option Value)} {oc23 kV23 dc23 pm23 cd23 ct23 : Value} {f24 : Addr} {od24 an24 : Option Addr} {sl24 : Array (Option Value)} {oc24 kV24 dc24 pm24 cd24 ct24 : Value} {f25 : Addr} {od25 an25 : Option Addr} {sl25 : Array (Option Value)} {oc25 kV25 dc25 pm25 cd25 ct25 : Value} {f26 : Addr} {od26 an26 : Option Addr} {sl26 : Array (Option Value)} {oc26 kV26 dc26 pm26 cd26 ct26 : Value} {f27 : Addr} {od27 an27 : Option Addr} {sl27 : Array (Option Value)} {oc27 kV27 dc27 pm27 cd27 ct27 : Value} {f28 : Addr} {od28 an28 : Option Addr} {sl28 : Array (Option Value)} {oc28 kV28 dc28 pm28 cd28 ct28 : Value} {f29 : Addr} {od29 an29 : Option Addr} {sl29 : Array (Option Value)} {oc29 kV29 dc29 pm29 cd29 ct29 : Value} {f30 : Addr} {od30 an30 : Option Addr} {sl30 : Array (Option Value)} {oc30 kV30 dc30 pm30 cd30 ct30 : Value} {f31 : Addr} {od31 an31 : Option Addr} {sl31 : Array (Option Value)} {oc31 kV31 dc31 pm31 cd31 ct31 : Value} {f32 : Addr} {od32 an32 : Option Addr} {sl32 : Array (Option Value)} {oc32 kV32 dc32 pm32 cd32 ct32 : Value} {f33 : Addr} {od33 an33 : Option Addr} {sl33 : Array (Option Value)} {oc33 kV33 dc33 pm33 cd33 ct33 : Value} {f34 : Addr} {od34 an34 : Option Addr} {sl34 : Array (Option Value)} {oc34 kV34 dc34 pm34 cd34 ct34 : Value} {f35 : Addr} {od35 an35 : Option Addr} {sl35 : Array (Option Value)} {oc35 kV35 dc35 pm35 cd35 ct35 : Value} {f36 : Addr} {od36 an36 : Option Addr} {sl36 : Array (Option Value)} {oc36 kV36 dc36 pm36 cd36 ct36 : Value} {f37 : Addr} {od37 an37 : Option Addr} {sl37 : Array (Option Value)} {oc37 kV37 dc37 pm37 cd37 ct37 : Value} {f38 : Addr} {od38 an38 : Option Addr} {sl38 : Array (Option Value)} {oc38 kV38 dc38 pm38 cd38 ct38 : Value} {f39 : Addr} {od39 an39 : Option Addr} {sl39 : Array (Option Value)} {oc39 kV39 dc39 pm39 cd39 ct39 : Value} {f40 : Addr} {od40 an40 : Option Addr} {sl40 : Array (Option Value)} {oc40 kV40 dc40 pm40 cd40 ct40 : Value} {f41 : Addr} {od41 an41 : Option Addr} {sl41 : Array (Option Value)} {oc41 kV41 dc41 pm41 cd41 ct41 : Value}
    (a_Term : PySem.W.nsIn K mainGlobals "Term" = some (some (.ref C_Term)))
    (a_Number : PySem.W.nsIn K mainGlobals "Number" = some (some (.ref C_Number)))
    (a_Value : PySem.W.nsIn K mainGlobals "Value" = some (some (.ref C_Value)))
    (a_Cell : PySem.W.nsIn K mainGlobals "Cell" = some (some (.ref C_Cell)))
    (a_Joined : PySem.W.nsIn K mainGlobals "Joined" = some (some (.ref C_Joined)))
    (a_Deed : PySem.W.nsIn K mainGlobals "Deed" = some (some (.ref C_Deed)))
    (a_Program : PySem.W.nsIn K mainGlobals "Program" = some (some (.ref C_Program)))
    (a1 : PySem.W.findIn K (.ref C_Number) "__init__" = some (some (.ref f1))) (i1 : PySem.W.isFn K (.ref f1) = true)
    (l1 : K.lookup f1 = some ⟨oc1, od1, .func (PySem.W.fnOf "__init__" "Number.__init__" (defArgs s_Number_init) (defBody s_Number_init) (defScope s_Number_init) .none kV1 dc1 pm1 an1 cd1 ct1), sl1⟩) (c1 : PySem.W.codeIn K cd1 "Number.__init__" = true) (k1 : PySem.W.keepIn K (.ref f1) = true)
    (a2 : PySem.W.findIn K (.ref C_Value) "__init__" = some (some (.ref f2))) (i2 : PySem.W.isFn K (.ref f2) = true)
    (l2 : K.lookup f2 = some ⟨oc2, od2, .func (PySem.W.fnOf "__init__" "Value.__init__" (defArgs s_Value_init) (defBody s_Value_init) (defScope s_Value_init) .none kV2 dc2 pm2 an2 cd2 ct2), sl2⟩) (c2 : PySem.W.codeIn K cd2 "Value.__init__" = true) (k2 : PySem.W.keepIn K (.ref f2) = true)
    (a3 : PySem.W.findIn K (.ref C_Cell) "__init__" = some (some (.ref f3))) (i3 : PySem.W.isFn K (.ref f3) = true)
    (l3 : K.lookup f3 = some ⟨oc3, od3, .func (PySem.W.fnOf "__init__" "Cell.__init__" (defArgs s_Cell_init) (defBody s_Cell_init) (defScope s_Cell_init) .none kV3 dc3 pm3 an3 cd3 ct3), sl3⟩) (c3 : PySem.W.codeIn K cd3 "Cell.__init__" = true) (k3 : PySem.W.keepIn K (.ref f3) = true)
    (a4 : PySem.W.findIn K (.ref C_Joined) "__init__" = some (some (.ref f4))) (i4 : PySem.W.isFn K (.ref f4) = true)
    (l4 : K.lookup f4 = some ⟨oc4, od4, .func (PySem.W.fnOf "__init__" "Joined.__init__" (defArgs s_Joined_init) (defBody s_Joined_init) (defScope s_Joined_init) .none kV4 dc4 pm4 an4 cd4 ct4), sl4⟩) (c4 : PySem.W.codeIn K cd4 "Joined.__init__" = true) (k4 : PySem.W.keepIn K (.ref f4) = true)
    (a5 : PySem.W.findIn K (.ref C_Number) "reads" = some (some (.ref f5))) (i5 : PySem.W.isFn K (.ref f5) = true)
    (l5 : K.lookup f5 = some ⟨oc5, od5, .func (PySem.W.fnOf "reads" "Number.reads" (defArgs s_Number_reads) (defBody s_Number_reads) (defScope s_Number_reads) .none kV5 dc5 pm5 an5 cd5 ct5), sl5⟩) (c5 : PySem.W.codeIn K cd5 "Number.reads" = true) (k5 : PySem.W.keepIn K (.ref f5) = true)
    (a6 : PySem.W.findIn K (.ref C_Value) "reads" = some (some (.ref f6))) (i6 : PySem.W.isFn K (.ref f6) = true)
    (l6 : K.lookup f6 = some ⟨oc6, od6, .func (PySem.W.fnOf "reads" "Value.reads" (defArgs s_Value_reads) (defBody s_Value_reads) (defScope s_Value_reads) .none kV6 dc6 pm6 an6 cd6 ct6), sl6⟩) (c6 : PySem.W.codeIn K cd6 "Value.reads" = true) (k6 : PySem.W.keepIn K (.ref f6) = true)
    (a7 : PySem.W.findIn K (.ref C_Cell) "reads" = some (some (.ref f7))) (i7 : PySem.W.isFn K (.ref f7) = true)
    (l7 : K.lookup f7 = some ⟨oc7, od7, .func (PySem.W.fnOf "reads" "Cell.reads" (defArgs s_Cell_reads) (defBody s_Cell_reads) (defScope s_Cell_reads) .none kV7 dc7 pm7 an7 cd7 ct7), sl7⟩) (c7 : PySem.W.codeIn K cd7 "Cell.reads" = true) (k7 : PySem.W.keepIn K (.ref f7) = true)
    (a8 : PySem.W.findIn K (.ref C_Joined) "reads" = some (some (.ref f8))) (i8 : PySem.W.isFn K (.ref f8) = true)
    (l8 : K.lookup f8 = some ⟨oc8, od8, .func (PySem.W.fnOf "reads" "Joined.reads" (defArgs s_Joined_reads) (defBody s_Joined_reads) (defScope s_Joined_reads) .none kV8 dc8 pm8 an8 cd8 ct8), sl8⟩) (c8 : PySem.W.codeIn K cd8 "Joined.reads" = true) (k8 : PySem.W.keepIn K (.ref f8) = true)
    (a9 : PySem.W.findIn K (.ref C_Deed) "__init__" = some (some (.ref f9))) (i9 : PySem.W.isFn K (.ref f9) = true)
    (l9 : K.lookup f9 = some ⟨oc9, od9, .func (PySem.W.fnOf "__init__" "Deed.__init__" (defArgs s_Deed_init) (defBody s_Deed_init) (defScope s_Deed_init) .none kV9 dc9 pm9 an9 cd9 ct9), sl9⟩) (c9 : PySem.W.codeIn K cd9 "Deed.__init__" = true) (k9 : PySem.W.keepIn K (.ref f9) = true)
    (a10 : PySem.W.findIn K (.ref C_Program) "__init__" = some (some (.ref f10))) (i10 : PySem.W.isFn K (.ref f10) = true)
    (l10 : K.lookup f10 = some ⟨oc10, od10, .func (PySem.W.fnOf "__init__" "Program.__init__" (defArgs s_Program_init) (defBody s_Program_init) (defScope s_Program_init) .none kV10 dc10 pm10 an10 cd10 ct10), sl10⟩) (c10 : PySem.W.codeIn K cd10 "Program.__init__" = true) (k10 : PySem.W.keepIn K (.ref f10) = true)
    (a11 : PySem.W.nsIn K mainGlobals "shared" = some (some (.ref f11)))
    (l11 : K.lookup f11 = some ⟨oc11, od11, .func (PySem.W.fnOf "shared" "shared" (defArgs s_shared) (defBody s_shared) (defScope s_shared) .none kV11 dc11 pm11 an11 cd11 ct11), sl11⟩) (c11 : PySem.W.codeIn K cd11 "shared" = true) (k11 : PySem.W.keepIn K (.ref f11) = true)
    (a12 : PySem.W.nsIn K mainGlobals "alike_numbers" = some (some (.ref f12)))
    (l12 : K.lookup f12 = some ⟨oc12, od12, .func (PySem.W.fnOf "alike_numbers" "alike_numbers" (defArgs s_alike_numbers) (defBody s_alike_numbers) (defScope s_alike_numbers) .none kV12 dc12 pm12 an12 cd12 ct12), sl12⟩) (c12 : PySem.W.codeIn K cd12 "alike_numbers" = true) (k12 : PySem.W.keepIn K (.ref f12) = true)
    (a13 : PySem.W.nsIn K mainGlobals "touches" = some (some (.ref f13)))
    (l13 : K.lookup f13 = some ⟨oc13, od13, .func (PySem.W.fnOf "touches" "touches" (defArgs s_touches) (defBody s_touches) (defScope s_touches) .none kV13 dc13 pm13 an13 cd13 ct13), sl13⟩) (c13 : PySem.W.codeIn K cd13 "touches" = true) (k13 : PySem.W.keepIn K (.ref f13) = true)
    (a14 : PySem.W.nsIn K mainGlobals "meets" = some (some (.ref f14)))
    (l14 : K.lookup f14 = some ⟨oc14, od14, .func (PySem.W.fnOf "meets" "meets" (defArgs s_meets) (defBody s_meets) (defScope s_meets) .none kV14 dc14 pm14 an14 cd14 ct14), sl14⟩) (c14 : PySem.W.codeIn K cd14 "meets" = true) (k14 : PySem.W.keepIn K (.ref f14) = true)
    (a15 : PySem.W.nsIn K mainGlobals "all_touches" = some (some (.ref f15)))
    (l15 : K.lookup f15 = some ⟨oc15, od15, .func (PySem.W.fnOf "all_touches" "all_touches" (defArgs s_all_touches) (defBody s_all_touches) (defScope s_all_touches) .none kV15 dc15 pm15 an15 cd15 ct15), sl15⟩) (c15 : PySem.W.codeIn K cd15 "all_touches" = true) (k15 : PySem.W.keepIn K (.ref f15) = true)
    (a16 : PySem.W.nsIn K mainGlobals "cases" = some (some (.ref f16)))
    (l16 : K.lookup f16 = some ⟨oc16, od16, .func (PySem.W.fnOf "cases" "cases" (defArgs s_cases) (defBody s_cases) (defScope s_cases) .none kV16 dc16 pm16 an16 cd16 ct16), sl16⟩) (c16 : PySem.W.codeIn K cd16 "cases" = true) (k16 : PySem.W.keepIn K (.ref f16) = true)
    (a17 : PySem.W.nsIn K mainGlobals "_law_cell" = some (some (.ref f17)))
    (l17 : K.lookup f17 = some ⟨oc17, od17, .func (PySem.W.fnOf "_law_cell" "_law_cell" (defArgs s_l_cell) (defBody s_l_cell) (defScope s_l_cell) .none kV17 dc17 pm17 an17 cd17 ct17), sl17⟩) (c17 : PySem.W.codeIn K cd17 "_law_cell" = true) (k17 : PySem.W.keepIn K (.ref f17) = true)
    (a18 : PySem.W.nsIn K mainGlobals "_law_whole" = some (some (.ref f18)))
    (l18 : K.lookup f18 = some ⟨oc18, od18, .func (PySem.W.fnOf "_law_whole" "_law_whole" (defArgs s_l_whole) (defBody s_l_whole) (defScope s_l_whole) .none kV18 dc18 pm18 an18 cd18 ct18), sl18⟩) (c18 : PySem.W.codeIn K cd18 "_law_whole" = true) (k18 : PySem.W.keepIn K (.ref f18) = true)
    (a19 : PySem.W.nsIn K mainGlobals "_law_mixed" = some (some (.ref f19)))
    (l19 : K.lookup f19 = some ⟨oc19, od19, .func (PySem.W.fnOf "_law_mixed" "_law_mixed" (defArgs s_l_mixed) (defBody s_l_mixed) (defScope s_l_mixed) .none kV19 dc19 pm19 an19 cd19 ct19), sl19⟩) (c19 : PySem.W.codeIn K cd19 "_law_mixed" = true) (k19 : PySem.W.keepIn K (.ref f19) = true)
    (a20 : PySem.W.nsIn K mainGlobals "_law_name" = some (some (.ref f20)))
    (l20 : K.lookup f20 = some ⟨oc20, od20, .func (PySem.W.fnOf "_law_name" "_law_name" (defArgs s_l_name) (defBody s_l_name) (defScope s_l_name) .none kV20 dc20 pm20 an20 cd20 ct20), sl20⟩) (c20 : PySem.W.codeIn K cd20 "_law_name" = true) (k20 : PySem.W.keepIn K (.ref f20) = true)
    (a21 : PySem.W.nsIn K mainGlobals "_law_spots" = some (some (.ref f21)))
    (l21 : K.lookup f21 = some ⟨oc21, od21, .func (PySem.W.fnOf "_law_spots" "_law_spots" (defArgs s_l_spots) (defBody s_l_spots) (defScope s_l_spots) .none kV21 dc21 pm21 an21 cd21 ct21), sl21⟩) (c21 : PySem.W.codeIn K cd21 "_law_spots" = true) (k21 : PySem.W.keepIn K (.ref f21) = true)
    (a22 : PySem.W.nsIn K mainGlobals "_law_cell_of" = some (some (.ref f22)))
    (l22 : K.lookup f22 = some ⟨oc22, od22, .func (PySem.W.fnOf "_law_cell_of" "_law_cell_of" (defArgs s_l_cell_of) (defBody s_l_cell_of) (defScope s_l_cell_of) .none kV22 dc22 pm22 an22 cd22 ct22), sl22⟩) (c22 : PySem.W.codeIn K cd22 "_law_cell_of" = true) (k22 : PySem.W.keepIn K (.ref f22) = true)
    (a23 : PySem.W.nsIn K mainGlobals "_law_leaf" = some (some (.ref f23)))
    (l23 : K.lookup f23 = some ⟨oc23, od23, .func (PySem.W.fnOf "_law_leaf" "_law_leaf" (defArgs s_l_leaf) (defBody s_l_leaf) (defScope s_l_leaf) .none kV23 dc23 pm23 an23 cd23 ct23), sl23⟩) (c23 : PySem.W.codeIn K cd23 "_law_leaf" = true) (k23 : PySem.W.keepIn K (.ref f23) = true)
    (a24 : PySem.W.nsIn K mainGlobals "_law_term" = some (some (.ref f24)))
    (l24 : K.lookup f24 = some ⟨oc24, od24, .func (PySem.W.fnOf "_law_term" "_law_term" (defArgs s_l_term) (defBody s_l_term) (defScope s_l_term) .none kV24 dc24 pm24 an24 cd24 ct24), sl24⟩) (c24 : PySem.W.codeIn K cd24 "_law_term" = true) (k24 : PySem.W.keepIn K (.ref f24) = true)
    (a25 : PySem.W.nsIn K mainGlobals "_law_loop" = some (some (.ref f25)))
    (l25 : K.lookup f25 = some ⟨oc25, od25, .func (PySem.W.fnOf "_law_loop" "_law_loop" (defArgs s_l_loop) (defBody s_l_loop) (defScope s_l_loop) .none kV25 dc25 pm25 an25 cd25 ct25), sl25⟩) (c25 : PySem.W.codeIn K cd25 "_law_loop" = true) (k25 : PySem.W.keepIn K (.ref f25) = true)
    (a26 : PySem.W.nsIn K mainGlobals "_law_row" = some (some (.ref f26)))
    (l26 : K.lookup f26 = some ⟨oc26, od26, .func (PySem.W.fnOf "_law_row" "_law_row" (defArgs s_l_row) (defBody s_l_row) (defScope s_l_row) .none kV26 dc26 pm26 an26 cd26 ct26), sl26⟩) (c26 : PySem.W.codeIn K cd26 "_law_row" = true) (k26 : PySem.W.keepIn K (.ref f26) = true)
    (a27 : PySem.W.nsIn K mainGlobals "_law_heads" = some (some (.ref f27)))
    (l27 : K.lookup f27 = some ⟨oc27, od27, .func (PySem.W.fnOf "_law_heads" "_law_heads" (defArgs s_l_heads) (defBody s_l_heads) (defScope s_l_heads) .none kV27 dc27 pm27 an27 cd27 ct27), sl27⟩) (c27 : PySem.W.codeIn K cd27 "_law_heads" = true) (k27 : PySem.W.keepIn K (.ref f27) = true)
    (a28 : PySem.W.nsIn K mainGlobals "_law_rows" = some (some (.ref f28)))
    (l28 : K.lookup f28 = some ⟨oc28, od28, .func (PySem.W.fnOf "_law_rows" "_law_rows" (defArgs s_l_rows) (defBody s_l_rows) (defScope s_l_rows) .none kV28 dc28 pm28 an28 cd28 ct28), sl28⟩) (c28 : PySem.W.codeIn K cd28 "_law_rows" = true) (k28 : PySem.W.keepIn K (.ref f28) = true)
    (a29 : PySem.W.nsIn K mainGlobals "_law_many" = some (some (.ref f29)))
    (l29 : K.lookup f29 = some ⟨oc29, od29, .func (PySem.W.fnOf "_law_many" "_law_many" (defArgs s_l_many) (defBody s_l_many) (defScope s_l_many) .none kV29 dc29 pm29 an29 cd29 ct29), sl29⟩) (c29 : PySem.W.codeIn K cd29 "_law_many" = true) (k29 : PySem.W.keepIn K (.ref f29) = true)
    (a30 : PySem.W.nsIn K mainGlobals "_law_size" = some (some (.ref f30)))
    (l30 : K.lookup f30 = some ⟨oc30, od30, .func (PySem.W.fnOf "_law_size" "_law_size" (defArgs s_l_size) (defBody s_l_size) (defScope s_l_size) .none kV30 dc30 pm30 an30 cd30 ct30), sl30⟩) (c30 : PySem.W.codeIn K cd30 "_law_size" = true) (k30 : PySem.W.keepIn K (.ref f30) = true)
    (a31 : PySem.W.nsIn K mainGlobals "_law_object" = some (some (.ref f31)))
    (l31 : K.lookup f31 = some ⟨oc31, od31, .func (PySem.W.fnOf "_law_object" "_law_object" (defArgs s_l_object) (defBody s_l_object) (defScope s_l_object) .none kV31 dc31 pm31 an31 cd31 ct31), sl31⟩) (c31 : PySem.W.codeIn K cd31 "_law_object" = true) (k31 : PySem.W.keepIn K (.ref f31) = true)
    (a32 : PySem.W.nsIn K mainGlobals "_law_made" = some (some (.ref f32)))
    (l32 : K.lookup f32 = some ⟨oc32, od32, .func (PySem.W.fnOf "_law_made" "_law_made" (defArgs s_l_made) (defBody s_l_made) (defScope s_l_made) .none kV32 dc32 pm32 an32 cd32 ct32), sl32⟩) (c32 : PySem.W.codeIn K cd32 "_law_made" = true) (k32 : PySem.W.keepIn K (.ref f32) = true)
    (a33 : PySem.W.nsIn K mainGlobals "_law_reads" = some (some (.ref f33)))
    (l33 : K.lookup f33 = some ⟨oc33, od33, .func (PySem.W.fnOf "_law_reads" "_law_reads" (defArgs s_l_reads) (defBody s_l_reads) (defScope s_l_reads) .none kV33 dc33 pm33 an33 cd33 ct33), sl33⟩) (c33 : PySem.W.codeIn K cd33 "_law_reads" = true) (k33 : PySem.W.keepIn K (.ref f33) = true)
    (a34 : PySem.W.nsIn K mainGlobals "_law_touches" = some (some (.ref f34)))
    (l34 : K.lookup f34 = some ⟨oc34, od34, .func (PySem.W.fnOf "_law_touches" "_law_touches" (defArgs s_l_touches) (defBody s_l_touches) (defScope s_l_touches) .none kV34 dc34 pm34 an34 cd34 ct34), sl34⟩) (c34 : PySem.W.codeIn K cd34 "_law_touches" = true) (k34 : PySem.W.keepIn K (.ref f34) = true)
    (a35 : PySem.W.nsIn K mainGlobals "_law_meets" = some (some (.ref f35)))
    (l35 : K.lookup f35 = some ⟨oc35, od35, .func (PySem.W.fnOf "_law_meets" "_law_meets" (defArgs s_l_meets) (defBody s_l_meets) (defScope s_l_meets) .none kV35 dc35 pm35 an35 cd35 ct35), sl35⟩) (c35 : PySem.W.codeIn K cd35 "_law_meets" = true) (k35 : PySem.W.keepIn K (.ref f35) = true)
    (a36 : PySem.W.nsIn K mainGlobals "_law_shared" = some (some (.ref f36)))
    (l36 : K.lookup f36 = some ⟨oc36, od36, .func (PySem.W.fnOf "_law_shared" "_law_shared" (defArgs s_l_shared) (defBody s_l_shared) (defScope s_l_shared) .none kV36 dc36 pm36 an36 cd36 ct36), sl36⟩) (c36 : PySem.W.codeIn K cd36 "_law_shared" = true) (k36 : PySem.W.keepIn K (.ref f36) = true)
    (a37 : PySem.W.nsIn K mainGlobals "_law_cases" = some (some (.ref f37)))
    (l37 : K.lookup f37 = some ⟨oc37, od37, .func (PySem.W.fnOf "_law_cases" "_law_cases" (defArgs s_l_cases) (defBody s_l_cases) (defScope s_l_cases) .none kV37 dc37 pm37 an37 cd37 ct37), sl37⟩) (c37 : PySem.W.codeIn K cd37 "_law_cases" = true) (k37 : PySem.W.keepIn K (.ref f37) = true)
    (a38 : PySem.W.nsIn K mainGlobals "_law_rising" = some (some (.ref f38)))
    (l38 : K.lookup f38 = some ⟨oc38, od38, .func (PySem.W.fnOf "_law_rising" "_law_rising" (defArgs s_l_rising) (defBody s_l_rising) (defScope s_l_rising) .none kV38 dc38 pm38 an38 cd38 ct38), sl38⟩) (c38 : PySem.W.codeIn K cd38 "_law_rising" = true) (k38 : PySem.W.keepIn K (.ref f38) = true)
    (a39 : PySem.W.nsIn K mainGlobals "_law_numbers" = some (some (.ref f39)))
    (l39 : K.lookup f39 = some ⟨oc39, od39, .func (PySem.W.fnOf "_law_numbers" "_law_numbers" (defArgs s_l_numbers) (defBody s_l_numbers) (defScope s_l_numbers) .none kV39 dc39 pm39 an39 cd39 ct39), sl39⟩) (c39 : PySem.W.codeIn K cd39 "_law_numbers" = true) (k39 : PySem.W.keepIn K (.ref f39) = true)
    (a40 : PySem.W.nsIn K mainGlobals "_law_longer" = some (some (.ref f40)))
    (l40 : K.lookup f40 = some ⟨oc40, od40, .func (PySem.W.fnOf "_law_longer" "_law_longer" (defArgs s_l_longer) (defBody s_l_longer) (defScope s_l_longer) .none kV40 dc40 pm40 an40 cd40 ct40), sl40⟩) (c40 : PySem.W.codeIn K cd40 "_law_longer" = true) (k40 : PySem.W.keepIn K (.ref f40) = true)
    (a41 : PySem.W.nsIn K mainGlobals "law" = some (some (.ref f41)))
    (l41 : K.lookup f41 = some ⟨oc41, od41, .func (PySem.W.fnOf "law" "law" (defArgs s_law) (defBody s_law) (defScope s_law) .none kV41 dc41 pm41 an41 cd41 ct41), sl41⟩) (c41 : PySem.W.codeIn K cd41 "law" = true) (k41 : PySem.W.keepIn K (.ref f41) = true)
    (pg_Term : PySem.W.plainGet K C_Term Str.empty = true) (hd_Term : PySem.W.hasDictIn K C_Term = true) (po_Term : PySem.W.plainOver K C_Term = true) (sa_Term : PySem.W.findIn K (.ref C_Term) "__setattr__" = some (some (.builtin "object.__setattr__"))) (mk_Term : PySem.W.makesIn K C_Term = true) (kc_Term : PySem.W.keepIn K (.ref C_Term) = true)
    (pg_Number : PySem.W.plainGet K C_Number Str.empty = true) (hd_Number : PySem.W.hasDictIn K C_Number = true) (po_Number : PySem.W.plainOver K C_Number = true) (sa_Number : PySem.W.findIn K (.ref C_Number) "__setattr__" = some (some (.builtin "object.__setattr__"))) (mk_Number : PySem.W.makesIn K C_Number = true) (kc_Number : PySem.W.keepIn K (.ref C_Number) = true)
    (n_Number_n : PySem.W.findIn K (.ref C_Number) "n" = some none)
    (pg_Value : PySem.W.plainGet K C_Value Str.empty = true) (hd_Value : PySem.W.hasDictIn K C_Value = true) (po_Value : PySem.W.plainOver K C_Value = true) (sa_Value : PySem.W.findIn K (.ref C_Value) "__setattr__" = some (some (.builtin "object.__setattr__"))) (mk_Value : PySem.W.makesIn K C_Value = true) (kc_Value : PySem.W.keepIn K (.ref C_Value) = true)
    (n_Value_name : PySem.W.findIn K (.ref C_Value) "name" = some none)
    (pg_Cell : PySem.W.plainGet K C_Cell Str.empty = true) (hd_Cell : PySem.W.hasDictIn K C_Cell = true) (po_Cell : PySem.W.plainOver K C_Cell = true) (sa_Cell : PySem.W.findIn K (.ref C_Cell) "__setattr__" = some (some (.builtin "object.__setattr__"))) (mk_Cell : PySem.W.makesIn K C_Cell = true) (kc_Cell : PySem.W.keepIn K (.ref C_Cell) = true)
    (n_Cell_table : PySem.W.findIn K (.ref C_Cell) "table" = some none)
    (n_Cell_spots : PySem.W.findIn K (.ref C_Cell) "spots" = some none)
    (pg_Joined : PySem.W.plainGet K C_Joined Str.empty = true) (hd_Joined : PySem.W.hasDictIn K C_Joined = true) (po_Joined : PySem.W.plainOver K C_Joined = true) (sa_Joined : PySem.W.findIn K (.ref C_Joined) "__setattr__" = some (some (.builtin "object.__setattr__"))) (mk_Joined : PySem.W.makesIn K C_Joined = true) (kc_Joined : PySem.W.keepIn K (.ref C_Joined) = true)
    (n_Joined_sign : PySem.W.findIn K (.ref C_Joined) "sign" = some none)
    (n_Joined_left : PySem.W.findIn K (.ref C_Joined) "left" = some none)
    (n_Joined_right : PySem.W.findIn K (.ref C_Joined) "right" = some none)
    (pg_Deed : PySem.W.plainGet K C_Deed Str.empty = true) (hd_Deed : PySem.W.hasDictIn K C_Deed = true) (po_Deed : PySem.W.plainOver K C_Deed = true) (sa_Deed : PySem.W.findIn K (.ref C_Deed) "__setattr__" = some (some (.builtin "object.__setattr__"))) (mk_Deed : PySem.W.makesIn K C_Deed = true) (kc_Deed : PySem.W.keepIn K (.ref C_Deed) = true)
    (n_Deed_names : PySem.W.findIn K (.ref C_Deed) "names" = some none)
    (n_Deed_lows : PySem.W.findIn K (.ref C_Deed) "lows" = some none)
    (n_Deed_highs : PySem.W.findIn K (.ref C_Deed) "highs" = some none)
    (n_Deed_table : PySem.W.findIn K (.ref C_Deed) "table" = some none)
    (n_Deed_spots : PySem.W.findIn K (.ref C_Deed) "spots" = some none)
    (n_Deed_term : PySem.W.findIn K (.ref C_Deed) "term" = some none)
    (n_Deed_path : PySem.W.findIn K (.ref C_Deed) "path" = some none)
    (pg_Program : PySem.W.plainGet K C_Program Str.empty = true) (hd_Program : PySem.W.hasDictIn K C_Program = true) (po_Program : PySem.W.plainOver K C_Program = true) (sa_Program : PySem.W.findIn K (.ref C_Program) "__setattr__" = some (some (.builtin "object.__setattr__"))) (mk_Program : PySem.W.makesIn K C_Program = true) (kc_Program : PySem.W.keepIn K (.ref C_Program) = true)
    (n_Program_size : PySem.W.findIn K (.ref C_Program) "size" = some none)
    (n_Program_deeds : PySem.W.findIn K (.ref C_Program) "deeds" = some none)
    (z_bool : PySem.W.nsIn K mainGlobals "bool" = some none)
    (z_enumerate : PySem.W.nsIn K mainGlobals "enumerate" = some none)
    (z_int : PySem.W.nsIn K mainGlobals "int" = some none)
    (z_isinstance : PySem.W.nsIn K mainGlobals "isinstance" = some none)
    (z_len : PySem.W.nsIn K mainGlobals "len" = some none)
    (z_list : PySem.W.nsIn K mainGlobals "list" = some none)
    (z_min : PySem.W.nsIn K mainGlobals "min" = some none)
    (z_range : PySem.W.nsIn K mainGlobals "range" = some none)
    (z_tuple : PySem.W.nsIn K mainGlobals "tuple" = some none)
    (z_zip : PySem.W.nsIn K mainGlobals "zip" = some none) :
    ∃ a : Ad, Tx K mg a ∧ fa = a.f_law ∧ (∀ (s : Shared) (v : Value), BindsTo s a.d_law ⟨[v], []⟩ [("_law_script", v)]) := by
  have e := hfa.symm.trans (PySem.W.mg_of X G a41)
  cases e
  exact ⟨⟨f1, PySem.W.fnOf "__init__" "Number.__init__" (defArgs s_Number_init) (defBody s_Number_init) (defScope s_Number_init) .none kV1 dc1 pm1 an1 cd1 ct1, f2, PySem.W.fnOf "__init__" "Value.__init__" (defArgs s_Value_init) (defBody s_Value_init) (defScope s_Value_init) .none kV2 dc2 pm2 an2 cd2 ct2, f3, PySem.W.fnOf "__init__" "Cell.__init__" (defArgs s_Cell_init) (defBody s_Cell_init) (defScope s_Cell_init) .none kV3 dc3 pm3 an3 cd3 ct3, f4, PySem.W.fnOf "__init__" "Joined.__init__" (defArgs s_Joined_init) (defBody s_Joined_init) (defScope s_Joined_init) .none kV4 dc4 pm4 an4 cd4 ct4, f5, PySem.W.fnOf "reads" "Number.reads" (defArgs s_Number_reads) (defBody s_Number_reads) (defScope s_Number_reads) .none kV5 dc5 pm5 an5 cd5 ct5, f6, PySem.W.fnOf "reads" "Value.reads" (defArgs s_Value_reads) (defBody s_Value_reads) (defScope s_Value_reads) .none kV6 dc6 pm6 an6 cd6 ct6, f7, PySem.W.fnOf "reads" "Cell.reads" (defArgs s_Cell_reads) (defBody s_Cell_reads) (defScope s_Cell_reads) .none kV7 dc7 pm7 an7 cd7 ct7, f8, PySem.W.fnOf "reads" "Joined.reads" (defArgs s_Joined_reads) (defBody s_Joined_reads) (defScope s_Joined_reads) .none kV8 dc8 pm8 an8 cd8 ct8, f9, PySem.W.fnOf "__init__" "Deed.__init__" (defArgs s_Deed_init) (defBody s_Deed_init) (defScope s_Deed_init) .none kV9 dc9 pm9 an9 cd9 ct9, f10, PySem.W.fnOf "__init__" "Program.__init__" (defArgs s_Program_init) (defBody s_Program_init) (defScope s_Program_init) .none kV10 dc10 pm10 an10 cd10 ct10, f11, PySem.W.fnOf "shared" "shared" (defArgs s_shared) (defBody s_shared) (defScope s_shared) .none kV11 dc11 pm11 an11 cd11 ct11, f12, PySem.W.fnOf "alike_numbers" "alike_numbers" (defArgs s_alike_numbers) (defBody s_alike_numbers) (defScope s_alike_numbers) .none kV12 dc12 pm12 an12 cd12 ct12, f13, PySem.W.fnOf "touches" "touches" (defArgs s_touches) (defBody s_touches) (defScope s_touches) .none kV13 dc13 pm13 an13 cd13 ct13, f14, PySem.W.fnOf "meets" "meets" (defArgs s_meets) (defBody s_meets) (defScope s_meets) .none kV14 dc14 pm14 an14 cd14 ct14, f15, PySem.W.fnOf "all_touches" "all_touches" (defArgs s_all_touches) (defBody s_all_touches) (defScope s_all_touches) .none kV15 dc15 pm15 an15 cd15 ct15, f16, PySem.W.fnOf "cases" "cases" (defArgs s_cases) (defBody s_cases) (defScope s_cases) .none kV16 dc16 pm16 an16 cd16 ct16, f17, PySem.W.fnOf "_law_cell" "_law_cell" (defArgs s_l_cell) (defBody s_l_cell) (defScope s_l_cell) .none kV17 dc17 pm17 an17 cd17 ct17, f18, PySem.W.fnOf "_law_whole" "_law_whole" (defArgs s_l_whole) (defBody s_l_whole) (defScope s_l_whole) .none kV18 dc18 pm18 an18 cd18 ct18, f19, PySem.W.fnOf "_law_mixed" "_law_mixed" (defArgs s_l_mixed) (defBody s_l_mixed) (defScope s_l_mixed) .none kV19 dc19 pm19 an19 cd19 ct19, f20, PySem.W.fnOf "_law_name" "_law_name" (defArgs s_l_name) (defBody s_l_name) (defScope s_l_name) .none kV20 dc20 pm20 an20 cd20 ct20, f21, PySem.W.fnOf "_law_spots" "_law_spots" (defArgs s_l_spots) (defBody s_l_spots) (defScope s_l_spots) .none kV21 dc21 pm21 an21 cd21 ct21, f22, PySem.W.fnOf "_law_cell_of" "_law_cell_of" (defArgs s_l_cell_of) (defBody s_l_cell_of) (defScope s_l_cell_of) .none kV22 dc22 pm22 an22 cd22 ct22, f23, PySem.W.fnOf "_law_leaf" "_law_leaf" (defArgs s_l_leaf) (defBody s_l_leaf) (defScope s_l_leaf) .none kV23 dc23 pm23 an23 cd23 ct23, f24, PySem.W.fnOf "_law_term" "_law_term" (defArgs s_l_term) (defBody s_l_term) (defScope s_l_term) .none kV24 dc24 pm24 an24 cd24 ct24, f25, PySem.W.fnOf "_law_loop" "_law_loop" (defArgs s_l_loop) (defBody s_l_loop) (defScope s_l_loop) .none kV25 dc25 pm25 an25 cd25 ct25, f26, PySem.W.fnOf "_law_row" "_law_row" (defArgs s_l_row) (defBody s_l_row) (defScope s_l_row) .none kV26 dc26 pm26 an26 cd26 ct26, f27, PySem.W.fnOf "_law_heads" "_law_heads" (defArgs s_l_heads) (defBody s_l_heads) (defScope s_l_heads) .none kV27 dc27 pm27 an27 cd27 ct27, f28, PySem.W.fnOf "_law_rows" "_law_rows" (defArgs s_l_rows) (defBody s_l_rows) (defScope s_l_rows) .none kV28 dc28 pm28 an28 cd28 ct28, f29, PySem.W.fnOf "_law_many" "_law_many" (defArgs s_l_many) (defBody s_l_many) (defScope s_l_many) .none kV29 dc29 pm29 an29 cd29 ct29, f30, PySem.W.fnOf "_law_size" "_law_size" (defArgs s_l_size) (defBody s_l_size) (defScope s_l_size) .none kV30 dc30 pm30 an30 cd30 ct30, f31, PySem.W.fnOf "_law_object" "_law_object" (defArgs s_l_object) (defBody s_l_object) (defScope s_l_object) .none kV31 dc31 pm31 an31 cd31 ct31, f32, PySem.W.fnOf "_law_made" "_law_made" (defArgs s_l_made) (defBody s_l_made) (defScope s_l_made) .none kV32 dc32 pm32 an32 cd32 ct32, f33, PySem.W.fnOf "_law_reads" "_law_reads" (defArgs s_l_reads) (defBody s_l_reads) (defScope s_l_reads) .none kV33 dc33 pm33 an33 cd33 ct33, f34, PySem.W.fnOf "_law_touches" "_law_touches" (defArgs s_l_touches) (defBody s_l_touches) (defScope s_l_touches) .none kV34 dc34 pm34 an34 cd34 ct34, f35, PySem.W.fnOf "_law_meets" "_law_meets" (defArgs s_l_meets) (defBody s_l_meets) (defScope s_l_meets) .none kV35 dc35 pm35 an35 cd35 ct35, f36, PySem.W.fnOf "_law_shared" "_law_shared" (defArgs s_l_shared) (defBody s_l_shared) (defScope s_l_shared) .none kV36 dc36 pm36 an36 cd36 ct36, f37, PySem.W.fnOf "_law_cases" "_law_cases" (defArgs s_l_cases) (defBody s_l_cases) (defScope s_l_cases) .none kV37 dc37 pm37 an37 cd37 ct37, f38, PySem.W.fnOf "_law_rising" "_law_rising" (defArgs s_l_rising) (defBody s_l_rising) (defScope s_l_rising) .none kV38 dc38 pm38 an38 cd38 ct38, f39, PySem.W.fnOf "_law_numbers" "_law_numbers" (defArgs s_l_numbers) (defBody s_l_numbers) (defScope s_l_numbers) .none kV39 dc39 pm39 an39 cd39 ct39, f40, PySem.W.fnOf "_law_longer" "_law_longer" (defArgs s_l_longer) (defBody s_l_longer) (defScope s_l_longer) .none kV40 dc40 pm40 an40 cd40 ct40, fa, PySem.W.fnOf "law" "law" (defArgs s_law) (defBody s_law) (defScope s_law) .none kV41 dc41 pm41 an41 cd41 ct41, C_Term, C_Number, C_Value, C_Cell, C_Joined, C_Deed, C_Program⟩, ⟨fun_mk (st := s_Number_init) l1 c1 k1, 
    (fun_mk (st := s_Number_init) l1 c1 k1).binds (ps := ["self", "n"]) (fun _ _ _ _ _ _ us hl => bd_Number_init hl), 
    fun_mk (st := s_Value_init) l2 c2 k2, 
    (fun_mk (st := s_Value_init) l2 c2 k2).binds (ps := ["self", "name"]) (fun _ _ _ _ _ _ us hl => bd_Value_init hl), 
    fun_mk (st := s_Cell_init) l3 c3 k3, 
    (fun_mk (st := s_Cell_init) l3 c3 k3).binds (ps := ["self", "table", "spots"]) (fun _ _ _ _ _ _ us hl => bd_Cell_init hl), 
    fun_mk (st := s_Joined_init) l4 c4 k4, 
    (fun_mk (st := s_Joined_init) l4 c4 k4).binds (ps := ["self", "sign", "left", "right"]) (fun _ _ _ _ _ _ us hl => bd_Joined_init hl), 
    fun_mk (st := s_Number_reads) l5 c5 k5, 
    (fun_mk (st := s_Number_reads) l5 c5 k5).binds (ps := ["self"]) (fun _ _ _ _ _ _ us hl => bd_Number_reads hl), 
    fun_mk (st := s_Value_reads) l6 c6 k6, 
    (fun_mk (st := s_Value_reads) l6 c6 k6).binds (ps := ["self"]) (fun _ _ _ _ _ _ us hl => bd_Value_reads hl), 
    fun_mk (st := s_Cell_reads) l7 c7 k7, 
    (fun_mk (st := s_Cell_reads) l7 c7 k7).binds (ps := ["self"]) (fun _ _ _ _ _ _ us hl => bd_Cell_reads hl), 
    fun_mk (st := s_Joined_reads) l8 c8 k8, 
    (fun_mk (st := s_Joined_reads) l8 c8 k8).binds (ps := ["self"]) (fun _ _ _ _ _ _ us hl => bd_Joined_reads hl), 
    fun_mk (st := s_Deed_init) l9 c9 k9, 
    (fun_mk (st := s_Deed_init) l9 c9 k9).binds (ps := ["self", "names", "lows", "highs", "table", "spots", "term", "path"]) (fun _ _ _ _ _ _ us hl => bd_Deed_init hl), 
    fun_mk (st := s_Program_init) l10 c10 k10, 
    (fun_mk (st := s_Program_init) l10 c10 k10).binds (ps := ["self", "size", "deeds"]) (fun _ _ _ _ _ _ us hl => bd_Program_init hl), 
    fun_mk (st := s_shared) l11 c11 k11, 
    (fun_mk (st := s_shared) l11 c11 k11).binds (ps := ["one", "other"]) (fun _ _ _ _ _ _ us hl => bd_shared hl), 
    PySem.W.mg_of X G a11, 
    fun_mk (st := s_alike_numbers) l12 c12 k12, 
    (fun_mk (st := s_alike_numbers) l12 c12 k12).binds (ps := ["path", "other", "most"]) (fun _ _ _ _ _ _ us hl => bd_alike_numbers hl), 
    PySem.W.mg_of X G a12, 
    fun_mk (st := s_touches) l13 c13 k13, 
    (fun_mk (st := s_touches) l13 c13 k13).binds (ps := ["deed"]) (fun _ _ _ _ _ _ us hl => bd_touches hl), 
    PySem.W.mg_of X G a13, 
    fun_mk (st := s_meets) l14 c14 k14, 
    (fun_mk (st := s_meets) l14 c14 k14).binds (ps := ["program"]) (fun _ _ _ _ _ _ us hl => bd_meets hl), 
    PySem.W.mg_of X G a14, 
    fun_mk (st := s_all_touches) l15 c15 k15, 
    (fun_mk (st := s_all_touches) l15 c15 k15).binds (ps := ["program"]) (fun _ _ _ _ _ _ us hl => bd_all_touches hl), 
    PySem.W.mg_of X G a15, 
    fun_mk (st := s_cases) l16 c16 k16, 
    (fun_mk (st := s_cases) l16 c16 k16).binds (ps := ["program", "k", "l"]) (fun _ _ _ _ _ _ us hl => bd_cases hl), 
    PySem.W.mg_of X G a16, 
    fun_mk (st := s_l_cell) l17 c17 k17, 
    (fun_mk (st := s_l_cell) l17 c17 k17).binds (ps := ["_law_script", "_law_k"]) (fun _ _ _ _ _ _ us hl => bd_l_cell hl), 
    PySem.W.mg_of X G a17, 
    fun_mk (st := s_l_whole) l18 c18 k18, 
    (fun_mk (st := s_l_whole) l18 c18 k18).binds (ps := ["_law_found"]) (fun _ _ _ _ _ _ us hl => bd_l_whole hl), 
    PySem.W.mg_of X G a18, 
    fun_mk (st := s_l_mixed) l19 c19 k19, 
    (fun_mk (st := s_l_mixed) l19 c19 k19).binds (ps := ["_law_cell_here", "_law_k"]) (fun _ _ _ _ _ _ us hl => bd_l_mixed hl), 
    PySem.W.mg_of X G a19, 
    fun_mk (st := s_l_name) l20 c20 k20, 
    (fun_mk (st := s_l_name) l20 c20 k20).binds (ps := ["_law_cell_here", "_law_e"]) (fun _ _ _ _ _ _ us hl => bd_l_name hl), 
    PySem.W.mg_of X G a20, 
    fun_mk (st := s_l_spots) l21 c21 k21, 
    (fun_mk (st := s_l_spots) l21 c21 k21).binds (ps := ["_law_number", "_law_bases", "_law_many_here", "_law_off"]) (fun _ _ _ _ _ _ us hl => bd_l_spots hl), 
    PySem.W.mg_of X G a21, 
    fun_mk (st := s_l_cell_of) l22 c22 k22, 
    (fun_mk (st := s_l_cell_of) l22 c22 k22).binds (ps := ["_law_number", "_law_bases", "_law_heads_here"]) (fun _ _ _ _ _ _ us hl => bd_l_cell_of hl), 
    PySem.W.mg_of X G a22, 
    fun_mk (st := s_l_leaf) l23 c23 k23, 
    (fun_mk (st := s_l_leaf) l23 c23 k23).binds (ps := ["_law_number", "_law_bases", "_law_heads_here"]) (fun _ _ _ _ _ _ us hl => bd_l_leaf hl), 
    PySem.W.mg_of X G a23, 
    fun_mk (st := s_l_term) l24 c24 k24, 
    (fun_mk (st := s_l_term) l24 c24 k24).binds (ps := ["_law_cell_here", "_law_bases", "_law_heads_here"]) (fun _ _ _ _ _ _ us hl => bd_l_term hl), 
    PySem.W.mg_of X G a24, 
    fun_mk (st := s_l_loop) l25 c25 k25, 
    (fun_mk (st := s_l_loop) l25 c25 k25).binds (ps := ["_law_number", "_law_far", "_law_stack", "_law_cell_here"]) (fun _ _ _ _ _ _ us hl => bd_l_loop hl), 
    PySem.W.mg_of X G a25, 
    fun_mk (st := s_l_row) l26 c26 k26, 
    (fun_mk (st := s_l_row) l26 c26 k26).binds (ps := ["_law_cell_here", "_law_stack", "_law_path", "_law_heads_here"]) (fun _ _ _ _ _ _ us hl => bd_l_row hl), 
    PySem.W.mg_of X G a26, 
    fun_mk (st := s_l_heads) l27 c27 k27, 
    (fun_mk (st := s_l_heads) l27 c27 k27).binds (ps := ["_law_script"]) (fun _ _ _ _ _ _ us hl => bd_l_heads hl), 
    PySem.W.mg_of X G a27, 
    fun_mk (st := s_l_rows) l28 c28 k28, 
    (fun_mk (st := s_l_rows) l28 c28 k28).binds (ps := ["_law_script", "_law_many_here"]) (fun _ _ _ _ _ _ us hl => bd_l_rows hl), 
    PySem.W.mg_of X G a28, 
    fun_mk (st := s_l_many) l29 c29 k29, 
    (fun_mk (st := s_l_many) l29 c29 k29).binds (ps := ["_law_script"]) (fun _ _ _ _ _ _ us hl => bd_l_many hl), 
    PySem.W.mg_of X G a29, 
    fun_mk (st := s_l_size) l30 c30 k30, 
    (fun_mk (st := s_l_size) l30 c30 k30).binds (ps := ["_law_script"]) (fun _ _ _ _ _ _ us hl => bd_l_size hl), 
    PySem.W.mg_of X G a30, 
    fun_mk (st := s_l_object) l31 c31 k31, 
    (fun_mk (st := s_l_object) l31 c31 k31).binds (ps := ["_law_term_here"]) (fun _ _ _ _ _ _ us hl => bd_l_object hl), 
    PySem.W.mg_of X G a31, 
    fun_mk (st := s_l_made) l32 c32 k32, 
    (fun_mk (st := s_l_made) l32 c32 k32).binds (ps := ["_law_size_here", "_law_rows_here"]) (fun _ _ _ _ _ _ us hl => bd_l_made hl), 
    PySem.W.mg_of X G a32, 
    fun_mk (st := s_l_reads) l33 c33 k33, 
    (fun_mk (st := s_l_reads) l33 c33 k33).binds (ps := ["_law_term_here"]) (fun _ _ _ _ _ _ us hl => bd_l_reads hl), 
    PySem.W.mg_of X G a33, 
    fun_mk (st := s_l_touches) l34 c34 k34, 
    (fun_mk (st := s_l_touches) l34 c34 k34).binds (ps := ["_law_row_here"]) (fun _ _ _ _ _ _ us hl => bd_l_touches hl), 
    PySem.W.mg_of X G a34, 
    fun_mk (st := s_l_meets) l35 c35 k35, 
    (fun_mk (st := s_l_meets) l35 c35 k35).binds (ps := ["_law_rows_here"]) (fun _ _ _ _ _ _ us hl => bd_l_meets hl), 
    PySem.W.mg_of X G a35, 
    fun_mk (st := s_l_shared) l36 c36 k36, 
    (fun_mk (st := s_l_shared) l36 c36 k36).binds (ps := ["_law_one", "_law_other"]) (fun _ _ _ _ _ _ us hl => bd_l_shared hl), 
    PySem.W.mg_of X G a36, 
    fun_mk (st := s_l_cases) l37 c37 k37, 
    (fun_mk (st := s_l_cases) l37 c37 k37).binds (ps := ["_law_rows_here", "_law_k", "_law_l"]) (fun _ _ _ _ _ _ us hl => bd_l_cases hl), 
    PySem.W.mg_of X G a37, 
    fun_mk (st := s_l_rising) l38 c38 k38, 
    (fun_mk (st := s_l_rising) l38 c38 k38).binds (ps := ["_law_found"]) (fun _ _ _ _ _ _ us hl => bd_l_rising hl), 
    PySem.W.mg_of X G a38, 
    fun_mk (st := s_l_numbers) l39 c39 k39, 
    (fun_mk (st := s_l_numbers) l39 c39 k39).binds (ps := ["_law_found"]) (fun _ _ _ _ _ _ us hl => bd_l_numbers hl), 
    PySem.W.mg_of X G a39, 
    fun_mk (st := s_l_longer) l40 c40 k40, 
    (fun_mk (st := s_l_longer) l40 c40 k40).binds (ps := ["_law_script", "_law_rows_here"]) (fun _ _ _ _ _ _ us hl => bd_l_longer hl), 
    PySem.W.mg_of X G a40, 
    fun_mk (st := s_law) l41 c41 k41, 
    (fun_mk (st := s_law) l41 c41 k41).binds (ps := ["_law_script"]) (fun _ _ _ _ _ _ us hl => bd_law hl), 
    PySem.W.mg_of X G a41, 
    ⟨pg_Term, hd_Term, po_Term, sa_Term⟩, 
    PySem.W.mg_of X G a_Term, 
    ⟨pg_Number, hd_Number, po_Number, sa_Number⟩, 
    PySem.W.mg_of X G a_Number, 
    ⟨mk_Number, a1, i1, kc_Number⟩, 
    ⟨a5, i5, k5⟩, 
    n_Number_n, 
    ⟨pg_Value, hd_Value, po_Value, sa_Value⟩, 
    PySem.W.mg_of X G a_Value, 
    ⟨mk_Value, a2, i2, kc_Value⟩, 
    ⟨a6, i6, k6⟩, 
    n_Value_name, 
    ⟨pg_Cell, hd_Cell, po_Cell, sa_Cell⟩, 
    PySem.W.mg_of X G a_Cell, 
    ⟨mk_Cell, a3, i3, kc_Cell⟩, 
    ⟨a7, i7, k7⟩, 
    n_Cell_table, 
    n_Cell_spots, 
    ⟨pg_Joined, hd_Joined, po_Joined, sa_Joined⟩, 
    PySem.W.mg_of X G a_Joined, 
    ⟨mk_Joined, a4, i4, kc_Joined⟩, 
    ⟨a8, i8, k8⟩, 
    n_Joined_sign, 
    n_Joined_left, 
    n_Joined_right, 
    ⟨pg_Deed, hd_Deed, po_Deed, sa_Deed⟩, 
    PySem.W.mg_of X G a_Deed, 
    ⟨mk_Deed, a9, i9, kc_Deed⟩, 
    n_Deed_names, 
    n_Deed_lows, 
    n_Deed_highs, 
    n_Deed_table, 
    n_Deed_spots, 
    n_Deed_term, 
    n_Deed_path, 
    ⟨pg_Program, hd_Program, po_Program, sa_Program⟩, 
    PySem.W.mg_of X G a_Program, 
    ⟨mk_Program, a10, i10, kc_Program⟩, 
    n_Program_size, 
    n_Program_deeds, 
    PySem.W.mg_none_of X G z_bool, 
    PySem.W.mg_none_of X G z_enumerate, 
    PySem.W.mg_none_of X G z_int, 
    PySem.W.mg_none_of X G z_isinstance, 
    PySem.W.mg_none_of X G z_len, 
    PySem.W.mg_none_of X G z_list, 
    PySem.W.mg_none_of X G z_min, 
    PySem.W.mg_none_of X G z_range, 
    PySem.W.mg_none_of X G z_tuple, 
    PySem.W.mg_none_of X G z_zip⟩, rfl, fun s v => .of_eq rfl⟩
end Fw
open PySem PySem.W PyProof.Rows
def PySem.W.Fast.tw10007321315784272894 : Nat := 0
def PySem.W.Fast.tw10038894864298429552 : Nat := 0
def PySem.W.Fast.tw10056359858821447407 : Nat := 0
def PySem.W.Fast.tw10087560838010264898 : Nat := 0
def PySem.W.Fast.tw10104002276076521137 : Nat := 0
def PySem.W.Fast.tw10189383769346632694 : Nat := 0
def PySem.W.Fast.tw10196220951700694339 : Nat := 0
def PySem.W.Fast.tw10207103161407268130 : Nat := 0
def PySem.W.Fast.tw10247995638312425653 : Nat := 0
def PySem.W.Fast.tw10271516900776751976 : Nat := 0
def PySem.W.Fast.tw10281255217926479362 : Nat := 0
def PySem.W.Fast.tw10358446160210691567 : Nat := 0
def PySem.W.Fast.tw10385959705509881461 : Nat := 0
def PySem.W.Fast.tw10386942407316673811 : Nat := 0
def PySem.W.Fast.tw10423460069500341997 : Nat := 0
def PySem.W.Fast.tw10562911532976114276 : Nat := 0
def PySem.W.Fast.tw10574039815339886197 : Nat := 0
def PySem.W.Fast.tw10590096401743915711 : Nat := 0
def PySem.W.Fast.tw10627127686872036861 : Nat := 0
def PySem.W.Fast.tw10691135440906688565 : Nat := 0
def PySem.W.Fast.tw10710631262037554054 : Nat := 0
def PySem.W.Fast.tw10751561505319947969 : Nat := 0
def PySem.W.Fast.tw10753392840700203406 : Nat := 0
def PySem.W.Fast.tw10821637746836364826 : Nat := 0
def PySem.W.Fast.tw10872136073429318182 : Nat := 0
def PySem.W.Fast.tw10876388615018062793 : Nat := 0
def PySem.W.Fast.tw10951016769203534458 : Nat := 0
def PySem.W.Fast.tw10976837902511988708 : Nat := 0
def PySem.W.Fast.tw11003199259431781929 : Nat := 0
def PySem.W.Fast.tw11005544785518682961 : Nat := 0
def PySem.W.Fast.tw11008607999809234626 : Nat := 0
def PySem.W.Fast.tw11061606000076486656 : Nat := 0
def PySem.W.Fast.tw11077454201406625623 : Nat := 0
def PySem.W.Fast.tw11446325602892730931 : Nat := 0
def PySem.W.Fast.tw11446530625011416535 : Nat := 0
def PySem.W.Fast.tw11454566909055364348 : Nat := 0
def PySem.W.Fast.tw11538020766332284069 : Nat := 0
def PySem.W.Fast.tw11546344889969623664 : Nat := 0
def PySem.W.Fast.tw11577566839956450691 : Nat := 0
def PySem.W.Fast.tw1159093228639075024 : Nat := 0
def PySem.W.Fast.tw11597800295653028065 : Nat := 0
def PySem.W.Fast.tw11765651355009101622 : Nat := 0
def PySem.W.Fast.tw11980456729463078056 : Nat := 0
def PySem.W.Fast.tw12046545900944343397 : Nat := 0
def PySem.W.Fast.tw1211008281200943012 : Nat := 0
def PySem.W.Fast.tw12114172023756857048 : Nat := 0
def PySem.W.Fast.tw12166481819868746013 : Nat := 0
def PySem.W.Fast.tw12207033355678537222 : Nat := 0
def PySem.W.Fast.tw1222024776463634266 : Nat := 0
def PySem.W.Fast.tw12225563702156815258 : Nat := 0
def PySem.W.Fast.tw12242063505058975720 : Nat := 0
def PySem.W.Fast.tw12244381586309391225 : Nat := 0
def PySem.W.Fast.tw12254963715547452280 : Nat := 0
def PySem.W.Fast.tw12361705436304537426 : Nat := 0
def PySem.W.Fast.tw12542787980061039227 : Nat := 0
def PySem.W.Fast.tw12595830397034362804 : Nat := 0
def PySem.W.Fast.tw12685965885275220247 : Nat := 0
def PySem.W.Fast.tw12706396061061630414 : Nat := 0
def PySem.W.Fast.tw12721687278856600846 : Nat := 0
def PySem.W.Fast.tw12753221093194611956 : Nat := 0
def PySem.W.Fast.tw1276978276736331453 : Nat := 0
def PySem.W.Fast.tw12782163692598675423 : Nat := 0
def PySem.W.Fast.tw12863013064199139178 : Nat := 0
def PySem.W.Fast.tw12962187031003665142 : Nat := 0
def PySem.W.Fast.tw1299036830151991097 : Nat := 0
def PySem.W.Fast.tw13055442435586648083 : Nat := 0
def PySem.W.Fast.tw1306262540848887657 : Nat := 0
def PySem.W.Fast.tw13113009073646081974 : Nat := 0
def PySem.W.Fast.tw13178685699113903937 : Nat := 0
def PySem.W.Fast.tw13201448709138810717 : Nat := 0
def PySem.W.Fast.tw13241483287806940065 : Nat := 0
def PySem.W.Fast.tw13287024515641990939 : Nat := 0
def PySem.W.Fast.tw13297775874366831209 : Nat := 0
def PySem.W.Fast.tw13303333481753785792 : Nat := 0
def PySem.W.Fast.tw13345478423616161154 : Nat := 0
def PySem.W.Fast.tw13364389791941540978 : Nat := 0
def PySem.W.Fast.tw13659054035943594755 : Nat := 0
def PySem.W.Fast.tw13711570243872315158 : Nat := 0
def PySem.W.Fast.tw13791929657785595520 : Nat := 0
def PySem.W.Fast.tw1383114913947679650 : Nat := 0
def PySem.W.Fast.tw13855128915488814195 : Nat := 0
def PySem.W.Fast.tw13858244999885068706 : Nat := 0
def PySem.W.Fast.tw13903463952016724721 : Nat := 0
def PySem.W.Fast.tw13994968000767126577 : Nat := 0
def PySem.W.Fast.tw14072183990654270267 : Nat := 0
def PySem.W.Fast.tw1407851194088263073 : Nat := 0
def PySem.W.Fast.tw14110286005287340583 : Nat := 0
def PySem.W.Fast.tw14151674131031777936 : Nat := 0
def PySem.W.Fast.tw14181354512198036353 : Nat := 0
def PySem.W.Fast.tw14188456491720193718 : Nat := 0
def PySem.W.Fast.tw14216921751401823367 : Nat := 0
def PySem.W.Fast.tw14220200687160444113 : Nat := 0
def PySem.W.Fast.tw1426307836425683860 : Nat := 0
def PySem.W.Fast.tw14264718512601356187 : Nat := 0
def PySem.W.Fast.tw14269200977166356183 : Nat := 0
def PySem.W.Fast.tw14322358254264839763 : Nat := 0
def PySem.W.Fast.tw14334370124890750285 : Nat := 0
def PySem.W.Fast.tw14388003746673767452 : Nat := 0
def PySem.W.Fast.tw14493765287874460045 : Nat := 0
def PySem.W.Fast.tw14510957836838922600 : Nat := 0
def PySem.W.Fast.tw1452039808407839275 : Nat := 0
def PySem.W.Fast.tw14663628366554929183 : Nat := 0
def PySem.W.Fast.tw14678987369631344754 : Nat := 0
def PySem.W.Fast.tw14733809733996641721 : Nat := 0
def PySem.W.Fast.tw14734848652225396199 : Nat := 0
def PySem.W.Fast.tw14749073869531090294 : Nat := 0
def PySem.W.Fast.tw14772298694785929758 : Nat := 0
def PySem.W.Fast.tw14887299627697261974 : Nat := 0
def PySem.W.Fast.tw14902128752286708812 : Nat := 0
def PySem.W.Fast.tw14979990340837265915 : Nat := 0
def PySem.W.Fast.tw14980127069575712448 : Nat := 0
def PySem.W.Fast.tw15008002158318937009 : Nat := 0
def PySem.W.Fast.tw15025925160256177863 : Nat := 0
def PySem.W.Fast.tw15050257790469702887 : Nat := 0
def PySem.W.Fast.tw15062084969322215065 : Nat := 0
def PySem.W.Fast.tw15170284379935266188 : Nat := 0
def PySem.W.Fast.tw15182486682673455037 : Nat := 0
def PySem.W.Fast.tw15197720274090327613 : Nat := 0
def PySem.W.Fast.tw15395441756514347879 : Nat := 0
def PySem.W.Fast.tw1540413594057569206 : Nat := 0
def PySem.W.Fast.tw1542152272527301704 : Nat := 0
def PySem.W.Fast.tw15455204717083430495 : Nat := 0
def PySem.W.Fast.tw1553853485207482664 : Nat := 0
def PySem.W.Fast.tw15558565091590795089 : Nat := 0
def PySem.W.Fast.tw15675609832828969525 : Nat := 0
def PySem.W.Fast.tw1568027206079932700 : Nat := 0
def PySem.W.Fast.tw15702833069446905757 : Nat := 0
def PySem.W.Fast.tw15724172363047971194 : Nat := 0
def PySem.W.Fast.tw15744234423541369825 : Nat := 0
def PySem.W.Fast.tw15766650544538362934 : Nat := 0
def PySem.W.Fast.tw15880615908026255778 : Nat := 0
def PySem.W.Fast.tw158808505011898979 : Nat := 0
def PySem.W.Fast.tw16079760361810685765 : Nat := 0
def PySem.W.Fast.tw16100903077958535157 : Nat := 0
def PySem.W.Fast.tw16180956243500462088 : Nat := 0
def PySem.W.Fast.tw16208760309299722048 : Nat := 0
def PySem.W.Fast.tw16326092408885576854 : Nat := 0
def PySem.W.Fast.tw16353801117420225207 : Nat := 0
def PySem.W.Fast.tw16422413031101721566 : Nat := 0
def PySem.W.Fast.tw16443367453155889153 : Nat := 0
def PySem.W.Fast.tw16477417025421465681 : Nat := 0
def PySem.W.Fast.tw16619720949916555080 : Nat := 0
def PySem.W.Fast.tw16629642084470798177 : Nat := 0
def PySem.W.Fast.tw1666944929932936571 : Nat := 0
def PySem.W.Fast.tw16701562165162196515 : Nat := 0
def PySem.W.Fast.tw16705908445282656761 : Nat := 0
def PySem.W.Fast.tw16715268539070202324 : Nat := 0
def PySem.W.Fast.tw16724330527052602854 : Nat := 0
def PySem.W.Fast.tw16727483348516151623 : Nat := 0
def PySem.W.Fast.tw16739130915720921832 : Nat := 0
def PySem.W.Fast.tw16757310397313969386 : Nat := 0
def PySem.W.Fast.tw1676038581334208224 : Nat := 0
def PySem.W.Fast.tw16774445374776172684 : Nat := 0
def PySem.W.Fast.tw16774861922462453990 : Nat := 0
def PySem.W.Fast.tw16784457822257454753 : Nat := 0
def PySem.W.Fast.tw16856721234485699375 : Nat := 0
def PySem.W.Fast.tw16896334549156101237 : Nat := 0
def PySem.W.Fast.tw16984352226145249936 : Nat := 0
def PySem.W.Fast.tw16988506277705350767 : Nat := 0
def PySem.W.Fast.tw17000040444934793834 : Nat := 0
def PySem.W.Fast.tw17176111724724091709 : Nat := 0
def PySem.W.Fast.tw17195254441222230058 : Nat := 0
def PySem.W.Fast.tw17244076524094748024 : Nat := 0
def PySem.W.Fast.tw1727179278220049069 : Nat := 0
def PySem.W.Fast.tw17273469353478305352 : Nat := 0
def PySem.W.Fast.tw17280782620671457917 : Nat := 0
def PySem.W.Fast.tw17306953638494263449 : Nat := 0
def PySem.W.Fast.tw17337872710100984080 : Nat := 0
def PySem.W.Fast.tw17399192313215500038 : Nat := 0
def PySem.W.Fast.tw1742894442920548744 : Nat := 0
def PySem.W.Fast.tw17588932512774499446 : Nat := 0
def PySem.W.Fast.tw17603510876363305032 : Nat := 0
def PySem.W.Fast.tw17609136621802843552 : Nat := 0
def PySem.W.Fast.tw17626642338313137117 : Nat := 0
def PySem.W.Fast.tw17659248868329457262 : Nat := 0
def PySem.W.Fast.tw17704709339042893756 : Nat := 0
def PySem.W.Fast.tw17765423254521798847 : Nat := 0
def PySem.W.Fast.tw17771718781904817264 : Nat := 0
def PySem.W.Fast.tw17818594458406918347 : Nat := 0
def PySem.W.Fast.tw17855124826083686805 : Nat := 0
def PySem.W.Fast.tw17949062559846868166 : Nat := 0
def PySem.W.Fast.tw18035499046563293658 : Nat := 0
def PySem.W.Fast.tw18045625552837891644 : Nat := 0
def PySem.W.Fast.tw18060841265417121865 : Nat := 0
def PySem.W.Fast.tw18104575604367874484 : Nat := 0
def PySem.W.Fast.tw18132048897361234554 : Nat := 0
def PySem.W.Fast.tw18144376862121342530 : Nat := 0
def PySem.W.Fast.tw1817341280265941864 : Nat := 0
def PySem.W.Fast.tw18189212388799812790 : Nat := 0
def PySem.W.Fast.tw18225655186051235353 : Nat := 0
def PySem.W.Fast.tw1830098280025138586 : Nat := 0
def PySem.W.Fast.tw18320914502670439391 : Nat := 0
def PySem.W.Fast.tw18327941580730901992 : Nat := 0
def PySem.W.Fast.tw18390386108187915598 : Nat := 0
def PySem.W.Fast.tw18426662999953583013 : Nat := 0
def PySem.W.Fast.tw1885203612519919736 : Nat := 0
def PySem.W.Fast.tw1917763509289882072 : Nat := 0
def PySem.W.Fast.tw1952464874860851921 : Nat := 0
def PySem.W.Fast.tw1975121298372321890 : Nat := 0
def PySem.W.Fast.tw2034102605175474024 : Nat := 0
def PySem.W.Fast.tw2200459752982900847 : Nat := 0
def PySem.W.Fast.tw2209682422268844195 : Nat := 0
def PySem.W.Fast.tw2298322692177396448 : Nat := 0
def PySem.W.Fast.tw2325831306258826729 : Nat := 0
def PySem.W.Fast.tw2349535155925933436 : Nat := 0
def PySem.W.Fast.tw2435599668881539319 : Nat := 0
def PySem.W.Fast.tw2576331124869804565 : Nat := 0
def PySem.W.Fast.tw2585255078248358858 : Nat := 0
def PySem.W.Fast.tw2594612418079280137 : Nat := 0
def PySem.W.Fast.tw2682090905664833984 : Nat := 0
def PySem.W.Fast.tw2689260720085507402 : Nat := 0
def PySem.W.Fast.tw2735634425183687245 : Nat := 0
def PySem.W.Fast.tw2762690106892058725 : Nat := 0
def PySem.W.Fast.tw2827385415570559960 : Nat := 0
def PySem.W.Fast.tw2849702630549918478 : Nat := 0
def PySem.W.Fast.tw2868773582608560550 : Nat := 0
def PySem.W.Fast.tw2909242881691419385 : Nat := 0
def PySem.W.Fast.tw2945662837082694901 : Nat := 0
def PySem.W.Fast.tw2973992291598952799 : Nat := 0
def PySem.W.Fast.tw2976207873454402911 : Nat := 0
def PySem.W.Fast.tw2999761844247581883 : Nat := 0
def PySem.W.Fast.tw302152903382886959 : Nat := 0
def PySem.W.Fast.tw3052766580823913271 : Nat := 0
def PySem.W.Fast.tw3093862373732570033 : Nat := 0
def PySem.W.Fast.tw3127858573028450799 : Nat := 0
def PySem.W.Fast.tw3249109567994251420 : Nat := 0
def PySem.W.Fast.tw3250731490926212396 : Nat := 0
def PySem.W.Fast.tw3292057139905833690 : Nat := 0
def PySem.W.Fast.tw3332236729116626125 : Nat := 0
def PySem.W.Fast.tw3354311295766501758 : Nat := 0
def PySem.W.Fast.tw3402210606609889352 : Nat := 0
def PySem.W.Fast.tw3511543679379067195 : Nat := 0
def PySem.W.Fast.tw3536872191225432624 : Nat := 0
def PySem.W.Fast.tw3539251351401237530 : Nat := 0
def PySem.W.Fast.tw3628197293416624093 : Nat := 0
def PySem.W.Fast.tw3657070049608210712 : Nat := 0
def PySem.W.Fast.tw3821156760686372419 : Nat := 0
def PySem.W.Fast.tw3839501709322087073 : Nat := 0
def PySem.W.Fast.tw3850796866504066581 : Nat := 0
def PySem.W.Fast.tw3864915935490360887 : Nat := 0
def PySem.W.Fast.tw3875136423214174537 : Nat := 0
def PySem.W.Fast.tw3875310825942362806 : Nat := 0
def PySem.W.Fast.tw3895467003107716132 : Nat := 0
def PySem.W.Fast.tw3901555747755819228 : Nat := 0
def PySem.W.Fast.tw4052553028359282160 : Nat := 0
def PySem.W.Fast.tw419891779182980195 : Nat := 0
def PySem.W.Fast.tw4241111032513399916 : Nat := 0
def PySem.W.Fast.tw4264601096124423951 : Nat := 0
def PySem.W.Fast.tw4373006945850157456 : Nat := 0
def PySem.W.Fast.tw4388057396131431042 : Nat := 0
def PySem.W.Fast.tw4390189284967986350 : Nat := 0
def PySem.W.Fast.tw4493570968854742024 : Nat := 0
def PySem.W.Fast.tw4509630550438318356 : Nat := 0
def PySem.W.Fast.tw4520642207881444019 : Nat := 0
def PySem.W.Fast.tw4702885946976435667 : Nat := 0
def PySem.W.Fast.tw4744273489827336345 : Nat := 0
def PySem.W.Fast.tw4820296354109096478 : Nat := 0
def PySem.W.Fast.tw4827166139939852008 : Nat := 0
def PySem.W.Fast.tw4999901550498725322 : Nat := 0
def PySem.W.Fast.tw5006509198198951003 : Nat := 0
def PySem.W.Fast.tw5032418118945013875 : Nat := 0
def PySem.W.Fast.tw5086927980616907507 : Nat := 0
def PySem.W.Fast.tw5131653018584796623 : Nat := 0
def PySem.W.Fast.tw5144935525555527158 : Nat := 0
def PySem.W.Fast.tw520037107005003530 : Nat := 0
def PySem.W.Fast.tw5236485220213011453 : Nat := 0
def PySem.W.Fast.tw5281739275687003598 : Nat := 0
def PySem.W.Fast.tw5491430756995736190 : Nat := 0
def PySem.W.Fast.tw555741954802236454 : Nat := 0
def PySem.W.Fast.tw5637121173902652151 : Nat := 0
def PySem.W.Fast.tw5646160660740381404 : Nat := 0
def PySem.W.Fast.tw5732017115339874956 : Nat := 0
def PySem.W.Fast.tw5769651051314363112 : Nat := 0
def PySem.W.Fast.tw581126579793740809 : Nat := 0
def PySem.W.Fast.tw5821288517039389178 : Nat := 0
def PySem.W.Fast.tw5841519173150651673 : Nat := 0
def PySem.W.Fast.tw5861325530395980773 : Nat := 0
def PySem.W.Fast.tw5862166646747114854 : Nat := 0
def PySem.W.Fast.tw5890281787242137930 : Nat := 0
def PySem.W.Fast.tw589600651490754575 : Nat := 0
def PySem.W.Fast.tw5906800486362015016 : Nat := 0
def PySem.W.Fast.tw5939243101060189588 : Nat := 0
def PySem.W.Fast.tw5980155070586174359 : Nat := 0
def PySem.W.Fast.tw5992013791039140228 : Nat := 0
def PySem.W.Fast.tw6021806692479717643 : Nat := 0
def PySem.W.Fast.tw602201648031778935 : Nat := 0
def PySem.W.Fast.tw6032970787043182490 : Nat := 0
def PySem.W.Fast.tw609716676813058527 : Nat := 0
def PySem.W.Fast.tw6149858736714272908 : Nat := 0
def PySem.W.Fast.tw6158168270628879158 : Nat := 0
def PySem.W.Fast.tw6190754986440176151 : Nat := 0
def PySem.W.Fast.tw6212352079492655067 : Nat := 0
def PySem.W.Fast.tw6229736896583579356 : Nat := 0
def PySem.W.Fast.tw6251311128160728828 : Nat := 0
def PySem.W.Fast.tw6291108189481329417 : Nat := 0
def PySem.W.Fast.tw6320501486907491528 : Nat := 0
def PySem.W.Fast.tw635606356086564715 : Nat := 0
def PySem.W.Fast.tw6373205189044982829 : Nat := 0
def PySem.W.Fast.tw6421954314714808453 : Nat := 0
def PySem.W.Fast.tw64287603985298073 : Nat := 0
def PySem.W.Fast.tw6446070502491876886 : Nat := 0
def PySem.W.Fast.tw6497052312849535542 : Nat := 0
def PySem.W.Fast.tw6540439804717850765 : Nat := 0
def PySem.W.Fast.tw6594036188789533063 : Nat := 0
def PySem.W.Fast.tw6620573392554185521 : Nat := 0
def PySem.W.Fast.tw6676373883015915251 : Nat := 0
def PySem.W.Fast.tw6681068438382923065 : Nat := 0
def PySem.W.Fast.tw66863077750370812 : Nat := 0
def PySem.W.Fast.tw6690356044140386352 : Nat := 0
def PySem.W.Fast.tw6724444056748925293 : Nat := 0
def PySem.W.Fast.tw6746833545374046224 : Nat := 0
def PySem.W.Fast.tw6819801745275210679 : Nat := 0
def PySem.W.Fast.tw6877395884446291614 : Nat := 0
def PySem.W.Fast.tw6986349574483175269 : Nat := 0
def PySem.W.Fast.tw700431068385486386 : Nat := 0
def PySem.W.Fast.tw702700696981571156 : Nat := 0
def PySem.W.Fast.tw7082604931985406994 : Nat := 0
def PySem.W.Fast.tw7174944178577873118 : Nat := 0
def PySem.W.Fast.tw7208942137260022304 : Nat := 0
def PySem.W.Fast.tw7211334341391114203 : Nat := 0
def PySem.W.Fast.tw7227254784832331566 : Nat := 0
def PySem.W.Fast.tw7250120388554406470 : Nat := 0
def PySem.W.Fast.tw7267012094968919332 : Nat := 0
def PySem.W.Fast.tw7286050923405684073 : Nat := 0
def PySem.W.Fast.tw7310636714299753210 : Nat := 0
def PySem.W.Fast.tw7403325529063617449 : Nat := 0
def PySem.W.Fast.tw746978916835409142 : Nat := 0
def PySem.W.Fast.tw7541736463134337459 : Nat := 0
def PySem.W.Fast.tw7546349024379230744 : Nat := 0
def PySem.W.Fast.tw7592053471499121961 : Nat := 0
def PySem.W.Fast.tw7646889935724428176 : Nat := 0
def PySem.W.Fast.tw7651130563165645949 : Nat := 0
def PySem.W.Fast.tw771007180950537774 : Nat := 0
def PySem.W.Fast.tw775495518643212828 : Nat := 0
def PySem.W.Fast.tw7769060897619848411 : Nat := 0
def PySem.W.Fast.tw7808617923844929433 : Nat := 0
def PySem.W.Fast.tw7819890351910892347 : Nat := 0
def PySem.W.Fast.tw7831082235728076577 : Nat := 0
def PySem.W.Fast.tw7889123220817558203 : Nat := 0
def PySem.W.Fast.tw7956206528243525105 : Nat := 0
def PySem.W.Fast.tw8008394111169019611 : Nat := 0
def PySem.W.Fast.tw8051462562879591471 : Nat := 0
def PySem.W.Fast.tw8132242723688552701 : Nat := 0
def PySem.W.Fast.tw8183557771916977072 : Nat := 0
def PySem.W.Fast.tw8245060355608718810 : Nat := 0
def PySem.W.Fast.tw8315493762526833985 : Nat := 0
def PySem.W.Fast.tw8331739017473007164 : Nat := 0
def PySem.W.Fast.tw8333088886704712899 : Nat := 0
def PySem.W.Fast.tw833993672367844093 : Nat := 0
def PySem.W.Fast.tw8398850822099351753 : Nat := 0
def PySem.W.Fast.tw8410599433083513484 : Nat := 0
def PySem.W.Fast.tw8431118588917405213 : Nat := 0
def PySem.W.Fast.tw844766028953176645 : Nat := 0
def PySem.W.Fast.tw8517166580624441765 : Nat := 0
def PySem.W.Fast.tw8536745906505423755 : Nat := 0
def PySem.W.Fast.tw8583611247271625107 : Nat := 0
def PySem.W.Fast.tw8705279537231146980 : Nat := 0
def PySem.W.Fast.tw8723712662797137408 : Nat := 0
def PySem.W.Fast.tw8805756109673563776 : Nat := 0
def PySem.W.Fast.tw888322109441997717 : Nat := 0
def PySem.W.Fast.tw8922057612304346730 : Nat := 0
def PySem.W.Fast.tw8931882512959784823 : Nat := 0
def PySem.W.Fast.tw8963641163756849737 : Nat := 0
def PySem.W.Fast.tw9050976444723659103 : Nat := 0
def PySem.W.Fast.tw90670410105645293 : Nat := 0
def PySem.W.Fast.tw9103065006393973787 : Nat := 0
def PySem.W.Fast.tw9108794194350561297 : Nat := 0
def PySem.W.Fast.tw9140946410217159224 : Nat := 0
def PySem.W.Fast.tw9176079012257479048 : Nat := 0
def PySem.W.Fast.tw9189215447616579560 : Nat := 0
def PySem.W.Fast.tw9235049742969388594 : Nat := 0
def PySem.W.Fast.tw9282196345961283470 : Nat := 0
def PySem.W.Fast.tw9306174508528601899 : Nat := 0
def PySem.W.Fast.tw9545782838812741679 : Nat := 0
def PySem.W.Fast.tw9558418922956543619 : Nat := 0
def PySem.W.Fast.tw9592265327731558395 : Nat := 0
def PySem.W.Fast.tw9617915586274137608 : Nat := 0
def PySem.W.Fast.tw9652224664146611452 : Nat := 0
def PySem.W.Fast.tw9681693139104069335 : Nat := 0
def PySem.W.Fast.tw9740327761191828178 : Nat := 0
def PySem.W.Fast.tw9765156336407504942 : Nat := 0
def PySem.W.Fast.tw9823460331738108358 : Nat := 0
def PySem.W.Fast.tw9828509074148800791 : Nat := 0
def PySem.W.Fast.tw9941915852856064033 : Nat := 0
def PySem.W.Fast.tw9961910370893410005 : Nat := 0
def PySem.W.Fast.tw9966627998655934866 : Nat := 0
def PySem.W.Fast.tw9987382963186729065 : Nat := 0
def PySem.W.Fast.tw9988250745485326149 : Nat := 0
set_option maxRecDepth 100000 in
set_option maxHeartbeats 0 in
theorem PySem.Challenge.cw_furrow_k55_meets_holds : PySem.Challenge.rw_furrow_k55_meets.Holds := by
  w_on; o_law; k_head; (case hw => w_witness2)
  k_fill
  refine L2.law_walk (l := PySem.Challenge.rw_furrow_k55_meets) (x := "_law_script") 110 (by decide) rfl rfl (fun w h Y => PySem.W.kIn_of Y) ?F
  case F =>
    intro w mg fa h KX G hmg
    suffices hh : ∃ a : Fw.Ad, Fw.Tx _ mg a ∧ fa = a.f_law ∧ (∀ (s : Shared) (v : Value), BindsTo s a.d_law ⟨[v], []⟩ [("_law_script", v)]) by
      obtain ⟨a, T, e, b⟩ := hh
      subst e
      exact ⟨a.d_law, b, fun base _ _ => Fw.ok_law T⟩
    refine' Fw.txt_mk KX G hmg ?a_Term ?a_Number ?a_Value ?a_Cell ?a_Joined ?a_Deed ?a_Program ?a1 ?i1 ?l1 ?c1 ?k1 ?a2 ?i2 ?l2 ?c2 ?k2 ?a3 ?i3 ?l3 ?c3 ?k3 ?a4 ?i4 ?l4 ?c4 ?k4 ?a5 ?i5 ?l5 ?c5 ?k5 ?a6 ?i6 ?l6 ?c6 ?k6 ?a7 ?i7 ?l7 ?c7 ?k7 ?a8 ?i8 ?l8 ?c8 ?k8 ?a9 ?i9 ?l9 ?c9 ?k9 ?a10 ?i10 ?l10 ?c10 ?k10 ?a11 ?l11 ?c11 ?k11 ?a12 ?l12 ?c12 ?k12 ?a13 ?l13 ?c13 ?k13 ?a14 ?l14 ?c14 ?k14 ?a15 ?l15 ?c15 ?k15 ?a16 ?l16 ?c16 ?k16 ?a17 ?l17 ?c17 ?k17 ?a18 ?l18 ?c18 ?k18 ?a19 ?l19 ?c19 ?k19 ?a20 ?l20 ?c20 ?k20 ?a21 ?l21 ?c21 ?k21 ?a22 ?l22 ?c22 ?k22 ?a23 ?l23 ?c23 ?k23 ?a24 ?l24 ?c24 ?k24 ?a25 ?l25 ?c25 ?k25 ?a26 ?l26 ?c26 ?k26 ?a27 ?l27 ?c27 ?k27 ?a28 ?l28 ?c28 ?k28 ?a29 ?l29 ?c29 ?k29 ?a30 ?l30 ?c30 ?k30 ?a31 ?l31 ?c31 ?k31 ?a32 ?l32 ?c32 ?k32 ?a33 ?l33 ?c33 ?k33 ?a34 ?l34 ?c34 ?k34 ?a35 ?l35 ?c35 ?k35 ?a36 ?l36 ?c36 ?k36 ?a37 ?l37 ?c37 ?k37 ?a38 ?l38 ?c38 ?k38 ?a39 ?l39 ?c39 ?k39 ?a40 ?l40 ?c40 ?k40 ?a41 ?l41 ?c41 ?k41 ?pg_Term ?hd_Term ?po_Term ?sa_Term ?mk_Term ?kc_Term ?pg_Number ?hd_Number ?po_Number ?sa_Number ?mk_Number ?kc_Number ?n_Number_n ?pg_Value ?hd_Value ?po_Value ?sa_Value ?mk_Value ?kc_Value ?n_Value_name ?pg_Cell ?hd_Cell ?po_Cell ?sa_Cell ?mk_Cell ?kc_Cell ?n_Cell_table ?n_Cell_spots ?pg_Joined ?hd_Joined ?po_Joined ?sa_Joined ?mk_Joined ?kc_Joined ?n_Joined_sign ?n_Joined_left ?n_Joined_right ?pg_Deed ?hd_Deed ?po_Deed ?sa_Deed ?mk_Deed ?kc_Deed ?n_Deed_names ?n_Deed_lows ?n_Deed_highs ?n_Deed_table ?n_Deed_spots ?n_Deed_term ?n_Deed_path ?pg_Program ?hd_Program ?po_Program ?sa_Program ?mk_Program ?kc_Program ?n_Program_size ?n_Program_deeds ?z_bool ?z_enumerate ?z_int ?z_isinstance ?z_len ?z_list ?z_min ?z_range ?z_tuple ?z_zip
    (case a_Term => k_is)
    (case a_Number => k_is)
    (case a_Value => k_is)
    (case a_Cell => k_is)
    (case a_Joined => k_is)
    (case a_Deed => k_is)
    (case a_Program => k_is)
    (case a1 => k_is)
    (case i1 => k_is)
    (case l1 => k_is)
    (case c1 => k_is)
    (case k1 => k_is)
    (case a2 => k_is)
    (case i2 => k_is)
    (case l2 => k_is)
    (case c2 => k_is)
    (case k2 => k_is)
    (case a3 => k_is)
    (case i3 => k_is)
    (case l3 => k_is)
    (case c3 => k_is)
    (case k3 => k_is)
    (case a4 => k_is)
    (case i4 => k_is)
    (case l4 => k_is)
    (case c4 => k_is)
    (case k4 => k_is)
    (case a5 => k_is)
    (case i5 => k_is)
    (case l5 => k_is)
    (case c5 => k_is)
    (case k5 => k_is)
    (case a6 => k_is)
    (case i6 => k_is)
    (case l6 => k_is)
    (case c6 => k_is)
    (case k6 => k_is)
    (case a7 => k_is)
    (case i7 => k_is)
    (case l7 => k_is)
    (case c7 => k_is)
    (case k7 => k_is)
    (case a8 => k_is)
    (case i8 => k_is)
    (case l8 => k_is)
    (case c8 => k_is)
    (case k8 => k_is)
    (case a9 => k_is)
    (case i9 => k_is)
    (case l9 => k_is)
    (case c9 => k_is)
    (case k9 => k_is)
    (case a10 => k_is)
    (case i10 => k_is)
    (case l10 => k_is)
    (case c10 => k_is)
    (case k10 => k_is)
    (case a11 => k_is)
    (case l11 => k_is)
    (case c11 => k_is)
    (case k11 => k_is)
    (case a12 => k_is)
    (case l12 => k_is)
    (case c12 => k_is)
    (case k12 => k_is)
    (case a13 => k_is)
    (case l13 => k_is)
    (case c13 => k_is)
    (case k13 => k_is)
    (case a14 => k_is)
    (case l14 => k_is)
    (case c14 => k_is)
    (case k14 => k_is)
    (case a15 => k_is)
    (case l15 => k_is)
    (case c15 => k_is)
    (case k15 => k_is)
    (case a16 => k_is)
    (case l16 => k_is)
    (case c16 => k_is)
    (case k16 => k_is)
    (case a17 => k_is)
    (case l17 => k_is)
    (case c17 => k_is)
    (case k17 => k_is)
    (case a18 => k_is)
    (case l18 => k_is)
    (case c18 => k_is)
    (case k18 => k_is)
    (case a19 => k_is)
    (case l19 => k_is)
    (case c19 => k_is)
    (case k19 => k_is)
    (case a20 => k_is)
    (case l20 => k_is)
    (case c20 => k_is)
    (case k20 => k_is)
    (case a21 => k_is)
    (case l21 => k_is)
    (case c21 => k_is)
    (case k21 => k_is)
    (case a22 => k_is)
    (case l22 => k_is)
    (case c22 => k_is)
    (case k22 => k_is)
    (case a23 => k_is)
    (case l23 => k_is)
    (case c23 => k_is)
    (case k23 => k_is)
    (case a24 => k_is)
    (case l24 => k_is)
    (case c24 => k_is)
    (case k24 => k_is)
    (case a25 => k_is)
    (case l25 => k_is)
    (case c25 => k_is)
    (case k25 => k_is)
    (case a26 => k_is)
    (case l26 => k_is)
    (case c26 => k_is)
    (case k26 => k_is)
    (case a27 => k_is)
    (case l27 => k_is)
    (case c27 => k_is)
    (case k27 => k_is)
    (case a28 => k_is)
    (case l28 => k_is)
    (case c28 => k_is)
    (case k28 => k_is)
    (case a29 => k_is)
    (case l29 => k_is)
    (case c29 => k_is)
    (case k29 => k_is)
    (case a30 => k_is)
    (case l30 => k_is)
    (case c30 => k_is)
    (case k30 => k_is)
    (case a31 => k_is)
    (case l31 => k_is)
    (case c31 => k_is)
    (case k31 => k_is)
    (case a32 => k_is)
    (case l32 => k_is)
    (case c32 => k_is)
    (case k32 => k_is)
    (case a33 => k_is)
    (case l33 => k_is)
    (case c33 => k_is)
    (case k33 => k_is)
    (case a34 => k_is)
    (case l34 => k_is)
    (case c34 => k_is)
    (case k34 => k_is)
    (case a35 => k_is)
    (case l35 => k_is)
    (case c35 => k_is)
    (case k35 => k_is)
    (case a36 => k_is)
    (case l36 => k_is)
    (case c36 => k_is)
    (case k36 => k_is)
    (case a37 => k_is)
    (case l37 => k_is)
    (case c37 => k_is)
    (case k37 => k_is)
    (case a38 => k_is)
    (case l38 => k_is)
    (case c38 => k_is)
    (case k38 => k_is)
    (case a39 => k_is)
    (case l39 => k_is)
    (case c39 => k_is)
    (case k39 => k_is)
    (case a40 => k_is)
    (case l40 => k_is)
    (case c40 => k_is)
    (case k40 => k_is)
    (case a41 => k_is)
    (case l41 => k_is)
    (case c41 => k_is)
    (case k41 => k_is)
    (case pg_Term => k_is)
    (case hd_Term => k_is)
    (case po_Term => k_is)
    (case sa_Term => k_is)
    (case mk_Term => k_is)
    (case kc_Term => k_is)
    (case pg_Number => k_is)
    (case hd_Number => k_is)
    (case po_Number => k_is)
    (case sa_Number => k_is)
    (case mk_Number => k_is)
    (case kc_Number => k_is)
    (case n_Number_n => k_is)
    (case pg_Value => k_is)
    (case hd_Value => k_is)
    (case po_Value => k_is)
    (case sa_Value => k_is)
    (case mk_Value => k_is)
    (case kc_Value => k_is)
    (case n_Value_name => k_is)
    (case pg_Cell => k_is)
    (case hd_Cell => k_is)
    (case po_Cell => k_is)
    (case sa_Cell => k_is)
    (case mk_Cell => k_is)
    (case kc_Cell => k_is)
    (case n_Cell_table => k_is)
    (case n_Cell_spots => k_is)
    (case pg_Joined => k_is)
    (case hd_Joined => k_is)
    (case po_Joined => k_is)
    (case sa_Joined => k_is)
    (case mk_Joined => k_is)
    (case kc_Joined => k_is)
    (case n_Joined_sign => k_is)
    (case n_Joined_left => k_is)
    (case n_Joined_right => k_is)
    (case pg_Deed => k_is)
    (case hd_Deed => k_is)
    (case po_Deed => k_is)
    (case sa_Deed => k_is)
    (case mk_Deed => k_is)
    (case kc_Deed => k_is)
    (case n_Deed_names => k_is)
    (case n_Deed_lows => k_is)
    (case n_Deed_highs => k_is)
    (case n_Deed_table => k_is)
    (case n_Deed_spots => k_is)
    (case n_Deed_term => k_is)
    (case n_Deed_path => k_is)
    (case pg_Program => k_is)
    (case hd_Program => k_is)
    (case po_Program => k_is)
    (case sa_Program => k_is)
    (case mk_Program => k_is)
    (case kc_Program => k_is)
    (case n_Program_size => k_is)
    (case n_Program_deeds => k_is)
    (case z_bool => k_is)
    (case z_enumerate => k_is)
    (case z_int => k_is)
    (case z_isinstance => k_is)
    (case z_len => k_is)
    (case z_list => k_is)
    (case z_min => k_is)
    (case z_range => k_is)
    (case z_tuple => k_is)
    (case z_zip => k_is)
#print axioms PySem.Challenge.cw_furrow_k55_meets_holds
