import PyProof.Rows.All
import Wide.All
import OpenK.AllK
import Wide.FinOn
import Lean
import PyProof.EqAt
import PyProof.EqKinds
import PyProof.TupleCall
import PyProof.ListMulRoad
import PySem.Challenge.RW_furrow_k63_sweeps_and_stands
set_option Elab.async false
set_option linter.all false
set_option maxRecDepth 100000
namespace L2
open PySem PySem.Spec PyProof.Rows

noncomputable abbrev Key := Sum Int Str
noncomputable def keyIs : Key → Value → Bool
  | .inl k, v => Value.isInt k v
  | .inr x, v => Value.isStrOf x v
noncomputable def keyH (w : World) : Key → Int
  | .inl k => hashInt k
  | .inr x => hashStr w x
theorem keyIs_shape : ∀ {k : Key} {v : Value}, keyIs k v = true → (∃ i t, k = Sum.inl i ∧ v = Value.int i t) ∨ (∃ x t, k = Sum.inr x ∧ v = Value.str x t)
  | .inl i, v, h => by
    obtain ⟨t, e⟩ := Value.isInt_shape (k := i) (v := v) h
    exact .inl ⟨i, t, rfl, e⟩
  | .inr x, v, h => by
    obtain ⟨t, e⟩ := Value.isStrOf_shape (x := x) (v := v) h
    exact .inr ⟨x, t, rfl, e⟩
theorem key_ll (a b : Int) : decide ((Sum.inl a : Key) = Sum.inl b) = (a == b) := by
  by_cases e : a = b
  · subst e; simp
  · have h : ¬ (Sum.inl a : Key) = Sum.inl b := fun q => e (Sum.inl.inj q)
    rw [decide_eq_false h]
    exact (beq_eq_false_iff_ne.mpr e).symm
theorem key_rr (a b : Str) : decide ((Sum.inr a : Key) = Sum.inr b) = decide (a = b) := by
  by_cases e : a = b
  · subst e; simp
  · have h : ¬ (Sum.inr a : Key) = Sum.inr b := fun q => e (Sum.inr.inj q)
    rw [decide_eq_false h, decide_eq_false e]
theorem key_lr (a : Int) (b : Str) : decide ((Sum.inl a : Key) = Sum.inr b) = false := decide_eq_false (fun q => nomatch q)
theorem key_rl (a : Str) (b : Int) : decide ((Sum.inr a : Key) = Sum.inl b) = false := decide_eq_false (fun q => nomatch q)

noncomputable def mixKind (prog : Program) (w : World) : PySem.KeyKind prog w Key where
  is := keyIs
  hash := keyH w
  inj := fun v a b ha hb => by
    rcases keyIs_shape ha with ⟨i, t, rfl, rfl⟩ | ⟨x, t, rfl, rfl⟩
    · rcases keyIs_shape hb with ⟨j, u, rfl, e⟩ | ⟨y, u, rfl, e⟩
      · injection e with e1 _; rw [e1]
      · exact nomatch e
    · rcases keyIs_shape hb with ⟨j, u, rfl, e⟩ | ⟨y, u, rfl, e⟩
      · exact nomatch e
      · injection e with e1 _; rw [e1]
  byValue := fun k v h => by
    rcases keyIs_shape h with ⟨i, t, rfl, rfl⟩ | ⟨x, t, rfl, rfl⟩ <;> rfl
  pyHash := fun hv h => by
    rcases keyIs_shape hv with ⟨i, t, rfl, rfl⟩ | ⟨x, t, rfl, rfl⟩
    · exact wpAny_pyHash_int h
    · exact wpAny_pyHash_str h
  eqBool := fun hu hv h => by
    rcases keyIs_shape hu with ⟨i, t, rfl, rfl⟩ | ⟨x, t, rfl, rfl⟩
    · rcases keyIs_shape hv with ⟨j, u, rfl, rfl⟩ | ⟨y, u, rfl, rfl⟩
      · rw [key_ll] at h; exact wpAny_eqBool_int h
      · rw [key_lr] at h; exact SeqAt.EqAt.int_str i t y u _ _ _ _ h
    · rcases keyIs_shape hv with ⟨j, u, rfl, rfl⟩ | ⟨y, u, rfl, rfl⟩
      · rw [key_rl] at h; exact SeqAt.EqAt.str_int x t j u _ _ _ _ h
      · rw [key_rr] at h; exact wpAny_eqBool_str h
  «strs» := fun k x t v h => by
    rcases keyIs_shape h with ⟨i, u, rfl, e⟩ | ⟨y, u, rfl, e⟩
    · exact nomatch e
    · injection e with e1 _
      subst e1
      cases v <;> rfl

end L2

namespace L2
open PySem PySem.Spec PyProof.Rows

inductive V where
  | non | bl (b : Bool) | int (i : Int) | str (x : Str) | byt (b : Array UInt8) | flt (b : UInt64) | ref (a : Addr) | ty (n : String)
  deriving DecidableEq

noncomputable def RelV : V → Value → Prop
  | .non, u => u = Value.none
  | .bl b, u => u = Value.bool b
  | .int i, u => ∃ t, u = Value.int i t
  | .str x, u => ∃ t, u = Value.str x t
  | .byt b, u => ∃ t, u = Value.bytes b t
  | .flt b, u => ∃ t, u = Value.float b t
  | .ref a, u => u = Value.ref a
  | .ty n, u => u = Value.type n

noncomputable abbrev Vals : List V → List Value → Prop := Paired RelV
theorem Vals.length {xs : List V} {us : List Value} (r : Vals xs us) : xs.length = us.length := Paired.length r
theorem Vals.get : ∀ {xs : List V} {us : List Value} {i : Nat} {x : V}, Vals xs us → xs[i]? = some x → ∃ u, us[i]? = some u ∧ RelV x u
  | _, _, _, _, .nil, e => by simp at e
  | _, _, 0, _, .cons r _, e => by simp at e; subst e; exact ⟨_, rfl, r⟩
  | _, _, i + 1, x, .cons _ t, e => by
    obtain ⟨u, h1, h2⟩ := Vals.get (i := i) (x := x) t (by simpa using e)
    exact ⟨u, by simpa using h1, h2⟩
theorem Vals.append : ∀ {xs ys : List V} {us ws : List Value}, Vals xs us → Vals ys ws → Vals (xs ++ ys) (us ++ ws)
  | _, _, _, _, .nil, s => s
  | _, _, _, _, .cons r t, s => .cons r (Vals.append t s)
theorem Vals.take : ∀ {xs : List V} {us : List Value} (n : Nat), Vals xs us → Vals (xs.take n) (us.take n)
  | _, _, 0, _ => .nil
  | _, _, _ + 1, .nil => .nil
  | _, _, n + 1, .cons r t => .cons r (Vals.take n t)
theorem Vals.drop : ∀ {xs : List V} {us : List Value} (n : Nat), Vals xs us → Vals (xs.drop n) (us.drop n)
  | _, _, 0, r => r
  | _, _, _ + 1, .nil => .nil
  | _, _, n + 1, .cons _ t => Vals.drop n t
theorem Vals.none_of : ∀ {xs : List V} {us : List Value} {i : Nat}, Vals xs us → xs[i]? = none → us[i]? = none := fun {xs us i} r e => by
  have h1 := r.length
  have h2 : xs.length ≤ i := List.getElem?_eq_none_iff.mp e
  exact List.getElem?_eq_none_iff.mpr (by omega)

noncomputable def RelO : Option V → Option Value → Prop
  | some v, some u => RelV v u
  | none, none => True
  | _, _ => False
noncomputable def KV {κ : Type} : List (κ × V) → List (κ × Value) → Prop := Paired fun (p : κ × V) (q : κ × Value) => p.1 = q.1 ∧ RelV p.2 q.2

noncomputable def kV : Key → V
  | .inl i => .int i
  | .inr x => .str x

inductive HO where
  /-- a list -/
  | lst (xs : List V)
  /-- a tuple (never changes) -/
  | tup (xs : List V)
  /-- a dict whose keys are ints and texts; one whose keys are tuples of ints and texts (the empty one is both) -/
  | dK (kvs : List (Key × V)) | dT (kvs : List (List Key × V))
  /-- a set of ints: its members, its size -/
  | set (S : Int → Bool) (n : Nat)
  /-- an instance of the class at C, its dict at dx, its attributes -/
  | ins (C dx : Addr) (fs : List (Str × V))
  /-- the dict of the instance at x -/
  | own (x : Addr)
  /-- the dict of an exception -/
  | xd (fs : List (Str × V))
  /-- a bound method, f of x -/
  | met (f x : Addr)
  /-- a range object lo, lo + 1, .. below hi -/
  | rng (lo hi : Int)
  /-- a thing that is known to the object (the script; a dict while a loop walks it): read, never written while it is so -/
  | frz (o : Obj) (u : HO)
  /-- a code object's table -/
  | tbl (ps : Array Value)
  /-- any other thing, by what is true of its one object (a def of one's own: SetO a S n := HO.ext fun h => ..) -/
  | ext (φ : Heap → Prop)

noncomputable abbrev Hp := Addr → Option HO
noncomputable def upd (H : Hp) (a : Addr) (o : HO) : Hp := fun b => if b = a then some o else H b
theorem upd_same {H : Hp} {a : Addr} {o : HO} : upd H a o a = some o := by unfold upd; rw [if_pos rfl]
theorem upd_ne {H : Hp} {a b : Addr} {o : HO} (h : b ≠ a) : upd H a o b = H b := by unfold upd; rw [if_neg h]
theorem ne_of {H : Hp} {a b : Addr} {o u : HO} (h : H a = some o) (h' : H b = some u) (d : o ≠ u) : a ≠ b := by
  intro e; subst e; rw [h] at h'; exact d (Option.some.inj h')
theorem ne_of_none {H : Hp} {a b : Addr} {o : HO} (h : H a = some o) (h' : H b = none) : a ≠ b := by
  intro e; subst e; rw [h] at h'; cases h'

section
variable (P : Program) (w : World)
noncomputable def IsTupN (h : Heap) (a : Addr) (its : Array Value) : Prop := ∃ o, h.get? a = some o ∧ o.cls = .type "tuple" ∧ (∃ n, o.data = .seq its n) ∧ o.dict = none
theorem IsTupN.tup {h : Heap} {a : Addr} {its : Array Value} (x : IsTupN h a its) : IsTup h a its := let ⟨o, e, c, d, _⟩ := x; ⟨o, e, c, d⟩
theorem IsTupN.new (h : Heap) (its : Array Value) : IsTupN (h.push { cls := .type "tuple", data := .seq its }) h.objs.size its := ⟨_, Heap.get?_push_size _ rfl, rfl, ⟨_, rfl⟩, rfl⟩
noncomputable def ObjOk (H : Hp) (h : Heap) (a : Addr) : HO → Prop
  | .lst xs => xs.length ≤ sizeLine ∧ ∃ (its : List Value) (n : Nat), Vals xs its ∧ h.get? a = some { cls := .type "list", data := .seq its.toArray n }
  | .tup xs => xs.length ≤ sizeLine ∧ ∃ its : List Value, Vals xs its ∧ IsTupN h a its.toArray
  | .dK kvs => kvs.length ≤ sizeLine ∧ (a == sysModules) = false ∧ ∃ vs, KV kvs vs ∧ h.DictOf (mixKind P w) a vs
  | .dT kvs => kvs.length ≤ sizeLine ∧ (a == sysModules) = false ∧ ∃ xs : List (List Key × Addr × Value),
      Paired (fun (p : List Key × V) (q : List Key × Addr × Value) => p.1 = q.1 ∧ H q.2.1 = some (.tup (p.1.map kV)) ∧ RelV p.2 q.2.2) kvs xs ∧
      ∃ o es ep, h.get? a = some o ∧ o.ExactDict ∧ o.data = .dict es ep ∧ es.toList = xs.map (entryOfKey (tupleKind (mixKind P w))) ∧ (xs.map (·.1)).Nodup
  | .set S n => h.SetOf (intKind P w) a S n
  | .ins C dx fs => H dx = some (.own a) ∧ fs.length ≤ 1000 ∧ dx ≠ a ∧ h.get? a = some (PySem.W.instObj C dx) ∧
      ∃ mA, h.Ns1 dx mA ∧ (∀ f, RelO (fs.lookup f) (mA f)) ∧ PySem.Within mA (fs.map (·.1))
  | .own _ => ∃ o, h.get? a = some o
  | .xd fs => ∃ mA, h.Ns1 a mA ∧ ∀ f, RelO (fs.lookup f) (mA f)
  | .rng lo hi => ∃ t u v, h.get? a = some { cls := .type "range", data := .fields #[.int lo t, .int hi u, .int 1 v] }
  | .frz o u => h.get? a = some o ∧ ObjOk H h a u
  | .tbl ps => h.get? a = some { cls := .none, data := .fields ps }
  | .met f x => h.get? a = some (PySem.W.methodObj (.ref f) (.ref x))
  | .ext φ => φ h ∧ (∃ o, h.get? a = some o) ∧ ∀ h1 h2 : Heap, φ h1 → (∀ o, h1.get? a = some o → h2.get? a = some o) → φ h2
noncomputable def HOk (H : Hp) (h : Heap) : Prop := ∀ a o, H a = some o → ObjOk P w H h a o
end

section
variable {P : Program} {w : World} {H H' : Hp} {h h' : Heap} {a : Addr} {o : HO}
theorem ObjOk.lt (x : ObjOk P w H h a o) : a < h.objs.size := by
  cases o with
  | lst xs => obtain ⟨_, _, _, _, e⟩ := x; exact Heap.lt_size e
  | tup xs => obtain ⟨_, _, _, p⟩ := x; exact p.tup.lt
  | dK kvs => obtain ⟨_, _, _, _, o, _, _, e, _⟩ := x; exact Heap.lt_size e
  | dT kvs => obtain ⟨_, _, _, _, o, _, _, e, _⟩ := x; exact Heap.lt_size e
  | set S n => obtain ⟨o, _, _, _, e, _⟩ := x; exact Heap.lt_size e
  | ins C dx fs => obtain ⟨_, _, _, e, _⟩ := x; exact Heap.lt_size e
  | own y => obtain ⟨_, e⟩ := x; exact Heap.lt_size e
  | xd fs => obtain ⟨_, ⟨_, _, _, e, _⟩, _⟩ := x; exact Heap.lt_size e
  | rng lo hi => obtain ⟨_, _, _, e⟩ := x; exact Heap.lt_size e
  | frz ob u => obtain ⟨e, _⟩ := x; exact Heap.lt_size e
  | tbl ps => exact Heap.lt_size (show h.get? a = some _ from x)
  | met f y => exact Heap.lt_size (show h.get? a = some _ from x)
  | ext φ => obtain ⟨_, ⟨_, e⟩, _⟩ := x; exact Heap.lt_size e
theorem Paired.mapP {α β : Type} {F G : α → β → Prop} : ∀ {l₁ : List α} {l₂ : List β}, Paired F l₁ l₂ → (∀ a b, F a b → G a b) → Paired G l₁ l₂
  | _, _, .nil, _ => .nil
  | _, _, .cons r t, f => .cons (f _ _ r) (Paired.mapP t f)
theorem ObjOk.stay (x : ObjOk P w H h a o) (k : ∀ b u, (b = a ∨ H b = some (.own a)) → h.get? b = some u → h'.get? b = some u)
    (ho : ∀ b, H b = some (.own a) → H' b = some (.own a)) (ht : ∀ b xs, H b = some (.tup xs) → H' b = some (.tup xs)) : ObjOk P w H' h' a o := by
  induction o with
  | lst xs => obtain ⟨z, its, n, r, e⟩ := x; exact ⟨z, its, n, r, k _ _ (.inl rfl) e⟩
  | tup xs => obtain ⟨z, its, r, ob, e, c⟩ := x; exact ⟨z, its, r, ob, k _ _ (.inl rfl) e, c⟩
  | dK kvs => obtain ⟨z, y, vs, r, ob, es, ep, e, c⟩ := x; exact ⟨z, y, vs, r, ob, es, ep, k _ _ (.inl rfl) e, c⟩
  | dT kvs =>
    obtain ⟨z, y, xs, r, ob, es, ep, e, c⟩ := x
    exact ⟨z, y, xs, Paired.mapP r fun p q z => ⟨z.1, ht _ _ z.2.1, z.2.2⟩, ob, es, ep, k _ _ (.inl rfl) e, c⟩
  | set S n => obtain ⟨ob, es, ep, t, e, c⟩ := x; exact ⟨ob, es, ep, t, k _ _ (.inl rfl) e, c⟩
  | ins C dx fs =>
    obtain ⟨d, z, ne, e, mA, ⟨od, es, ep, e2, c⟩, r⟩ := x
    exact ⟨ho _ d, z, ne, k _ _ (.inl rfl) e, mA, ⟨od, es, ep, k _ _ (.inr d) e2, c⟩, r⟩
  | own y => obtain ⟨ob, e⟩ := x; exact ⟨ob, k _ _ (.inl rfl) e⟩
  | xd fs => obtain ⟨mA, ⟨od, es, ep, e, c⟩, r⟩ := x; exact ⟨mA, ⟨od, es, ep, k _ _ (.inl rfl) e, c⟩, r⟩
  | rng lo hi => obtain ⟨t, u, v, e⟩ := x; exact ⟨t, u, v, k _ _ (.inl rfl) e⟩
  | frz ob u ih => obtain ⟨e, q⟩ := x; exact ⟨k _ _ (.inl rfl) e, ih q⟩
  | tbl ps =>
    have e : h.get? a = some { cls := .none, data := .fields ps } := x
    show h'.get? a = some { cls := .none, data := .fields ps }
    exact k a _ (.inl rfl) e
  | met f y =>
    have e : h.get? a = some (PySem.W.methodObj (.ref f) (.ref y)) := x
    show h'.get? a = some (PySem.W.methodObj (.ref f) (.ref y))
    exact k a _ (.inl rfl) e
  | ext φ => obtain ⟨p, ⟨o, e⟩, st⟩ := x; exact ⟨st _ _ p fun o q => k _ _ (.inl rfl) q, ⟨o, k _ _ (.inl rfl) e⟩, st⟩
theorem HOk.lt (x : HOk P w H h) (e : H a = some o) : a < h.objs.size := (x a o e).lt
theorem HOk.fresh (x : HOk P w H h) (e : h.objs.size ≤ a) : H a = none := by
  cases q : H a with
  | none => rfl
  | some u => exact absurd (Nat.lt_of_lt_of_le (x.lt q) e) (Nat.lt_irrefl _)
theorem HOk.kept (x : HOk P w H h) (k : ∀ b u, h.get? b = some u → h'.get? b = some u) : HOk P w H h' := fun a o e =>
  (x a o e).stay (fun b u _ q => k b u q) (fun _ q => q) fun _ _ q => q
theorem HOk.laid (x : HOk P w H h) (k : ∀ b u, h.get? b = some u → h'.get? b = some u) (hp : h.objs.size ≤ a) (new : ObjOk P w (upd H a o) h' a o) : HOk P w (upd H a o) h' := fun b u e => by
  have hn := x.fresh hp
  by_cases hb : b = a
  · subst hb; rw [upd_same] at e; cases e; exact new
  · rw [upd_ne hb] at e
    exact (x b u e).stay (fun c v _ q => k c v q) (fun c q => by rw [upd_ne (ne_of_none q hn)]; exact q) fun c xs q => by rw [upd_ne (ne_of_none q hn)]; exact q
end

noncomputable def Rd (H : Hp) (a : Addr) (u : HO) : Prop := H a = some u ∨ ∃ o, H a = some (.frz o u)
theorem Rd.ok {P : Program} {w : World} {H : Hp} {h : Heap} {a : Addr} {u : HO} (r : Rd H a u) (x : HOk P w H h) : ObjOk P w H h a u := by
  rcases r with r | ⟨o, r⟩
  · exact x a u r
  · obtain ⟨_, q⟩ := x a _ r
    exact q
noncomputable def Mut : Option HO → Prop
  | some (.lst _) => True
  | some (.dK _) => True
  | some (.dT _) => True
  | some (.set _ _) => True
  | some (.ins _ _ _) => True
  | some (.ext _) => True
  | _ => False
section
variable {P : Program} {w : World} {H : Hp} {h h' : Heap} {x e : Addr} {o' : HO}
theorem HOk.write (ok : HOk P w H h) (mu : Mut (H x)) (he : e = x ∨ H e = some (.own x)) (k : ∀ b u, b ≠ e → h.get? b = some u → h'.get? b = some u) (heo : ∃ u, h'.get? e = some u)
    (new : ObjOk P w (upd H x o') h' x o') : HOk P w (upd H x o') h' := fun b u q => by
  have nown : ∀ c y, H c = some (.own y) → c ≠ x := fun c y r z => by subst z; rw [r] at mu; exact mu
  have ntup : ∀ c xs, H c = some (.tup xs) → c ≠ x := fun c xs r z => by subst z; rw [r] at mu; exact mu
  by_cases hb : b = x
  · subst hb; rw [upd_same] at q; cases q; exact new
  · rw [upd_ne hb] at q
    by_cases hbe : b = e
    · have q' : H b = some (.own x) := by
        rcases he with z | z
        · exact absurd (hbe.trans z) hb
        · rw [hbe]; exact z
      rw [q] at q'; cases q'
      obtain ⟨v, hv⟩ := heo
      exact ⟨v, by rw [hbe]; exact hv⟩
    · refine (ok b u q).stay (fun c v hc r => k c v ?_ r) (fun c r => by rw [upd_ne (nown c b r)]; exact r) fun c xs r => by rw [upd_ne (ntup c xs r)]; exact r
      rcases hc with rfl | hc
      · exact hbe
      · rintro rfl
        rcases he with z | z
        · exact nown c b hc z
        · rw [hc] at z; cases z; exact hb rfl
end

structure Un (fs ex : List Addr) (H H' : Hp) (h h' : Heap) : Prop where
  keep : ∀ b o, h.get? b = some o → H b = none → b ∉ fs → b ∉ ex → h'.get? b = some o
  slot : ∀ b o, h.get? b = some o → H b = none → b ∈ fs → b ∉ ex → ∃ sl, h'.get? b = some { o with slots := sl }
  free : ∀ b o, h.get? b = some o → H b = none → b ∉ ex → H' b = none
  there : ∀ b o, h.get? b = some o → b ∉ ex → ∃ o', h'.get? b = some o'
  tups : ∀ b xs, H b = some (.tup xs) → H' b = some (.tup xs)
  frzs : ∀ b o u, H b = some (.frz o u) → H' b = some (.frz o u)
  tbls : ∀ b ps, H b = some (.tbl ps) → ∃ more, H' b = some (.tbl (ps ++ more))
section
variable {fs fs' ex ex' : List Addr} {H H1 H2 : Hp} {h h1 h2 h' : Heap} {a x e : Addr} {o : HO}
theorem Un.any (u : Un fs ex H H1 h h1) {b : Addr} {ob : Obj} (q : h.get? b = some ob) (n : H b = none) (hx : b ∉ ex) : ∃ sl, h1.get? b = some { ob with slots := sl } := by
  by_cases hb : b ∈ fs
  · exact u.slot b ob q n hb hx
  · exact ⟨ob.slots, u.keep b ob q n hb hx⟩
theorem Un.kept (k : ∀ b u, h.get? b = some u → h'.get? b = some u) : Un fs ex H H h h' :=
  ⟨fun b ob q _ _ _ => k b ob q, fun b ob q _ _ _ => ⟨ob.slots, k b ob q⟩, fun _ _ _ n _ => n, fun b ob q _ => ⟨ob, k b ob q⟩, fun _ _ q => q, fun _ _ _ q => q, fun _ ps q => ⟨#[], by rw [q]; simp⟩⟩
theorem Un.refl : Un fs ex H H h h := Un.kept fun _ _ q => q
theorem Un.laid (k : ∀ b u, h.get? b = some u → h'.get? b = some u) (hp : h.objs.size ≤ a) (hn : H a = none) : Un fs ex H (upd H a o) h h' where
  keep := fun b u q _ _ _ => k b u q
  slot := fun b u q _ _ _ => ⟨u.slots, k b u q⟩
  free := fun b u q n _ => by rw [upd_ne (Nat.ne_of_lt (Nat.lt_of_lt_of_le (Heap.lt_size q) hp))]; exact n
  there := fun b u q _ => ⟨u, k b u q⟩
  tups := fun b xs q => by rw [upd_ne (ne_of_none q hn)]; exact q
  frzs := fun b u xs q => by rw [upd_ne (ne_of_none q hn)]; exact q
  tbls := fun b ps q => ⟨#[], by rw [upd_ne (ne_of_none q hn), q]; simp⟩
theorem Un.write (mu : Mut (H x)) (he : e = x ∨ H e = some (.own x)) (k : ∀ b u, b ≠ e → h.get? b = some u → h'.get? b = some u) (heo : ∃ u, h'.get? e = some u) : Un fs ex H (upd H x o) h h' := by
  have hx : ∀ b, H b = none → b ≠ x := fun b n z => by subst z; rw [n] at mu; exact mu
  have hb : ∀ b, H b = none → b ≠ e := fun b n z => by
    subst z
    rcases he with r | r
    · exact hx b n r
    · rw [n] at r; cases r
  have hm : ∀ b u, H b = some u → ¬ Mut (some u) → b ≠ x := fun b u q nm z => by subst z; rw [q] at mu; exact nm mu
  refine ⟨fun b u q n _ _ => k b u (hb b n) q, fun b u q n _ _ => ⟨u.slots, k b u (hb b n) q⟩, fun b u q n _ => by rw [upd_ne (hx b n)]; exact n, fun b u q _ => ?_,
    fun b xs q => by rw [upd_ne (hm b _ q fun z => z)]; exact q, fun b u xs q => by rw [upd_ne (hm b _ q fun z => z)]; exact q, fun b ps q => ⟨#[], by rw [upd_ne (hm b _ q fun z => z), q]; simp⟩⟩
  by_cases hbe : b = e
  · subst hbe; exact heo
  · exact ⟨u, k b u hbe q⟩
end

noncomputable def trk (h : Heap) (H : Hp) : List Addr := (List.range h.objs.size).filter fun a => (H a).isSome
noncomputable def hidT (h : Heap) (H : Hp) : Heap := PySem.W.hideAll h (trk h H)
theorem hidT_size (h : Heap) (H : Hp) : (hidT h H).objs.size = h.objs.size := PySem.W.hideAll_size _ _
theorem hidT_get {h : Heap} {H : Hp} {b : Addr} {o : Obj} (e : h.get? b = some o) (n : H b = none) : (hidT h H).get? b = some o :=
  PySem.W.hideAll_get _ e fun hm => by
    have q : (H b).isSome = true := (List.mem_filter.mp hm).2
    rw [n] at q; simp at q
theorem of_hidT {h : Heap} {H : Hp} {b : Addr} {o : Obj} (e : (hidT h H).get? b = some o) : h.get? b = some o ∧ H b = none := by
  have e' : h.get? b = some o := PySem.W.of_hideAll (trk h H) e
  refine ⟨e', ?_⟩
  cases q : H b with
  | none => rfl
  | some x =>
    have hm : b ∈ trk h H := List.mem_filter.mpr ⟨List.mem_range.mpr (Heap.lt_size e'), by simp [q]⟩
    have z : (hidT h H).get? b = none := PySem.W.hideAll_none (trk h H) hm
    rw [z] at e; cases e

end L2

namespace L2
open PySem PySem.Spec PyProof.Rows

structure Mod (K : PySem.W.Frag) (mg : Str → Option Value) (base : Heap) : Prop where
  kin : K.In base
  glob : base.Ns mainGlobals mg
  blt : ∃ mb, base.Ns builtinsNs mb ∧ ∀ x : Str, x ≠ "__name__" → mb x = bootBuiltins x
  nolimit : base.NoLimit

structure Cx where
  prog : Program
  w : World
  K : PySem.W.Frag
  mg : Str → Option Value
  base : Heap
  A : Around
  N : List Str
  s₀ : Shared
  H₀ : Hp
  env : Env
  outer : List Env
  stack : List Env
  ex : List Addr
  fn : Str → Bool
  calm : Bool
  pn : List (Addr × Obj)
  xe : Value → Shared → Prop
noncomputable def frs (l : List Env) : List Addr := l.filterMap (·.frame)
noncomputable abbrev Cx.fs (X : Cx) : List Addr := frs X.outer

noncomputable def Vis (sc : Scope) (x : Str) : Prop := sc.names.lookup x = some .local ∨ sc.names.lookup x = some .cell ∨ sc.names.lookup x = some .free
noncomputable def Loc (sc : Scope) (x : Str) : Prop := sc.names.lookup x = some .local ∨ sc.names.lookup x = some .cell
noncomputable def Look (env : Env) (h : Heap) (m : Str → Option Value) (x : Str) (u : Value) : Prop :=
  (env.kindOf x = some .local ∧ m x = some u) ∨ ((env.kindOf x = some .cell ∨ env.kindOf x = some .free) ∧ ∃ c, env.cells.lookup x = some c ∧ h.IsCell c (some u))

structure Cx.Ok (X : Cx) : Prop where
  mod : Mod X.K X.mg X.base
  kind : X.env.scope.kind = .function
  glob : X.env.globals = mainGlobals
  blt : X.env.builtins = builtinsNs
  above : X.s₀.heap.objs.size ≤ X.env.locals
  inj : ∀ x y c, X.env.cells.lookup x = some c → X.env.cells.lookup y = some c → x = y
  has : ∀ x, (X.env.kindOf x = some .cell ∨ X.env.kindOf x = some .free) → ∃ c, X.env.cells.lookup x = some c
  cab : ∀ x c, X.fn x = true → X.env.cells.lookup x = some c → X.s₀.heap.objs.size ≤ c
  hd : X.calm = true → X.A.handled = none
  frames : X.A.frames = some X.stack
  stk : X.stack = X.outer ∨ (X.stack = X.env :: X.outer ∧ X.env.frame = some X.env.locals)
  exf : ∀ b ∈ X.ex, b ≠ X.env.locals ∧ ∀ x c, X.env.cells.lookup x = some c → c ≠ b
  bs : ∀ b o, X.base.get? b = some o → X.s₀.heap.get? b = some o ∧ X.H₀ b = none
  bsz : X.base.objs.size ≤ X.s₀.heap.objs.size
  noex : ∀ b o, X.base.get? b = some o → b ∉ X.ex
  exfs : ∀ b ∈ X.ex, b ∉ X.fs
  funs : X.s₀.heap.FunFrames X.base X.outer
  frf : ∀ b ∈ X.fs, X.H₀ b = none

structure Inv (X : Cx) (pins : List (Addr × Obj)) (σ : List (Option V)) (H : Hp) (s : Shared) : Prop where
  ok : X.Ok
  os : s.os = X.s₀.os
  bare : AllBare s.gens
  base : Un X.fs X.ex X.H₀ H X.s₀.heap s.heap
  loc : ∃ m, s.heap.Ns X.env.locals m ∧ ∀ (i : Nat) (x : Str) (v : V), X.N[i]? = some x → σ[i]? = some (some v) → Vis X.env.scope x → ∃ u, RelV v u ∧ Look X.env s.heap m x u
  cell : ∀ x c, X.env.cells.lookup x = some c → ∃ v, s.heap.IsCell c v
  free : H X.env.locals = none
  freeC : ∀ x c, X.env.cells.lookup x = some c → H c = none
  pin : ∀ p ∈ X.pn ++ pins, s.heap.get? p.1 = some p.2 ∧ H p.1 = none ∧ p.1 ≠ X.env.locals ∧ p.1 ∉ X.fs ∧ ∀ v, p.2.data ≠ .cell v
  hok : HOk X.prog X.w H s.heap
  len : σ.length = X.N.length

section
variable {X : Cx} {pins : List (Addr × Obj)} {σ : List (Option V)} {H H' : Hp} {s : Shared} {h' : Heap}

theorem Cx.Ok.nofr (ok : X.Ok) {b : Addr} {o : Obj} (e : X.base.get? b = some o) : b ∉ X.fs := fun hb => by
  have := (ok.funs.mem hb).1
  rw [e] at this; cases this
theorem Inv.bs (I : Inv X pins σ H s) : ∀ b o, X.base.get? b = some o → s.heap.get? b = some o ∧ H b = none := fun b o e =>
  ⟨I.base.keep b o (I.ok.bs b o e).1 (I.ok.bs b o e).2 (I.ok.nofr e) (I.ok.noex b o e), I.base.free b o (I.ok.bs b o e).1 (I.ok.bs b o e).2 (I.ok.noex b o e)⟩
theorem Inv.bk (I : Inv X pins σ H s) : ∀ b o, X.base.get? b = some o → s.heap.get? b = some o := fun b o e => (I.bs b o e).1
theorem Inv.mod (I : Inv X pins σ H s) : Mod X.K X.mg X.base := I.ok.mod
theorem Inv.kIn (I : Inv X pins σ H s) : X.K.In s.heap := I.ok.mod.kin.keeps I.bk
theorem Inv.lt (I : Inv X pins σ H s) : X.env.locals < s.heap.objs.size := let ⟨_, hn, _⟩ := I.loc; hn.lt
theorem Inv.sz (I : Inv X pins σ H s) : X.s₀.heap.objs.size ≤ s.heap.objs.size := Nat.le_trans I.ok.above (Nat.le_of_lt I.lt)
theorem Inv.nofs (I : Inv X pins σ H s) {a : Addr} (h : s.heap.objs.size ≤ a) : a ∉ X.fs := fun hb => by
  obtain ⟨_, o, ho, _⟩ := I.ok.funs.mem hb
  exact absurd (Nat.lt_of_lt_of_le (Heap.lt_size ho) (Nat.le_trans I.sz h)) (Nat.lt_irrefl _)
theorem Inv.cne (I : Inv X pins σ H s) : ∀ x c, X.env.cells.lookup x = some c → c ≠ X.env.locals := fun x c e z => by
  obtain ⟨v, o, ho, hd⟩ := I.cell x c e
  obtain ⟨m, ⟨o', es, ep, ho', hd', _⟩, _⟩ := I.loc
  rw [z, ho'] at ho; cases ho; rw [hd'] at hd; cases hd
theorem Inv.funs (I : Inv X pins σ H s) : s.heap.FunFrames X.base X.outer := by
  have all : ∀ (l : List Env), (∀ b ∈ frs l, b ∈ X.fs) → X.s₀.heap.FunFrames X.base l → s.heap.FunFrames X.base l := by
    intro l
    induction l with
    | nil => intro _ _; trivial
    | cons env r ih =>
      intro hs hl
      obtain ⟨hk, ⟨L, o, hf, hn, ho, hd⟩, hr⟩ := hl
      have hL : L ∈ X.fs := hs L (by unfold frs; rw [List.filterMap_cons, hf]; exact List.mem_cons_self)
      obtain ⟨sl, e⟩ := I.base.slot L o ho (I.ok.frf L hL) hL fun z => I.ok.exfs L z hL
      exact ⟨hk, ⟨L, _, hf, hn, e, hd⟩, ih (fun b hb => hs b (by unfold frs; rw [List.filterMap_cons, hf]; exact List.mem_cons_of_mem _ hb)) hr⟩
  exact all X.outer (fun _ hb => hb) I.ok.funs

theorem Inv.stack (I : Inv X pins σ H s) : s.heap.FunFrames X.base X.stack := by
  rcases I.ok.stk with e | ⟨e, hf⟩
  · rw [e]; exact I.funs
  · rw [e]
    obtain ⟨m, hn, _⟩ := I.loc
    refine .cons (by rw [I.ok.kind]; decide) hf hn ?_ I.funs
    exact Heap.get?_none_of_le (Nat.le_trans I.ok.bsz I.ok.above)
theorem Inv.stkSub (I : Inv X pins σ H s) : ∀ b ∈ frs X.stack, b ∈ X.env.locals :: X.fs := fun b hb => by
  rcases I.ok.stk with e | ⟨e, hf⟩
  · rw [e] at hb; exact List.mem_cons_of_mem _ hb
  · rw [e] at hb
    unfold frs at hb
    rw [List.filterMap_cons, hf] at hb
    exact hb
theorem Inv.stkFree (I : Inv X pins σ H s) : ∀ b ∈ frs X.stack, H b = none := fun b hb => by
  rcases List.mem_cons.mp (I.stkSub b hb) with e | hb
  · rw [e]; exact I.free
  · obtain ⟨_, o, ho, _⟩ := I.ok.funs.mem hb
    exact I.base.free b o ho (I.ok.frf b hb) fun z => I.ok.exfs b z hb

theorem Inv.step {g' : Array GenState} {t' : Nat} {d' : Drawn} {ch : List Addr} (I : Inv X pins σ H s)
    (hch : ∀ b ∈ ch, (b ∈ X.ex ∨ X.s₀.heap.objs.size ≤ b) ∧ b ≠ X.env.locals ∧ (∀ x c, X.env.cells.lookup x = some c → c ≠ b) ∧ ∀ p ∈ X.pn ++ pins, p.1 ≠ b)
    (keep : ∀ b o, b ≠ X.env.locals → b ∉ X.fs → b ∉ ch → s.heap.get? b = some o → H b = none → h'.get? b = some o)
    (slot : ∀ b o, b ≠ X.env.locals → b ∈ X.fs → b ∉ ch → s.heap.get? b = some o → H b = none → ∃ sl, h'.get? b = some { o with slots := sl }) (free : ∀ b o, b ∉ ch → s.heap.get? b = some o → H b = none → H' b = none)
    (there : ∀ b o, b ∉ ch → s.heap.get? b = some o → ∃ o', h'.get? b = some o')
    (tups : ∀ b xs, H b = some (.tup xs) → H' b = some (.tup xs)) (frzs : ∀ b o u, H b = some (.frz o u) → H' b = some (.frz o u)) (tbls : ∀ b ps, H b = some (.tbl ps) → ∃ more, H' b = some (.tbl (ps ++ more)))
    (ns : ∀ m, s.heap.Ns X.env.locals m → h'.Ns X.env.locals m) (hok : HOk X.prog X.w H' h') (hg : AllBare g') :
    Inv X pins σ H' { s with heap := h', gens := g', drawn := d', toks := t' } := by
  have neL : ∀ b o, X.s₀.heap.get? b = some o → b ≠ X.env.locals := fun b o e => Nat.ne_of_lt (Nat.lt_of_lt_of_le (Heap.lt_size e) I.ok.above)
  have neC : ∀ b o, X.s₀.heap.get? b = some o → b ∉ X.ex → b ∉ ch := fun b o e hx hb => by
    rcases (hch b hb).1 with z | z
    · exact hx z
    · exact absurd (Nat.lt_of_lt_of_le (Heap.lt_size e) z) (Nat.lt_irrefl _)
  have cellK : ∀ x c, X.env.cells.lookup x = some c → ∀ v, s.heap.IsCell c v → h'.IsCell c v := fun x c e v ⟨o, ho, hd⟩ => by
    have nch : c ∉ ch := fun z => (hch c z).2.2.1 x c e rfl
    by_cases hc : c ∈ X.fs
    · obtain ⟨sl, q⟩ := slot c o (I.cne x c e) hc nch ho (I.freeC x c e)
      exact ⟨_, q, hd⟩
    · exact ⟨o, keep c o (I.cne x c e) hc nch ho (I.freeC x c e), hd⟩
  refine ⟨I.ok, I.os, hg, ⟨fun b o e n hb hx => ?_, fun b o e n hb hx => ?_, fun b o e n hx => ?_, fun b o e hx => ?_, fun b xs e => tups b xs (I.base.tups b xs e), fun b o xs e => frzs b o xs (I.base.frzs b o xs e), fun b ps e => ?_⟩, ?_, fun x c e => ?_, ?_, fun x c e => ?_, fun p hp => ?_, hok, I.len⟩
  · exact keep b o (neL b o e) hb (neC b o e hx) (I.base.keep b o e n hb hx) (I.base.free b o e n hx)
  · obtain ⟨sl, e1⟩ := I.base.slot b o e n hb hx
    obtain ⟨sl', e2⟩ := slot b _ (neL b o e) hb (neC b o e hx) e1 (I.base.free b o e n hx)
    exact ⟨sl', e2⟩
  · obtain ⟨o', e1⟩ := I.base.there b o e hx
    exact free b o' (neC b o e hx) e1 (I.base.free b o e n hx)
  · obtain ⟨o', e1⟩ := I.base.there b o e hx
    exact there b o' (neC b o e hx) e1
  · obtain ⟨m1, e1⟩ := I.base.tbls b ps e
    obtain ⟨m2, e2⟩ := tbls b _ e1
    exact ⟨m1 ++ m2, by rw [e2, Array.append_assoc]⟩
  · obtain ⟨m, hn, hl⟩ := I.loc
    refine ⟨m, ns m hn, fun i x v e1 e2 e3 => ?_⟩
    obtain ⟨u, r, l⟩ := hl i x v e1 e2 e3
    refine ⟨u, r, ?_⟩
    rcases l with l | ⟨k, c, e, z⟩
    · exact .inl l
    · exact .inr ⟨k, c, e, cellK x c e _ z⟩
  · obtain ⟨v, z⟩ := I.cell x c e
    exact ⟨v, cellK x c e v z⟩
  · obtain ⟨m, ⟨o, _, _, ho, _⟩, _⟩ := I.loc
    exact free _ o (fun z => (hch _ z).2.1 rfl) ho I.free
  · obtain ⟨v, o, ho, hd⟩ := I.cell x c e
    exact free c o (fun z => (hch c z).2.2.1 x c e rfl) ho (I.freeC x c e)
  · obtain ⟨e, n, ne, nf, d⟩ := I.pin p hp
    have nch : p.1 ∉ ch := fun z => (hch p.1 z).2.2.2 p hp rfl
    exact ⟨keep p.1 p.2 ne nf nch e n, free p.1 p.2 nch e n, ne, nf, d⟩
theorem Inv.un {t' : Nat} (I : Inv X pins σ H s) (u : Un X.fs [] H H' s.heap h') (hok : HOk X.prog X.w H' h') : Inv X pins σ H' { s with heap := h', toks := t' } := by
  obtain ⟨m, ⟨o, es, ep, ho, r⟩, _⟩ := id I.loc
  obtain ⟨sl, hL⟩ := u.any ho I.free (by simp)
  exact I.step (g' := s.gens) (d' := s.drawn) (ch := []) (fun _ z => nomatch z) (fun b o _ hb _ e n => u.keep b o e n hb (by simp)) (fun b o _ hb _ e n => u.slot b o e n hb (by simp)) (fun b o _ e n => u.free b o e n (by simp)) (fun b o _ e => u.there b o e (by simp)) u.tups u.frzs u.tbls (fun m' hm => by
    obtain ⟨o', es', ep', ho', r'⟩ := hm
    rw [ho] at ho'; cases ho'
    exact ⟨_, es', ep', hL, r'⟩) hok I.bare
theorem Inv.call {g' : Array GenState} {t' : Nat} {d' : Drawn} {ch : List Addr} (I : Inv X pins σ H s) (u : Un (frs X.stack) ch H H' s.heap h') (hok : HOk X.prog X.w H' h') (hg : AllBare g')
    (hch : ∀ b ∈ ch, (b ∈ X.ex ∨ X.s₀.heap.objs.size ≤ b) ∧ b ≠ X.env.locals ∧ (∀ x c, X.env.cells.lookup x = some c → c ≠ b) ∧ ∀ p ∈ X.pn ++ pins, p.1 ≠ b) :
    Inv X pins σ H' { s with heap := h', gens := g', drawn := d', toks := t' } := by
  obtain ⟨m, ⟨o, es, ep, ho, r⟩, _⟩ := id I.loc
  obtain ⟨sl, hL⟩ := u.any ho I.free fun z => (hch _ z).2.1 rfl
  exact I.step (ch := ch) hch (fun b o hL hb hc e n => u.keep b o e n (fun z => (List.mem_cons.mp (I.stkSub b z)).elim hL hb) hc) (fun b o _ _ hc e n => u.any e n hc) (fun b o hc e n => u.free b o e n hc) (fun b o hc e => u.there b o e hc) u.tups u.frzs u.tbls (fun m' hm => by
    obtain ⟨o', es', ep', ho', r'⟩ := hm
    rw [ho] at ho'; cases ho'
    exact ⟨_, es', ep', hL, r'⟩) hok hg
theorem Inv.turned {t' : Nat} {it : Addr} (I : Inv X pins σ H s) (k : ∀ b o, b ≠ it → s.heap.get? b = some o → h'.get? b = some o) (hn : H it = none) (hL : it ≠ X.env.locals)
    (h1 : it ∈ X.ex ∨ X.s₀.heap.objs.size ≤ it) (h2 : ∀ x c, X.env.cells.lookup x = some c → c ≠ it) (h3 : ∀ p ∈ X.pn ++ pins, p.1 ≠ it) : Inv X pins σ H { s with heap := h', toks := t' } := by
  have nit : ∀ b u, H b = some u → b ≠ it := fun b u e z => by rw [z, hn] at e; cases e
  refine I.step (g' := s.gens) (d' := s.drawn) (ch := [it]) (fun b hb => ?_) (fun b o _ _ hc e _ => k b o (fun z => hc (by simp [z])) e) (fun b o _ _ hc e _ => ⟨o.slots, k b o (fun z => hc (by simp [z])) e⟩) (fun _ _ _ _ n => n)
    (fun b o hc e => ⟨o, k b o (fun z => hc (by simp [z])) e⟩) (fun _ _ e => e) (fun _ _ _ e => e) (fun b ps e => ⟨#[], by rw [e]; simp⟩) (fun m hm => ?_) (fun b u e => ?_) I.bare
  · have e : b = it := by simpa using hb
    subst e
    exact ⟨h1, hL, h2, h3⟩
  · obtain ⟨o, es, ep, ho, r⟩ := hm
    exact ⟨o, es, ep, k _ o (Ne.symm hL) ho, r⟩
  · refine (I.hok b u e).stay (fun c v hc q => k c v ?_ q) (fun _ q => q) fun _ _ q => q
    rcases hc with z | z
    · rw [z]; exact nit b u e
    · exact nit c _ z
theorem Inv.tok (I : Inv X pins σ H s) (t : Nat) : Inv X pins σ H { s with toks := t } := I.un (h' := s.heap) (t' := t) Un.refl I.hok
theorem Inv.kept {t' : Nat} (I : Inv X pins σ H s) (k : ∀ b u, s.heap.get? b = some u → h'.get? b = some u) : Inv X pins σ H { s with heap := h', toks := t' } := I.un (Un.kept k) (I.hok.kept k)
theorem Inv.laid {a : Addr} {o : HO} {t' : Nat} (I : Inv X pins σ H s) (k : ∀ b u, s.heap.get? b = some u → h'.get? b = some u) (hp : s.heap.objs.size ≤ a) (new : ObjOk X.prog X.w (upd H a o) h' a o) :
    Inv X pins σ (upd H a o) { s with heap := h', toks := t' } := I.un (Un.laid k hp (I.hok.fresh hp)) (I.hok.laid k hp new)
theorem Inv.write {x e : Addr} {o : HO} {t' : Nat} (I : Inv X pins σ H s) (mu : Mut (H x)) (he : e = x ∨ H e = some (.own x)) (k : ∀ b u, b ≠ e → s.heap.get? b = some u → h'.get? b = some u) (heo : ∃ u, h'.get? e = some u)
    (new : ObjOk X.prog X.w (upd H x o) h' x o) : Inv X pins σ (upd H x o) { s with heap := h', toks := t' } := I.un (Un.write mu he k heo) (I.hok.write mu he k heo new)
theorem Inv.weak {σ' : List (Option V)} (I : Inv X pins σ H s) (hl : σ'.length = σ.length) (w : ∀ (i : Nat) v, σ'[i]? = some (some v) → σ[i]? = some (some v)) : Inv X pins σ' H s :=
  ⟨I.ok, I.os, I.bare, I.base, let ⟨m, hn, hl'⟩ := I.loc; ⟨m, hn, fun i x v e1 e2 e3 => hl' i x v e1 (w i v e2) e3⟩, I.cell, I.free, I.freeC, I.pin, I.hok, hl.trans I.len⟩
theorem Inv.pins_of {pins' : List (Addr × Obj)} (I : Inv X pins σ H s) (h : ∀ p ∈ pins', s.heap.get? p.1 = some p.2 ∧ H p.1 = none ∧ p.1 ≠ X.env.locals ∧ p.1 ∉ X.fs ∧ ∀ v, p.2.data ≠ .cell v) : Inv X pins' σ H s :=
  ⟨I.ok, I.os, I.bare, I.base, I.loc, I.cell, I.free, I.freeC, fun p hp => (List.mem_append.mp hp).elim (fun z => I.pin p (List.mem_append_left _ z)) (h p), I.hok, I.len⟩

theorem nodup_ix {N : List Str} (hN : N.Nodup) {i j : Nat} {x : Str} (a : N[i]? = some x) (b : N[j]? = some x) : i = j := by
  obtain ⟨h1, e1⟩ := List.getElem?_eq_some_iff.mp a
  obtain ⟨h2, e2⟩ := List.getElem?_eq_some_iff.mp b
  exact (List.getElem_inj hN).mp (e1.trans e2.symm)

theorem store_ok2 {M : Model} {A : Around} {E : Value → Shared → Prop} {i : Nat} {x : Str} {v : V} {u : Value} {Q : Unit → Shared → Prop} (I : Inv X pins σ H s) (hN : X.N.Nodup) (hi : X.N[i]? = some x) (hx : Loc X.env.scope x) (r : RelV v u)
    (h : ∀ s', Inv X pins (σ.set i (some v)) H s' → (∃ a, Heap.SameBut a s.heap s'.heap ∧ (a = X.env.locals ∨ X.env.cells.lookup x = some a)) → Q () s') (hf : X.fn x = true ∨ X.env.scope.names.lookup x = some .local := by first | exact .inl rfl | exact .inr rfl | assumption) : wpAny M A (storeName X.env x u) Q E s := by
  obtain ⟨m, hn, hl⟩ := id I.loc
  have hcls : (X.env.scope.kind == .class || (X.env.scope.kind == .module && X.env.locals != X.env.globals)) = false := by rw [I.ok.kind]; rfl
  have hiσ : i < σ.length := by rw [I.len]; exact (List.getElem?_eq_some_iff.mp hi).1
  have cne := I.cne
  have tracked : ∀ {a : Addr} {h' : Heap}, (∃ o, s.heap.get? a = some o ∧ H a = none) → Heap.SameBut a s.heap h' → HOk X.prog X.w H h' := fun {a h'} ha hs b ob e => by
    obtain ⟨_, _, hfree⟩ := ha
    refine (I.hok b ob e).stay (fun c w' hc q => (hs.2 c ?_).trans q) (fun _ q => q) fun _ _ q => q
    rintro rfl
    rcases hc with rfl | hc
    · rw [hfree] at e; cases e
    · rw [hfree] at hc; cases hc
  rcases hx with hk | hk
  · refine wpAny_storeName_local hk hn (fun h' hn' hs => ?_) hcls
    obtain ⟨oL, _, _, hoL, _⟩ := id hn
    refine h _ ⟨I.ok, I.os, I.bare, ⟨fun b o e n hb hx => ?_, fun b o e n hb hx => ?_, I.base.free, fun b o e hx => ?_, I.base.tups, I.base.frzs, I.base.tbls⟩, ⟨_, hn', fun j y v' e1 e2 e3 => ?_⟩, fun y c e => ?_, I.free, I.freeC, fun p hp => ?_, tracked ⟨oL, hoL, I.free⟩ hs, by simpa using I.len⟩ ⟨_, hs, .inl rfl⟩
    · exact (hs.2 b (Nat.ne_of_lt (Nat.lt_of_lt_of_le (Heap.lt_size e) I.ok.above))).trans (I.base.keep b o e n hb hx)
    · obtain ⟨sl, e1⟩ := I.base.slot b o e n hb hx
      exact ⟨sl, (hs.2 b (Nat.ne_of_lt (Nat.lt_of_lt_of_le (Heap.lt_size e) I.ok.above))).trans e1⟩
    · obtain ⟨o', e1⟩ := I.base.there b o e hx
      exact ⟨o', (hs.2 b (Nat.ne_of_lt (Nat.lt_of_lt_of_le (Heap.lt_size e) I.ok.above))).trans e1⟩
    · by_cases hj : j = i
      · subst hj
        rw [hi] at e1; cases e1
        rw [List.getElem?_set_self hiσ] at e2
        cases e2
        exact ⟨u, r, .inl ⟨hk, by simp⟩⟩
      · rw [List.getElem?_set_ne (Ne.symm hj)] at e2
        obtain ⟨u', r', q⟩ := hl j y v' e1 e2 e3
        refine ⟨u', r', ?_⟩
        rcases q with ⟨k, e⟩ | ⟨k, c, e, z⟩
        · refine .inl ⟨k, ?_⟩
          have : y ≠ x := fun e => hj (nodup_ix hN e1 (e ▸ hi))
          simp [this, e]
        · exact .inr ⟨k, c, e, z.sameBut hs (cne y c e)⟩
    · obtain ⟨w', z⟩ := I.cell y c e
      exact ⟨w', z.sameBut hs (cne y c e)⟩
    · obtain ⟨e, n, ne, nf, d⟩ := I.pin p hp
      exact ⟨(hs.2 p.1 ne).trans e, n, ne, nf, d⟩
  · have hfn : X.fn x = true := by
      rcases hf with z | z
      · exact z
      · rw [z] at hk; cases hk
    obtain ⟨c, hc⟩ := I.ok.has x (.inl hk)
    obtain ⟨w', z⟩ := I.cell x c hc
    refine wpAny_storeName_cell I.ok.kind hk hc z (fun h' hc' hs => ?_)
    obtain ⟨oc, hoc, hocd⟩ := id z
    refine h { s with heap := h' } ⟨I.ok, I.os, I.bare, ⟨fun b o e n hb hx => ?_, fun b o e n hb hx => ?_, I.base.free, fun b o e hx => ?_, I.base.tups, I.base.frzs, I.base.tbls⟩, ⟨m, hn.sameBut hs (Ne.symm (cne x c hc)), fun j y v' e1 e2 e3 => ?_⟩, fun y c' e => ?_, I.free, I.freeC, fun p hp => ?_, tracked ⟨oc, hoc, I.freeC x c hc⟩ hs, by simpa using I.len⟩ ⟨c, hs, .inr hc⟩
    · exact (hs.2 b (Nat.ne_of_lt (Nat.lt_of_lt_of_le (Heap.lt_size e) (I.ok.cab x c hfn hc)))).trans (I.base.keep b o e n hb hx)
    · obtain ⟨sl, e1⟩ := I.base.slot b o e n hb hx
      exact ⟨sl, (hs.2 b (Nat.ne_of_lt (Nat.lt_of_lt_of_le (Heap.lt_size e) (I.ok.cab x c hfn hc)))).trans e1⟩
    · obtain ⟨o', e1⟩ := I.base.there b o e hx
      exact ⟨o', (hs.2 b (Nat.ne_of_lt (Nat.lt_of_lt_of_le (Heap.lt_size e) (I.ok.cab x c hfn hc)))).trans e1⟩
    · by_cases hj : j = i
      · subst hj
        rw [hi] at e1; cases e1
        rw [List.getElem?_set_self hiσ] at e2
        cases e2
        exact ⟨u, r, .inr ⟨.inl hk, c, hc, hc'⟩⟩
      · rw [List.getElem?_set_ne (Ne.symm hj)] at e2
        obtain ⟨u', r', q⟩ := hl j y v' e1 e2 e3
        refine ⟨u', r', ?_⟩
        rcases q with q | ⟨k, c', e, z'⟩
        · exact .inl q
        · refine .inr ⟨k, c', e, z'.sameBut hs ?_⟩
          rintro rfl
          exact hj (nodup_ix hN e1 (I.ok.inj _ _ _ e hc ▸ hi))
    · by_cases hcc : c' = c
      · subst hcc; exact ⟨_, hc'⟩
      · obtain ⟨w2, z2⟩ := I.cell y c' e
        exact ⟨w2, z2.sameBut hs hcc⟩
    · obtain ⟨e, n, ne, nf, d⟩ := I.pin p hp
      refine ⟨(hs.2 p.1 ?_).trans e, n, ne, nf, d⟩
      intro q
      rw [q, hoc] at e
      have q' : oc = p.2 := Option.some.inj e
      exact d w' (by rw [← q']; exact hocd)
theorem store_ok {M : Model} {A : Around} {E : Value → Shared → Prop} {i : Nat} {x : Str} {v : V} {u : Value} {Q : Unit → Shared → Prop} (I : Inv X pins σ H s) (hN : X.N.Nodup) (hi : X.N[i]? = some x) (hx : Loc X.env.scope x) (r : RelV v u)
    (h : ∀ s', Inv X pins (σ.set i (some v)) H s' → Q () s') (hf : X.fn x = true ∨ X.env.scope.names.lookup x = some .local := by first | exact .inl rfl | exact .inr rfl | assumption) : wpAny M A (storeName X.env x u) Q E s :=
  store_ok2 I hN hi hx r (fun s' I' _ => h s' I') hf
theorem Inv.call' {s' : Shared} {ch : List Addr} (I : Inv X pins σ H s) (ho : s'.os = s.os) (u : Un (frs X.stack) ch H H' s.heap s'.heap) (hok : HOk X.prog X.w H' s'.heap) (hg : AllBare s'.gens)
    (hch : ∀ b ∈ ch, (b ∈ X.ex ∨ X.s₀.heap.objs.size ≤ b) ∧ b ≠ X.env.locals ∧ (∀ x c, X.env.cells.lookup x = some c → c ≠ b) ∧ ∀ p ∈ X.pn ++ pins, p.1 ≠ b) : Inv X pins σ H' s' := by
  obtain ⟨h', g', d', t', o'⟩ := s'
  have e : o' = s.os := ho
  subst e
  exact I.call (g' := g') (t' := t') (d' := d') u hok hg hch
end

noncomputable abbrev XK := Value → Option Addr → Hp → Prop
noncomputable abbrev St := List (Option V)
noncomputable abbrev VK := V → Hp → Prop
noncomputable abbrev TE := St → Hp → VK → Prop
noncomputable abbrev TT := St → Hp → (Bool → Hp → Prop) → Prop
noncomputable abbrev TA := St → Hp → (List V → Hp → Prop) → Prop
structure Ends where
  nx : St → Hp → Prop
  rt : VK
  bk : St → Hp → Prop := fun _ _ => False
  ct : St → Hp → Prop := fun _ _ => False
noncomputable abbrev TS := Ends → St → Hp → Prop

noncomputable def EP (X : Cx) (pins : List (Addr × Obj)) (σ : St) (Q : VK) (u : Value) (s' : Shared) : Prop := ∃ v H', Inv X pins σ H' s' ∧ RelV v u ∧ Q v H'
noncomputable def TP (X : Cx) (pins : List (Addr × Obj)) (σ : St) (Q : Bool → Hp → Prop) (b : Bool) (s' : Shared) : Prop := ∃ H', Inv X pins σ H' s' ∧ Q b H'
noncomputable def AP (X : Cx) (pins : List (Addr × Obj)) (σ : St) (Q : List V → Hp → Prop) (us : List Value) (s' : Shared) : Prop := ∃ vs H', Inv X pins σ H' s' ∧ Vals vs us ∧ Q vs H'
noncomputable def SP (X : Cx) (pins : List (Addr × Obj)) (D : Ends) (f : Flow) (s' : Shared) : Prop :=
  match f with
  | .next => ∃ σ' H', Inv X pins σ' H' s' ∧ D.nx σ' H'
  | .brk => ∃ σ' H', Inv X pins σ' H' s' ∧ D.bk σ' H'
  | .cont => ∃ σ' H', Inv X pins σ' H' s' ∧ D.ct σ' H'
  | .ret u => ∃ v σ' H', Inv X pins σ' H' s' ∧ RelV v u ∧ D.rt v H'

noncomputable def PE (X : Cx) (e : Expr) (t : TE) : Prop :=
  ∀ (pins : List (Addr × Obj)) (s : Shared) (σ : St) (H : Hp) (Q : VK), Inv X pins σ H s → t σ H Q → wpAny (model X.prog X.w) X.A (eval e X.env) (EP X pins σ Q) X.xe s
noncomputable def PT (X : Cx) (e : Expr) (t : TT) : Prop :=
  ∀ (pins : List (Addr × Obj)) (s : Shared) (σ : St) (H : Hp) (Q : Bool → Hp → Prop), Inv X pins σ H s → t σ H Q → wpAny (model X.prog X.w) X.A (isTrue e X.env (eval e X.env)) (TP X pins σ Q) X.xe s
noncomputable def PW (X : Cx) (e : Expr) (t : TT) : Prop :=
  ∀ (whole : Sem Value) (pins : List (Addr × Obj)) (s : Shared) (σ : St) (H : Hp) (Q : Bool → Hp → Prop), Inv X pins σ H s → t σ H Q → wpAny (model X.prog X.w) X.A (isTrue e X.env whole) (TP X pins σ Q) X.xe s
theorem PW.pt {X : Cx} {e : Expr} {t : TT} (h : PW X e t) : PT X e t := h _
noncomputable def PA (X : Cx) (es : List Expr) (t : TA) : Prop :=
  ∀ (pos : Pos) (pins : List (Addr × Obj)) (s : Shared) (σ : St) (H : Hp) (Q : List V → Hp → Prop), Inv X pins σ H s → t σ H Q → wpAny (model X.prog X.w) X.A (spliced (backTo pos (starEach es X.env))) (AP X pins σ Q) X.xe s
noncomputable def PS (X : Cx) (st : Stmt) (t : TS) : Prop :=
  ∀ (pins : List (Addr × Obj)) (s : Shared) (σ : St) (H : Hp) (D : Ends), Inv X pins σ H s → t D σ H → wpAny (model X.prog X.w) X.A (exec st X.env) (SP X pins D) X.xe s
noncomputable def PSs (X : Cx) (st : List Stmt) (t : TS) : Prop :=
  ∀ (pins : List (Addr × Obj)) (s : Shared) (σ : St) (H : Hp) (D : Ends), Inv X pins σ H s → t D σ H → wpAny (model X.prog X.w) X.A (execs st X.env) (SP X pins D) X.xe s
theorem thn {α : Type} {t : Sem α} {Q Q' : α → Shared → Prop} {M : Model} {A : Around} {E : Value → Shared → Prop} {s : Shared} (h : wpAny M A t Q E s) (hQ : ∀ a s, Q a s → Q' a s) : wpAny M A t Q' E s := wpAny_mono h hQ fun _ _ x => x
end L2

namespace L2
open PySem PySem.Spec PyProof.Rows
section
variable {X : Cx}

noncomputable def tVar (i : Nat) : TE := fun σ H Q => ∃ v, σ[i]? = some (some v) ∧ Q v H
noncomputable def tC (v : V) : TE := fun _ H Q => Q v H
theorem pe_var {i : Nat} {x : Str} {pos : Pos} (hN : X.N[i]? = some x) (hv : Vis X.env.scope x) (hd : (x == ("__debug__" : Str)) = false := by decide) (hcd : (x == ("__classdict__" : Str)) = false := by decide) : PE X (.Name x pos) (tVar i) := by
  intro pins s σ H Q I h
  obtain ⟨v, e, h⟩ := h
  obtain ⟨m, hn, hl⟩ := I.loc
  obtain ⟨u, r, l⟩ := hl i x v hN e hv
  have fin : EP X pins σ Q u s := ⟨v, H, I, r, h⟩
  rcases l with ⟨hk, hm⟩ | ⟨hk, c, hc, hcell⟩
  · exact wpAny_Name (wpAny_loadName_local I.ok.kind hk hn hm fin) hd
  · rcases hk with hk | hk
    · exact wpAny_Name (wpAny_loadName_cell I.ok.kind hk hc hcell fin) hd
    · exact wpAny_Name (wpAny_loadName_free I.ok.kind hk hc hcell fin hcd) hd
theorem pe_int {i j pos} : PE X (.Constant (.int i) j pos) (tC (.int i)) := fun _ _ _ H _ I h => wpAny_Constant_int ⟨.int i, H, I.tok _, ⟨_, rfl⟩, h⟩
theorem pe_bl {b j pos} : PE X (.Constant (.bool b) j pos) (tC (.bl b)) := fun _ _ _ H _ I h => Constant_bool ⟨.bl b, H, I, rfl, h⟩
theorem pe_non {j pos} : PE X (.Constant .none j pos) (tC .non) := fun _ _ _ H _ I h => Constant_none ⟨.non, H, I, rfl, h⟩
theorem pe_str {x j pos} : PE X (.Constant (.str x) j pos) (tC (.str x)) := fun _ _ _ H _ I h => Calls.Constant_str ⟨.str x, H, I.tok _, ⟨_, rfl⟩, h⟩

noncomputable def Gl (X : Cx) (x : Str) : Prop := X.env.kindOf x = some .globalImplicit
theorem ld_glob {E : Value → Shared → Prop} {pins : List (Addr × Obj)} {s : Shared} {σ : St} {H : Hp} {x : Str} {u : Value} {pos : Pos} {Q : Value → Shared → Prop} (I : Inv X pins σ H s) (hg : Gl X x) (hm : X.mg x = some u) (h : Q u s)
    (hd : (x == ("__debug__" : Str)) = false := by decide) : wpAny (model X.prog X.w) X.A (eval (.Name x pos) X.env) Q E s :=
  Calls.Name_function_global I.ok.kind hg (Calls.loadGlobal_global (by rw [I.ok.glob]; exact I.mod.glob.keeps I.bk) hm h) hd
theorem ld_blt {E : Value → Shared → Prop} {pins : List (Addr × Obj)} {s : Shared} {σ : St} {H : Hp} {x : Str} {u : Value} {pos : Pos} {Q : Value → Shared → Prop} (I : Inv X pins σ H s) (hg : Gl X x) (hm : X.mg x = none) (hv : bootBuiltins x = some u) (h : Q u s)
    (hn : x ≠ "__name__" := by decide) (hd : (x == ("__debug__" : Str)) = false := by decide) : wpAny (model X.prog X.w) X.A (eval (.Name x pos) X.env) Q E s := by
  obtain ⟨mb, h1, h2⟩ := I.mod.blt
  exact Calls.Name_function_global I.ok.kind hg (Calls.loadGlobal_builtin (by rw [I.ok.glob]; exact I.mod.glob.keeps I.bk) hm (by rw [I.ok.blt]; exact h1.keeps I.bk) ((h2 x hn).trans hv) h) hd
theorem pe_bltn {x : Str} {v : V} {u : Value} {pos : Pos} (hg : Gl X x) (hm : X.mg x = none) (hv : bootBuiltins x = some u) (r : RelV v u) (hn : x ≠ "__name__" := by decide) (hd : (x == ("__debug__" : Str)) = false := by decide) : PE X (.Name x pos) (tC v) :=
  fun _ _ _ H _ I h => ld_blt I hg hm hv ⟨v, H, I, r, h⟩ hn hd

variable {a b : Expr} {ta tb : TE} {pos : Pos}
noncomputable def tB (t : TE) : TT := fun σ H Q => t σ H fun x H1 => ∃ c, x = .bl c ∧ Q c H1
theorem pt_val {e : Expr} {t : TE} (h : PE X e t) (he : ∀ whole, isTrue e X.env whole = (do let v ← whole; standAt e.pos; holding [v] (truthy v)) := by intro _; rfl) : PT X e (tB t) := by
  intro pins s σ H Q I hw
  refine isTrue_plain (thn (h pins s σ H _ I hw) fun v s1 ⟨x, H1, I1, r1, q1⟩ => ?_) (he _)
  obtain ⟨d, rfl, q⟩ := q1
  cases r1
  exact wpAny_truthy_bool ⟨H1, I1, q⟩

variable {tA tB' : TT} {rest : List Expr}
noncomputable def tAnd (t u : TT) : TT := fun σ H Q => t σ H fun c H1 => if c = true then u σ H1 Q else Q false H1
noncomputable def tOr (t u : TT) : TT := fun σ H Q => t σ H fun c H1 => if c = true then Q true H1 else u σ H1 Q
noncomputable def tNot (t : TT) : TT := fun σ H Q => t σ H fun c H1 => Q (!c) H1
theorem pw_and1 (ha : PT X a tA) : PW X (.BoolOp .And [a] pos) tA := by
  intro wh pins s σ H Q I h
  refine isTrue_and (thn (ha pins s σ H Q I h) fun c s1 e => ?_)
  cases c with
  | true => exact isTrue_and_nil e
  | false => exact e
theorem pw_or1 (ha : PT X a tA) : PW X (.BoolOp .Or [a] pos) tA := by
  intro wh pins s σ H Q I h
  refine isTrue_or (thn (ha pins s σ H Q I h) fun c s1 e => ?_)
  cases c with
  | false => exact isTrue_or_nil e
  | true => exact e
theorem pw_and (ha : PT X a tA) (hb : PW X (.BoolOp .And (b :: rest) pos) tB') : PW X (.BoolOp .And (a :: b :: rest) pos) (tAnd tA tB') := by
  intro wh pins s σ H Q I h
  refine isTrue_and (thn (ha pins s σ H _ I h) fun c s1 ⟨H1, I1, q1⟩ => ?_)
  cases c with
  | true => exact hb wh pins s1 σ H1 Q I1 q1
  | false => exact ⟨H1, I1, q1⟩
theorem pw_or (ha : PT X a tA) (hb : PW X (.BoolOp .Or (b :: rest) pos) tB') : PW X (.BoolOp .Or (a :: b :: rest) pos) (tOr tA tB') := by
  intro wh pins s σ H Q I h
  refine isTrue_or (thn (ha pins s σ H _ I h) fun c s1 ⟨H1, I1, q1⟩ => ?_)
  cases c with
  | true => exact ⟨H1, I1, q1⟩
  | false => exact hb wh pins s1 σ H1 Q I1 q1
theorem pt_not (ha : PT X a tA) : PT X (.UnaryOp .Not a pos) (tNot tA) := by
  intro pins s σ H Q I h
  exact isTrue_not (ha pins s σ H (fun c H1 => Q (!c) H1) I h)
noncomputable def tAndV (ta tb : TE) : TE := fun σ H Q => ta σ H fun x H1 => ∃ c, x = .bl c ∧ if c = true then tb σ H1 Q else Q (.bl false) H1
noncomputable def tOrV (ta tb : TE) : TE := fun σ H Q => ta σ H fun x H1 => ∃ c, x = .bl c ∧ if c = true then Q (.bl true) H1 else tb σ H1 Q
noncomputable def tNotV (ta : TE) : TE := fun σ H Q => ta σ H fun x H1 => ∃ c, x = .bl c ∧ Q (.bl (!c)) H1
theorem pe_one {op} {t : TE} (h : PE X a t) : PE X (.BoolOp op [a] pos) t := fun pins s σ H Q I hw => BoolOp_one (h pins s σ H Q I hw)
theorem pe_and (ha : PE X a ta) (hb : PE X (.BoolOp .And (b :: rest) pos) tb) : PE X (.BoolOp .And (a :: b :: rest) pos) (tAndV ta tb) := by
  intro pins s σ H Q I h
  refine BoolOp_and (thn (ha pins s σ H _ I h) fun v s1 ⟨x, H1, I1, r1, q1⟩ => ?_)
  obtain ⟨c, rfl, q1⟩ := q1
  cases r1
  refine wpAny_truthy_bool ?_
  cases c with
  | true => exact hb pins s1 σ H1 Q I1 q1
  | false => exact ⟨.bl false, H1, I1, rfl, q1⟩
theorem pe_or (ha : PE X a ta) (hb : PE X (.BoolOp .Or (b :: rest) pos) tb) : PE X (.BoolOp .Or (a :: b :: rest) pos) (tOrV ta tb) := by
  intro pins s σ H Q I h
  refine BoolOp_or (thn (ha pins s σ H _ I h) fun v s1 ⟨x, H1, I1, r1, q1⟩ => ?_)
  obtain ⟨c, rfl, q1⟩ := q1
  cases r1
  refine wpAny_truthy_bool ?_
  cases c with
  | false => exact hb pins s1 σ H1 Q I1 q1
  | true => exact ⟨.bl true, H1, I1, rfl, q1⟩
theorem pe_not (ha : PE X a ta) : PE X (.UnaryOp .Not a pos) (tNotV ta) := by
  intro pins s σ H Q I h
  refine UnaryOp_ (thn (ha pins s σ H _ I h) fun v s1 ⟨x, H1, I1, r1, q1⟩ => ?_)
  obtain ⟨c, rfl, q1⟩ := q1
  cases r1
  exact not_of (wpAny_truthy_bool ⟨.bl (!c), H1, I1, rfl, q1⟩)
end
end L2

namespace L2
open PySem PySem.Spec PyProof.Rows

noncomputable def SqL (K : PySem.W.Frag) (H : Hp) (a : Addr) (xs : List V) : Prop :=
  Rd H a (.lst xs) ∨
    ∃ (o : Obj) (its : Array Value) (n : Nat), K.lookup a = some o ∧ o.cls = .type "list" ∧ o.dict = none ∧ o.data = .seq its n ∧ its.size ≤ sizeLine ∧ Vals xs its.toList
noncomputable def SqT (K : PySem.W.Frag) (H : Hp) (a : Addr) (xs : List V) : Prop :=
  Rd H a (.tup xs) ∨
    ∃ (o : Obj) (its : Array Value) (n : Nat), K.lookup a = some o ∧ o.cls = .type "tuple" ∧ o.data = .seq its n ∧ its.size ≤ sizeLine ∧ Vals xs its.toList
noncomputable def absV : Value → Option V
  | .none => some .non
  | .bool b => some (.bl b)
  | .int i _ => some (.int i)
  | .str x _ => some (.str x)
  | .bytes b _ => some (.byt b)
  | .float b _ => some (.flt b)
  | .ref a => some (.ref a)
  | .type n => some (.ty n)
  | _ => none
theorem RelV.abs {x : V} {u : Value} (r : RelV x u) : absV u = some x := by
  cases x with
  | non => cases r; rfl
  | bl _ => cases r; rfl
  | int _ => obtain ⟨t, rfl⟩ := r; rfl
  | str _ => obtain ⟨t, rfl⟩ := r; rfl
  | byt _ => obtain ⟨t, rfl⟩ := r; rfl
  | flt _ => obtain ⟨t, rfl⟩ := r; rfl
  | ref _ => cases r; rfl
  | ty _ => cases r; rfl
theorem RelV.inj {x y : V} {u : Value} (r : RelV x u) (q : RelV y u) : x = y := Option.some.inj (r.abs.symm.trans q.abs)
theorem Vals.inj : ∀ {xs ys : List V} {us : List Value}, Vals xs us → Vals ys us → xs = ys
  | _, _, _, .nil, .nil => rfl
  | _, _, _, .cons r t, .cons r' t' => by rw [r.inj r', Vals.inj t t']
section
variable {X : Cx} {pins : List (Addr × Obj)} {σ : St} {H : Hp} {s : Shared} {a : Addr} {xs ys : List V}
theorem SqL.of {K : PySem.W.Frag} (h : H a = some (.lst xs)) : SqL K H a xs := .inl (.inl h)
theorem SqT.of {K : PySem.W.Frag} (h : H a = some (.tup xs)) : SqT K H a xs := .inl (.inl h)
theorem Inv.list (I : Inv X pins σ H s) (h : SqL X.K H a xs) : ∃ its : List Value, Vals xs its ∧ PlainL s.heap a its.toArray ∧ xs.length ≤ sizeLine := by
  rcases h with h | ⟨o, its, n, hk, hc, hd, hs, hz, r⟩
  · obtain ⟨z, its, n, r, e⟩ := h.ok I.hok
    exact ⟨its, r, ⟨_, n, e, rfl, rfl, rfl⟩, z⟩
  · refine ⟨its.toList, r, ⟨o, n, I.kIn a o hk, hc, hd, by simpa using hs⟩, ?_⟩
    have e := r.length
    simp only [Array.length_toList] at e
    omega
theorem Inv.tuple (I : Inv X pins σ H s) (h : SqT X.K H a xs) : ∃ its : List Value, Vals xs its ∧ IsTup s.heap a its.toArray ∧ xs.length ≤ sizeLine := by
  rcases h with h | ⟨o, its, n, hk, hc, hs, hz, r⟩
  · obtain ⟨z, its, r, p⟩ := h.ok I.hok
    exact ⟨its, r, p.tup, z⟩
  · refine ⟨its.toList, r, ⟨o, I.kIn a o hk, hc, n, by simpa using hs⟩, ?_⟩
    have e := r.length
    simp only [Array.length_toList] at e
    omega
theorem Inv.list_inj (I : Inv X pins σ H s) (h : SqL X.K H a xs) (h' : SqL X.K H a ys) : xs = ys := by
  obtain ⟨its, r, ⟨o, n, e, _, _, d⟩, _⟩ := I.list h
  obtain ⟨its', r', ⟨o', n', e', _, _, d'⟩, _⟩ := I.list h'
  rw [e] at e'; cases e'
  rw [d] at d'
  injection d' with d1 _
  have : its = its' := by simpa using congrArg Array.toList d1
  subst this
  exact r.inj r'
theorem Inv.tuple_inj (I : Inv X pins σ H s) (h : SqT X.K H a xs) (h' : SqT X.K H a ys) : xs = ys := by
  obtain ⟨its, r, ⟨o, e, _, n, d⟩, _⟩ := I.tuple h
  obtain ⟨its', r', ⟨o', e', _, n', d'⟩, _⟩ := I.tuple h'
  rw [e] at e'; cases e'
  rw [d] at d'
  injection d' with d1 _
  have : its = its' := by simpa using congrArg Array.toList d1
  subst this
  exact r.inj r'
end

noncomputable abbrev Cx.wish (X : Cx) (E : Value → Shared → Prop) : Cx := { X with xe := E }
noncomputable abbrev Cx.nox (X : Cx) : Cx := X.wish fun _ _ => False
theorem Cx.Ok.wish {X : Cx} (ok : X.Ok) (E : Value → Shared → Prop) : (X.wish E).Ok :=
  ⟨ok.mod, ok.kind, ok.glob, ok.blt, ok.above, ok.inj, ok.has, ok.cab, ok.hd, ok.frames, ok.stk, ok.exf, ok.bs, ok.bsz, ok.noex, ok.exfs, ok.funs, ok.frf⟩
theorem Cx.Ok.unwish {X : Cx} {E : Value → Shared → Prop} (ok : (X.wish E).Ok) : X.Ok :=
  ⟨ok.mod, ok.kind, ok.glob, ok.blt, ok.above, ok.inj, ok.has, ok.cab, ok.hd, ok.frames, ok.stk, ok.exf, ok.bs, ok.bsz, ok.noex, ok.exfs, ok.funs, ok.frf⟩
section
variable {X : Cx} {pins : List (Addr × Obj)} {σ : St} {H : Hp} {s : Shared} {E : Value → Shared → Prop}
theorem Inv.wish (I : Inv X pins σ H s) (E : Value → Shared → Prop) : Inv (X.wish E) pins σ H s := ⟨I.ok.wish E, I.os, I.bare, I.base, I.loc, I.cell, I.free, I.freeC, I.pin, I.hok, I.len⟩
theorem Inv.unwish (I : Inv (X.wish E) pins σ H s) : Inv X pins σ H s := ⟨I.ok.unwish, I.os, I.bare, I.base, I.loc, I.cell, I.free, I.freeC, I.pin, I.hok, I.len⟩
theorem SP.unwish {D : Ends} {f : Flow} {s' : Shared} (h : SP (X.wish E) pins D f s') : SP X pins D f s' := by
  cases f with
  | next => obtain ⟨σ', H', I, q⟩ := h; exact ⟨σ', H', I.unwish, q⟩
  | brk => obtain ⟨σ', H', I, q⟩ := h; exact ⟨σ', H', I.unwish, q⟩
  | cont => obtain ⟨σ', H', I, q⟩ := h; exact ⟨σ', H', I.unwish, q⟩
  | ret u => obtain ⟨v, σ', H', I, r, q⟩ := h; exact ⟨v, σ', H', I.unwish, r, q⟩
theorem PSs.nox {st : List Stmt} {t : TS} (h : PSs X.nox st t) : PSs X st t := fun pins s σ H D I hw =>
  wpAny_mono (h pins s σ H D (I.wish _) hw) (fun _ _ q => q.unwish) fun _ _ z => False.elim z
end

section
variable {X : Cx} {st : Stmt} {rest : List Stmt} {t u : TS} {e : Expr} {te : TE} {pos : Pos}
noncomputable def tNext : TS := fun D σ H => D.nx σ H
noncomputable def tSeq (t u : TS) : TS := fun D σ H => t { D with nx := u D } σ H
theorem pss_nil : PSs X [] tNext := fun _ _ σ H _ I h => wpAny_execs_nil ⟨σ, H, I, h⟩
theorem pss_cons (h1 : PS X st t) (h2 : PSs X rest u) : PSs X (st :: rest) (tSeq t u) := by
  intro pins s σ H D I h
  refine wpAny_execs_cons (thn (h1 pins s σ H { D with nx := u D } I h) fun f s1 q => ?_)
  cases f with
  | next =>
    obtain ⟨σ', H', I', q⟩ := q
    exact h2 pins s1 σ' H' D I' q
  | ret v => exact q
  | brk => exact q
  | cont => exact q
theorem pss_one (h1 : PS X st t) : PSs X [st] t := by
  intro pins s σ H D I h
  refine wpAny_execs_cons (thn (h1 pins s σ H D I h) fun f s1 q => ?_)
  cases f with
  | next => exact wpAny_execs_nil q
  | ret v => exact q
  | brk => exact q
  | cont => exact q
noncomputable def tBreak : TS := fun D σ H => D.bk σ H
theorem ps_break : PS X (.Break pos) tBreak := fun _ _ σ H _ I h => wpAny_Break ⟨σ, H, I, h⟩
theorem Inv.quiet {pins : List (Addr × Obj)} {σ : St} {H : Hp} {s : Shared} (I : Inv X pins σ H s) : interactive X.env = false := by simp [interactive, I.ok.kind]
noncomputable def tDrop (te : TE) : TS := fun D σ H => te σ H fun _ H1 => D.nx σ H1
theorem ps_expr (he : PE X e te) (hs : swapsWith e none pos.line X.env = pure false := by rfl) : PS X (.Expr e pos) (tDrop te) := by
  intro pins s σ H D I h
  exact wpAny_Expr_any (thn (he pins s σ H _ I h) fun v s1 ⟨x, H1, I1, r1, q1⟩ => ⟨σ, H1, I1, q1⟩) I.quiet hs
noncomputable def tRet (te : TE) : TS := fun D σ H => te σ H D.rt
theorem ps_ret (he : PE X e te) : PS X (.Return (some e) pos) (tRet te) := by
  intro pins s σ H D I h
  exact wpAny_Return_some (thn (he pins s σ H _ I h) fun v s1 ⟨x, H1, I1, r1, q1⟩ => ⟨x, σ, H1, I1, r1, q1⟩)
noncomputable def tIfS (c : TT) (t u : TS) : TS := fun D σ H => c σ H fun b H1 => if b = true then t D σ H1 else u D σ H1
theorem ps_if {c : Expr} {a b : List Stmt} {tc : TT} (hc : PT X c tc) (ha : PSs X a t) (hb : PSs X b u) : PS X (.If c a b pos) (tIfS tc t u) := by
  intro pins s σ H D I h
  refine wpAny_If (thn (hc pins s σ H _ I h) fun d s1 ⟨H1, I1, q1⟩ => ?_)
  cases d with
  | true => exact ha pins s1 σ H1 D I1 q1
  | false => exact hb pins s1 σ H1 D I1 q1
end

noncomputable abbrev TG := V → St → Hp → (St → Hp → Prop) → Prop
noncomputable abbrev TGs := List V → St → Hp → (St → Hp → Prop) → Prop
noncomputable def PG (X : Cx) (target : Expr) (t : TG) : Prop :=
  ∀ (pins : List (Addr × Obj)) (s : Shared) (σ : St) (H : Hp) (v : V) (u : Value) (Q : St → Hp → Prop), Inv X pins σ H s → RelV v u → t v σ H Q →
    wpAny (model X.prog X.w) X.A (assign target X.env u) (fun _ s' => ∃ σ' H', Inv X pins σ' H' s' ∧ Q σ' H') X.xe s
noncomputable def PGs (X : Cx) (ts : List Expr) (t : TGs) : Prop :=
  ∀ (pins : List (Addr × Obj)) (s : Shared) (σ : St) (H : Hp) (vs : List V) (us : List Value) (Q : St → Hp → Prop), Inv X pins σ H s → Vals vs us → t vs σ H Q →
    wpAny (model X.prog X.w) X.A (assignInOrder ((assignEach ts X.env).map (·.2)) us) (fun _ s' => ∃ σ' H', Inv X pins σ' H' s' ∧ Q σ' H') X.xe s
section
variable {X : Cx} {pos : Pos}
noncomputable def gName (i : Nat) : TG := fun v σ H Q => Q (σ.set i (some v)) H
theorem pg_name {i : Nat} {x : Str} (hN : X.N.Nodup) (hi : X.N[i]? = some x) (hx : Loc X.env.scope x) (hf : X.fn x = true ∨ X.env.scope.names.lookup x = some .local := by first | exact .inl rfl | exact .inr rfl | assumption) : PG X (.Name x pos) (gName i) := by
  intro pins s σ H v u Q I r h
  exact wpAny_assign_Name (store_ok I hN hi hx r (fun s' I' => ⟨_, H, I', h⟩) hf)
noncomputable def gNil : TGs := fun vs σ H Q => vs = [] ∧ Q σ H
noncomputable def gCons (t : TG) (u : TGs) : TGs := fun vs σ H Q => ∃ v r, vs = v :: r ∧ t v σ H fun σ' H' => u r σ' H' Q
theorem pgs_nil : PGs X [] gNil := by
  intro pins s σ H vs us Q I r h
  obtain ⟨e, h⟩ := h
  subst e
  cases r
  exact assignInOrder_nil ⟨σ, H, I, h⟩
theorem pgs_cons {e : Expr} {es : List Expr} {t : TG} {u : TGs} (h1 : PG X e t) (h2 : PGs X es u)
    (hs : (assignEach (e :: es) X.env).map (·.2) = assign e X.env :: (assignEach es X.env).map (·.2) := by rfl) : PGs X (e :: es) (gCons t u) := by
  intro pins s σ H vs us Q I r h
  obtain ⟨v, vr, e1, h⟩ := h
  subst e1
  cases r with
  | cons r rr =>
    rw [hs]
    refine assignInOrder_cons (thn (h1 pins s σ H _ _ _ I r h) fun _ s1 ⟨σ1, H1, I1, q1⟩ => ?_)
    exact h2 pins s1 σ1 H1 _ _ Q I1 rr q1
noncomputable def gTup (K : PySem.W.Frag) (n : Nat) (t : TGs) : TG := fun v σ H Q => ∃ a xs, v = .ref a ∧ SqT K H a xs ∧ xs.length = n ∧ t xs σ H Q
theorem pg_tup {es : List Expr} {k : Nat} {t : TGs} {n : Nat} (hc : X.calm = true) (h : PGs X es t)
    (hn : (assignEach es X.env).length = n := by rfl) (hst : (assignEach es X.env).findIdx? (·.1) = none := by rfl) : PG X (.Tuple es k pos) (gTup X.K n t) := by
  intro pins s σ H v u Q I r hw
  obtain ⟨a, xs, e1, hq, hl, hw⟩ := hw
  subst e1
  cases r
  obtain ⟨its, rv, ht, hz⟩ := I.tuple hq
  refine assign_Tuple_tuple (I.ok.hd hc) ht (by simp [hn, ← hl, rv.length]) hst fun h' hx => ?_
  have I1 : Inv X pins σ H { s with heap := h' } := I.kept (t' := s.toks) fun b o e => hx b o (Nat.ne_of_lt (Heap.lt_size e)) e
  exact h pins _ σ H xs _ Q I1 (by simpa using rv) hw
noncomputable def tAsg (te : TE) (g : TG) : TS := fun D σ H => te σ H fun x H1 => g x σ H1 D.nx
theorem ps_asg {tg e : Expr} {te : TE} {g : TG} (he : PE X e te) (hg : PG X tg g) (hs : swapsWithSole [tg] e pos.line X.env = pure false := by rfl) (hw : swappedStores [tg] e X.env = pure none := by rfl)
    (h1 : (assignEach [tg] X.env).map (·.2) = [assign tg X.env] := by rfl) : PS X (.Assign [tg] e pos) (tAsg te g) := by
  intro pins s σ H D I h
  refine wpAny_Assign_stores (thn (he pins s σ H _ I h) fun v s1 ⟨x, H1, I1, r1, q1⟩ => ?_) hs hw
  rw [h1]
  exact thn (hg pins s1 σ H1 x v _ I1 r1 q1) fun _ s2 q => q
theorem ps_set {i : Nat} {x : Str} {e : Expr} {te : TE} {pos' : Pos} (hN : X.N.Nodup) (hi : X.N[i]? = some x) (hx : Loc X.env.scope x) (he : PE X e te) (hs : swapsWith e (some (.Name x pos')) pos.line X.env = pure false := by rfl) (hf : X.fn x = true ∨ X.env.scope.names.lookup x = some .local := by first | exact .inl rfl | exact .inr rfl | assumption) :
    PS X (.Assign [.Name x pos'] e pos) (tAsg te (gName i)) := by
  intro pins s σ H D I h
  refine wpAny_Assign_Name (thn (he pins s σ H _ I h) fun v s1 ⟨y, H1, I1, r1, q1⟩ => ?_) hs
  exact store_ok I1 hN hi hx r1 (fun s2 I2 => ⟨_, H1, I2, q1⟩) hf
end

section
variable {X : Cx} {pos : Pos}
noncomputable def tWhile (c : TT) (tb : TS) : TS := fun D σ H => ∃ W : Nat → St → Hp → Prop, (∃ m, W m σ H) ∧ ∀ m σ H, W m σ H →
  c σ H fun b H1 => if b = true then ∃ N : St → Hp → Prop, (∀ σ' H', N σ' H' → ∃ m', m' < m ∧ W m' σ' H') ∧ tb { D with nx := N, ct := N, bk := D.nx } σ H1 else D.nx σ H1
theorem ps_while {c : Expr} {body : List Stmt} {tc : TT} {tb : TS} (hp : PassesOwn (model X.prog X.w) X.A X.env X.xe) (hc : PT X c tc) (hb : PSs X body tb) : PS X (.While c body [] pos) (tWhile tc tb) := by
  intro pins s σ H D I h
  obtain ⟨W, ⟨m0, w0⟩, turn⟩ := h
  refine wpAny_While (codeAny_whileLoop (fun n s' => ∃ σ' H', Inv X pins σ' H' s' ∧ W n σ' H') ?_ m0 ⟨σ, H, I, w0⟩)
  rintro n s1 ⟨σ1, H1, I1, w1⟩
  refine wpAny_passesOwn hp (thn (hc pins s1 σ1 H1 _ I1 (turn n σ1 H1 w1)) fun b s2 ⟨H2, I2, q2⟩ => ?_)
  cases b with
  | true =>
    obtain ⟨N, hN, q2⟩ := q2
    rw [if_pos rfl]
    refine wpAny_passesOwn hp (thn (hb pins s2 σ1 H2 _ I2 q2) fun f s3 q3 => ?_)
    cases f with
    | next =>
      obtain ⟨σ3, H3, I3, n3⟩ := q3
      obtain ⟨m', hm, w3⟩ := hN σ3 H3 n3
      exact ⟨m', hm, σ3, H3, I3, w3⟩
    | cont =>
      obtain ⟨σ3, H3, I3, n3⟩ := q3
      obtain ⟨m', hm, w3⟩ := hN σ3 H3 n3
      exact ⟨m', hm, σ3, H3, I3, w3⟩
    | brk => exact q3
    | ret v => exact q3
  | false =>
    rw [if_neg Bool.false_ne_true]
    exact wpAny_execs_nil ⟨σ1, H2, I2, q2⟩
end

structure It where
  go : Nat → Hp → Prop
  yld : Nat → Hp → V → Hp → Prop
  stop : Nat → Hp → Prop
noncomputable def FpOk (X : Cx) (pins : List (Addr × Obj)) (H : Hp) (b : Addr) : Prop :=
  H b = none ∧ b ≠ X.env.locals ∧ b ∉ X.fs ∧ (b ∈ X.ex ∨ X.s₀.heap.objs.size ≤ b) ∧ (∀ x c, X.env.cells.lookup x = some c → c ≠ b) ∧ ∀ p ∈ X.pn ++ pins, p.1 ≠ b
theorem Inv.fpOk {X : Cx} {pins : List (Addr × Obj)} {σ : St} {H H' : Hp} {s : Shared} {b : Addr} (I : Inv X pins σ H s) (hb : s.heap.objs.size ≤ b) (hn : H' b = none) : FpOk X pins H' b := by
  refine ⟨hn, Nat.ne_of_gt (Nat.lt_of_lt_of_le I.lt hb), I.nofs hb, .inr (Nat.le_trans I.sz hb), fun x c e z => ?_, fun p hp z => ?_⟩
  · obtain ⟨v, q⟩ := I.cell x c e
    exact absurd (Nat.lt_of_lt_of_le q.lt (by rw [z]; exact hb)) (Nat.lt_irrefl _)
  · exact absurd (Nat.lt_of_lt_of_le (Heap.lt_size (I.pin p hp).1) (by rw [z]; exact hb)) (Nat.lt_irrefl _)
structure Turn (P : Program) (w : World) (K : PySem.W.Frag) (tg : Expr) (J : It) (fp : List Addr) (it : Addr) (tn : Nat → Heap → Prop) : Prop where
  mem : it ∈ fp
  obj : ∀ i h, tn i h → ∀ b ∈ fp, ∃ o, h.get? b = some o ∧ ∀ v, o.data ≠ .cell v
  keep : ∀ i h h', tn i h → (∀ b ∈ fp, ∀ o, h.get? b = some o → h'.get? b = some o) → tn i h'
  item : ∀ (X : Cx), X.prog = P → X.w = w → X.K = K → X.calm = true → ∀ (i : Nat) (pins : List (Addr × Obj)) (s : Shared) (σ : St) (H : Hp) (E : Value → Shared → Prop), Inv X pins σ H s → (∀ b ∈ fp, FpOk X pins H b) → tn i s.heap → J.go i H →
    wpAny (model P w) X.A (pyNext (.ref it)) (fun r s1 => ∃ u, r = some u ∧
      wpAny (model P w) X.A (letOwnedTupleGo tg (.ref it) u) (fun _ s2 => ∃ x H', Inv X pins σ H' s2 ∧ RelV x u ∧ J.yld i H x H' ∧ tn (i + 1) s2.heap ∧ ∀ b ∈ fp, H' b = none) E s1) E s
  done : ∀ (X : Cx), X.prog = P → X.w = w → X.K = K → X.calm = true → ∀ (i : Nat) (pins : List (Addr × Obj)) (s : Shared) (σ : St) (H : Hp) (E : Value → Shared → Prop), Inv X pins σ H s → (∀ b ∈ fp, FpOk X pins H b) → tn i s.heap → J.stop i H →
    wpAny (model P w) X.A (pyNext (.ref it)) (fun r s1 => r = none ∧ Inv X pins σ H s1) E s
  self : ∀ (A : Around) (i : Nat) (s : Shared) (Q : Value → Shared → Prop) (E : Value → Shared → Prop), tn i s.heap → Q (.ref it) s → wpAny (model P w) A (pyIter (.ref it)) Q E s
noncomputable abbrev TI := St → Hp → (It → Hp → Prop) → Prop
noncomputable def PIE (X : Cx) (pins : List (Addr × Obj)) (σ : St) (tg : Expr) (R : It → Hp → Prop) (itv : Value) (s2 : Shared) : Prop :=
  ∃ (it : Addr) (fp : List Addr) (tn : Nat → Heap → Prop) (J : It) (H' : Hp), itv = .ref it ∧ Inv X pins σ H' s2 ∧ Turn X.prog X.w X.K tg J fp it tn ∧ tn 0 s2.heap ∧ (∀ b ∈ fp, FpOk X pins H' b) ∧ R J H'
noncomputable def PI (X : Cx) (tg iter : Expr) (wi : TI) : Prop :=
  ∀ (pins : List (Addr × Obj)) (s : Shared) (σ : St) (H : Hp) (R : It → Hp → Prop), Inv X pins σ H s → wi σ H R →
    wpAny (model X.prog X.w) X.A (eval iter X.env) (fun v s1 => wpAny (model X.prog X.w) X.A (pyIter v) (PIE X pins σ tg R) X.xe s1) X.xe s

theorem go_of {M : Model} {A : Around} {E : Value → Shared → Prop} {s : Shared} {tg : Expr} {it : Addr} {u : Value} {o : Obj} {n : String} {vs : Array Value} {Q : Unit → Shared → Prop} (ho : s.heap.get? it = some o) (hc : o.cls = .type n) (hd : o.data = .fields vs)
    (hn : ["enumerate", "zip", "dict_itemiterator", "dict_reverseitemiterator", "odict_iterator", "itertools.zip_longest", "itertools.pairwise"].contains n = false) (hQ : Q () s) : wpAny M A (letOwnedTupleGo tg (.ref it) u) Q E s := by
  unfold letOwnedTupleGo
  cases tg <;> first
    | exact wpAny_pure hQ
    | (cases u <;> first
        | exact wpAny_pure hQ
        | (refine wpAny_bind (wpAny_load ho ?_)
           rw [hc, hd]
           show wpAny M A (if (["enumerate", "zip", "dict_itemiterator", "dict_reverseitemiterator", "odict_iterator", "itertools.zip_longest", "itertools.pairwise"].contains n && vs[0]? == some (rawInt _)) = true then _ else _) Q E s
           rw [if_neg (by intro h; rw [hn, Bool.false_and] at h; cases h)]
           exact wpAny_pure hQ))

noncomputable def Itl (K : PySem.W.Frag) (a : Addr) : It :=
  ⟨fun i H => ∃ xs x, SqL K H a xs ∧ xs[i]? = some x, fun i H x H' => H' = H ∧ ∀ xs, SqL K H a xs → xs[i]? = some x, fun i H => ∃ xs, SqL K H a xs ∧ xs.length ≤ i⟩
noncomputable def Itr (lo : Int) (n : Nat) : It := ⟨fun i _ => i < n, fun i H x H' => H' = H ∧ x = .int (lo + i), fun i _ => n ≤ i⟩
theorem turn_list {P : Program} {w : World} {K : PySem.W.Frag} {tg : Expr} (a it : Addr) : Turn P w K tg (Itl K a) [it] it (fun i h => h.IsListIter it a i) where
  mem := by simp
  obj := fun i h st b hb => by
    have e : b = it := by simpa using hb
    subst e
    obtain ⟨o, e, c, d⟩ := st
    exact ⟨o, e, fun v z => by rw [d] at z; cases z⟩
  keep := fun i h h' st k => st.at fun o e => k it (by simp) o e
  item := by
    intro X hP hw hK hc i pins s σ H E I hf st hg
    subst hP hw hK
    obtain ⟨xs, x, hq, hx⟩ := hg
    obtain ⟨its, rv, p, hz⟩ := I.list hq
    obtain ⟨u, hu, ru⟩ := rv.get hx
    obtain ⟨f0, f1, f2, f3, f4, f5⟩ := hf it (by simp)
    refine wpAny_pyNext_list_item st p.isList (x := u) (by simpa using hu) fun h' st' sb => ?_
    have I1 : Inv X pins σ H { s with heap := h' } := I.turned (t' := s.toks) (fun b o hb e => (sb.2 b hb).trans e) f0 f1 f3 f4 f5
    obtain ⟨o, e, c, d⟩ := id st'
    exact ⟨u, rfl, go_of (s := { s with heap := h' }) e c d (by decide) ⟨x, H, I1, ru, ⟨rfl, fun ys hy => by rw [I.list_inj hy hq]; exact hx⟩, st', fun b hb => (hf b hb).1⟩⟩
  done := by
    intro X hP hw hK hc i pins s σ H E I hf st hg
    subst hP hw hK
    obtain ⟨xs, hq, hx⟩ := hg
    obtain ⟨its, rv, p, hz⟩ := I.list hq
    obtain ⟨f0, f1, f2, f3, f4, f5⟩ := hf it (by simp)
    have hl := rv.length
    exact wpAny_pyNext_list_end (I.ok.hd hc) st p.isList (by simp; omega) fun h' eb => ⟨rfl, I.turned (t' := s.toks) (fun b o hb e => eb b o hb e) f0 f1 f3 f4 f5⟩
  self := fun _ _ _ _ _ st h => wpAny_pyIter_listiter st h
theorem turn_range {P : Program} {w : World} {K : PySem.W.Frag} {tg : Expr} (it : Addr) (lo : Int) (n : Nat) : Turn P w K tg (Itr lo n) [it] it (fun i h => IsRangeIter h it (lo + (i : Nat) * 1) ((n : Int) - (i : Nat)) 1) where
  mem := by simp
  obj := fun i h st b hb => by
    have e : b = it := by simpa using hb
    subst e
    exact ⟨_, st, fun v z => by
      have z' : Data.fields _ = Data.cell v := z
      cases z'⟩
  keep := fun i h h' st k => k it (by simp) _ st
  item := by
    intro X hP hw hK hc i pins s σ H E I hf st hg
    subst hP hw hK
    obtain ⟨f0, f1, f2, f3, f4, f5⟩ := hf it (by simp)
    have W := Walks.range (prog := X.prog) (w := X.w) (I.ok.hd hc) it lo 1 n
    refine W.item i s _ _ hg st fun v h' tk hv st' kk => ?_
    obtain ⟨t, rfl⟩ := hv
    have I1 : Inv X pins σ H { s with heap := h', toks := tk } := I.turned (fun b o hb e => kk b o (by simpa using hb) e) f0 f1 f3 f4 f5
    refine ⟨_, rfl, go_of (s := { s with heap := h', toks := tk }) (n := "range_iterator") st' rfl rfl (by decide) ⟨.int (lo + i), H, I1, ⟨t, ?_⟩, ⟨rfl, rfl⟩, st', fun b hb => (hf b hb).1⟩⟩
    rw [Int.mul_one]
  done := by
    intro X hP hw hK hc i pins s σ H E I hf st hg
    subst hP hw hK
    obtain ⟨f0, f1, f2, f3, f4, f5⟩ := hf it (by simp)
    exact wpAny_pyNext_range_end (I.ok.hd hc) st (by have : n ≤ i := hg; omega) fun h' eb => ⟨rfl, I.turned (t' := s.toks) (fun b o hb e => eb b o hb e) f0 f1 f3 f4 f5⟩
  self := fun _ _ _ _ _ st h => wpAny_pyIter_rangeiter st h
end L2

namespace L2
open PySem PySem.Spec PyProof.Rows
section
variable {X : Cx} {tg : Expr}
noncomputable def iList (K : PySem.W.Frag) (tl : TE) : TI := fun σ H R => tl σ H fun x H1 => ∃ a, x = .ref a ∧ (∃ xs, SqL K H1 a xs) ∧ R (Itl K a) H1
theorem pi_list {l : Expr} {tl : TE} (hl : PE X l tl) : PI X tg l (iList X.K tl) := by
  intro pins s σ H R I h
  refine thn (hl pins s σ H _ I h) fun v s1 ⟨x, H1, I1, r1, q1⟩ => ?_
  obtain ⟨a, e, ⟨xs, hq⟩, q⟩ := q1
  subst e
  cases r1
  obtain ⟨its, rv, p, hz⟩ := I1.list hq
  refine wpAny_pyIter_list p.isList ?_
  refine ⟨s1.heap.objs.size, [s1.heap.objs.size], _, _, H1, rfl, I1.kept (t' := s1.toks) fun b o e => Heap.get?_push_of_some _ e, turn_list a _, ⟨_, Heap.get?_push_size _ rfl, rfl, rfl⟩, fun b hb => ?_, q⟩
  have e : b = s1.heap.objs.size := by simpa using hb
  subst e
  exact I1.fpOk (Nat.le_refl _) (I1.hok.fresh (Nat.le_refl _))
theorem range_it {pins : List (Addr × Obj)} {σ : St} {H : Hp} {s : Shared} {R : It → Hp → Prop} {E : Value → Shared → Prop} {lo hi : Int} {t u v : Tok} {tk : Nat} (I : Inv X pins σ H s) (h1 : -(2 ^ 62) ≤ lo) (h2 : lo < 2 ^ 62) (h3 : -(2 ^ 62) ≤ hi) (h4 : hi < 2 ^ 62)
    (q : R (Itr lo (hi - lo).toNat) H) : wpAny (model X.prog X.w) X.A (pyIter (.ref s.heap.objs.size)) (PIE X pins σ tg R) E { s with heap := s.heap.push { cls := .type "range", data := .fields #[.int lo t, .int hi u, .int 1 v] }, toks := tk } := by
  refine wpAny_pyIter_range (IsRange.new ..) (small_one h1 h2 h3 h4) ?_
  have I1 : Inv X pins σ H { s with heap := s.heap.push { cls := .type "range", data := .fields #[.int lo t, .int hi u, .int 1 v] }, toks := tk } := I.kept fun b o e => Heap.get?_push_of_some _ e
  refine ⟨(s.heap.push { cls := .type "range", data := .fields #[.int lo t, .int hi u, .int 1 v] }).objs.size, [(s.heap.push { cls := .type "range", data := .fields #[.int lo t, .int hi u, .int 1 v] }).objs.size], _, _, H, rfl,
    I1.kept (t' := tk) fun b o e => Heap.get?_push_of_some _ e, turn_range _ lo (hi - lo).toNat, ?_, fun b hb => ?_, q⟩
  · have e1 : lo + ((0 : Nat) : Int) * 1 = lo := by simp
    have e2 : (((hi - lo).toNat : Nat) : Int) - ((0 : Nat) : Int) = Builtin.Range.rangeSize lo hi 1 := by rw [rangeSize_one]; split <;> omega
    show IsRangeIter _ _ (lo + ((0 : Nat) : Int) * 1) ((((hi - lo).toNat : Nat) : Int) - ((0 : Nat) : Int)) 1
    rw [e1, e2]
    exact Heap.get?_push_size _ rfl
  · have e : b = (s.heap.push { cls := .type "range", data := .fields #[.int lo t, .int hi u, .int 1 v] }).objs.size := by simpa using hb
    subst e
    exact I1.fpOk (Nat.le_refl _) (I1.hok.fresh (Nat.le_refl _))
noncomputable def iRng1 (ta : TA) : TI := fun σ H R => ta σ H fun vs H1 => ∃ j : Int, vs = [.int j] ∧ -(2 ^ 62) ≤ j ∧ j < 2 ^ 62 ∧ R (Itr 0 j.toNat) H1
noncomputable def iRng2 (ta : TA) : TI := fun σ H R => ta σ H fun vs H1 => ∃ i j : Int, vs = [.int i, .int j] ∧ (-(2 ^ 62) ≤ i ∧ i < 2 ^ 62 ∧ -(2 ^ 62) ≤ j ∧ j < 2 ^ 62) ∧ R (Itr i (j - i).toNat) H1
theorem pi_range1 {a : Expr} {ta : TA} {p pos : Pos} (hg : Gl X "range") (hm : X.mg "range" = none) (ha : PA X [a] ta) (hs : starEach [a] X.env = [(false, eval a X.env)] := by rfl) : PI X tg (.Call (.Name "range" p) [a] [] pos) (iRng1 ta) := by
  intro pins s σ H R I h
  refine Call_ (ld_blt I hg hm boot_range (PyProof.Rows.callWith_type1 (thn (ha pos pins s σ H _ I h) fun us s1 ⟨vs, H1, I1, r1, q1⟩ => ?_) hs rfl))
  obtain ⟨j, e, q1, q2, q⟩ := q1
  subst e
  cases r1 with
  | cons r rr =>
    cases rr
    obtain ⟨t, rfl⟩ := r
    exact call_range_1 (range_it I1 (by omega) (by omega) q1 q2 (by simpa using q))
theorem pi_range2 {a b : Expr} {ta : TA} {p pos : Pos} (hg : Gl X "range") (hm : X.mg "range" = none) (ha : PA X [a, b] ta) (hs : starEach [a, b] X.env = [(false, eval a X.env), (false, eval b X.env)] := by rfl) (hs2 : starEach [b] X.env = [(false, eval b X.env)] := by rfl) :
    PI X tg (.Call (.Name "range" p) [a, b] [] pos) (iRng2 ta) := by
  intro pins s σ H R I h
  refine Call_ (ld_blt I hg hm boot_range (PyProof.Rows.callWith_type1 (thn (ha pos pins s σ H _ I h) fun us s1 ⟨vs, H1, I1, r1, q1⟩ => ?_) (by rw [hs, hs2]) (by rw [hs2]; rfl)))
  obtain ⟨i, j, e, ⟨q1, q2, q3, q4⟩, q⟩ := q1
  subst e
  cases r1 with
  | cons r rr =>
    cases rr with
    | cons r' rr =>
      cases rr
      obtain ⟨t, rfl⟩ := r
      obtain ⟨t', rfl⟩ := r'
      exact call_range_2 (range_it I1 q1 q2 q3 q4 q)

noncomputable def tFor (wi : TI) (g : TG) (tb : TS) : TS := fun D σ H => wi σ H fun J H1 => ∃ W : Nat → Nat → St → Hp → Prop, (∃ m, W 0 m σ H1) ∧ ∀ i m σ H, W i m σ H →
  (J.stop i H ∧ D.nx σ H) ∨ (J.go i H ∧ ∃ N : St → Hp → Prop, (∀ σ' H', N σ' H' → ∃ m', m' < m ∧ W (i + 1) m' σ' H') ∧ ∀ x H', J.yld i H x H' → g x σ H' fun σ2 H2 => tb { D with nx := N, ct := N, bk := D.nx } σ2 H2)
noncomputable def pinsAt (fp : List Addr) (h : Heap) : List (Addr × Obj) := fp.filterMap fun b => (h.get? b).map fun o => (b, o)
theorem mem_pinsAt {fp : List Addr} {h : Heap} {b : Addr} {o : Obj} (hb : b ∈ fp) (e : h.get? b = some o) : (b, o) ∈ pinsAt fp h := List.mem_filterMap.mpr ⟨b, hb, by rw [e]; rfl⟩
theorem of_pinsAt {fp : List Addr} {h : Heap} {p : Addr × Obj} (hp : p ∈ pinsAt fp h) : p.1 ∈ fp ∧ h.get? p.1 = some p.2 := by
  obtain ⟨b, hb, e⟩ := List.mem_filterMap.mp hp
  cases q : h.get? b with
  | none => rw [q] at e; cases e
  | some o =>
    rw [q] at e
    have e' : (b, o) = p := Option.some.inj e
    subst e'
    exact ⟨hb, q⟩
theorem Inv.pinned {pins : List (Addr × Obj)} {σ : St} {H : Hp} {s : Shared} {fp : List Addr} (I : Inv X pins σ H s) (hf : ∀ b ∈ fp, FpOk X pins H b) (ho : ∀ b ∈ fp, ∃ o, s.heap.get? b = some o ∧ ∀ v, o.data ≠ .cell v) : Inv X (pins ++ pinsAt fp s.heap) σ H s :=
  I.pins_of fun p hp => (List.mem_append.mp hp).elim (fun z => I.pin p (List.mem_append_right _ z)) fun z => by
    obtain ⟨hb, e⟩ := of_pinsAt z
    obtain ⟨f0, f1, f2, _⟩ := hf p.1 hb
    obtain ⟨o, e', d⟩ := ho p.1 hb
    rw [e] at e'; cases e'
    exact ⟨e, f0, f1, f2, d⟩
theorem Inv.unpinned {pins pl : List (Addr × Obj)} {σ : St} {H : Hp} {s : Shared} (I : Inv X (pins ++ pl) σ H s) : Inv X pins σ H s := I.pins_of fun p hp => I.pin p (List.mem_append_right _ (List.mem_append_left _ hp))
theorem ps_for {iter : Expr} {body : List Stmt} {wi : TI} {g : TG} {tb : TS} {pos : Pos} (hp : PassesOwn (model X.prog X.w) X.A X.env X.xe) (hc : X.calm = true) (hi : PI X tg iter wi) (hg : PG X tg g) (hb : PSs X body tb)
    (hs : ∀ x, foldedSetIterable iter X.env x = pure x := by intro _; rfl) : PS X (.For tg iter body [] pos) (tFor wi g tb) := by
  intro pins s σ H D I h
  refine wpAny_For (thn (hi pins s σ H _ I h) fun v s1 h1 => thn h1 fun itv s2 h2 => ?_) hs
  obtain ⟨it, fp, tn, J, H2, e, I2, T, st2, f2, W, ⟨m0, w0⟩, turn⟩ := h2
  subst e
  -- what stays true of the iterator's objects through the loop
  have stat : ∀ {H' : Hp}, (∀ b ∈ fp, H' b = none) → ∀ b ∈ fp, FpOk X pins H' b := fun hn b hb => ⟨hn b hb, (f2 b hb).2⟩
  refine codeAny_forLoop_any (fun n s' => ∃ i σ' H', Inv X pins σ' H' s' ∧ tn i s'.heap ∧ (∀ b ∈ fp, H' b = none) ∧ W i n σ' H') ?_ m0 ⟨0, σ, H2, I2, st2, fun b hb => (f2 b hb).1, w0⟩
  rintro n s3 ⟨i, σ3, H3, I3, st3, fr3, w3⟩
  rcases turn i n σ3 H3 w3 with ⟨stop, qn⟩ | ⟨go, N, hN, step⟩
  · refine wpAny_passesOwn hp (thn (T.done X rfl rfl rfl hc i pins s3 σ3 H3 X.xe I3 (stat fr3) st3 stop) fun r s4 ⟨hr, I4⟩ => ?_)
    subst hr
    exact wpAny_execs_nil ⟨σ3, H3, I4, qn⟩
  · refine wpAny_passesOwn hp (thn (T.item X rfl rfl rfl hc i pins s3 σ3 H3 X.xe I3 (stat fr3) st3 go) fun r s4 ⟨u, hr, h4⟩ => ?_)
    subst hr
    refine wpAny_passesOwn hp (thn h4 fun _ s5 ⟨x, H5, I5, r5, y5, st5, fr5⟩ => ?_)
    have I5' := I5.pinned (stat fr5) (T.obj _ _ st5)
    refine wpAny_passesOwn hp (thn (hg _ s5 σ3 H5 x u _ I5' r5 (step x H5 y5)) fun _ s6 ⟨σ6, H6, I6, q6⟩ => ?_)
    refine wpAny_passesOwn hp (thn (hb _ s6 σ6 H6 _ I6 q6) fun f s7 q7 => ?_)
    have again : ∀ {σ7 : St} {H7 : Hp}, Inv X (pins ++ pinsAt fp s5.heap) σ7 H7 s7 → N σ7 H7 → ∃ m, m < n ∧ ∃ i σ' H', Inv X pins σ' H' s7 ∧ tn i s7.heap ∧ (∀ b ∈ fp, H' b = none) ∧ W i m σ' H' := fun {σ7 H7} I7 n7 => by
      obtain ⟨m', hm, w7⟩ := hN σ7 H7 n7
      refine ⟨m', hm, i + 1, σ7, H7, I7.unpinned, T.keep _ _ _ st5 fun b hb o e => (I7.pin (b, o) (List.mem_append_right _ (List.mem_append_right _ (mem_pinsAt hb e)))).1, fun b hb => ?_, w7⟩
      obtain ⟨o, e, d⟩ := T.obj _ _ st5 b hb
      exact (I7.pin (b, o) (List.mem_append_right _ (List.mem_append_right _ (mem_pinsAt hb e)))).2.1
    cases f with
    | next => obtain ⟨σ7, H7, I7, n7⟩ := q7; exact again I7 n7
    | cont => obtain ⟨σ7, H7, I7, n7⟩ := q7; exact again I7 n7
    | brk => obtain ⟨σ7, H7, I7, q7⟩ := q7; exact ⟨σ7, H7, I7.unpinned, q7⟩
    | ret v => obtain ⟨x7, σ7, H7, I7, r7, q7⟩ := q7; exact ⟨x7, σ7, H7, I7.unpinned, r7, q7⟩
end

theorem for_list {K : PySem.W.Frag} {a : Addr} {xs : List V} {g : TG} {tb : TS} {D : Ends} {σ : St} {H : Hp} (Pv : Nat → St → Hp → Prop) (h0 : Pv 0 σ H) (hl : ∀ i σ H, i ≤ xs.length → Pv i σ H → SqL K H a xs)
    (hs : ∀ i x σ H, xs[i]? = some x → Pv i σ H → g x σ H fun σ2 H2 => tb { D with nx := Pv (i + 1), ct := Pv (i + 1), bk := D.nx } σ2 H2) (hd : ∀ σ H, Pv xs.length σ H → D.nx σ H) :
    ∃ W : Nat → Nat → St → Hp → Prop, (∃ m, W 0 m σ H) ∧ ∀ i m σ H, W i m σ H →
      ((Itl K a).stop i H ∧ D.nx σ H) ∨ ((Itl K a).go i H ∧ ∃ N : St → Hp → Prop, (∀ σ' H', N σ' H' → ∃ m', m' < m ∧ W (i + 1) m' σ' H') ∧ ∀ x H', (Itl K a).yld i H x H' → g x σ H' fun σ2 H2 => tb { D with nx := N, ct := N, bk := D.nx } σ2 H2) := by
  refine ⟨fun i m σ H => m = xs.length - i ∧ i ≤ xs.length ∧ Pv i σ H, ⟨xs.length, by simp, Nat.zero_le _, h0⟩, ?_⟩
  rintro i m σ H ⟨rfl, hi, p⟩
  have q := hl i σ H hi p
  by_cases hlt : i < xs.length
  · refine .inr ⟨⟨xs, xs[i], q, by simp [hlt]⟩, Pv (i + 1), fun σ' H' p' => ⟨xs.length - (i + 1), by omega, rfl, hlt, p'⟩, fun x H' y => ?_⟩
    obtain ⟨e, y⟩ := y
    subst e
    exact hs i x σ _ (y xs q) p
  · have e : i = xs.length := by omega
    subst e
    exact .inl ⟨⟨xs, q, Nat.le_refl _⟩, hd σ H p⟩
theorem for_range {lo : Int} {n : Nat} {g : TG} {tb : TS} {D : Ends} {σ : St} {H : Hp} (Pv : Nat → St → Hp → Prop) (h0 : Pv 0 σ H)
    (hs : ∀ i σ H, i < n → Pv i σ H → g (.int (lo + i)) σ H fun σ2 H2 => tb { D with nx := Pv (i + 1), ct := Pv (i + 1), bk := D.nx } σ2 H2) (hd : ∀ σ H, Pv n σ H → D.nx σ H) :
    ∃ W : Nat → Nat → St → Hp → Prop, (∃ m, W 0 m σ H) ∧ ∀ i m σ H, W i m σ H →
      ((Itr lo n).stop i H ∧ D.nx σ H) ∨ ((Itr lo n).go i H ∧ ∃ N : St → Hp → Prop, (∀ σ' H', N σ' H' → ∃ m', m' < m ∧ W (i + 1) m' σ' H') ∧ ∀ x H', (Itr lo n).yld i H x H' → g x σ H' fun σ2 H2 => tb { D with nx := N, ct := N, bk := D.nx } σ2 H2) := by
  refine ⟨fun i m σ H => m = n - i ∧ i ≤ n ∧ Pv i σ H, ⟨n, by simp, Nat.zero_le _, h0⟩, ?_⟩
  rintro i m σ H ⟨rfl, hi, p⟩
  by_cases hlt : i < n
  · refine .inr ⟨hlt, Pv (i + 1), fun σ' H' p' => ⟨n - (i + 1), by omega, rfl, hlt, p'⟩, fun x H' y => ?_⟩
    obtain ⟨e, y⟩ := y
    subst e y
    exact hs i σ _ hlt p
  · have e : i = n := by omega
    subst e
    exact .inl ⟨Nat.le_refl _, hd σ H p⟩
end L2

namespace L2
open PySem PySem.Spec PyProof.Rows

noncomputable abbrev R2 := V → V → Hp → VK → Prop
noncomputable def OpR (X : Cx) (f : Value → Value → Sem Value) (r : R2) : Prop :=
  ∀ (pins : List (Addr × Obj)) (s : Shared) (σ : St) (H : Hp) (x y : V) (v u : Value) (Q : VK), Inv X pins σ H s → RelV x v → RelV y u → r x y H Q →
    wpAny (model X.prog X.w) X.A (f v u) (EP X pins σ Q) X.xe s
noncomputable def CallR (X : Cx) (f : Value) (r : List V → Hp → VK → Prop) : Prop :=
  ∀ (pins : List (Addr × Obj)) (s : Shared) (σ : St) (H : Hp) (xs : List V) (us : List Value) (Q : VK), Inv X pins σ H s → Vals xs us → r xs H Q →
    wpAny (model X.prog X.w) X.A (call f us) (EP X pins σ Q) X.xe s
noncomputable def tOp (r : R2) (ta tb : TE) : TE := fun σ H Q => ta σ H fun x H1 => tb σ H1 fun y H2 => r x y H2 Q
noncomputable def rI (C : Int → Int → Prop) (g : Int → Int → V) : R2 := fun x y H Q => ∃ i j, x = .int i ∧ y = .int j ∧ C i j ∧ Q (g i j) H
noncomputable def rI0 (g : Int → Int → V) : R2 := fun x y H Q => ∃ i j, x = .int i ∧ y = .int j ∧ Q (g i j) H
section
variable {X : Cx} {a b c : Expr} {ta tb tc : TE} {pos : Pos}

theorem binT (ha : PE X a ta) (hb : PE X b tb) {pins : List (Addr × Obj)} {s : Shared} {σ : St} {H : Hp} {R : V → V → Hp → Prop} (I : Inv X pins σ H s)
    (h : ta σ H fun x H1 => tb σ H1 fun y H2 => R x y H2) {Q : Value → Shared → Prop} {f : Value → Value → Sem Value}
    (hf : ∀ v u s2 x y H2, Inv X pins σ H2 s2 → RelV x v → RelV y u → R x y H2 → wpAny (model X.prog X.w) X.A (f v u) Q X.xe s2) :
    wpAny (model X.prog X.w) X.A (eval a X.env) (fun v s₁ => wpAny (model X.prog X.w) X.A (eval b X.env) (fun u s₂ => wpAny (model X.prog X.w) X.A (f v u) Q X.xe s₂) X.xe s₁) X.xe s := by
  refine thn (ha pins s σ H _ I h) fun v s1 ⟨x, H1, I1, r1, q1⟩ => ?_
  refine thn (hb pins s1 σ H1 _ I1 q1) fun u s2 ⟨y, H2, I2, r2, q2⟩ => ?_
  exact hf v u s2 x y H2 I2 r1 r2 q2

theorem pe_op {op : Operator} {r : R2} (ho : OpR X (binaryOp op) r) (ha : PE X a ta) (hb : PE X b tb) : PE X (.BinOp a op b pos) (tOp r ta tb) := by
  intro pins s σ H Q I h
  exact wpAny_BinOp (binT ha hb I h fun v u s2 x y H2 I2 rx ry q => ho pins s2 σ H2 x y v u Q I2 rx ry q)
theorem opI {f : Value → Value → Sem Value} {C : Int → Int → Prop} {g : Int → Int → Int}
    (rule : ∀ (i j : Int) (t u : Tok) (s : Shared) (Q : Value → Shared → Prop) (E : Value → Shared → Prop), C i j → Q (.int (g i j) s.toks) { s with toks := s.toks + 1 } → wpAny (model X.prog X.w) X.A (f (.int i t) (.int j u)) Q E s) :
    OpR X f (rI C fun i j => .int (g i j)) := by
  intro pins s σ H x y v u Q I rx ry h
  obtain ⟨i, j, rfl, rfl, hc, q⟩ := h
  obtain ⟨t, rfl⟩ := rx
  obtain ⟨t', rfl⟩ := ry
  exact rule i j t t' s _ _ hc ⟨.int (g i j), H, I.tok _, ⟨_, rfl⟩, q⟩
theorem opI0 {f : Value → Value → Sem Value} {g : Int → Int → Int}
    (rule : ∀ (i j : Int) (t u : Tok) (s : Shared) (Q : Value → Shared → Prop) (E : Value → Shared → Prop), Q (.int (g i j) s.toks) { s with toks := s.toks + 1 } → wpAny (model X.prog X.w) X.A (f (.int i t) (.int j u)) Q E s) :
    OpR X f (rI0 fun i j => .int (g i j)) := by
  intro pins s σ H x y v u Q I rx ry h
  obtain ⟨i, j, rfl, rfl, q⟩ := h
  obtain ⟨t, rfl⟩ := rx
  obtain ⟨t', rfl⟩ := ry
  exact rule i j t t' s _ _ ⟨.int (g i j), H, I.tok _, ⟨_, rfl⟩, q⟩
theorem opB0 {f : Value → Value → Sem Value} {g : Int → Int → Bool}
    (rule : ∀ (i j : Int) (t u : Tok) (s : Shared) (Q : Value → Shared → Prop) (E : Value → Shared → Prop), Q (.bool (g i j)) s → wpAny (model X.prog X.w) X.A (f (.int i t) (.int j u)) Q E s) :
    OpR X f (rI0 fun i j => .bl (g i j)) := by
  intro pins s σ H x y v u Q I rx ry h
  obtain ⟨i, j, rfl, rfl, q⟩ := h
  obtain ⟨t, rfl⟩ := rx
  obtain ⟨t', rfl⟩ := ry
  exact rule i j t t' s _ _ ⟨.bl (g i j), H, I, rfl, q⟩

noncomputable def CDiv (i j : Int) : Prop := 0 < j ∧ j < 1073741824
noncomputable def CPow (i j : Int) : Prop := 0 ≤ j ∧ j ≤ 1000000 ∧ i.natAbs < 2 ^ 64
noncomputable def CMul (i j : Int) : Prop := (-(2 ^ 64) < i ∧ i < 2 ^ 64) ∨ (-(2 ^ 64) < j ∧ j < 2 ^ 64)
theorem CMul.ok {i j : Int} (h : CMul i j) : IntMulOk i j := by
  rcases h with ⟨h1, h2⟩ | ⟨h1, h2⟩
  · exact .of_left (intBits_le_64 h1 h2)
  · exact .of_right (intBits_le_64 h1 h2)
theorem op_add : OpR X (binaryOp .Add) (rI0 fun i j => .int (i + j)) := opI0 fun _ _ _ _ _ _ _ q => add_int q
theorem op_sub : OpR X (binaryOp .Sub) (rI0 fun i j => .int (i - j)) := opI0 fun _ _ _ _ _ _ _ q => sub_int q
theorem op_mul : OpR X (binaryOp .Mult) (rI CMul fun i j => .int (i * j)) := opI fun _ _ _ _ _ _ _ hc q => mul_int q hc.ok
theorem op_fdiv : OpR X (binaryOp .FloorDiv) (rI CDiv fun i j => .int (i / j)) := opI fun i j _ _ _ _ _ hc q => by
  have h1 : (0 : Int) < j := hc.1
  have h2 : j < 1073741824 := hc.2
  exact floordiv_int (by omega) (by rw [Int.fdiv_eq_ediv_of_nonneg i (by omega)]; exact q) (.inl (PyProof.noPylong_small (by omega)))
theorem op_mod : OpR X (binaryOp .Mod) (rI (fun _ j => 0 < j) fun i j => .int (i % j)) := opI fun i j _ _ _ _ _ hc q => by
  have h1 : (0 : Int) < j := hc
  exact mod_int' (by omega) (by rw [Int.fmod_eq_emod_of_nonneg i (by omega)]; exact q)
theorem op_pow : OpR X (binaryOp .Pow) (rI CPow fun i j => .int (i ^ j.toNat)) := opI fun _ _ _ _ _ _ _ hc q => pow_int_small hc.1 hc.2.1 hc.2.2 q
end

noncomputable def scal : V → V → Bool
  | .non, .non => true | .non, .int _ => true | .int _, .non => true | .non, .bl _ => true | .bl _, .non => true | .non, .str _ => true | .str _, .non => true
  | .int _, .int _ => true | .bl _, .bl _ => true | .str _, .str _ => true | .byt _, .byt _ => true
  | .int _, .str _ => true | .str _, .int _ => true | .bl _, .str _ => true | .str _, .bl _ => true
  | _, _ => false
noncomputable def rEq : R2 := fun x y H Q => scal x y = true ∧ Q (.bl (decide (x = y))) H
noncomputable def rNe : R2 := fun x y H Q => scal x y = true ∧ Q (.bl (!decide (x = y))) H

theorem dec_int {i j : Int} : decide (V.int i = V.int j) = (i == j) := by
  rw [Bool.eq_iff_iff]
  simp
theorem dec_bl {i j : Bool} : decide (V.bl i = V.bl j) = (i == j) := by
  rw [Bool.eq_iff_iff]
  simp
theorem dec_str {i j : Str} : decide (V.str i = V.str j) = (i == j) := by
  rw [Bool.eq_iff_iff]
  simp
theorem dec_byt {i j : Array UInt8} : decide (V.byt i = V.byt j) = (i.toList == j.toList) := by
  rw [Bool.eq_iff_iff]
  cases i
  cases j
  simp

section
variable {X : Cx} {a b c : Expr} {ta tb tc : TE} {pos : Pos}
theorem fin_bl {pins : List (Addr × Obj)} {σ : St} {H : Hp} {s : Shared} {Q : VK} {k k' : Bool} (I : Inv X pins σ H s) (q : Q (.bl k) H) (e : k = k') : EP X pins σ Q (.bool k') s := by
  subst e
  exact ⟨.bl k, H, I, rfl, q⟩
theorem op_eq : OpR X (compareOp .Eq) rEq := by
  intro pins s σ H x y v u Q I rx ry h
  obtain ⟨hs, q⟩ := h
  cases x with
  | non =>
    cases rx
    cases y with
    | non => cases ry; exact PySem.EqNone.eq_none_none (fin_bl I q (by simp))
    | bl j => cases ry; exact PySem.EqNone.eq_none_bool (fin_bl I q (by simp))
    | int j => obtain ⟨t', rfl⟩ := ry; exact PySem.EqNone.eq_none_int (fin_bl I q (by simp))
    | str j => obtain ⟨t', rfl⟩ := ry; exact PySem.EqNone.eq_none_str (fin_bl I q (by simp))
    | _ => exact absurd (show false = true from hs) Bool.false_ne_true
  | bl i =>
    cases rx
    cases y with
    | non => cases ry; exact PySem.EqNone.eq_bool_none (fin_bl I q (by simp))
    | bl j => cases ry; exact eq_bool (fin_bl I q dec_bl)
    | str j => obtain ⟨t', rfl⟩ := ry; exact PySem.EqMixed.eq_bool_str (fin_bl I q (by simp))
    | _ => exact absurd (show false = true from hs) Bool.false_ne_true
  | int i =>
    obtain ⟨t, rfl⟩ := rx
    cases y with
    | non => cases ry; exact PySem.EqNone.eq_int_none (fin_bl I q (by simp))
    | int j => obtain ⟨t', rfl⟩ := ry; exact eq_int (fin_bl I q dec_int)
    | str j => obtain ⟨t', rfl⟩ := ry; exact PySem.EqMixed.eq_int_str (fin_bl I q (by simp))
    | _ => exact absurd (show false = true from hs) Bool.false_ne_true
  | str i =>
    obtain ⟨t, rfl⟩ := rx
    cases y with
    | non => cases ry; exact PySem.EqNone.eq_str_none (fin_bl I q (by simp))
    | bl j => cases ry; exact PySem.EqMixed.eq_str_bool (fin_bl I q (by simp))
    | int j => obtain ⟨t', rfl⟩ := ry; exact PySem.EqMixed.eq_str_int (fin_bl I q (by simp))
    | str j => obtain ⟨t', rfl⟩ := ry; exact eq_str (fin_bl I q dec_str)
    | _ => exact absurd (show false = true from hs) Bool.false_ne_true
  | byt i =>
    obtain ⟨t, rfl⟩ := rx
    cases y with
    | byt j => obtain ⟨t', rfl⟩ := ry; exact PySem.W.eq_bytes (fin_bl I q dec_byt)
    | _ => exact absurd (show false = true from hs) Bool.false_ne_true
  | _ => cases y <;> exact absurd (show false = true from hs) Bool.false_ne_true
theorem op_ne : OpR X (compareOp .NotEq) rNe := by
  intro pins s σ H x y v u Q I rx ry h
  obtain ⟨hs, q⟩ := h
  cases x with
  | non =>
    cases rx
    cases y with
    | non => cases ry; exact PySem.EqNone.ne_none_none (fin_bl I q (by simp))
    | bl j => cases ry; exact PySem.EqNone.ne_none_bool (fin_bl I q (by simp))
    | int j => obtain ⟨t', rfl⟩ := ry; exact PySem.EqNone.ne_none_int (fin_bl I q (by simp))
    | str j => obtain ⟨t', rfl⟩ := ry; exact PySem.EqNone.ne_none_str (fin_bl I q (by simp))
    | _ => exact absurd (show false = true from hs) Bool.false_ne_true
  | bl i =>
    cases rx
    cases y with
    | non => cases ry; exact PySem.EqNone.ne_bool_none (fin_bl I q (by simp))
    | bl j => cases ry; exact ne_bool (fin_bl I q (congrArg not dec_bl))
    | str j => obtain ⟨t', rfl⟩ := ry; exact PySem.EqMixed.ne_bool_str (fin_bl I q (by simp))
    | _ => exact absurd (show false = true from hs) Bool.false_ne_true
  | int i =>
    obtain ⟨t, rfl⟩ := rx
    cases y with
    | non => cases ry; exact PySem.EqNone.ne_int_none (fin_bl I q (by simp))
    | int j => obtain ⟨t', rfl⟩ := ry; exact ne_int (fin_bl I q (congrArg not dec_int))
    | str j => obtain ⟨t', rfl⟩ := ry; exact PySem.EqMixed.ne_int_str (fin_bl I q (by simp))
    | _ => exact absurd (show false = true from hs) Bool.false_ne_true
  | str i =>
    obtain ⟨t, rfl⟩ := rx
    cases y with
    | non => cases ry; exact PySem.EqNone.ne_str_none (fin_bl I q (by simp))
    | bl j => cases ry; exact PySem.EqMixed.ne_str_bool (fin_bl I q (by simp))
    | int j => obtain ⟨t', rfl⟩ := ry; exact PySem.EqMixed.ne_str_int (fin_bl I q (by simp))
    | str j => obtain ⟨t', rfl⟩ := ry; exact ne_str (fin_bl I q (congrArg not dec_str))
    | _ => exact absurd (show false = true from hs) Bool.false_ne_true
  | byt i =>
    obtain ⟨t, rfl⟩ := rx
    cases y with
    | byt j => obtain ⟨t', rfl⟩ := ry; exact PySem.W.ne_bytes (fin_bl I q (congrArg not dec_byt))
    | _ => exact absurd (show false = true from hs) Bool.false_ne_true
  | _ => cases y <;> exact absurd (show false = true from hs) Bool.false_ne_true

theorem op_lt : OpR X (compareOp .Lt) (rI0 fun i j => .bl (decide (i < j))) := opB0 fun _ _ _ _ _ _ _ q => lt_int q
theorem op_gt : OpR X (compareOp .Gt) (rI0 fun i j => .bl (decide (j < i))) := opB0 fun _ _ _ _ _ _ _ q => gt_int q
theorem nomark (b : Expr) {op : CmpOp} (h : op ≠ .In := by decide) (h2 : op ≠ .NotIn := by decide) : behindInMarks op b = false := by
  have e1 : (op == CmpOp.In) = false := by cases op <;> first | rfl | exact absurd rfl h
  have e2 : (op == CmpOp.NotIn) = false := by cases op <;> first | rfl | exact absurd rfl h2
  cases b <;> simp [behindInMarks, e1, e2]
theorem pe_cmpR {op : CmpOp} {r : R2} (ho : OpR X (compareOp op) r) (ha : PE X a ta) (hb : PE X b tb) (hm : behindInMarks op b = false) : PE X (.Compare a [op] [b] pos) (tOp r ta tb) := by
  intro pins s σ H Q I h
  exact wpAny_Compare1 (binT ha hb I h fun v u s2 x y H2 I2 rx ry q => ho pins s2 σ H2 x y v u Q I2 rx ry q) hm
noncomputable def tTest (t : TE) : TT := fun σ H Q => t σ H fun x H' => ∃ k, x = .bl k ∧ Q k H'
theorem pt_cmpR {op : CmpOp} {r : R2} (ho : OpR X (compareOp op) r) (ha : PE X a ta) (hb : PE X b tb) (hm : behindInMarks op b = false) : PT X (.Compare a [op] [b] pos) (tTest (tOp r ta tb)) := by
  intro pins s σ H Q I h
  refine wpAny_isTrue_Compare1 (thn (ha pins s σ H _ I h) fun v s1 ⟨x, H1, I1, r1, q1⟩ => thn (hb pins s1 σ H1 _ I1 q1) fun u s2 ⟨y, H2, I2, r2, q2⟩ =>
    thn (ho pins s2 σ H2 x y v u _ I2 r1 r2 q2) fun c s3 ⟨z, H3, I3, r3, k, e, q3⟩ => ?_) hm
  subst e
  cases r3
  exact wpAny_truthy_bool ⟨H3, I3, q3⟩
theorem line63 : (sizeLine : Nat) < 2 ^ 63 := by rw [sizeLine_eq]; decide
theorem vals1 {x : V} {us : List Value} (r : Vals [x] us) : ∃ u, us = [u] ∧ RelV x u := by
  cases r with
  | cons r1 r2 => cases r2; exact ⟨_, rfl, r1⟩
theorem call_int1 : CallR X (.type "int") (fun xs H Q => (∃ i, xs = [.int i] ∧ Q (.int i) H) ∨ ∃ k, xs = [.bl k] ∧ Q (.int (if k then 1 else 0)) H) := by
  intro pins s σ H xs us Q I r h
  rcases h with ⟨i, rfl, q⟩ | ⟨k, rfl, q⟩
  · obtain ⟨u, rfl, t, rfl⟩ := vals1 r
    exact call_int_int ⟨.int i, H, I, ⟨_, rfl⟩, q⟩
  · obtain ⟨u, rfl, r1⟩ := vals1 r
    cases r1
    exact call_int_bool ⟨.int (if k then 1 else 0), H, I.tok _, ⟨_, rfl⟩, q⟩
end
end L2

namespace L2
open PySem PySem.Spec PyProof.Rows

structure ObjM (h : Heap) (x dx C : Addr) (mA : Str → Option Value) : Prop where
  obj : h.get? x = some (PySem.W.instObj C dx)
  ns : h.Ns1 dx mA
  ne : dx ≠ x

theorem lookIn_ns {h : Heap} {dx : Addr} {mA : Str → Option Value} (n : h.Ns1 dx mA) : ∃ od, h.get? dx = some od ∧ ∀ name, PySem.W.lookIn name od = some (mA name) := by
  obtain ⟨o, es, ep, ho, hd, hk, _, hm⟩ := n
  refine ⟨o, ho, fun name => ?_⟩
  have e := hm name
  unfold nsFind findBy at e
  rw [← Array.find?_toList] at e
  unfold PySem.W.lookIn
  rw [hd]
  dsimp only
  split
  · rename_i y q
    rw [q] at e
    exact congrArg some e
  · rename_i q
    rw [q] at e
    have a : es.toList.any (·.refKey) = false := by
      rw [List.any_eq_false]
      intro y hy
      obtain ⟨z, t, hkey⟩ := hk y (Array.mem_toList_iff.mp hy)
      simp [DictEntry.refKey, hkey]
    have a' : ¬ es.toList.any (·.refKey) = true := by rw [a]; exact Bool.false_ne_true
    rw [if_neg a']
    exact congrArg some e

theorem ObjM.look {h : Heap} {x dx C : Addr} {mA : Str → Option Value} (I : ObjM h x dx C mA) : ∃ od, PySem.W.InstAt h x (PySem.W.instObj C dx) C (some od) ∧ ∀ name, PySem.W.lookIn name od = some (mA name) :=
  let ⟨od, ho, hl⟩ := lookIn_ns I.ns
  ⟨od, ⟨I.obj, rfl, rfl, ho⟩, hl⟩

section
variable {prog : Program} {w : World} {A : Around} {E : Value → Shared → Prop} {s : Shared} {K : PySem.W.Frag} {x dx C f : Addr} {mA : Str → Option Value} {name : Str} {v : Value}

end

section
variable {P : Program} {w : World} {H H' : Hp} {h h' : Heap} {a C dx : Addr} {fs fs' : List (Str × V)}
theorem ins_get (hok : HOk P w H h) (e : H a = some (.ins C dx fs)) : ∃ mA, ObjM h a dx C mA ∧ (∀ f, RelO (fs.lookup f) (mA f)) ∧ PySem.Within mA (fs.map (·.1)) ∧ fs.length ≤ 1000 ∧ H dx = some (.own a) := by
  obtain ⟨d, z, ne, ob, mA, n, r, q⟩ := (show ObjOk P w H h a (.ins C dx fs) from hok a _ e)
  exact ⟨mA, ⟨ob, n, ne⟩, r, q, z, d⟩
end

structure Cls (K : PySem.W.Frag) (C : Addr) : Prop where
  pg : PySem.W.plainGet K C Str.empty = true
  hd : PySem.W.hasDictIn K C = true
  po : PySem.W.plainOver K C = true
  sa : PySem.W.findIn K (.ref C) "__setattr__" = some (some (.builtin "object.__setattr__"))
theorem Cls.get {K : PySem.W.Frag} {C : Addr} (c : Cls K C) (f : Str) : PySem.W.plainGet K C f = true := c.pg
section
variable {X : Cx} {pins : List (Addr × Obj)} {σ : St} {H : Hp} {s : Shared} {a C dx : Addr} {fs : List (Str × V)} {f : Str} {v : V} {A : Around} {E : Value → Shared → Prop}

end

section
variable {X : Cx} {o e value : Expr} {f : Str} {pos pos' tpos : Pos} {ta tv : TE}
end

section
variable {X : Cx} {pins : List (Addr × Obj)} {σ : St} {H : Hp} {s : Shared} {A : Around} {E : Value → Shared → Prop} {Q : Value → Shared → Prop} {c : Value} {b : Bool}
inductive TyOf (K : PySem.W.Frag) (H : Hp) : V → Value → Prop where
  | non : TyOf K H .non (.type "NoneType")
  | bl (x : Bool) : TyOf K H (.bl x) (.type "bool")
  | int (i : Int) : TyOf K H (.int i) (.type "int")
  | str (x : Str) : TyOf K H (.str x) (.type "str")
  | flt (x : UInt64) : TyOf K H (.flt x) (.type "float")
  | lst {a : Addr} {xs : List V} (e : H a = some (.lst xs)) : TyOf K H (.ref a) (.type "list")
  | frz {a : Addr} {o : Obj} {xs : List V} (e : H a = some (.frz o (.lst xs))) : TyOf K H (.ref a) (.type "list")
  | tup {a : Addr} {xs : List V} (e : H a = some (.tup xs)) : TyOf K H (.ref a) (.type "tuple")
  | dK {a : Addr} {kvs : List (Key × V)} (e : H a = some (.dK kvs)) : TyOf K H (.ref a) (.type "dict")
  | dT {a : Addr} {kvs : List (List Key × V)} (e : H a = some (.dT kvs)) : TyOf K H (.ref a) (.type "dict")
  | ins {a C dx : Addr} {fs : List (Str × V)} (e : H a = some (.ins C dx fs)) (cl : Cls K C) (ha : PySem.W.findIn K (.ref C) "__class__" = some (some (.builtin "object.__class__")))
      (hn : PySem.W.specialIn K (.builtin "object.__class__") "__get__" = some (some (.builtin "getset_descriptor.__get__"))) (htk : PySem.W.takesIn K (.builtin "object.__class__") = some true)
      (hm : PySem.W.mroIn K C (.type "object") = some true) : TyOf K H (.ref a) (.ref C)
theorem isinst_ok {x : V} {u t : Value} (I : Inv X pins σ H s) (rx : RelV x u) (ty : TyOf X.K H x t) (e : PySem.W.kitOne X.K t c = some b) (h : ∀ tk, Q (.bool b) { s with toks := tk }) :
    wpAny (model X.prog X.w) A (call (.builtin "isinstance") [u, c]) Q E s := by
  cases ty with
  | non => cases (show u = Value.none from rx); exact PySem.W.kia_one PySem.W.kitx_none I.kIn True.intro e (fun z => nomatch z) h
  | bl y => cases (show u = Value.bool y from rx); exact PySem.W.kia_one PySem.W.kitx_bool I.kIn True.intro e (fun z => nomatch z) h
  | int i => obtain ⟨t, q⟩ := (show ∃ t, u = Value.int i t from rx); cases q; exact PySem.W.kia_one PySem.W.kitx_int I.kIn True.intro e (fun z => nomatch z) h
  | str y => obtain ⟨t, q⟩ := (show ∃ t, u = Value.str y t from rx); cases q; exact PySem.W.kia_one PySem.W.kitx_str I.kIn True.intro e (fun z => nomatch z) h
  | flt y => obtain ⟨t, q⟩ := (show ∃ t, u = Value.float y t from rx); cases q; exact PySem.W.kia_one PySem.W.kitx_float I.kIn True.intro e (fun z => nomatch z) h
  | @lst a xs ea =>
    cases (show u = Value.ref a from rx)
    obtain ⟨_, _, n, _, h1⟩ := (show ObjOk X.prog X.w H s.heap a (.lst xs) from I.hok a _ ea)
    exact PySem.W.kia_one PySem.W.kitx_list I.kIn ⟨_, h1, rfl⟩ e (fun z => nomatch z) h
  | @frz a ob xs ea =>
    cases (show u = Value.ref a from rx)
    obtain ⟨_, _, _, n, _, h1⟩ := (show ObjOk X.prog X.w H s.heap a (.frz ob (.lst xs)) from I.hok a _ ea)
    exact PySem.W.kia_one PySem.W.kitx_list I.kIn ⟨_, h1, rfl⟩ e (fun z => nomatch z) h
  | @tup a xs ea =>
    cases (show u = Value.ref a from rx)
    obtain ⟨_, _, _, p⟩ := (show ObjOk X.prog X.w H s.heap a (.tup xs) from I.hok a _ ea)
    obtain ⟨o, h1, h2, _⟩ := p
    exact PySem.W.kia_one PySem.W.kitx_tuple I.kIn ⟨o, h1, h2⟩ e (fun z => nomatch z) h
  | @dK a kvs ea =>
    cases (show u = Value.ref a from rx)
    obtain ⟨_, _, vs, _, p⟩ := (show ObjOk X.prog X.w H s.heap a (.dK kvs) from I.hok a _ ea)
    obtain ⟨o, es, ep, h1, h2, _⟩ := p
    exact PySem.W.kia_one PySem.W.kitx_dict I.kIn ⟨o, h1, h2.1⟩ e (fun z => nomatch z) h
  | @dT a kvs ea =>
    cases (show u = Value.ref a from rx)
    obtain ⟨_, _, xs, _, o, es, ep, h1, h2, _⟩ := (show ObjOk X.prog X.w H s.heap a (.dT kvs) from I.hok a _ ea)
    exact PySem.W.kia_one PySem.W.kitx_dict I.kIn ⟨o, h1, h2.1⟩ e (fun z => nomatch z) h
  | @ins a C dx fs ea cl ha hn htk hm =>
    cases (show u = Value.ref a from rx)
    obtain ⟨mA, O, _⟩ := ins_get I.hok ea
    obtain ⟨od, J, _⟩ := O.look
    exact PySem.W.kia_one (PySem.W.kitx_own (cl.get _) cl.hd ha hn htk hm) I.kIn J e (fun z => nomatch z) h
end
end L2

namespace L2
open PySem PySem.Spec PyProof.Rows

structure Room (k : Nat) (A : Around) : Prop where
  hd : A.handled = none
  dp : A.depth + 3 * k + 5 < recursionLimit
  un : A.units + 16 * k + 200 < cLine
  gd : A.guards = some []
theorem Room.mono {j k : Nat} {A : Around} (r : Room k A) (h : j ≤ k) : Room j A := ⟨r.hd, by have := r.dp; omega, by have := r.un; omega, r.gd⟩
theorem Room.deeper {k : Nat} {A : Around} (r : Room (k + 1) A) (env : Env) : Room k (A.deeper env) :=
  ⟨r.hd, by have := r.dp; show A.depth + 1 + 3 * k + 5 < _; omega, by have := r.un; show A.units + 3 + 16 * k + 200 < _; omega, r.gd⟩
theorem Room.depth {k : Nat} {A : Around} (r : Room k A) : A.depth < recursionLimit := by have := r.dp; omega
noncomputable def tNil : TA := fun _ H Q => Q [] H
noncomputable def tCons (ta : TE) (tr : TA) : TA := fun σ H Q => ta σ H fun x H1 => tr σ H1 fun xs H2 => Q (x :: xs) H2
section
variable {X : Cx} {e : Expr} {es : List Expr} {te : TE} {t : TA} {pos : Pos}
theorem pa_nil : PA X [] tNil := fun _ _ _ _ H Q I h => Calls.spliced_nil ⟨[], H, I, .nil, h⟩
theorem pa_cons (ha : PE X e te) (hr : PA X es t) (hs : starEach (e :: es) X.env = (false, eval e X.env) :: starEach es X.env := by rfl) : PA X (e :: es) (tCons te t) := by
  intro pos pins s σ H Q I h
  rw [hs]
  show wpAny _ _ (spliced ((false, eval e X.env) :: backTo pos (starEach es X.env))) _ _ s
  refine Calls.spliced_cons (thn (ha pins s σ H _ I h) fun u s1 ⟨x, H1, I1, r1, q1⟩ => ?_)
  exact thn (hr pos pins s1 σ H1 _ I1 q1) fun us s2 ⟨xs, H2, I2, r2, q2⟩ => ⟨x :: xs, H2, I2, .cons r1 r2, q2⟩

noncomputable def tTup (t : TA) : TE := fun σ H Q => t σ H fun xs H1 => xs.length ≤ sizeLine ∧ ∀ p, H1 p = none → Q (.ref p) (upd H1 p (.tup xs))
noncomputable def tLst (t : TA) : TE := fun σ H Q => t σ H fun xs H1 => xs.length ≤ sizeLine ∧ ∀ p, H1 p = none → Q (.ref p) (upd H1 p (.lst xs))
theorem pe_tup {x1} (h : PA X es t) : PE X (.Tuple es x1 pos) (tTup t) := by
  intro pins s σ H Q I hq
  refine wpAny_Tuple_spliced (thn (h pos pins s σ H _ I hq) fun us s1 ⟨xs, H1, I1, r, z, q⟩ => ⟨by rw [← r.length]; exact z, ?_⟩)
  have hf : H1 s1.heap.objs.size = none := I1.hok.fresh (Nat.le_refl _)
  refine ⟨.ref s1.heap.objs.size, upd H1 s1.heap.objs.size (.tup xs), I1.laid (t' := s1.toks) (fun b u e => Heap.get?_push_of_some _ e) (Nat.le_refl _) ?_, rfl, q _ hf⟩
  exact ⟨z, us, r, ⟨_, Heap.get?_push_size _ rfl, rfl, ⟨_, rfl⟩, rfl⟩⟩
theorem pe_lst (h : PA X es t) : PE X (.List es pos) (tLst t) := by
  intro pins s σ H Q I hq
  refine wpAny_List_spliced (thn (h pos pins s σ H _ I hq) fun us s1 ⟨xs, H1, I1, r, z, q⟩ => ⟨by rw [← r.length]; exact z, ?_⟩)
  have hf : H1 s1.heap.objs.size = none := I1.hok.fresh (Nat.le_refl _)
  refine ⟨.ref s1.heap.objs.size, upd H1 s1.heap.objs.size (.lst xs), I1.laid (t' := s1.toks) (fun b u e => Heap.get?_push_of_some _ e) (Nat.le_refl _) ?_, rfl, q _ hf⟩
  exact ⟨z, us, 0, r, Heap.get?_push_size _ rfl⟩
end

noncomputable abbrev Sp := List V → Hp → VK → XK → Prop
noncomputable abbrev CXT := List Env → Hp → Shared → XK → Value → Shared → Prop

structure Env0 (P : Program) (w : World) (K : PySem.W.Frag) (mg : Str → Option Value) (base : Heap) (A : Around) (outer : List Env) (s : Shared) (H : Hp) : Prop where
  frames : A.frames = some outer
  mod : Mod K mg base
  bs : ∀ b o, base.get? b = some o → s.heap.get? b = some o ∧ H b = none
  bsz : base.objs.size ≤ s.heap.objs.size
  funs : s.heap.FunFrames base outer
  frf : ∀ b ∈ frs outer, H b = none
  hok : HOk P w H s.heap
  bare : AllBare s.gens
noncomputable def CE (outer : List Env) (P : Program) (w : World) (H : Hp) (s : Shared) (Q : VK) (u : Value) (s' : Shared) : Prop :=
  ∃ v H', s'.os = s.os ∧ AllBare s'.gens ∧ Un (frs outer) [] H H' s.heap s'.heap ∧ HOk P w H' s'.heap ∧ RelV v u ∧ Q v H'
noncomputable def CR (CX : CXT) (outer : List Env) (P : Program) (w : World) (H : Hp) (s : Shared) (Q : VK) (E : XK) (r : Result) (s' : Shared) : Prop :=
  match r with
  | .ok (.ret u) => CE outer P w H s Q u s'
  | .ok _ => False
  | .error e => CX outer H s E e s'
structure FnOk (P : Program) (w : World) (K : PySem.W.Frag) (mg : Str → Option Value) (base : Heap) (CX : CXT) (k : Nat) (f : Addr) (fd : FuncData) (ps : List Str) (sp : Sp) : Prop where
  len : ∀ vs H Q E, sp vs H Q E → vs.length = ps.length
  run : ∀ (A : Around) (outer : List Env) (s : Shared) (H : Hp) (args : Args) (us : List Value) (vs : List V) (Q : VK) (E : XK), Room k A → Env0 P w K mg base A outer s H → BindsTo s fd args (ps.zip us) → Vals vs us → sp vs H Q E →
    codeAny (model P w) A (.call (.ref f) args) (CR CX outer P w H s Q E) s
section
variable {X : Cx} {pins : List (Addr × Obj)} {σ : St} {H : Hp} {s s' : Shared}
theorem Inv.env0 (I : Inv X pins σ H s) : Env0 X.prog X.w X.K X.mg X.base X.A X.stack s H :=
  ⟨I.ok.frames, I.ok.mod, I.bs, Nat.le_trans I.ok.bsz I.sz, I.stack, I.stkFree, I.hok, I.bare⟩
theorem Inv.after {Q : VK} {u : Value} (I : Inv X pins σ H s) (h : CE X.stack X.prog X.w H s Q u s') : EP X pins σ Q u s' := by
  obtain ⟨v, H', os, bare, un, hok, r, q⟩ := h
  obtain ⟨hh, g, d, t, os'⟩ := s'
  obtain rfl : os' = s.os := os
  exact ⟨v, H', I.call (h' := hh) (g' := g) (d' := d) (t' := t) (ch := []) un hok bare (fun b z => absurd z (by simp)), r, q⟩
end

noncomputable def tCall (sp : Sp) (dvs : List V) (E : XK) (t : TA) : TE := fun σ H Q => t σ H fun vs H1 => sp (vs ++ dvs) H1 Q E
noncomputable def Binds (K : PySem.W.Frag) (fd : FuncData) (ps : List Str) (ds : List Value) : Prop :=
  ∀ (s : Shared) (us : List Value), K.In s.heap → (us ++ ds).length = ps.length → BindsTo s fd ⟨us, []⟩ (ps.zip (us ++ ds))
theorem Binds.all {K : PySem.W.Frag} {fd : FuncData} {ps : List Str} (h : ∀ us : List Value, us.length = ps.length → bindArgs fd ⟨us, []⟩ = pure (ps.zip us)) : Binds K fd ps [] := fun s us _ hl => by
  rw [List.append_nil] at hl ⊢
  exact .of_eq (h us hl)

noncomputable def Passes (CX : CXT) (X : Cx) (E : XK) : Prop := ∀ (pins : List (Addr × Obj)) (σ : St) (H : Hp) (s : Shared) (e : Value) (s' : Shared), Inv X pins σ H s → CX X.stack H s E e s' → X.xe e s'

section
variable {X : Cx} {CX : CXT} {k : Nat} {f C : Addr} {fd : FuncData} {ps : List Str} {sp : Sp} {dvs : List V} {ds : List Value} {E : XK} {x m : Str} {p pos apos : Pos} {e o : Expr} {es : List Expr} {ta : TE} {t : TA}

theorem run_fn {pins : List (Addr × Obj)} {σ : St} {H : Hp} {s : Shared} {Q : VK} {us : List Value} {vs : List V} (F : FnOk X.prog X.w X.K X.mg X.base CX k f fd ps sp) (hr : Room k X.A) (hb : Binds X.K fd ps ds) (hd : Vals dvs ds) (hx : Passes CX X E)
    (I : Inv X pins σ H s) (r : Vals vs us) (h : sp (vs ++ dvs) H Q E) : wpAny (model X.prog X.w) X.A (call (.ref f) us) (EP X pins σ Q) X.xe s := by
  have r2 : Vals (vs ++ dvs) (us ++ ds) := r.append hd
  have hl : (us ++ ds).length = ps.length := by rw [← r2.length]; exact F.len _ _ _ _ h
  refine wpAny_call (codeAny_mono (F.run X.A X.stack s H ⟨us, []⟩ (us ++ ds) (vs ++ dvs) Q E hr I.env0 (hb s us I.kIn hl) r2 h) fun r s' hq => ?_)
  cases r with
  | error e => exact hx pins σ H s e s' I hq
  | ok fl =>
    cases fl with
    | ret u => exact I.after hq
    | next => exact False.elim hq
    | brk => exact False.elim hq
    | cont => exact False.elim hq

theorem pe_call (F : FnOk X.prog X.w X.K X.mg X.base CX k f fd ps sp) (hr : Room k X.A) (hg : Gl X x) (hm : X.mg x = some (.ref f)) (hk : PySem.W.keepIn X.K (.ref f) = true) (hb : Binds X.K fd ps ds) (hd : Vals dvs ds) (hx : Passes CX X E)
    (ha : PA X (e :: es) t) (hdb : (x == ("__debug__" : Str)) = false := by decide) (he : starEach (e :: es) X.env = (false, eval e X.env) :: starEach es X.env := by rfl) (hpl : (backTo pos (starEach es X.env)).any (·.1) = false := by rfl) :
    PE X (.Call (.Name x p) (e :: es) [] pos) (tCall sp dvs E t) := by
  intro pins s σ H Q I h
  refine wpAny_Call_Name_kw (ld_glob I hg hm ?_ hdb)
  refine PySem.W.callWith_K (h₀ := X.base) I.ok.mod.kin hk (thn (ha pos pins s σ H _ I h) fun us s1 ⟨vs, H1, I1, r, q⟩ => ⟨I1.kIn, ?_⟩) he hpl
  exact run_fn F hr hb hd hx I1 r q
end

section
variable {X : Cx} {CX : CXT} {k : Nat} {f C : Addr} {fd : FuncData} {ps ks : List Str} {sp : Sp} {E : XK} {x m : Str} {p pos apos kpos : Pos} {e o : Expr} {es : List Expr} {kws : List Keyword} {te ta : TE} {t tk : TA} {nm : Option Str}
variable {g : List Value → List Value → List Value} {gV : List V → List V → List V}
end

structure FnScope (N P : List Str) (sc : Scope) : Prop where
  kind : sc.kind = .function
  co : sc.isCoroutine = false
  gen : sc.isGenerator = false
  nd : N.Nodup
  pre : N.take P.length = P
  par : ∀ x ∈ P, sc.names.lookup x = some .local ∨ sc.names.lookup x = some .cell
  nofree : ∀ y ∈ sc.names, y.2 ≠ .free

theorem bindL_out {kindOf : Str → Option NameKind} {x : Str} : ∀ {binds : List (Str × Value)} {m : Str → Option Value}, (∀ v, (x, v) ∉ binds) → bindL kindOf binds m x = m x
  | [], _, _ => rfl
  | (n, v) :: r, m, h => by
    unfold bindL
    rw [bindL_out fun w hw => h w (List.mem_cons_of_mem _ hw)]
    split
    · have : x ≠ n := by rintro rfl; exact h v List.mem_cons_self
      simp [this]
    · rfl
theorem bindC_out {kindOf : Str → Option NameKind} {x : Str} : ∀ {binds : List (Str × Value)} {m : Str → Option Value}, (∀ v, (x, v) ∉ binds) → bindC kindOf binds m x = m x
  | [], _, _ => rfl
  | (n, v) :: r, m, h => by
    unfold bindC
    rw [bindC_out fun w hw => h w (List.mem_cons_of_mem _ hw)]
    split
    · rfl
    · have : x ≠ n := by rintro rfl; exact h v List.mem_cons_self
      simp [this]
theorem bindL_get {kindOf : Str → Option NameKind} {x : Str} {v : Value} : ∀ {P : List Str} {vs : List Value} {i : Nat} {m : Str → Option Value}, P.Nodup → P[i]? = some x → vs[i]? = some v → kindOf x = some .local →
    bindL kindOf (P.zip vs) m x = some v
  | [], _, _, _, _, h, _, _ => by simp at h
  | _ :: _, [], _, _, _, _, h, _ => by simp at h
  | p :: P, w :: vs, 0, m, nd, h1, h2, hk => by
    simp at h1 h2; subst h1; subst h2
    show bindL kindOf ((p, w) :: P.zip vs) m p = _
    unfold bindL
    rw [bindL_out fun v hv => (List.nodup_cons.mp nd).1 (List.of_mem_zip hv).1, if_pos hk]
    simp
  | p :: P, w :: vs, i + 1, m, nd, h1, h2, hk => by
    show bindL kindOf ((p, w) :: P.zip vs) m x = _
    unfold bindL
    exact bindL_get (i := i) (List.nodup_cons.mp nd).2 (by simpa using h1) (by simpa using h2) hk
theorem bindC_get {kindOf : Str → Option NameKind} {x : Str} {v : Value} : ∀ {P : List Str} {vs : List Value} {i : Nat} {m : Str → Option Value}, P.Nodup → P[i]? = some x → vs[i]? = some v → kindOf x ≠ some .local →
    bindC kindOf (P.zip vs) m x = some v
  | [], _, _, _, _, h, _, _ => by simp at h
  | _ :: _, [], _, _, _, _, h, _ => by simp at h
  | p :: P, w :: vs, 0, m, nd, h1, h2, hk => by
    simp at h1 h2; subst h1; subst h2
    show bindC kindOf ((p, w) :: P.zip vs) m p = _
    unfold bindC
    rw [bindC_out fun v hv => (List.nodup_cons.mp nd).1 (List.of_mem_zip hv).1, if_neg hk]
    simp
  | p :: P, w :: vs, i + 1, m, nd, h1, h2, hk => by
    show bindC kindOf ((p, w) :: P.zip vs) m x = _
    unfold bindC
    exact bindC_get (i := i) (List.nodup_cons.mp nd).2 (by simpa using h1) (by simpa using h2) hk

noncomputable def start (N : List Str) (vs : List V) : St := vs.map some ++ List.replicate (N.length - vs.length) none

noncomputable def cxOf (CX : CXT) (P : Program) (w : World) (K : PySem.W.Frag) (mg : Str → Option Value) (base : Heap) (N : List Str) (qual : Str) (scope : Scope) (f : Addr) (cd : Value) (A : Around) (outer : List Env) (s : Shared) (H : Hp) (E : XK) : Cx where
  prog := P
  w := w
  K := K
  mg := mg
  base := base
  A := A.deeper (envOfC qual scope s.heap.objs.size f cd)
  N := N
  s₀ := s
  H₀ := H
  env := envOfC qual scope s.heap.objs.size f cd
  outer := outer
  stack := envOfC qual scope s.heap.objs.size f cd :: outer
  ex := []
  calm := true
  fn := fun _ => true
  pn := []
  xe := fun e s' => wpAny (model P w) (A.deeper (envOfC qual scope s.heap.objs.size f cd)) (leaving (envOfC qual scope s.heap.objs.size f cd) e) (fun _ s'' => CX outer H s E e s'') (fun e' s'' => CX outer H s E e' s'') s'

theorem cell_has {sc : Scope} {n : Nat} {x : Str} (h : sc.names.lookup x = some .cell) : ∃ c, (cellsFrom n sc.names []).lookup x = some c := by
  have q := PySem.W.cellsFrom_some sc.names n [] (.inl h)
  exact Option.isSome_iff_exists.mp q

theorem inv_start {CX : CXT} {P : Program} {w : World} {K : PySem.W.Frag} {mg : Str → Option Value} {base : Heap} {N ps : List Str} {qual : Str} {scope : Scope} {f : Addr} {cd : Value} {A : Around} {outer : List Env} {s s1 : Shared} {H : Hp} {E : XK} {us : List Value} {vs : List V}
    (S : FnScope N ps scope) (hd : A.handled = none) (e0 : Env0 P w K mg base A outer s H) (hl : vs.length = ps.length) (r : Vals vs us)
    (x : InCallC s s.heap.objs.size (bindL (envOfC qual scope s.heap.objs.size f cd).kindOf (ps.zip us) fun _ => none) (cellsFrom (s.heap.objs.size + 1) scope.names []) (bindC (envOfC qual scope s.heap.objs.size f cd).kindOf (ps.zip us) fun _ => none) s1) :
    Inv (cxOf CX P w K mg base N qual scope f cd A outer s H E) [] (start N vs) H s1 := by
  have hpl : ps.length ≤ N.length := by have := congrArg List.length S.pre; rw [List.length_take] at this; omega
  obtain ⟨h1, tk, rfl, hk⟩ := x.done
  have noA : ∀ b : Addr, b ∉ (cxOf CX P w K mg base N qual scope f cd A outer s H E).ex := fun b z => absurd (show b ∈ ([] : List Addr) from z) (by simp)
  refine ⟨⟨e0.mod, S.kind, rfl, rfl, Nat.le_refl _, fun y z c h1 h2 => ?_, fun y hy => ?_, fun y c _ h => ?_, fun _ => hd, Around.frames_deeper e0.frames, .inr ⟨rfl, rfl⟩, fun b z => absurd z (noA b), e0.bs, e0.bsz, fun b _ _ => noA b, fun b z => absurd z (noA b), e0.funs, e0.frf⟩,
    rfl, e0.bare, Un.kept hk, ⟨_, x.toInCall.ns, fun i y v h1 h2 h3 => ?_⟩, fun y c h => ⟨_, x.cell y c h⟩, e0.hok.fresh (Nat.le_refl _), fun y c h => ?_, fun p hp => absurd (show p ∈ ([] : List (Addr × Obj)) from hp) (by simp), e0.hok.kept hk, ?_⟩
  · exact name_of_addr x.apart (PySem.mem_of_lookup h1) (PySem.mem_of_lookup h2)
  · have hy : scope.names.lookup y = some .cell ∨ scope.names.lookup y = some .free := hy
    rcases hy with hy | hy
    · exact cell_has hy
    · exact absurd rfl (S.nofree _ (PySem.mem_of_lookup hy))
  · exact Nat.le_of_lt (x.above y c (PySem.mem_of_lookup h))
  · have hi : i < vs.length := by
      unfold start at h2
      by_cases hi : i < vs.length
      · exact hi
      · rw [List.getElem?_append_right (by simpa using hi)] at h2
        rw [List.getElem?_replicate] at h2
        split at h2 <;> cases h2
    have ha : vs[i]? = some v := by
      unfold start at h2
      rw [List.getElem?_append_left (by simpa using hi), List.getElem?_map] at h2
      cases e : vs[i]? with
      | none => rw [e] at h2; cases h2
      | some a => rw [e] at h2; cases h2; rfl
    obtain ⟨u, hu, rv⟩ := r.get ha
    have hp : ps[i]? = some y := by
      rw [← S.pre, List.getElem?_take_of_lt (by omega)]; exact h1
    have ndP : ps.Nodup := by rw [← S.pre]; exact S.nd.sublist (List.take_sublist _ _)
    refine ⟨u, rv, ?_⟩
    rcases S.par y (List.mem_of_getElem? hp) with k | k
    · exact .inl ⟨k, bindL_get ndP hp hu k⟩
    · obtain ⟨c, e⟩ := cell_has (n := s.heap.objs.size + 1) k
      refine .inr ⟨.inl k, c, e, ?_⟩
      have q := x.cell y c e
      rw [bindC_get ndP hp hu (by show scope.names.lookup y ≠ _; rw [k]; decide)] at q
      exact q
  · exact e0.hok.fresh (Nat.le_of_lt (x.above y c (PySem.mem_of_lookup h)))
  · unfold start
    show _ = N.length
    rw [List.length_append, List.length_map, List.length_replicate]
    omega

theorem fn_of {CX : CXT} {P : Program} {w : World} {K : PySem.W.Frag} {mg : Str → Option Value} {base : Heap} {k : Nat} {f : Addr} {name qual : Str} {params : Arguments} {body : List Stmt} {scope : Scope} {dV kV doc pm cdv ct oc : Value} {an od : Option Addr}
    {osl : Array (Option Value)} {N ps : List Str} {sp : Sp} (lk : K.lookup f = some ⟨oc, od, .func (PySem.W.fnOf name qual params body scope dV kV doc pm an cdv ct), osl⟩) (hcd : PySem.W.codeIn K cdv qual = true) (S : FnScope N ps scope)
    (len : ∀ vs H Q E, sp vs H Q E → vs.length = ps.length)
    (hbody : ∀ (A : Around) (outer : List Env) (s : Shared) (H : Hp) (vs : List V) (Q : VK) (E : XK), Room k (A.deeper (envOfC qual scope s.heap.objs.size f cdv)) → sp vs H Q E →
      ∃ t, PSs (cxOf CX P w K mg base N qual scope f cdv A outer s H E) body t ∧ t { nx := fun _ H' => Q .non H', rt := Q } (start N vs) H) :
    FnOk P w K mg base CX (k + 1) f (PySem.W.fnOf name qual params body scope dV kV doc pm an cdv ct) ps sp := by
  refine ⟨len, fun A outer s H args us vs Q E hr e0 hb r hsp => ?_⟩
  have hl := len _ _ _ _ hsp
  have KX : K.In s.heap := e0.mod.kin.keeps fun b o e => (e0.bs b o e).1
  have lim : s.heap.NoLimit := e0.mod.nolimit.keeps fun b o e => (e0.bs b o e).1
  have hkind : ∀ y ∈ ps.zip us, scope.names.lookup y.1 = some .local ∨ (scope.names.lookup y.1 = some .cell ∧ ((cellsFrom (s.heap.objs.size + 1) scope.names []).lookup y.1).isSome = true) := fun ⟨n, v⟩ hy => by
    rcases S.par n (List.of_mem_zip hy).1 with q | q
    · exact .inl q
    · exact .inr ⟨q, PySem.W.cellsFrom_some _ _ _ (.inl q)⟩
  refine codeAny_call_function hr.depth (KX _ _ lk) rfl S.co S.gen rfl (PySem.W.codeRec_of KX hcd) (hb _ _ _ _ ?_)
  refine wpAny_newFunctionEnv_cells S.kind hkind fun env he s1 x => ?_
  subst he
  refine ⟨lim.keeps x.toInCall.keep, codeAny_func ?_⟩
  obtain ⟨t, ht, hq⟩ := hbody A outer s H vs Q E (hr.deeper _) hsp
  have I : Inv (cxOf CX P w K mg base N qual scope f cdv A outer s H E) [] (start N vs) H s1 := inv_start S hr.hd e0 hl r x
  refine wpAny_mono (ht [] s1 (start N vs) H _ I hq) (fun fl s' hs => ?_) fun e s' hs => hs
  have fin : ∀ {σ' : St} {H' : Hp} {v : V} {u : Value}, Inv (cxOf CX P w K mg base N qual scope f cdv A outer s H E) [] σ' H' s' → RelV v u → Q v H' → CE outer P w H s Q u s' :=
    fun {σ' H' v u} J rv q => ⟨v, H', J.os, J.bare, J.base, J.hok, rv, q⟩
  cases fl with
  | ret u =>
    obtain ⟨v, σ', H', J, rv, q⟩ := hs
    exact fin J rv q
  | next =>
    obtain ⟨σ', H', J, q⟩ := hs
    exact fin (v := V.non) (u := Value.none) J rfl q
  | brk =>
    obtain ⟨_, _, _, q⟩ := hs
    exact False.elim q
  | cont =>
    obtain ⟨_, _, _, q⟩ := hs
    exact False.elim q
end L2

namespace L2
open PySem PySem.Spec PyProof.Rows
section
variable {X : Cx} {x : Str} {p pos : Pos} {e : Expr} {es : List Expr} {t : TA} {id T : String} {r : List V → Hp → VK → Prop}

noncomputable def tCB (r : List V → Hp → VK → Prop) (t : TA) : TE := fun σ H Q => t σ H fun vs H1 => r vs H1 Q
theorem pe_callB (hc : CallR X (.builtin id) r) (hg : Gl X x) (hm : X.mg x = none) (hv : bootBuiltins x = some (.builtin id)) (ha : PA X (e :: es) t) (hn : x ≠ "__name__" := by decide) (hdb : (x == ("__debug__" : Str)) = false := by decide)
    (he : starEach (e :: es) X.env = (false, eval e X.env) :: starEach es X.env := by rfl) (hpl : (backTo pos (starEach es X.env)).any (·.1) = false := by rfl) : PE X (.Call (.Name x p) (e :: es) [] pos) (tCB r t) := by
  intro pins s σ H Q I h
  refine wpAny_Call_Name_kw (ld_blt I hg hm hv ?_ hn hdb)
  exact PyProof.Rows.callWith_builtin1 (thn (ha pos pins s σ H _ I h) fun us s1 ⟨vs, H1, I1, r1, q1⟩ => hc pins s1 σ H1 vs us Q I1 r1 q1) he hpl
theorem pe_callTy (hc : CallR X (.type T) r) (hg : Gl X x) (hm : X.mg x = none) (hv : bootBuiltins x = some (.type T)) (ha : PA X (e :: es) t) (hn : x ≠ "__name__" := by decide) (hdb : (x == ("__debug__" : Str)) = false := by decide)
    (he : starEach (e :: es) X.env = (false, eval e X.env) :: starEach es X.env := by rfl) (hpl : (backTo pos (starEach es X.env)).any (·.1) = false := by rfl) : PE X (.Call (.Name x p) (e :: es) [] pos) (tCB r t) := by
  intro pins s σ H Q I h
  refine wpAny_Call_Name_kw (ld_blt I hg hm hv ?_ hn hdb)
  exact PyProof.Rows.callWith_type1 (thn (ha pos pins s σ H _ I h) fun us s1 ⟨vs, H1, I1, r1, q1⟩ => hc pins s1 σ H1 vs us Q I1 r1 q1) he hpl
end
end L2

namespace HT
open PySem PyProof.Rows

section
open PySem.SeqAt
open PySem.AutoSeq1 (wpAny_loadPart')
open PySem.MeetsSeq PySem.MeetsSeq2 PySem.MeetsSeq3

end

section
variable {prog : Program} {w : World} {A : Around} {E : Value → Shared → Prop} {s : Shared}

theorem cat_tup {t b : Addr} {vs ws : List Value} {Q : Value → Shared → Prop} (ht : IsTup s.heap t vs.toArray) (hb : IsTup s.heap b ws.toArray) (hv : vs ≠ [])
    (h1 : ws = [] → Q (.ref t) s) (h2 : ws ≠ [] → Q (.ref s.heap.objs.size) { s with heap := s.heap.push { cls := .type "tuple", data := .seq (vs ++ ws).toArray } })
    (hsz : vs.length + ws.length ≤ sizeLine) : wpAny (model prog w) A (binaryOp .Add (.ref t) (.ref b)) Q E s := by
  obtain ⟨⟨cls, dd, data, sl⟩, ho, hc, n, hd⟩ := id ht
  obtain ⟨⟨cls2, dd2, data2, sl2⟩, ho2, hc2, n2, hd2⟩ := id hb
  simp only at hc hd hc2 hd2
  subst hc hd hc2 hd2
  have e : vs.toArray ++ ws.toArray = (vs ++ ws).toArray := by simp
  by_cases hw : ws = []
  · exact concat_meets ⟨_, ho, rfl⟩ ⟨_, ho2, rfl⟩ noFill_tuple_add seq_tuple_add PySem.F.slot_tuple_add PySem.F.entry_tuple_add (PySem.F.args_tuple_add_2 _ _)
      (tuple_addW1 t b vs.toArray ws.toArray n n2 dd dd2 sl sl2 (by simpa using hv) (by simp [hw])) ⟨ho, ho2, h1 hw⟩
  · refine concat_meets ⟨_, ho, rfl⟩ ⟨_, ho2, rfl⟩ noFill_tuple_add seq_tuple_add PySem.F.slot_tuple_add PySem.F.entry_tuple_add (PySem.F.args_tuple_add_2 _ _)
      (tuple_addW2 t b vs.toArray ws.toArray n n2 dd dd2 sl sl2 (by simpa using hv) (by simpa using hw) (by rw [List.size_toArray, List.size_toArray]; exact hsz)) ⟨ho, ho2, ?_⟩
    rw [e]
    exact h2 hw

noncomputable def sIx (n d : Nat) : Option Int → Nat
  | none => d
  | some v => if v < 0 then (v + (n : Int)).toNat else min v.toNat n
theorem sIx_none (n d : Nat) : sIx n d none = d := rfl
theorem sIx_nat (n d k : Nat) : sIx n d (some (k : Int)) = min k n := by
  show (if (k : Int) < 0 then ((k : Int) + (n : Int)).toNat else min (k : Int).toNat n) = min k n
  rw [if_neg (by omega), Int.toNat_natCast]
theorem sIx_le (n d : Nat) (hd : d ≤ n) (o : Option Int) : sIx n d o ≤ n := by
  cases o with
  | none => exact hd
  | some v =>
    show (if v < 0 then (v + (n : Int)).toNat else min v.toNat n) ≤ n
    by_cases hv : v < 0
    · rw [if_pos hv]; omega
    · rw [if_neg hv]; exact Nat.min_le_right _ _
theorem clip_eq (v : Int) (n d : Nat) : (if v < 0 then max (v + (n : Int)) 0 else min v (n : Int)) = ((sIx n d (some v) : Nat) : Int) := by
  show (if v < 0 then max (v + (n : Int)) 0 else min v (n : Int)) = (((if v < 0 then (v + (n : Int)).toNat else min v.toNat n) : Nat) : Int)
  by_cases hv : v < 0
  · simp only [if_pos hv]; omega
  · simp only [if_neg hv]; omega
theorem adjust_gen (lo hi : Option Int) (n : Nat) : Builtin.Slice.sliceAdjust lo hi 1 (n : Int) = (((sIx n 0 lo : Nat) : Int), ((sIx n n hi : Nat) : Int)) := by
  have h1 : ¬ ((1 : Int) < 0) := by omega
  unfold Builtin.Slice.sliceAdjust
  simp only [h1, if_false]
  refine Prod.ext ?_ ?_
  · cases lo with
    | none => rfl
    | some v => exact clip_eq v n 0
  · cases hi with
    | none => rfl
    | some v => exact clip_eq v n n
theorem places_gen (i j : Nat) : Builtin.Slice.slicePlaces (i : Int) (j : Int) 1 = j - i := by
  unfold Builtin.Slice.slicePlaces
  have h1 : (1 : Int) > 0 := by omega
  simp only [h1, if_true, Int.ediv_one]
  split <;> omega
theorem slicePart_ {v : Value} {o : Option Int} {Q : Option Int → Shared → Prop} (p : IsPart v o) (h : Q o s) : wpAny (model prog w) A (Builtin.Slice.slicePartIndex v) Q E s := by
  cases p with
  | none => exact slicePart_none h
  | int i t => exact slicePart_int h
theorem sliceApplied_gen {sl : Addr} {vl vu : Value} {lo hi : Option Int} {n : Nat} {Q : Int × Int × Nat → Shared → Prop} (hs : s.heap.IsSliceOf sl vl vu .none) (pl : IsPart vl lo) (pu : IsPart vu hi)
    (h : Q (((sIx n 0 lo : Nat) : Int), 1, sIx n n hi - sIx n 0 lo) s) : wpAny (model prog w) A (Builtin.Slice.sliceApplied (.ref sl) (pure (n : Int))) Q E s := by
  obtain ⟨os, hos, hcs, hds⟩ := id hs
  unfold Builtin.Slice.sliceApplied Builtin.Slice.sliceFields
  refine wpAny_bind (wpAny_bind (wpAny_field hos hds (x := vl) rfl (wpAny_bind (wpAny_field hos hds (x := vu) rfl (wpAny_bind (wpAny_field hos hds (x := .none) rfl (wpAny_pure ?_)))))))
  refine wpAny_bind (slicePart_none ?_)
  show wpAny _ _ (if ((1 : Int) == 0) = true then _ else _) _ _ s
  rw [if_neg (by decide)]
  refine wpAny_bind (slicePart_ pl (wpAny_bind (slicePart_ pu (wpAny_bind (wpAny_pure ?_)))))
  show wpAny _ _ (match Builtin.Slice.sliceAdjust lo hi 1 (n : Int) with | (lo, hi) => pure (lo, (1 : Int), Builtin.Slice.slicePlaces lo hi 1)) _ _ s
  rw [adjust_gen lo hi n]
  show wpAny _ _ (pure (((sIx n 0 lo : Nat) : Int), (1 : Int), Builtin.Slice.slicePlaces ((sIx n 0 lo : Nat) : Int) ((sIx n n hi : Nat) : Int) 1)) _ _ s
  rw [places_gen]
  exact wpAny_pure h
theorem pick_gen (xs : Array Value) (i k : Nat) : ((List.range k).filterMap fun (m : Nat) => xs[((i : Int) + (m : Int) * 1).toNat]?).toArray = ((xs.toList.drop i).take k).toArray := by
  have e : (fun (m : Nat) => xs[((i : Int) + (m : Int) * 1).toNat]?) = fun m => xs[i + m]? := by
    funext m
    have : ((i : Int) + (m : Int) * 1).toNat = i + m := by omega
    rw [this]
  rw [e]
  have := pick_run xs i k
  rw [List.filterMap_map] at this
  have e2 : ((fun x => xs[x]?) ∘ fun x => i + x) = fun m => xs[i + m]? := rfl
  rw [e2] at this
  rw [this]

theorem getItem_tuple_cut {t sl : Addr} {items : Array Value} {vl vu : Value} {lo hi : Option Int} {Q : Value → Shared → Prop} (ht : IsTup s.heap t items) (hs : s.heap.IsSliceOf sl vl vu .none) (pl : IsPart vl lo) (pu : IsPart vu hi)
    (hw : ¬ (sIx items.size 0 lo = 0 ∧ sIx items.size items.size hi = items.size))
    (h : Q (.ref s.heap.objs.size) { s with heap := s.heap.push { cls := .type "tuple", data := .seq ((items.toList.drop (sIx items.size 0 lo)).take (sIx items.size items.size hi - sIx items.size 0 lo)).toArray } })
    (hsz : items.size ≤ sizeLine) : wpAny (model prog w) A (getItem (.ref t) (.ref sl)) Q E s := by
  have htake : sizeOk (.seq ((items.toList.drop (sIx items.size 0 lo)).take (sIx items.size items.size hi - sIx items.size 0 lo)).toArray) := by
    show ((items.toList.drop (sIx items.size 0 lo)).take (sIx items.size items.size hi - sIx items.size 0 lo)).toArray.size ≤ sizeLine
    rw [List.size_toArray, List.length_take, List.length_drop, Array.length_toList]
    omega
  have hj : sIx items.size items.size hi ≤ items.size := sIx_le _ _ (Nat.le_refl _) hi
  obtain ⟨os, hos, hcs, hds⟩ := id hs
  have hTs : s.TypeIs (.ref sl) "slice" := ⟨os, hos, hcs⟩
  unfold getItem
  try with_reducible refine wpAny_holding ?_
  first | refine wpAny_bind (wpAny_pure ?_) | skip
  refine wpAny_bind (wpAny_sequenceKey ht.typeIs (by decide) ?_)
  refine wpAny_bind (wpAny_callSpecial?_slot (name := Str.ofString "__getitem__") ht.typeIs PyProof.Rows.slot_tuple_getitem
    (wpAny_call_entry PyProof.Rows.slot_tuple_getitem ht.typeIs entry_tuple_getitem ?_ (args_tuple_getitem _ _)))
  show wpAny _ _ (Builtin.Tuple.tupleItemsOf (.ref t) >>= _) _ _ s
  refine wpAny_bind (tupleItemsOf_ ht ?_)
  refine wpAny_bind (wpAny_typeOf hTs ?_)
  rw [if_pos (by decide)]
  refine wpAny_bind (sliceApplied_gen hs pl pu ?_)
  have hno : ¬ ((((sIx items.size 0 lo : Nat) : Int) == 0 && (1 : Int) == 1 && (sIx items.size items.size hi - sIx items.size 0 lo) == items.size) = true) := by
    intro q
    rw [Bool.and_eq_true, Bool.and_eq_true] at q
    have q1 : ((sIx items.size 0 lo : Nat) : Int) = 0 := eq_of_beq q.1.1
    have q2 : sIx items.size items.size hi - sIx items.size 0 lo = items.size := eq_of_beq q.2
    exact hw ⟨by omega, by omega⟩
  show wpAny _ _ (if (((sIx items.size 0 lo : Nat) : Int) == 0 && (1 : Int) == 1 && (sIx items.size items.size hi - sIx items.size 0 lo) == items.size) = true then _ else _) _ _ s
  rw [if_neg hno, pick_gen]
  first
    | exact wpAny_bind (m := Builtin.Tuple.tupleExact _) (wpAny_newObj_type (wpAny_pure ⟨_, rfl, wpAny_pure h⟩) htake)
    | exact wpAny_bind (m := Builtin.Tuple.tupleExact _) (wpAny_newObj_type (wpAny_bind (wpAny_pure (wpAny_pure ⟨_, rfl, wpAny_pure h⟩))) htake)
    | exact wpAny_bind (wpAny_bind (m := Builtin.Tuple.tupleExact _) (wpAny_newObj_type (wpAny_pure (wpAny_pure ⟨_, rfl, wpAny_pure h⟩)) htake))
    | exact wpAny_bind (wpAny_bind (m := Builtin.Tuple.tupleExact _) (wpAny_newObj_type (wpAny_pure ⟨_, rfl, wpAny_pure h⟩) htake))
end
end HT

namespace L2
open PySem PySem.Spec PyProof.Rows

noncomputable abbrev TO := St → Hp → (Option Int → Hp → Prop) → Prop
noncomputable def PO (X : Cx) (e : Option Expr) (t : TO) : Prop :=
  ∀ (pins : List (Addr × Obj)) (s : Shared) (σ : St) (H : Hp) (Q : Option Int → Hp → Prop), Inv X pins σ H s → t σ H Q →
    wpAny (model X.prog X.w) X.A (evalPart e X.env) (fun u s' => ∃ o H', Inv X pins σ H' s' ∧ IsPart u o ∧ Q o H') X.xe s
noncomputable def tNoPart : TO := fun _ H Q => Q none H
noncomputable def tPart (t : TE) : TO := fun σ H Q => t σ H fun x H1 => ∃ i, x = .int i ∧ Q (some i) H1

section
variable {X : Cx} {e : Expr} {te : TE} {lo hi : Option Expr} {tl th : TO} {pos p2 : Pos}

theorem po_none : PO X none tNoPart := by
  intro pins s σ H Q I h
  rw [evalPart_none]
  exact wpAny_pure ⟨none, H, I, .none, h⟩
theorem po_some (h : PE X e te) : PO X (some e) (tPart te) := by
  intro pins s σ H Q I hw
  rw [evalPart_some]
  refine thn (h pins s σ H _ I hw) fun u s1 ⟨x, H1, I1, r1, q1⟩ => ?_
  obtain ⟨i, rfl, q⟩ := q1
  obtain ⟨t, rfl⟩ := r1
  exact ⟨some i, H1, I1, .int i t, q⟩

noncomputable def SlR (X : Cx) (r : V → Option Int → Option Int → Hp → VK → Prop) : Prop :=
  ∀ (pins : List (Addr × Obj)) (s : Shared) (σ : St) (H : Hp) (x : V) (v vl vu : Value) (lo hi : Option Int) (sl : Addr) (Q : VK), Inv X pins σ H s → RelV x v → s.heap.IsSliceOf sl vl vu .none → IsPart vl lo → IsPart vu hi → r x lo hi H Q →
    ∃ T id, typeLookup (.type T) "__getitem__" = pure (some (.builtin id)) ∧ s.TypeIs v T ∧ wpAny (model X.prog X.w) X.A (getItem v (.ref sl)) (EP X pins σ Q) X.xe s
noncomputable def tSl (r : V → Option Int → Option Int → Hp → VK → Prop) (te : TE) (tl th : TO) : TE := fun σ H Q => te σ H fun x H1 => tl σ H1 fun l H2 => th σ H2 fun u H3 => r x l u H3 Q
theorem pe_slice {r : V → Option Int → Option Int → Hp → VK → Prop} (hr : SlR X r) (he : PE X e te) (hl : PO X lo tl) (hu : PO X hi th) : PE X (.Subscript e (.Slice lo hi none p2) pos) (tSl r te tl th) := by
  intro pins s σ H Q I h
  refine Subscript_ (thn (he pins s σ H _ I h) fun v s1 ⟨x, H1, I1, r1, q1⟩ => ?_)
  refine wpAny_Slice (thn (hl pins s1 σ H1 _ I1 q1) fun vl s2 ⟨l, H2, I2, pl, q2⟩ => thn (hu pins s2 σ H2 _ I2 q2) fun vu s3 ⟨u, H3, I3, pu, q3⟩ => ?_)
  rw [evalPart_none]
  refine wpAny_pure ?_
  have I4 : Inv X pins σ H3 { s3 with heap := s3.heap.push { cls := .type "slice", data := .fields #[vl, vu, .none] } } := I3.kept (t' := s3.toks) fun b ob q => Heap.get?_push_of_some _ q
  obtain ⟨T, id, hT, ht, hg⟩ := hr pins { s3 with heap := s3.heap.push { cls := .type "slice", data := .fields #[vl, vu, .none] } } σ H3 x v vl vu l u s3.heap.objs.size Q I4 r1 (Heap.IsSliceOf.new ..) pl pu q3
  show wpAny (model X.prog X.w) X.A (subscriptTail e (.Slice lo hi none p2) v (.ref s3.heap.objs.size)) (EP X pins σ Q) X.xe { s3 with heap := s3.heap.push { cls := .type "slice", data := .fields #[vl, vu, .none] } }
  exact tail_any (ops := [.ref s3.heap.objs.size, v]) ht hT hg (by with_unfolding_all rfl)

noncomputable def cutV (xs : List V) (lo hi : Option Int) : List V := (xs.drop (HT.sIx xs.length 0 lo)).take (HT.sIx xs.length xs.length hi - HT.sIx xs.length 0 lo)
theorem cutV_length (xs : List V) (lo hi : Option Int) : (cutV xs lo hi).length ≤ xs.length := by
  unfold cutV
  rw [List.length_take, List.length_drop]
  omega
noncomputable def rSlT (K : PySem.W.Frag) : V → Option Int → Option Int → Hp → VK → Prop := fun x lo hi H Q => ∃ a xs, x = .ref a ∧ SqT K H a xs ∧
  ¬ (HT.sIx xs.length 0 lo = 0 ∧ HT.sIx xs.length xs.length hi = xs.length) ∧ ∀ p, H p = none → Q (.ref p) (upd H p (.tup (cutV xs lo hi)))
theorem sl_tup : SlR X (rSlT X.K) := by
  intro pins s σ H x v vl vu lo hi sl Q I rx hs pl pu h
  obtain ⟨a, xs, rfl, hx, hw, q⟩ := h
  cases rx
  obtain ⟨its, r, ht, hz⟩ := I.tuple hx
  have hlen : its.toArray.size = xs.length := by rw [List.size_toArray]; exact r.length.symm
  refine ⟨"tuple", _, PyProof.Rows.slot_tuple_getitem.lookup, ht.typeIs, ?_⟩
  refine HT.getItem_tuple_cut ht hs pl pu (by rw [hlen]; exact hw) ?_ (by rw [hlen]; exact hz)
  rw [hlen]
  refine ⟨.ref s.heap.objs.size, _, I.laid (t' := s.toks) (o := .tup (cutV xs lo hi)) (fun b ob q => Heap.get?_push_of_some _ q) (Nat.le_refl _) ?_, rfl, q _ (I.hok.fresh (Nat.le_refl _))⟩
  exact ⟨Nat.le_trans (cutV_length xs lo hi) hz, _, (r.drop (HT.sIx xs.length 0 lo)).take (HT.sIx xs.length xs.length hi - HT.sIx xs.length 0 lo), IsTupN.new _ _⟩

noncomputable def rCatT (K : PySem.W.Frag) : R2 := fun x y H Q => ∃ a b xs ys, x = .ref a ∧ y = .ref b ∧ SqT K H a xs ∧ SqT K H b ys ∧ xs ≠ [] ∧ xs.length + ys.length ≤ sizeLine ∧
  (ys = [] → Q (.ref a) H) ∧ (ys ≠ [] → ∀ p, H p = none → Q (.ref p) (upd H p (.tup (xs ++ ys))))
theorem Vals.nil_iff {xs : List V} {us : List Value} (r : Vals xs us) : us = [] ↔ xs = [] := by
  cases r with
  | nil => simp
  | cons _ _ => simp
theorem op_catT : OpR X (binaryOp .Add) (rCatT X.K) := by
  intro pins s σ H x y v u Q I rx ry h
  obtain ⟨a, b, xs, ys, rfl, rfl, ha, hb, hx, hz, q1, q2⟩ := h
  cases rx
  cases ry
  obtain ⟨its, r1, p1, _⟩ := I.tuple ha
  obtain ⟨its2, r2, p2, _⟩ := I.tuple hb
  refine HT.cat_tup p1 p2 (fun z => hx (r1.nil_iff.mp z)) (fun z => ⟨.ref a, H, I, rfl, q1 (r2.nil_iff.mp z)⟩) (fun z => ?_) (by rw [← r1.length, ← r2.length]; exact hz)
  refine ⟨.ref s.heap.objs.size, _, I.laid (t' := s.toks) (o := .tup (xs ++ ys)) (fun b ob q => Heap.get?_push_of_some _ q) (Nat.le_refl _) ?_, rfl, q2 (fun w => z (r2.nil_iff.mpr w)) _ (I.hok.fresh (Nat.le_refl _))⟩
  exact ⟨by rw [List.length_append]; exact hz, _, r1.append r2, IsTupN.new _ _⟩
end
end L2

namespace L2
open PySem PySem.Spec PyProof.Rows

noncomputable def ixN (n : Nat) (i : Int) : Option Nat := if 0 ≤ i then (if i < n then some i.toNat else none) else if -(n : Int) ≤ i then some (i + n).toNat else none
noncomputable def atI {α : Type} (xs : List α) (i : Int) : Option α := (ixN xs.length i).bind fun j => xs[j]?
theorem ixN_seq {n : Nat} {i : Int} {j : Nat} (h : ixN n i = some j) : seqIndex? i n = some j ∧ j < n ∧ -(n : Int) ≤ i ∧ i < n := by
  unfold ixN at h
  by_cases h0 : 0 ≤ i
  · rw [if_pos h0] at h
    by_cases h1 : i < n
    · rw [if_pos h1] at h
      have e : i.toNat = j := Option.some.inj h
      exact ⟨by rw [seqIndex_of h0 h1, e], by omega, by omega, h1⟩
    · rw [if_neg h1] at h; cases h
  · rw [if_neg h0] at h
    by_cases h1 : -(n : Int) ≤ i
    · rw [if_pos h1] at h
      have e : (i + n).toNat = j := Option.some.inj h
      exact ⟨by rw [seqIndex_neg (by omega) h1, e], by omega, h1, by omega⟩
    · rw [if_neg h1] at h; cases h
theorem atI_get {α : Type} {xs : List α} {i : Int} {v : α} (h : atI xs i = some v) : ∃ j, seqIndex? i xs.length = some j ∧ xs[j]? = some v ∧ j < xs.length ∧ -(xs.length : Int) ≤ i ∧ i < xs.length := by
  unfold atI at h
  cases e : ixN xs.length i with
  | none => rw [e] at h; cases h
  | some j =>
    rw [e] at h
    obtain ⟨h1, h2, h3, h4⟩ := ixN_seq e
    exact ⟨j, h1, h, h2, h3, h4⟩
theorem atI_nat {α : Type} {xs : List α} {j : Nat} {v : α} (h : xs[j]? = some v) : atI xs (j : Int) = some v := by
  have hj : j < xs.length := (List.getElem?_eq_some_iff.mp h).1
  have e : ixN xs.length (j : Int) = some j := by
    unfold ixN
    rw [if_pos (by omega), if_pos (by omega)]; simp
  unfold atI; rw [e]; exact h
noncomputable def PlainIx (b : Expr) : Prop := ∀ o i, subscripted b false o i = operate [o, i] (getItem o i)
noncomputable def IxR (X : Cx) (r : R2) : Prop :=
  ∀ (value slice : Expr) (pins : List (Addr × Obj)) (s : Shared) (σ : St) (H : Hp) (x y : V) (v u : Value) (Q : VK), Inv X pins σ H s → RelV x v → RelV y u → r x y H Q →
    subscripted slice false v u = operate [v, u] (getItem v u) → wpAny (model X.prog X.w) X.A (subscriptTail value slice v u) (EP X pins σ Q) X.xe s
noncomputable def MtR (X : Cx) (id : String) (r : V → List V → Hp → VK → Prop) : Prop :=
  ∀ (pins : List (Addr × Obj)) (s : Shared) (σ : St) (H : Hp) (x : V) (xs : List V) (v : Value) (us : List Value) (Q : VK), Inv X pins σ H s → RelV x v → Vals xs us → r x xs H Q →
    wpAny (model X.prog X.w) X.A (call (.builtin id) (v :: us)) (EP X pins σ Q) X.xe s
section
variable {X : Cx} {a b : Expr} {ta tb : TE} {pos : Pos}
theorem pe_ix {r : R2} (hr : IxR X r) (ha : PE X a ta) (hb : PE X b tb) (hs : PlainIx b) : PE X (.Subscript a b pos) (tOp r ta tb) := by
  intro pins s σ H Q I h
  exact Subscript_ (binT ha hb I h fun v u s2 x y H2 I2 rx ry q => hr a b pins s2 σ H2 x y v u Q I2 rx ry q (hs _ _))

noncomputable def rIxL (K : PySem.W.Frag) : R2 := fun x y H Q => ∃ p xs i v, x = .ref p ∧ y = .int i ∧ SqL K H p xs ∧ atI xs i = some v ∧ Q v H
noncomputable def rIxT (K : PySem.W.Frag) : R2 := fun x y H Q => ∃ p xs i v, x = .ref p ∧ y = .int i ∧ SqT K H p xs ∧ atI xs i = some v ∧ Q v H
theorem ix_list : IxR X (rIxL X.K) := by
  intro value slice pins s σ H x y v u Q I rx ry h hs
  obtain ⟨p, xs, i, z, rfl, rfl, hq, he, q⟩ := h
  cases rx
  obtain ⟨t, rfl⟩ := ry
  obtain ⟨its, r, pl, hz⟩ := I.list hq
  obtain ⟨j, h1, h2, h3, h4, h5⟩ := atI_get he
  obtain ⟨w, ew, rw'⟩ := r.get h2
  have hl := r.length
  have hn := line63
  have fin : EP X pins σ Q w s := ⟨z, H, I, rw', q⟩
  by_cases h0 : 0 ≤ i
  · have hj : i.toNat = j := by
      rw [seqIndex_of h0 h5] at h1
      exact Option.some.inj h1
    exact item_listR pl.isList h0 (by omega) (by rw [hj]; simpa using ew) fin hs
  · have hj : (i + (its.toArray.size : Int)).toNat = j := by
      rw [seqIndex_neg (by omega) h4] at h1
      rw [List.size_toArray, ← hl]
      exact Option.some.inj h1
    exact subscriptTail_builtinR (x := w) pl.isList.typeIs slot_list_getitem.lookup
      (wpAny_getItem_list_neg (Q := fun r s' => r = w ∧ EP X pins σ Q r s') pl.isList (by omega) (by rw [List.size_toArray] <;> omega) (by omega) (by rw [hj]; simpa using ew) ⟨rfl, fin⟩) hs
theorem ix_tup : IxR X (rIxT X.K) := by
  intro value slice pins s σ H x y v u Q I rx ry h hs
  obtain ⟨p, xs, i, z, rfl, rfl, hq, he, q⟩ := h
  cases rx
  obtain ⟨t, rfl⟩ := ry
  obtain ⟨its, r, pl, hz⟩ := I.tuple hq
  obtain ⟨j, h1, h2, h3, h4, h5⟩ := atI_get he
  obtain ⟨w, ew, rw'⟩ := r.get h2
  have hl := r.length
  have hn := line63
  have fin : EP X pins σ Q w s := ⟨z, H, I, rw', q⟩
  exact subscriptTail_builtinR (x := w) pl.typeIs slot_tuple_getitem.lookup
    (getItem_tuple (j := j) (Q := fun r s' => r = w ∧ EP X pins σ Q r s') pl (by omega) (by omega) (by rw [List.size_toArray, ← hl]; exact h1) (by simpa using ew) ⟨rfl, fin⟩) hs
theorem slice_bounds (lo hi : Option Int) (n : Nat) : (sliceBounds lo hi none n).1 = ((HT.sIx n 0 lo : Nat) : Int) ∧ (sliceBounds lo hi none n).2.1 = ((HT.sIx n n hi : Nat) : Int) ∧ (sliceBounds lo hi none n).2.2 = 1 := by
  refine ⟨?_, ?_, rfl⟩
  · cases lo with
    | none => simp [sliceBounds, HT.sIx]
    | some i =>
      simp only [sliceBounds, HT.sIx, Option.getD_none, show (1 : Int) > 0 by decide, if_true]
      by_cases h : i < 0
      · simp only [h, if_true] <;> omega
      · simp only [h, if_false] <;> omega
  · cases hi with
    | none => simp [sliceBounds, HT.sIx]
    | some i =>
      simp only [sliceBounds, HT.sIx, Option.getD_none, show (1 : Int) > 0 by decide, if_true]
      by_cases h : i < 0
      · simp only [h, if_true] <;> omega
      · simp only [h, if_false] <;> omega
theorem slicePick_cut (its : List Value) (lo hi : Option Int) : slicePick its.toArray lo hi none = ((its.drop (HT.sIx its.length 0 lo)).take (HT.sIx its.length its.length hi - HT.sIx its.length 0 lo)).toArray := by
  obtain ⟨h1, h2, h3⟩ := slice_bounds lo hi its.toArray.size
  unfold slicePick
  rw [h1, h2, h3]
  simp only [sliceRange_one, pick_run, List.size_toArray] <;> rfl
noncomputable def rSlL (K : PySem.W.Frag) : V → Option Int → Option Int → Hp → VK → Prop := fun x lo hi H Q => ∃ a xs, x = .ref a ∧ SqL K H a xs ∧ ∀ p, H p = none → Q (.ref p) (upd H p (.lst (cutV xs lo hi)))
theorem sl_list : SlR X (rSlL X.K) := by
  intro pins s σ H x v vl vu lo hi sl Q I rx hs pl pu h
  obtain ⟨a, xs, rfl, hx, q⟩ := h
  cases rx
  obtain ⟨its, r, ht, hz⟩ := I.list hx
  have hlen := r.length
  refine ⟨"list", _, slot_list_getitem.lookup, ht.isList.typeIs, ?_⟩
  refine wpAny_getItem_list_slice ht.isList hs pl pu .none (by simp) ?_ (by rw [List.size_toArray] <;> omega)
  rw [slicePick_cut, ← hlen]
  refine ⟨.ref s.heap.objs.size, _, I.laid (t' := s.toks) (o := .lst (cutV xs lo hi)) (fun b ob q => Heap.get?_push_of_some _ q) (Nat.le_refl _) ?_, rfl, q _ (I.hok.fresh (Nat.le_refl _))⟩
  exact ⟨Nat.le_trans (cutV_length xs lo hi) hz, _, 0, (r.drop (HT.sIx xs.length 0 lo)).take (HT.sIx xs.length xs.length hi - HT.sIx xs.length 0 lo), Heap.get?_push_size _ rfl⟩

noncomputable def flatV : V → Bool
  | .non => true
  | .bl _ => true
  | .int _ => true
  | .str _ => true
  | _ => false
noncomputable def eqV : V → V → Bool
  | .non, .non => true
  | .bl a, .bl b => a == b
  | .bl a, .int b => (if a then 1 else 0) == b
  | .int a, .bl b => a == (if b then 1 else 0)
  | .int a, .int b => a == b
  | .str a, .str b => a == b
  | _, _ => false
theorem eqAt_V {A : Around} {s : Shared} {y x : V} {u v : Value} (ry : RelV y u) (rx : RelV x v) (fy : flatV y = true) (fx : flatV x = true) : SeqAt.EqAt A s u v (eqV y x) := by
  cases y with
  | non =>
    cases ry
    cases x with
    | non => cases rx; exact SeqAt.EqAt.same _
    | bl b => cases rx; exact SeqAt.EqAt.none_bool b
    | int b => obtain ⟨t, rfl⟩ := rx; exact SeqAt.EqAt.none_int b t
    | str b => obtain ⟨t, rfl⟩ := rx; exact SeqAt.EqAt.none_str b t
    | _ => exact absurd (show false = true from fx) Bool.false_ne_true
  | bl a =>
    cases ry
    cases x with
    | non => cases rx; exact SeqAt.EqAt.bool_none a
    | bl b => cases rx; exact SeqAt.EqAt.bool_bool a b
    | int b => obtain ⟨t, rfl⟩ := rx; exact SeqAt.EqAt.bool_int a b t
    | str b => obtain ⟨t, rfl⟩ := rx; exact SeqAt.EqAt.bool_str a b t
    | _ => exact absurd (show false = true from fx) Bool.false_ne_true
  | int a =>
    obtain ⟨t', rfl⟩ := ry
    cases x with
    | non => cases rx; exact SeqAt.EqAt.int_none a t'
    | bl b => cases rx; exact SeqAt.EqAt.int_bool a t' b
    | int b => obtain ⟨t, rfl⟩ := rx; exact SeqAt.EqAt.int_int a t' b t
    | str b => obtain ⟨t, rfl⟩ := rx; exact SeqAt.EqAt.int_str a t' b t
    | _ => exact absurd (show false = true from fx) Bool.false_ne_true
  | str a =>
    obtain ⟨t', rfl⟩ := ry
    cases x with
    | non => cases rx; exact SeqAt.EqAt.str_none a t'
    | bl b => cases rx; exact SeqAt.EqAt.str_bool a t' b
    | int b => obtain ⟨t, rfl⟩ := rx; exact SeqAt.EqAt.str_int a t' b t
    | str b => obtain ⟨t, rfl⟩ := rx; exact SeqAt.EqAt.str_str a t' b t
    | _ => exact absurd (show false = true from fx) Bool.false_ne_true
  | _ => exact absurd (show false = true from fy) Bool.false_ne_true
theorem call_len_seq : CallR X (.builtin "len") (fun xs H Q => ∃ p ys, xs = [.ref p] ∧ (SqL X.K H p ys ∨ SqT X.K H p ys) ∧ Q (.int ys.length) H) := by
  intro pins s σ H xs us Q I r h
  obtain ⟨p, ys, rfl, hq, q⟩ := h
  obtain ⟨u, rfl, rx⟩ := vals1 r
  cases rx
  have hn := line63
  rcases hq with hq | hq
  · obtain ⟨its, r', pl, hz⟩ := I.list hq
    have hlen := r'.length
    exact Calls.call_len_list pl.isList (by simp only [List.size_toArray] <;> omega) ⟨.int ys.length, H, I.tok _, ⟨s.toks + 1, by rw [List.size_toArray, hlen]⟩, q⟩
  · obtain ⟨its, r', pl, hz⟩ := I.tuple hq
    have hlen := r'.length
    exact len_tuple pl (by simp only [List.size_toArray] <;> omega) ⟨.int ys.length, H, I.tok _, ⟨s.toks + 1, by rw [List.size_toArray, hlen]⟩, q⟩
theorem call_list_of : CallR X (.type "list") (fun xs H Q => ∃ p ys, xs = [.ref p] ∧ (SqL X.K H p ys ∨ SqT X.K H p ys) ∧ ∀ l, H l = none → Q (.ref l) (upd H l (.lst ys))) := by
  intro pins s σ H xs us Q I r h
  obtain ⟨p, ys, rfl, hq, q⟩ := h
  obtain ⟨u, rfl, rx⟩ := vals1 r
  cases rx
  have fin : ∀ (its : List Value), Vals ys its → ys.length ≤ sizeLine → ∀ (h' : Heap) (c' : Nat), (∀ b o', s.heap.get? b = some o' → h'.get? b = some o') →
      h'.get? s.heap.objs.size = some { cls := .type "list", dict := none, data := .seq its.toArray c', slots := #[] } → EP X pins σ Q (.ref s.heap.objs.size) { s with heap := h' } := fun its r' hz h' c' kp e =>
    ⟨.ref s.heap.objs.size, _, I.laid (t' := s.toks) kp (Nat.le_refl _) (show ObjOk X.prog X.w _ h' _ (.lst ys) from ⟨hz, its, c', r', e⟩), rfl, q _ (I.hok.fresh (Nat.le_refl _))⟩
  rcases hq with hq | hq
  · obtain ⟨its, r', pl, hz⟩ := I.list hq
    have hlen := r'.length
    obtain ⟨o, ho, hc, n, hd⟩ := pl.isList
    exact call_list_seq p (.inl rfl) ho hc hd (fun h' c' kp e => fin its r' hz h' c' kp e) (by simp only [List.size_toArray] <;> omega)
  · obtain ⟨its, r', pl, hz⟩ := I.tuple hq
    have hlen := r'.length
    obtain ⟨o, ho, hc, n, hd⟩ := pl
    exact call_list_seq p (.inr rfl) ho hc hd (fun h' c' kp e => fin its r' hz h' c' kp e) (by simp only [List.size_toArray] <;> omega)
theorem call_tuple_of : CallR X (.type "tuple") (fun xs H Q => ∃ p ys, xs = [.ref p] ∧ ((SqL X.K H p ys ∧ ∀ l, H l = none → Q (.ref l) (upd H l (.tup ys))) ∨ (SqT X.K H p ys ∧ Q (.ref p) H))) := by
  intro pins s σ H xs us Q I r h
  obtain ⟨p, ys, rfl, h⟩ := h
  obtain ⟨u, rfl, rx⟩ := vals1 r
  cases rx
  rcases h with ⟨hq, q⟩ | ⟨hq, q⟩
  · obtain ⟨its, r', pl, hz⟩ := I.list hq
    have hlen := r'.length
    refine call_tuple_list pl.isList (fun h' kp => ?_) (by simp only [List.size_toArray] <;> omega)
    have I1 : Inv X pins σ H { s with heap := h' } := I.kept (t' := s.toks) kp
    have I2 : Inv X pins σ (upd H h'.objs.size (.tup ys)) { s with heap := h'.push { cls := .type "tuple", data := .seq its.toArray } } :=
      I1.laid (t' := s.toks) (fun b o e => Heap.get?_push_of_some _ e) (Nat.le_refl _) (show ObjOk X.prog X.w _ _ _ (.tup ys) from ⟨hz, its, r', IsTupN.new _ _⟩)
    exact ⟨.ref h'.objs.size, _, I2, rfl, q _ (I1.hok.fresh (Nat.le_refl _))⟩
  · obtain ⟨its, r', pl, hz⟩ := I.tuple hq
    exact call_tuple_same pl ⟨.ref p, H, I, rfl, q⟩

noncomputable def tyV (K : PySem.W.Frag) (T : String) (x : V) (H : Hp) : Prop := match x with
  | .str _ => T = "str"
  | .int _ => T = "int"
  | .ref p => (T = "list" ∧ ∃ xs, SqL K H p xs) ∨ (T = "tuple" ∧ ∃ o, K.lookup p = some o ∧ o.cls = .type "tuple" ∧ o.dict = none) ∨
      (T = "dict" ∧ ((∃ kvs, H p = some (.dK kvs)) ∨ ∃ kvs, H p = some (.dT kvs))) ∨ (T = "set" ∧ ∃ S n, H p = some (.set S n))
  | _ => False
theorem tyV_is {pins : List (Addr × Obj)} {σ : St} {H : Hp} {s : Shared} {T : String} {x : V} {v : Value} (I : Inv X pins σ H s) (r : RelV x v) (ty : tyV X.K T x H) :
    s.TypeIs v T ∧ ∀ a, v = .ref a → ∃ ob, s.heap.get? a = some ob ∧ ob.dict = none := by
  cases x with
  | str z =>
    obtain ⟨t, rfl⟩ := r
    cases (show T = "str" from ty)
    exact ⟨typeIs_str s z t, fun _ e => nomatch e⟩
  | int i =>
    obtain ⟨t, rfl⟩ := r
    cases (show T = "int" from ty)
    exact ⟨typeIs_int s i t, fun _ e => nomatch e⟩
  | ref p =>
    cases r
    rcases ty with ⟨rfl, xs, hq⟩ | ⟨rfl, o, hk, hc, hd⟩ | ⟨rfl, hk⟩ | ⟨rfl, S, n, hk⟩
    · obtain ⟨its, _, pl, _⟩ := I.list hq
      refine ⟨pl.isList.typeIs, fun a e => ?_⟩
      cases e
      obtain ⟨o, n, e, c, hd, _⟩ := pl
      exact ⟨o, e, hd⟩
    · refine ⟨⟨o, I.kIn p o hk, hc⟩, fun a e => ?_⟩
      cases e
      exact ⟨o, I.kIn _ o hk, hd⟩
    · have z : ∃ o, s.heap.get? p = some o ∧ o.ExactDict := by
        rcases hk with ⟨kvs, hk⟩ | ⟨kvs, hk⟩
        · obtain ⟨_, _, _, _, o, _, _, e, ex, _⟩ := I.hok p _ hk
          exact ⟨o, e, ex⟩
        · obtain ⟨_, _, _, _, o, _, _, e, ex, _⟩ := I.hok p _ hk
          exact ⟨o, e, ex⟩
      obtain ⟨o, e, ex⟩ := z
      refine ⟨⟨o, e, ex.1⟩, fun a e2 => ?_⟩
      cases e2
      exact ⟨o, e, ex.2.1⟩
    · obtain ⟨o, _, _, _, e, ex, _⟩ := I.hok p _ hk
      refine ⟨⟨o, e, ex.1⟩, fun a e2 => ?_⟩
      cases e2
      exact ⟨o, e, ex.2.1⟩
  | _ => exact False.elim ty
noncomputable def tBM0 (K : PySem.W.Frag) (T : String) (r : V → List V → Hp → VK → Prop) (to : TE) : TE := fun σ H Q => to σ H fun x H1 => tyV K T x H1 ∧ r x [] H1 Q
noncomputable def tBM (K : PySem.W.Frag) (T : String) (r : V → List V → Hp → VK → Prop) (to : TE) (t : TA) : TE := fun σ H Q => to σ H fun x H1 => tyV K T x H1 ∧ t σ H1 fun xs H2 => r x xs H2 Q
variable {o e : Expr} {es : List Expr} {to : TE} {t : TA} {name : Str} {apos cpos : Pos} {T id : String} {r : V → List V → Hp → VK → Prop}
theorem pe_bm0 (pa : PlainAttrs T) (slot : Slot T name id) (hty : typeOf (.builtin id) = pure (.type "method_descriptor")) (hm : MtR X id r) (ho : PE X o to)
    (hbase : attributeBase o name X.env (eval o X.env) = eval o X.env := by rfl) (hline : (apos.endLine == cpos.line) = true := by rfl) : PE X (.Call (.Attribute o name apos) [] [] cpos) (tBM0 X.K T r to) := by
  intro pins s σ H Q I h
  refine wpAny_Call_method0_late hbase hline (thn (ho pins s σ H _ I h) fun v s1 ⟨x, H1, I1, r1, ty, q1⟩ => ?_)
  obtain ⟨h1, h2⟩ := tyV_is I1 r1 ty
  exact ⟨T, id, pa, slot, hty, h1, h2, Calls.callWith_builtin rfl (PySem.evalArgs_none (hm pins s1 σ H1 x [] v [] Q I1 r1 .nil q1))⟩
theorem pe_bm (pa : PlainAttrs T) (slot : Slot T name id) (hty : typeOf (.builtin id) = pure (.type "method_descriptor")) (hm : MtR X id r) (ho : PE X o to) (ha : PA X (e :: es) t)
    (hbase : attributeBase o name X.env (eval o X.env) = eval o X.env := by rfl)
    (hfew : ((backTo cpos (starEach (e :: es) X.env)).all (fun x => !x.1) && (backToKw cpos (keywordEach [] X.env)).all (fun x => x.1.isSome)
      && decide ((e :: es).length + ([] : List Keyword).length + (if ([] : List Keyword).isEmpty then 0 else 1) < 30)) = true := by rfl)
    (hline : (apos.endLine == cpos.line) = true := by rfl) (hs : starEach (e :: es) X.env = (false, eval e X.env) :: starEach es X.env := by rfl) (hplain : (backTo cpos (starEach es X.env)).any (·.1) = false := by rfl) :
    PE X (.Call (.Attribute o name apos) (e :: es) [] cpos) (tBM X.K T r to t) := by
  intro pins s σ H Q I h
  refine wpAny_Call_method_late hbase hfew hline rfl (thn (ho pins s σ H _ I h) fun v s1 ⟨x, H1, I1, r1, ty, q1⟩ => ?_)
  obtain ⟨h1, h2⟩ := tyV_is I1 r1 ty
  refine ⟨T, id, pa, slot, hty, h1, h2, ?_⟩
  have hA := ha cpos pins s1 σ H1 _ I1 q1
  rw [hs] at hA ⊢
  refine Calls.callWith_builtin (by show (false || (backTo cpos (starEach es X.env)).any (·.1)) = false; rw [hplain] <;> rfl) (Calls.evalArgs_plain ?_)
  exact thn hA fun us s2 ⟨vs, H2, I2, r2, q2⟩ => hm pins s2 σ H2 x vs v us Q I2 r1 r2 q2
end
end L2

namespace L2
open PySem PySem.Spec PyProof.Rows

noncomputable def MtM (X : Cx) (id : String) (r : V → List V → Hp → VK → Prop) : Prop :=
  ∀ (pins : List (Addr × Obj)) (s : Shared) (σ : St) (H : Hp) (x : V) (xs : List V) (v : Value) (us : List Value) (Q : VK), Inv X pins σ H s → RelV x v → Vals xs us → r x xs H Q →
    wpAny (model X.prog X.w) X.A (call (.builtin id) (v :: us)) (EP X pins σ Q) X.xe s

theorem Vals.one : ∀ {x : V} {us : List Value}, Vals [x] us → ∃ u, us = [u] ∧ RelV x u
  | _, _, .cons r .nil => ⟨_, rfl, r⟩
theorem Vals.two : ∀ {x y : V} {us : List Value}, Vals [x, y] us → ∃ u v, us = [u, v] ∧ RelV x u ∧ RelV y v
  | _, _, _, .cons r (.cons q .nil) => ⟨_, _, rfl, r, q⟩
theorem Vals.zero : ∀ {us : List Value}, Vals [] us → us = []
  | _, .nil => rfl
theorem Vals.eraseIdx : ∀ {xs : List V} {us : List Value} (i : Nat), Vals xs us → Vals (xs.eraseIdx i) (us.eraseIdx i)
  | _, _, _, .nil => .nil
  | _, _, 0, .cons _ t => t
  | _, _, i + 1, .cons r t => .cons r (Vals.eraseIdx i t)
theorem Vals.reverse {xs : List V} {us : List Value} (h : Vals xs us) : Vals xs.reverse us.reverse := by
  induction h with
  | nil => exact .nil
  | cons r t ih => rw [List.reverse_cons, List.reverse_cons]; exact Vals.append ih (.cons r .nil)
theorem len_erase {α : Type} : ∀ (l : List α) (i : Nat), (l.eraseIdx i).length ≤ l.length
  | [], _ => Nat.le_refl _
  | _ :: _, 0 => Nat.le_succ _
  | _ :: r, i + 1 => Nat.succ_le_succ (len_erase r i)
section
variable {X : Cx} {pins : List (Addr × Obj)} {σ : St} {H : Hp} {s : Shared} {l b : Addr} {xs ys zs : List V}

theorem Inv.lset {its its' : List Value} {n : Nat} {f : Array Value → Array Value} {t' : Nat} (I : Inv X pins σ H s) (hH : H l = some (.lst xs))
    (e : s.heap.get? l = some { cls := .type "list", data := .seq its.toArray n }) (hf : f its.toArray = its'.toArray) (hv : Vals ys its') (hz : ys.length ≤ sizeLine) :
    Inv X pins σ (upd H l (.lst ys)) { s with heap := s.heap.update l (Obj.mapSeq f), toks := t' } := by
  have q := PySem.IsL.update e f
  rw [hf] at q
  refine I.write (x := l) (e := l) (by rw [hH]; exact trivial) (.inl rfl) (fun b' u hb hu => (Heap.get?_update_other s.heap (Obj.mapSeq f) (Ne.symm hb)).trans hu) ⟨_, q⟩ ?_
  exact ⟨hz, its', _, hv, q⟩
theorem Inv.lstM (I : Inv X pins σ H s) (hH : H l = some (.lst xs)) : xs.length ≤ sizeLine ∧ ∃ (its : List Value) (n : Nat), Vals xs its ∧ xs.length = its.length ∧ s.heap.get? l = some { cls := .type "list", data := .seq its.toArray n } := by
  obtain ⟨z, its, n, r, e⟩ := I.hok l _ hH
  exact ⟨z, its, n, r, r.length, e⟩

theorem notLongL {n : Nat} (h : n ≤ sizeLine) : Builtin.List.listTooLong n = false := by
  unfold Builtin.List.listTooLong
  exact decide_eq_false (by omega)
end

section
variable {X : Cx}

noncomputable def rAppend : V → List V → Hp → VK → Prop := fun x vs H Q => ∃ l xs y, x = .ref l ∧ vs = [y] ∧ H l = some (.lst xs) ∧ xs.length < sizeLine ∧ Q .non (upd H l (.lst (xs ++ [y])))
theorem mt_append : MtM X "list.append" rAppend := by
  intro pins s σ H x vs v us Q I rx rv h
  obtain ⟨l, xs, y, rfl, rfl, hH, hz, q⟩ := h
  cases rx
  obtain ⟨u, rfl, ru⟩ := rv.one
  obtain ⟨z, its, n, r, hl, e⟩ := I.lstM hH
  refine call_meets F.slot_list_append ⟨_, e, rfl⟩ F.entry_list_append (F.args_list_append_2 _ _) (PySem.list_append l its.toArray n u (by rw [List.size_toArray]; omega)) ⟨e, ?_⟩
  refine ⟨.non, _, I.lset (its' := its ++ [u]) hH e (by simp) (r.append (.cons ru .nil)) ?_, rfl, q⟩
  rw [List.length_append, List.length_singleton]
  omega

noncomputable def rExtend : V → List V → Hp → VK → Prop := fun x vs H Q => ∃ l b xs zs, x = .ref l ∧ vs = [.ref b] ∧ H l = some (.lst xs) ∧ H b = some (.lst zs) ∧ xs.length + zs.length ≤ sizeLine ∧ Q .non (upd H l (.lst (xs ++ zs)))
theorem mt_extend : MtM X "list.extend" rExtend := by
  intro pins s σ H x vs v us Q I rx rv h
  obtain ⟨l, b, xs, zs, rfl, rfl, hH, hB, hz, q⟩ := h
  cases rx
  obtain ⟨u, rfl, ru⟩ := rv.one
  cases ru
  obtain ⟨z, its, n, r, hl, e⟩ := I.lstM hH
  obtain ⟨z2, its2, n2, r2, hl2, e2⟩ := I.lstM hB
  have hsz : its.toArray.size + its2.toArray.size ≤ sizeLine := by rw [List.size_toArray, List.size_toArray]; omega
  have hlong : ¬ (!its.toArray.isEmpty && Builtin.List.listTooLong (its.toArray.size + its2.toArray.size)) = true := by
    rw [notLongL hsz, Bool.and_false]
    exact Bool.false_ne_true
  refine call_meets F.slot_list_extend ⟨_, e, rfl⟩ F.entry_list_extend (F.args_list_extend_2 _ _)
    (AutoSeq1.list_extend_list_list_0 l its.toArray n b its2.toArray n2 hlong (by rw [List.size_toArray]; omega) (by omega)) ⟨e, e2, ?_⟩
  refine ⟨.non, _, I.lset (its' := its ++ its2) hH e (by simp) (r.append r2) ?_, rfl, q⟩
  rw [List.length_append]
  omega

noncomputable def rPopAt : V → List V → Hp → VK → Prop := fun x vs H Q => ∃ l xs i k y, x = .ref l ∧ vs = [.int i] ∧ H l = some (.lst xs) ∧ -(2 ^ 63) ≤ i ∧ i < 2 ^ 63 ∧ seqIndex? i xs.length = some k ∧ xs[k]? = some y ∧ Q y (upd H l (.lst (xs.eraseIdx k)))
theorem mt_popAt : MtM X "list.pop" rPopAt := by
  intro pins s σ H x vs v us Q I rx rv h
  obtain ⟨l, xs, i, k, y, rfl, rfl, hH, h1, h2, hk, hy, q⟩ := h
  cases rx
  obtain ⟨u, rfl, ru⟩ := rv.one
  obtain ⟨t, rfl⟩ := ru
  obtain ⟨z, its, n, r, hl, e⟩ := I.lstM hH
  obtain ⟨w, hw, rw'⟩ := r.get hy
  refine call_meets F.slot_list_pop ⟨_, e, rfl⟩ F.entry_list_pop (F.args_list_pop_2 _ _)
    (MeetsSeq.list_pop_at l its.toArray n i t k w (fitsIndex_both h1 h2) (by rw [List.size_toArray, ← hl]; exact hk) (by rw [← Array.getElem?_toList]; exact hw) (by rw [List.size_toArray]; omega)) ⟨e, ?_⟩
  refine ⟨y, _, I.lset (its' := its.eraseIdx k) hH e ?_ (r.eraseIdx k) ?_, rw', q⟩
  · show its.toArray.eraseIdxIfInBounds k = (its.eraseIdx k).toArray
    rw [List.eraseIdxIfInBounds_toArray]
  · have := len_erase xs k
    omega

noncomputable def rReverse : V → List V → Hp → VK → Prop := fun x vs H Q => ∃ l xs, x = .ref l ∧ vs = [] ∧ H l = some (.lst xs) ∧ Q .non (upd H l (.lst xs.reverse))
theorem mt_reverse : MtM X "list.reverse" rReverse := by
  intro pins s σ H x vs v us Q I rx rv h
  obtain ⟨l, xs, rfl, rfl, hH, q⟩ := h
  cases rx
  have hus := rv.zero
  subst hus
  obtain ⟨z, its, n, r, hl, e⟩ := I.lstM hH
  refine call_meets F.slot_list_reverse ⟨_, e, rfl⟩ F.entry_list_reverse (F.args_list_reverse_1 _) (AutoSeq1.list_reverse_list_0 l its.toArray n (by rw [List.size_toArray]; omega)) ⟨e, ?_⟩
  refine ⟨.non, _, I.lset (its' := its.reverse) hH e (by simp) r.reverse ?_, rfl, q⟩
  rw [List.length_reverse]
  omega

end

section
variable {prog : Program} {w : World} {A : Around} {E : Value → Shared → Prop} {s : Shared}
set_option maxRecDepth 100000 in
end

section
variable {X : Cx}
end
end L2

namespace L2
open PySem PySem.Spec PyProof.Rows

section
variable {κ : Type} [DecidableEq κ]
end


section
variable {P : Program} {w : World} {H : Hp} {h : Heap} {a : Addr}
end

section
variable {X : Cx} {pins : List (Addr × Obj)} {σ : St} {H : Hp} {s : Shared} {a : Addr} {y v : V} {u r : Value} {o : Option V} {A : Around} {E : Value → Shared → Prop}

end

section
variable {X : Cx} {pins : List (Addr × Obj)} {σ : St} {H : Hp} {s : Shared} {a : Addr} {kvs : List (Key × V)} {k : Key} {u : Value} {A : Around} {E : Value → Shared → Prop}
end


section
variable {X : Cx} {o i e value : Expr} {pos pos' tpos : Pos} {td ty tv : TE}
end


section
variable {X : Cx} {pos : Pos}
end

section
variable {X : Cx} {pins : List (Addr × Obj)} {σ : St} {H : Hp} {s : Shared} {a : Addr} {y d : V} {u r : Value} {o : Option V} {A : Around} {E : Value → Shared → Prop}
end

section
variable {X : Cx} {o e f : Expr} {apos cpos : Pos} {td ty tx : TE}
end

section
variable {X : Cx} {pins : List (Addr × Obj)} {σ : St} {H : Hp} {s : Shared} {a : Addr} {kvs : List (Key × V)} {A : Around} {E : Value → Shared → Prop}
end


section
variable {X : Cx} {pins : List (Addr × Obj)} {σ : St} {H : Hp} {s : Shared} {a : Addr} {y : V} {u : Value} {A : Around} {E : Value → Shared → Prop}
end
end L2

namespace Att
open PySem PySem.W PySem.Calls PyProof.Rows

theorem ints_of_wellAll {P : Params} {h : Heap} : ∀ (ns : List Int) (vs : List Value), WellAll P h vs (ns.map WData.int) → IntsAre vs ns := by
  intro ns
  induction ns with
  | nil =>
    intro vs w
    rw [List.map_nil] at w
    cases w
    exact .nil
  | cons n ns ih =>
    intro vs w
    rw [List.map_cons] at w
    cases w with
    | cons a b =>
      cases a
      exact .cons _ _ (ih _ b)

theorem script_of {l : OpenLaw} {n : Nat} (hn : l.most = some n) {P : Params} {h : Heap} {args : List WData} {vals : List Value}
    (hpre : l.row.toRowW.claim.pre args = true) (hwl : WellAll P h vals args) :
    ∃ a vs ns, vals = [Value.ref a] ∧ args = [WData.list (ns.map WData.int)] ∧ h.get? a = some { cls := .type "list", data := .seq vs.toArray } ∧ IntsAre vs ns ∧ ns.length ≤ n := by
  have hsh : WShape.hasAll [] args [.list .int] = true := (pre_splitW hpre).1
  have hc : l.pre.holds [] { args := args } = true := (pre_splitW hpre).2
  obtain ⟨d, r, rfl, h1, h2⟩ := hasAllW_cons hsh
  obtain rfl := hasAllW_nil h2
  obtain ⟨xs, rfl, h3⟩ := hasW_list h1
  obtain ⟨ns, rfl⟩ := items_int h3
  have hlen : ns.length ≤ n := by
    unfold OpenLaw.pre at hc
    have h4 : (WTm.not (.lt (.lit (.int (n : Int))) (.len (.arg 0)))).holds [] { args := [.list (ns.map .int)] } = true := by
      have h4 := (holds_andW hc).1
      rw [hn] at h4
      exact h4
    have h5 := condW_of h4 (w_not (w_lt w_lit (w_len_list (w_arg rfl))))
    rw [List.length_map] at h5
    refine Nat.le_of_not_lt fun q => ?_
    have q' : (n : Int) < ((ns.length : Nat) : Int) := by omega
    first
      | (rw [decide_eq_true q'] at h5; exact absurd h5 (by decide))
      | (simp at h5; omega)
  cases hwl with
  | cons w1 w2 =>
    cases w2
    cases w1 with
    | list ho hall => exact ⟨_, _, ns, rfl, rfl, ho, ints_of_wellAll ns _ hall, hlen⟩

theorem post_true (l : OpenLaw) (args : List WData) : l.row.toRowW.claim.post args (.bool true) args = true :=
  postW_of (r := l.row.toRowW) (X := (true == true))
    (show WShape.has [] (.bool true) .bool = true by first | rfl | decide | simp [WShape.has, WShape.arms, WShape.armsAll])
    (show (WTm.eq .res (.lit (.bool true))).value [] { args := args, res := some (.bool true), after := args } = some (.bool (true == true)) from w_eq_bool (w_res rfl) w_lit) rfl

theorem attach_call {l : OpenLaw} {n : Nat} {q : Program} {loose : List Str} {XP : (Str → Option Value) → Heap → Prop} {YP : World → Heap → Prop} {d : DefRec}
    (hn : l.most = some n) (hdf : d.params.defaults = [])
    (call : ∀ (w : World) (s₀ s₁ : Shared) (mg mb : Str → Option Value) (fa : Addr) (o : Obj) (pm cd doc : Value) (a : Addr) (vs : List Value) (ns : List Int),
      Ground q loose [] XP w s₀ mg mb s₁.heap → YP w s₁.heap →
      s₁.heap.get? fa = some o → o.data = .func (docDef d.name d.params d.body d.scope pm cd doc) → s₁.heap.CodeRec cd d.name → mg d.name = some (.ref fa) →
      s₁.heap.get? a = some { cls := .type "list", data := .seq vs.toArray } → IntsAre vs ns → ns.length ≤ n → s₁.gens = #[] →
      codeAny (model l.prog w) callerA (.call (.ref fa) ⟨[.ref a], []⟩) (fun r s' => r = .ok (.ret (.bool true)) ∧ OldK s₁.heap s'.heap ∧ s'.os = s₁.os ∧ AllBare s'.gens) s₁) :
    WalkO q loose XP YP l.row.toRowW d [] (fun f vs => PySem.call f vs) := by
  intro w s₀ s₁ mg mb G Y fa o pm cd doc dV kV ho hd hcd hD hmg hg args vals as hpre hlay hrd hwl hlo
  obtain rfl : dV = .none := Dflts.none hD hdf
  obtain rfl : kV = .none := Dflts.noKw hD
  obtain ⟨a, vs, ns, rfl, rfl, hobj, hints, hlen⟩ := script_of hn hpre hwl
  refine enter_call (codeAny_mono (call w s₀ s₁ mg mb fa o pm cd doc a vs ns G Y ho (fd_plain hd) hcd hmg hobj hints hlen hg) fun r s' hq => ?_)
  obtain ⟨rfl, h2, h3, h4⟩ := hq
  exact ⟨.inl ⟨.bool true, .bool true, [], rfl, fun _ => rfl, .bool true, post_true l _, fun _ => ⟨List.Pairwise.nil, fun _ hm => (nomatch hm)⟩⟩, h2, h3, h4⟩

section
variable {prog : Program} {w : World} {A : Around} {E : Value → Shared → Prop} {s : Shared} {K : Frag}

end
end Att

namespace L2
open PySem PySem.Spec PyProof.Rows

theorem vals_ints : ∀ {vs : List Value} {ns : List Int}, IntsAre vs ns → Vals (ns.map V.int) vs
  | _, _, .nil => .nil
  | _, _, .cons n t h => .cons ⟨t, rfl⟩ (vals_ints h)

noncomputable def Only (H : Hp) : Prop := ∀ b, H b = none ∨ ∃ o xs, H b = some (.frz o (.lst xs))

theorem law_call {P : Program} {w : World} {K : PySem.W.Frag} {mg mb : Str → Option Value} {CX : CXT} {k : Nat} {fa a : Addr} {fd : FuncData} {x : Str} {sp : Sp} {s₁ : Shared} {vs : List Value} {ns : List Int}
    (KX : K.In s₁.heap) (hns : s₁.heap.Ns mainGlobals mg) (hb : s₁.heap.Ns builtinsNs mb) (hbb : ∀ x : Str, x ≠ "__name__" → mb x = bootBuiltins x) (hlim : s₁.heap.NoLimit) (hg : s₁.gens = #[])
    (ha : s₁.heap.get? a = some { cls := .type "list", data := .seq vs.toArray }) (hi : IntsAre vs ns) (hl : ns.length ≤ sizeLine) (hr : Room k callerA)
    (F : ∀ base : Heap, K.In base → base.Ns mainGlobals mg → FnOk P w K mg base CX k fa fd [x] sp) (hbind : ∀ (s : Shared) (u : Value), BindsTo s fd ⟨[u], []⟩ [(x, u)])
    (hsp : ∀ H : Hp, Only H → SqL K H a (ns.map V.int) → sp [.ref a] H (fun v _ => v = .bl true) fun _ _ _ => False)
    (hCX : ∀ H e s', CX [] H s₁ (fun _ _ _ => False) e s' → False) :
    codeAny (model P w) callerA (.call (.ref fa) ⟨[.ref a], []⟩) (fun r s' => r = .ok (.ret (.bool true)) ∧ OldK s₁.heap s'.heap ∧ s'.os = s₁.os ∧ AllBare s'.gens) s₁ := by
  have rv := vals_ints hi
  have lenV := hi.length
  -- from an abstract heap in which nothing but the script may be tracked
  have core : ∀ H : Hp, Only H → SqL K H a (ns.map V.int) → HOk P w H s₁.heap → (∀ b, H b ≠ none → b = a) → (H a ≠ none → K.lookup a = none) →
      codeAny (model P w) callerA (.call (.ref fa) ⟨[.ref a], []⟩) (fun r s' => r = .ok (.ret (.bool true)) ∧ OldK s₁.heap s'.heap ∧ s'.os = s₁.os ∧ AllBare s'.gens) s₁ := by
    intro H hO hS hok hA hK
    have base_of : ∀ {b : Addr} {o : Obj}, s₁.heap.get? b = some o → H b = none → (hidT s₁.heap H).get? b = some o := fun e n => hidT_get e n
    have noA : ∀ {b : Addr} {o : Obj} {es : Array DictEntry} {ep : Nat}, s₁.heap.get? b = some o → o.data = .dict es ep → H b = none := fun {b o es ep} e d => by
      cases q : H b with
      | none => rfl
      | some u =>
        have e' : b = a := hA b (by rw [q]; simp)
        subst e'
        rw [ha] at e; cases e
        have d' : Data.seq vs.toArray _ = Data.dict es ep := d
        cases d'
    have nsK : ∀ {b : Addr} {m : Str → Option Value}, s₁.heap.Ns b m → (hidT s₁.heap H).Ns b m := fun {b m} ⟨o, es, ep, e, d, r⟩ => ⟨o, es, ep, base_of e (noA e d), d, r⟩
    have hKb : K.In (hidT s₁.heap H) := fun b o e => base_of (KX b o e) (by
      cases q : H b with
      | none => rfl
      | some u =>
        have e' : b = a := hA b (by rw [q]; simp)
        subst e'
        rw [hK (by rw [q]; simp)] at e; cases e)
    have hM : Mod K mg (hidT s₁.heap H) := ⟨hKb, nsK hns, ⟨mb, nsK hb, hbb⟩, let ⟨mc, h1, h2⟩ := hlim; ⟨mc, nsK h1, h2⟩⟩
    have e0 : Env0 P w K mg (hidT s₁.heap H) callerA [] s₁ H := ⟨rfl, hM, fun b o e => of_hidT e, Nat.le_of_eq (hidT_size _ _), trivial, fun b hb => absurd (show b ∈ ([] : List Addr) from hb) (by simp), hok, .of_eq hg⟩
    refine codeAny_mono ((F _ hKb (nsK hns)).run callerA [] s₁ H ⟨[.ref a], []⟩ [.ref a] [.ref a] _ _ hr e0 (hbind s₁ (.ref a)) (.cons rfl .nil) (hsp H hO hS)) fun r s' h => ?_
    cases r with
    | error e => exact (hCX H e s' h).elim
    | ok fl =>
      cases fl with
      | next => exact False.elim h
      | brk => exact False.elim h
      | cont => exact False.elim h
      | ret u =>
        obtain ⟨v, H', os, bare, un, hok', r', q⟩ := h
        have q' : v = .bl true := q
        subst q'
        obtain rfl : u = Value.bool true := r'
        refine ⟨rfl, OldK.of_keep fun b o e => ?_, os, bare⟩
        cases q : H b with
        | none => exact un.keep b o e q (by intro z; exact absurd (show b ∈ ([] : List Addr) from z) (by simp)) (by simp)
        | some u =>
          rcases hO b with z | ⟨ob, xs, z⟩
          · rw [q] at z; cases z
          · have z2 := un.frzs b ob _ z
            obtain ⟨e1, _⟩ := hok b _ z
            obtain ⟨e2, _⟩ := hok' b _ z2
            rw [e] at e1; cases e1
            exact e2
  cases hk : K.lookup a with
  | some o =>
    -- the script is one of the module's own objects
    have e := KX a o hk
    rw [ha] at e
    cases e
    refine core (fun _ => none) (fun _ => .inl rfl) (.inr ⟨_, vs.toArray, _, hk, rfl, rfl, rfl, by rw [List.size_toArray, lenV]; exact hl, by simpa using rv⟩) (fun b u z => by have z' : (none : Option HO) = some u := z; cases z') (fun b z => absurd rfl z) fun z => absurd rfl z
  | none =>
    refine core (fun b => if b = a then some (.frz { cls := .type "list", data := .seq vs.toArray } (.lst (ns.map V.int))) else none) (fun b => ?_) (.inl (.inr ⟨{ cls := .type "list", data := .seq vs.toArray }, if_pos rfl⟩)) (fun b u z => ?_) (fun b z => ?_) fun _ => hk
    · by_cases hb : b = a
      · exact .inr ⟨_, _, if_pos hb⟩
      · exact .inl (if_neg hb)
    · by_cases hb : b = a
      · have z' := (if_pos hb).symm.trans z
        cases z'
        subst hb
        exact ⟨ha, by rw [List.length_map]; exact hl, vs, _, rv, ha⟩
      · have z' := (if_neg hb).symm.trans z
        cases z'
    · by_cases hb : b = a
      · exact hb
      · exact absurd (if_neg hb) z
end L2

namespace L2
open PySem PySem.Spec PyProof.Rows

theorem walk_of {l : PySem.W.OpenLaw} {n k : Nat} {q : Program} {loose : List Str} {XP : (Str → Option Value) → Heap → Prop} {YP : World → Heap → Prop} {d : DefRec} {K : Params → PySem.W.Frag} {CX : World → CXT} {sp : World → Sp} {x : Str}
    (hn : l.most = some n) (hn2 : n ≤ sizeLine) (hdf : d.params.defaults = []) (hr : Room k callerA)
    (hY : ∀ (w : World) (h : Heap), YP w h → (K w.params).In h)
    (F : ∀ (w : World) (mg : Str → Option Value) (fa : Addr) (h : Heap), (K w.params).In h → h.Ns mainGlobals mg → mg d.name = some (.ref fa) →
      ∃ fd : FuncData, (∀ (s : Shared) (u : Value), BindsTo s fd ⟨[u], []⟩ [(x, u)]) ∧
        ∀ base : Heap, (K w.params).In base → base.Ns mainGlobals mg → FnOk l.prog w (K w.params) mg base (CX w) k fa fd [x] (sp w))
    (hsp : ∀ (w : World) (H : Hp) (a : Addr) (ns : List Int), ns.length ≤ n → Only H → SqL (K w.params) H a (ns.map V.int) → sp w [.ref a] H (fun v _ => v = .bl true) fun _ _ _ => False)
    (hCX : ∀ (w : World) (H : Hp) (s : Shared) (e : Value) (s' : Shared), CX w [] H s (fun _ _ _ => False) e s' → False) :
    PySem.W.WalkO q loose XP YP l.row.toRowW d [] (fun f vs => PySem.call f vs) := by
  refine Att.attach_call hn hdf fun w s₀ s₁ mg mb fa o pm cd doc a vs ns G Y ho hd hcd hmg hobj hints hlen hg => ?_
  have KX := hY w _ Y
  obtain ⟨fd, hb, hF⟩ := F w mg fa _ KX G.T.g hmg
  exact law_call KX G.T.g G.T.b G.T.builtins G.T.nolimit hg hobj hints (Nat.le_trans hlen hn2) hr hF hb (fun H hO hS => hsp w H a ns hlen hO hS) fun H e s' => hCX w H s₁ e s'
end L2


namespace L2
open PySem PySem.Spec PyProof.Rows

noncomputable def defArgs (s : Stmt) : Arguments := match s with
  | .FunctionDef _ a _ _ _ _ _ _ _ _ => a
  | _ => { posonlyargs := [], args := [], vararg := none, kwonlyargs := [], kw_defaults := [], kwarg := none, defaults := [] }
noncomputable def defBody (s : Stmt) : List Stmt := match s with
  | .FunctionDef _ _ b _ _ _ _ _ _ _ => b
  | _ => []
noncomputable def defScope (s : Stmt) : Scope := match s with
  | .FunctionDef _ _ _ _ _ _ sc _ _ _ => sc
  | _ => { kind := .function, names := [], isGenerator := false, isCoroutine := false }

noncomputable abbrev CX0 : CXT := fun _ _ _ _ _ _ => False
noncomputable abbrev E0 : XK := fun _ _ _ => False
theorem pass0 {X : Cx} : Passes CX0 X E0 := fun _ _ _ _ _ _ _ h => h.elim

structure Fun (K : PySem.W.Frag) (x qual : Str) (st : Stmt) (f : Addr) (fd : FuncData) : Prop where
  ex : ∃ (oc : Value) (od : Option Addr) (kV doc pm : Value) (an : Option Addr) (cdv ct : Value) (osl : Array (Option Value)),
    fd = PySem.W.fnOf x qual (defArgs st) (defBody st) (defScope st) .none kV doc pm an cdv ct ∧ K.lookup f = some ⟨oc, od, .func fd, osl⟩ ∧ PySem.W.codeIn K cdv qual = true
  kp : PySem.W.keepIn K (.ref f) = true
section
variable {P : Program} {w : World} {K : PySem.W.Frag} {mg : Str → Option Value} {base : Heap}
theorem Fun.ok {x qual : Str} {st : Stmt} {f : Addr} {fd : FuncData} {N ps : List Str} {k : Nat} {sp : Sp} (F : Fun K x qual st f fd) (S : FnScope N ps (defScope st)) (len : ∀ vs H Q E, sp vs H Q E → vs.length = ps.length)
    (hbody : ∀ (cdv : Value) (A : Around) (outer : List Env) (s : Shared) (H : Hp) (vs : List V) (Q : VK) (E : XK), Room k (A.deeper (envOfC qual (defScope st) s.heap.objs.size f cdv)) → sp vs H Q E →
      ∃ t, PSs (cxOf CX0 P w K mg base N qual (defScope st) f cdv A outer s H E).nox (defBody st) t ∧ t { nx := fun _ H' => Q .non H', rt := Q } (start N vs) H) : FnOk P w K mg base CX0 (k + 1) f fd ps sp := by
  obtain ⟨oc, od, kV, doc, pm, an, cdv, ct, osl, rfl, lk, hcd⟩ := F.ex
  refine fn_of lk hcd S len fun A outer s H vs Q E hr hsp => ?_
  obtain ⟨t, h, q⟩ := hbody cdv A outer s H vs Q E hr hsp
  exact ⟨t, h.nox, q⟩
theorem Fun.binds {x qual : Str} {st : Stmt} {f : Addr} {fd : FuncData} {ps : List Str} (F : Fun K x qual st f fd)
    (h : ∀ (kV doc pm : Value) (an : Option Addr) (cdv ct : Value) (us : List Value), us.length = ps.length → bindArgs (PySem.W.fnOf x qual (defArgs st) (defBody st) (defScope st) .none kV doc pm an cdv ct) ⟨us, []⟩ = pure (ps.zip us)) : Binds K fd ps [] := by
  obtain ⟨oc, od, kV, doc, pm, an, cdv, ct, osl, rfl, lk, hcd⟩ := F.ex
  exact .all (h kV doc pm an cdv ct)
theorem fun_mk {x qual : Str} {st : Stmt} {f : Addr} {oc : Value} {od an : Option Addr} {osl : Array (Option Value)} {kV doc pm cdv ct : Value} (l : K.lookup f = some ⟨oc, od, .func (PySem.W.fnOf x qual (defArgs st) (defBody st) (defScope st) .none kV doc pm an cdv ct), osl⟩)
    (c : PySem.W.codeIn K cdv qual = true) (k : PySem.W.keepIn K (.ref f) = true) : Fun K x qual st f (PySem.W.fnOf x qual (defArgs st) (defBody st) (defScope st) .none kV doc pm an cdv ct) := ⟨⟨oc, od, kV, doc, pm, an, cdv, ct, osl, rfl, l, c⟩, k⟩
end
section
variable {X : Cx}
theorem pv (i : Nat) {x : Str} {pos : Pos} (hN : X.N[i]? = some x := by rfl) (hv : Vis X.env.scope x := by first | exact Or.inl rfl | exact Or.inr (Or.inl rfl) | exact Or.inr (Or.inr rfl)) (hd : (x == ("__debug__" : Str)) = false := by decide)
    (hcd : (x == ("__classdict__" : Str)) = false := by decide) : PE X (.Name x pos) (tVar i) := pe_var hN hv hd hcd
end

theorem iteF {A B : Prop} (h : B) : if false = true then A else B := by
  rw [if_neg Bool.false_ne_true]
  exact h
theorem iteT {A B : Prop} (h : A) : if true = true then A else B := by
  rw [if_pos rfl]
  exact h
theorem ite2 {c A B : Prop} [Decidable c] (h1 : c → A) (h2 : ¬ c → B) : if c then A else B := by
  by_cases h : c
  · rw [if_pos h]
    exact h1 h
  · rw [if_neg h]
    exact h2 h
noncomputable def Same (H H' : Hp) : Prop := ∀ b o, H b = some o → H' b = some o
theorem Same.refl (H : Hp) : Same H H := fun _ _ h => h
theorem Same.trans {H H1 H2 : Hp} (a : Same H H1) (b : Same H1 H2) : Same H H2 := fun c o h => b c o (a c o h)
theorem Same.free {H H' : Hp} (e : Same H H') {l : Addr} (h : H' l = Option.none) : H l = Option.none := by
  cases q : H l with
  | none => rfl
  | some o =>
    rw [e l o q] at h
    cases h
theorem Same.seq {K : PySem.W.Frag} {H H' : Hp} {a : Addr} {xs : List V} (e : Same H H') (h : SqL K H a xs) : SqL K H' a xs := by
  rcases h with (h | ⟨o, h⟩) | h
  · exact .inl (.inl (e _ _ h))
  · exact .inl (.inr ⟨o, e _ _ h⟩)
  · exact .inr h

section
variable {κ : Type} [DecidableEq κ]
end
end L2


set_option Elab.async false
set_option linter.all false
set_option maxRecDepth 100000
set_option maxHeartbeats 4000000
namespace L2
open PySem PySem.Spec PyProof.Rows

theorem clos_aux (env : Env) : ∀ (l : List (Str × NameKind)) (cs : List (Str × Addr)), (∀ n, (n, NameKind.free) ∈ l → ∃ c, env.cells.lookup n = some c) → (∀ x c, cs.lookup x = some c → env.cells.lookup x = some c) →
    ∃ cl, (forIn l cs fun x s => if (x.snd == NameKind.free) = true then do let c ← cellOf env x.fst; pure (ForInStep.yield ((x.fst, c) :: s)) else pure (ForInStep.yield s)) = (pure cl : Sem (List (Str × Addr))) ∧
      (∀ x c, cl.lookup x = some c → env.cells.lookup x = some c) ∧ (∀ n, (n, NameKind.free) ∈ l → ∃ c, cl.lookup n = some c) ∧ ∀ n c, cs.lookup n = some c → ∃ c', cl.lookup n = some c'
  | [], cs, _, h => ⟨cs, rfl, h, (fun _ z => nomatch z), (fun n c e => ⟨c, e⟩)⟩
  | (n, k) :: r, cs, hf, h => by
    by_cases hk : k = .free
    · subst hk
      obtain ⟨c, hc⟩ := hf n List.mem_cons_self
      have e : cellOf env n = pure c := by unfold cellOf; rw [hc]
      obtain ⟨cl, e1, h1, h2, h3⟩ := clos_aux env r ((n, c) :: cs) (fun m hm => hf m (List.mem_cons_of_mem _ hm)) (fun x c' q => by
        rw [List.lookup_cons] at q
        by_cases hx : x = n
        · subst hx; simp at q; subst q; exact hc
        · have : (x == n) = false := by simpa using hx
          rw [this] at q; exact h x c' q)
      refine ⟨cl, ?_, h1, fun m hm => ?_, fun m c' q => ?_⟩
      · rw [List.forIn_cons]
        show ((do let c ← cellOf env n; pure (ForInStep.yield ((n, c) :: cs))) >>= _) = _
        rw [e]
        exact e1
      · rcases List.mem_cons.mp hm with z | z
        · cases z; exact h3 n c (by simp)
        · exact h2 m z
      · by_cases hx : m = n
        · subst hx; exact h3 m c (by simp)
        · have : (m == n) = false := by simpa using hx
          exact h3 m c' (by rw [List.lookup_cons, this]; exact q)
    · have hb : (k == NameKind.free) = false := by simpa using hk
      obtain ⟨cl, e1, h1, h2, h3⟩ := clos_aux env r cs (fun m hm => hf m (List.mem_cons_of_mem _ hm)) h
      refine ⟨cl, ?_, h1, fun m hm => ?_, h3⟩
      · rw [List.forIn_cons]
        dsimp only
        rw [hb]
        exact e1
      · rcases List.mem_cons.mp hm with z | z
        · cases z; exact absurd rfl hk
        · exact h2 m z

theorem closureFor_of {scope : Scope} {env : Env} (h : ∀ n, (n, NameKind.free) ∈ scope.names → ∃ c, env.cells.lookup n = some c) :
    ∃ cl, closureFor scope env = pure cl ∧ (∀ x c, cl.lookup x = some c → env.cells.lookup x = some c) ∧ ∀ n, (n, NameKind.free) ∈ scope.names → ∃ c, cl.lookup n = some c := by
  obtain ⟨cl, e, h1, h2, _⟩ := clos_aux env scope.names [] h (fun _ _ z => by simp at z)
  refine ⟨cl, ?_, h1, h2⟩
  simp only [closureFor]
  rw [e]
  rfl

noncomputable def compCx (X : Cx) (scope : Scope) (N' : List Str) (cl : List (Str × Addr)) (C : Addr) (s : Shared) (H : Hp) (fp : List Addr) (pins : List (Addr × Obj)) : Cx where
  prog := X.prog
  w := X.w
  K := X.K
  mg := X.mg
  base := X.base
  A := X.A
  N := N'
  s₀ := s
  H₀ := H
  env := compEnvC scope cl C X.env
  outer := X.stack
  stack := X.stack
  ex := fp
  calm := X.calm
  fn := fun _ => false
  pn := X.pn ++ pins
  xe := fun _ _ => False

structure CompScope (sc : Scope) (out : Scope) : Prop where
  kind : sc.kind = .function
  cell : ∀ y ∈ sc.names, y.2 ≠ .cell
  loc : ∀ y ∈ sc.names, y.2 = .local → sc.names.lookup y.1 = some .local
  free : ∀ y ∈ sc.names, y.2 = .free → out.names.lookup y.1 = some .cell ∨ out.names.lookup y.1 = some .free

noncomputable def inSt (ρ : List (Option Nat)) (σ : St) : St := ρ.map fun o => match o with | some i => (σ[i]?).getD none | none => none
noncomputable def SlotOk (sc : Scope) (env : Env) (N N' : List Str) (ρ : List (Option Nat)) : Prop :=
  ρ.length = N'.length ∧ ∀ (j i : Nat) (x : Str), ρ[j]? = some (some i) → N'[j]? = some x → N[i]? = some x ∧ Vis env.scope x ∧ (x, NameKind.free) ∈ sc.names

theorem lookup_relabel {names : List (Str × NameKind)} {env : Env} {x : Str} {k : NameKind} (h : (names.map fun (n, k) => if (k == NameKind.free && env.scope.kind == .function && env.kindOf n == some .cell) then (n, NameKind.cell) else (n, k)).lookup x = some k)
    (hk : k = .cell ∨ k = .free) (hc : ∀ y ∈ names, y.2 ≠ .cell) : (x, NameKind.free) ∈ names := by
  induction names with
  | nil => simp at h
  | cons p r ih =>
    obtain ⟨n, k'⟩ := p
    by_cases hx : x = n
    · subst hx
      have hk' : k' = .free := by
        by_cases hc' : (k' == NameKind.free && env.scope.kind == .function && env.kindOf x == some .cell) = true
        · simp only [Bool.and_eq_true, beq_iff_eq] at hc'
          exact hc'.1.1
        · simp only [List.map_cons] at h
          rw [if_neg hc'] at h
          simp at h
          subst h
          rcases hk with z | z
          · exact absurd z (hc (x, k') List.mem_cons_self)
          · exact z
      rw [hk']; exact List.mem_cons_self
    · have hb : (x == n) = false := by simpa using hx
      refine List.mem_cons_of_mem _ (ih ?_ fun y hy => hc y (List.mem_cons_of_mem _ hy))
      simp only [List.map_cons] at h
      by_cases hc' : (k' == NameKind.free && env.scope.kind == .function && env.kindOf n == some .cell) = true
      · rw [if_pos hc', List.lookup_cons, hb] at h; exact h
      · rw [if_neg hc', List.lookup_cons, hb] at h; exact h

theorem lookup_relabel_free : ∀ {names : List (Str × NameKind)} {env : Env} {x : Str}, (x, NameKind.free) ∈ names → (names.map fun (n, k) => if (k == NameKind.free && env.scope.kind == .function && env.kindOf n == some .cell) then (n, NameKind.cell) else (n, k)).lookup x = some .cell ∨
    (names.map fun (n, k) => if (k == NameKind.free && env.scope.kind == .function && env.kindOf n == some .cell) then (n, NameKind.cell) else (n, k)).lookup x = some .free ∨ names.lookup x ≠ some .free := by
  intro names env x hm
  by_cases hl : names.lookup x = some .free
  · induction names with
    | nil => simp at hl
    | cons p r ih =>
      obtain ⟨n, k'⟩ := p
      by_cases hx : x = n
      · subst hx
        simp at hl
        subst hl
        by_cases hc' : (NameKind.free == NameKind.free && env.scope.kind == .function && env.kindOf x == some .cell) = true
        · left; simp only [List.map_cons]; rw [if_pos hc']; simp
        · right; left; simp only [List.map_cons]; rw [if_neg hc']; simp
      · have hb : (x == n) = false := by simpa using hx
        rw [List.lookup_cons, hb] at hl
        have hm' : (x, NameKind.free) ∈ r := by
          rcases List.mem_cons.mp hm with z | z
          · cases z; exact absurd rfl hx
          · exact z
        have q := ih hm' hl
        simp only [List.map_cons]
        by_cases hc' : (k' == NameKind.free && env.scope.kind == .function && env.kindOf n == some .cell) = true
        · rw [if_pos hc', List.lookup_cons, hb, List.lookup_cons, hb]; exact q
        · rw [if_neg hc', List.lookup_cons, hb, List.lookup_cons, hb]; exact q
  · exact .inr (.inr hl)

section
variable {X : Cx} {pins : List (Addr × Obj)} {σ : St} {H : Hp} {s : Shared} {scope : Scope} {N' : List Str} {ρ : List (Option Nat)} {cl : List (Str × Addr)} {fp : List Addr} {C D : Addr}

theorem comp_ok (I : Inv X pins σ H s) (S : CompScope scope X.env.scope) (hf : ∀ b ∈ fp, FpOk X pins H b) (h1 : ∀ x c, cl.lookup x = some c → X.env.cells.lookup x = some c) (h2 : ∀ n, (n, NameKind.free) ∈ scope.names → ∃ c, cl.lookup n = some c)
    (hC : s.heap.objs.size ≤ C) (hfs : ∀ b ∈ fp, b < s.heap.objs.size) : (compCx X scope N' cl C s H fp pins).Ok where
  mod := I.ok.mod
  kind := S.kind
  glob := I.ok.glob
  blt := I.ok.blt
  above := hC
  inj := fun x y c e1 e2 => I.ok.inj x y c (h1 x c e1) (h1 y c e2)
  has := fun x hk => h2 x (by
    rcases hk with hk | hk
    · exact lookup_relabel (env := X.env) hk (.inl rfl) S.cell
    · exact lookup_relabel (env := X.env) hk (.inr rfl) S.cell)
  cab := fun _ _ z => nomatch z
  hd := I.ok.hd
  frames := I.ok.frames
  stk := .inl rfl
  exf := fun b hb => ⟨Nat.ne_of_lt (Nat.lt_of_lt_of_le (hfs b hb) hC), fun x c e => (hf b hb).2.2.2.2.1 x c (h1 x c e)⟩
  bs := I.bs
  bsz := Nat.le_trans I.ok.bsz I.sz
  noex := fun b o e hb => by
    rcases (hf b hb).2.2.2.1 with z | z
    · exact I.ok.noex b o e z
    · exact absurd (Nat.lt_of_lt_of_le (Nat.lt_of_lt_of_le (Heap.lt_size e) I.ok.bsz) z) (Nat.lt_irrefl _)
  exfs := fun b hb z => by
    rcases List.mem_cons.mp (I.stkSub b z) with q | q
    · exact (hf b hb).2.1 q
    · exact (hf b hb).2.2.1 q
  funs := I.stack
  frf := I.stkFree

theorem comp_start {h₁ : Heap} {tk : Nat} (I : Inv X pins σ H s) (S : CompScope scope X.env.scope) (hρ : SlotOk scope X.env X.N N' ρ) (hf : ∀ b ∈ fp, FpOk X pins H b) (h1 : ∀ x c, cl.lookup x = some c → X.env.cells.lookup x = some c)
    (h2 : ∀ n, (n, NameKind.free) ∈ scope.names → ∃ c, cl.lookup n = some c) (hC : s.heap.objs.size ≤ C) (hfs : ∀ b ∈ fp, b < s.heap.objs.size) (hn : h₁.Ns C (fun _ => none)) (hk : ∀ b o, s.heap.get? b = some o → h₁.get? b = some o)
    (hl : ∀ x, (x, NameKind.free) ∈ scope.names → scope.names.lookup x = some .free) :
    Inv (compCx X scope N' cl C s H fp pins) [] (inSt ρ σ) H { s with heap := h₁, toks := tk } where
  ok := comp_ok I S hf h1 h2 hC hfs
  os := rfl
  bare := I.bare
  base := Un.kept hk
  loc := by
    refine ⟨_, hn, fun j x v e1 e2 hv => ?_⟩
    obtain ⟨m, hm, hl'⟩ := I.loc
    unfold inSt at e2
    rw [List.getElem?_map] at e2
    cases hr : ρ[j]? with
    | none => rw [hr] at e2; simp at e2
    | some o =>
      cases o with
      | none => rw [hr] at e2; simp at e2
      | some i =>
        rw [hr] at e2
        obtain ⟨q1, q2, q3⟩ := hρ.2 j i x hr e1
        have e3 : σ[i]? = some (some v) := by
          cases hσ : σ[i]? with
          | none => simp [hσ] at e2
          | some z => simp [hσ] at e2; rw [e2]
        obtain ⟨u, r, lk⟩ := hl' i x v q1 e3 q2
        refine ⟨u, r, ?_⟩
        obtain ⟨c, hc⟩ := h2 x q3
        have hkind : (relabel scope X.env).names.lookup x = some .cell ∨ (relabel scope X.env).names.lookup x = some .free := by
          rcases lookup_relabel_free (env := X.env) q3 with z | z | z
          · exact .inl z
          · exact .inr z
          · exact absurd (hl x q3) z
        refine .inr ⟨hkind, c, hc, ?_⟩
        rcases lk with ⟨k, _⟩ | ⟨_, c', e', z⟩
        · rcases S.free (x, .free) q3 rfl with z | z
          · have k' : X.env.scope.names.lookup x = some .local := k
            rw [z] at k'; cases k'
          · have k' : X.env.scope.names.lookup x = some .local := k
            rw [z] at k'; cases k'
        · have := h1 x c hc
          rw [e'] at this; cases this
          obtain ⟨o, ho, hd⟩ := z
          exact ⟨o, hk _ _ ho, hd⟩
  cell := fun x c e => by
    obtain ⟨v, o, ho, hd⟩ := I.cell x c (h1 x c e)
    exact ⟨v, o, hk _ _ ho, hd⟩
  free := I.hok.fresh hC
  freeC := fun x c e => I.freeC x c (h1 x c e)
  pin := fun p hp => by
    have hp' : p ∈ X.pn ++ pins := by simpa [compCx] using hp
    obtain ⟨e, n, ne, nf, d⟩ := I.pin p hp'
    refine ⟨hk _ _ e, n, Nat.ne_of_lt (Nat.lt_of_lt_of_le (Heap.lt_size e) hC), fun z => ?_, d⟩
    rcases List.mem_cons.mp (I.stkSub p.1 z) with q | q
    · exact ne q
    · exact nf q
  hok := I.hok.kept hk
  len := by
    show (inSt ρ σ).length = N'.length
    unfold inSt
    rw [List.length_map]; exact hρ.1
end

theorem HOk.track {P : Program} {w : World} {H : Hp} {h : Heap} {D : Addr} {o : HO} (x : HOk P w H h) (n : H D = none) (new : ObjOk P w (upd H D o) h D o) : HOk P w (upd H D o) h := fun b u e => by
  by_cases hb : b = D
  · subst hb; rw [upd_same] at e; cases e; exact new
  · rw [upd_ne hb] at e
    exact (x b u e).stay (fun c v _ q => q) (fun c q => by rw [upd_ne (ne_of_none q n)]; exact q) fun c xs q => by rw [upd_ne (ne_of_none q n)]; exact q

section
variable {prog : Program} {w : World} {A : Around} {R : Result → Shared → Prop} {s : Shared}
theorem compLoop_gen {elt target iter : Expr} {ifs : List Expr} {scope : Scope} {pos : Pos} {it acc : Value} {env : Env} (I : Nat → Shared → Prop)
    (turn : ∀ n s, I n s → wpAny (model prog w) A (pyNext it) (fun r s₁ => match r with
      | none => R (.ok .next) s₁
      | some v => wpAny (model prog w) A (letOwnedTupleGo target it v) (fun _ s₁' => wpAny (model prog w) A (assign target env v) (fun _ s₂ =>
          wpAny (model prog w) A (forIn ifs true fun c r => if r = true then do let ok ← isTrue c env (eval c env); pure (ForInStep.yield ok) else pure (ForInStep.yield r)) (fun ok s₃ =>
            if ok = true then wpAny (model prog w) A (eval elt env) (fun x s₄ =>
              wpAny (model prog w) A (call (.builtin "list.append") [acc, x]) (fun _ s₅ => ∃ m, m < n ∧ I m s₅) (fun _ _ => False) s₄) (fun _ _ => False) s₃
            else ∃ m, m < n ∧ I m s₃) (fun _ _ => False) s₂) (fun _ _ => False) s₁') (fun _ _ => False) s₁) (fun _ _ => False) s)
    (n : Nat) (h : I n s) :
    codeAny (model prog w) A (.compLoop (.ListComp elt [⟨target, iter, ifs, 0⟩] scope pos) 0 it acc env) R s := by
  refine codeAny_loop rfl I (fun n s hI => ?_) n h
  show wpAny _ A ((compTurn (.ListComp elt [⟨target, iter, ifs, 0⟩] scope pos) 0 it acc env).onRaise (fun x => do noteFrame x env; theTreesLotGoes x)) _ _ s
  refine wpAny_noted ?_
  rw [compTurn_list]
  refine wpAny_bind (wpAny_standAt (wpAny_bind (wpAny_mono (turn n s hI) (fun r s₁ h₁ => ?_) fun _ _ h' => h'.elim)))
  cases r with
  | none => exact wpAny_pure h₁
  | some v =>
    refine wpAny_bind (wpAny_mono h₁ (fun _ s₁' h₁ => ?_) fun _ _ h' => h'.elim)
    refine wpAny_bind (wpAny_mono h₁ (fun _ s₂ h₂ => wpAny_bind (wpAny_mono h₂ (fun ok s₃ h₃ => ?_) fun _ _ h' => h'.elim)) fun _ _ h' => h'.elim)
    cases ok with
    | false => exact wpAny_pure ⟨rfl, h₃⟩
    | true =>
      exact wpAny_bind (wpAny_bind (wpAny_mono h₃ (fun x s₄ h₄ => wpAny_bind (wpAny_mono h₄ (fun _ s₅ h₅ => wpAny_pure (wpAny_pure ⟨rfl, h₅⟩)) fun _ _ h' => h'.elim)) fun _ _ h' => h'.elim))
end

noncomputable def PTs (X : Cx) (ifs : List Expr) (t : TT) : Prop :=
  ∀ (pins : List (Addr × Obj)) (s : Shared) (σ : St) (H : Hp) (Q : Bool → Hp → Prop), Inv X pins σ H s → t σ H Q →
    wpAny (model X.prog X.w) X.A (forIn ifs true fun c r => if r = true then do let ok ← isTrue c X.env (eval c X.env); pure (ForInStep.yield ok) else pure (ForInStep.yield r)) (TP X pins σ Q) X.xe s
noncomputable def tYes : TT := fun _ H Q => Q true H
theorem pts_nil {X : Cx} : PTs X [] tYes := fun _ _ _ H _ I h => wpAny_tests_nil ⟨H, I, h⟩
noncomputable def Outs (ρ : List (Option Nat)) (σ σ2 : St) : Prop := σ2.length = ρ.length ∧ ∀ (j : Nat) v, (inSt ρ σ)[j]? = some (some v) → σ2[j]? = some (some v)
noncomputable def CompW (ρ : List (Option Nat)) (g : TG) (tt : TT) (te : TE) (σ : St) (Q : VK) (J : It) (H1 : Hp) : Prop := ∃ W : Nat → Nat → List V → Hp → Prop, (∃ m, W 0 m [] H1) ∧ ∀ i m ys H', W i m ys H' →
  (J.stop i H' ∧ ys.length ≤ sizeLine ∧ ∀ p, H' p = none → Q (.ref p) (upd H' p (.lst ys))) ∨
  (J.go i H' ∧ ys.length < sizeLine ∧ ∃ N : List V → Hp → Prop, (∀ ys' H'', N ys' H'' → ∃ m', m' < m ∧ W (i + 1) m' ys' H'') ∧ ∀ x H2, J.yld i H' x H2 → g x (inSt ρ σ) H2 fun σ2 H3 => Outs ρ σ σ2 ∧ tt σ2 H3 fun ok H4 => if ok = true then te σ2 H4 fun v H5 => N (ys ++ [v]) H5 else N ys H4)
noncomputable def tComp (ρ : List (Option Nat)) (wi : TI) (g : TG) (tt : TT) (te : TE) : TE := fun σ H Q => wi σ H fun J H1 => CompW ρ g tt te σ Q J H1

theorem comp_run {X : Cx} {elt iter tg : Expr} {ifs : List Expr} {scope : Scope} {pos : Pos} {N' : List Str} {ρ : List (Option Nat)} {wi : TI} {g : TG} {tt : TT} {te : TE} {cl : List (Str × Addr)} {RR : Value → Addr → Result → Shared → Prop} (hc : X.calm = true) (hi : PI X tg iter wi) (S : CompScope scope X.env.scope) (hρ : SlotOk scope X.env X.N N' ρ)
    (hl : ∀ x, (x, NameKind.free) ∈ scope.names → scope.names.lookup x = some .free)
    (inner : ∀ (cl : List (Str × Addr)) (C : Addr) (s : Shared) (H : Hp) (fp : List Addr) (pins : List (Addr × Obj)), PG (compCx X scope N' cl C s H fp pins) tg g ∧ PTs (compCx X scope N' cl C s H fp pins) ifs tt ∧ PE (compCx X scope N' cl C s H fp pins) elt te)
    {pins : List (Addr × Obj)} {s : Shared} {σ : St} {H : Hp} {Q : VK} (I : Inv X pins σ H s) (h : tComp ρ wi g tt te σ H Q)
    (h1 : ∀ x c, cl.lookup x = some c → X.env.cells.lookup x = some c) (h2 : ∀ n, (n, NameKind.free) ∈ scope.names → ∃ c, cl.lookup n = some c)
    (fin : ∀ D C s' H' m, Inv X pins σ H' s' → Q (.ref D) H' → s'.heap.Ns C m → FpOk X pins H' C → RR (.ref D) C (.ok .next) s') :
    wpAny (model X.prog X.w) X.A (eval iter X.env) (fun x s₁ => wpAny (model X.prog X.w) X.A (pyIter x) (fun it s₂ => wpAny (model X.prog X.w) X.A (newList []) (fun acc s₃ =>
      wpAny (model X.prog X.w) X.A (newFunctionEnv scope X.env.globals cl [] X.env.qual none .none (some X.env)) (fun cenv s₄ =>
        codeAny (model X.prog X.w) X.A (.compStart (.ListComp elt [⟨tg, iter, ifs, 0⟩] scope pos) 0 it acc { cenv with scope := relabel scope X.env }) (RR acc cenv.locals) s₄) X.xe s₃) X.xe s₂) X.xe s₁) X.xe s := by
  refine thn (hi pins s σ H _ I h) fun v s1 h1' => thn h1' fun itv s2 hx => ?_
  obtain ⟨it, fp, tn, J, H2, e, I2, T, st2, f2, W, ⟨m0, w0⟩, turn⟩ := hx
  subst e
  have hfs : ∀ b ∈ fp, b < s2.heap.objs.size := fun b hb => by
    obtain ⟨o, e, _⟩ := T.obj _ _ st2 b hb
    exact Heap.lt_size e
  refine wpAny_newObj_type (wpAny_newFunctionEnv S.cell (by intro y hy; simp at hy) (fun h₁ hns₁ hsb₁ => ?_) S.kind)
  dsimp only at hns₁ hsb₁ ⊢
  generalize hH2 : s2.heap.push { cls := .type "list", dict := none, data := .seq ([] : List Value).toArray } = G at hns₁ hsb₁ ⊢
  have hC : G.objs.size = s2.heap.objs.size + 1 := by rw [← hH2, Heap.size_push]
  have hDC : s2.heap.objs.size ≠ G.objs.size := by rw [hC]; exact Nat.ne_of_lt (Nat.lt_succ_self _)
  have hCle : s2.heap.objs.size ≤ G.objs.size := by rw [hC]; exact Nat.le_succ _
  have old : ∀ b o, s2.heap.get? b = some o → h₁.get? b = some o := fun b o e => hsb₁.extBut b o (Nat.ne_of_lt (Nat.lt_of_lt_of_le (Heap.lt_size e) hCle)) (Heap.get?_push_of_some _ (hH2 ▸ Heap.get?_push_of_some _ e))
  have hacc : h₁.get? s2.heap.objs.size = some { cls := .type "list", dict := none, data := .seq ([] : List Value).toArray } := hsb₁.extBut _ _ hDC (Heap.get?_push_of_some _ (hH2 ▸ Heap.get?_push_size _ rfl))
  have hns₂ : h₁.Ns G.objs.size (fun _ => none) := hns₁
  generalize hXX : compCx X scope N' cl G.objs.size s2 H2 fp pins = XX at *
  have IN : ∀ (tk : Nat), Inv XX [] (inSt ρ σ) H2 { s2 with heap := h₁, toks := tk } := fun tk => hXX ▸ comp_start (N' := N') I2 S hρ f2 h1 h2 hCle hfs hns₂ old hl
  obtain ⟨pg, pt, pe⟩ := inner cl G.objs.size s2 H2 fp pins
  rw [hXX] at pg pt pe
  have eP : XX.prog = X.prog := by rw [← hXX]; rfl
  have eW : XX.w = X.w := by rw [← hXX]; rfl
  have eK : XX.K = X.K := by rw [← hXX]; rfl
  have eA : XX.A = X.A := by rw [← hXX]; rfl
  have eE : XX.env = compEnvC scope cl G.objs.size X.env := by rw [← hXX]; rfl
  have eL : XX.env.locals = G.objs.size := by rw [eE]; rfl
  have ec : XX.calm = true := by rw [← hXX]; exact hc
  have ex : XX.xe = fun _ _ => False := by rw [← hXX]; rfl
  have es0 : XX.s₀ = s2 := by rw [← hXX]; rfl
  have eex : XX.ex = fp := by rw [← hXX]; rfl
  have efs : XX.fs = frs X.stack := by rw [← hXX]; rfl
  have eH0 : XX.H₀ = H2 := by rw [← hXX]; rfl
  have epn : XX.pn = X.pn ++ pins := by rw [← hXX]; rfl
  have ecl : XX.env.cells = cl := by rw [eE]; rfl
  -- what stays true of the iterator's records
  have stat : ∀ {H' : Hp} {ps : List (Addr × Obj)}, (∀ b ∈ fp, H' b = none) → (∀ p ∈ ps, p.1 = s2.heap.objs.size) → ∀ b ∈ fp, FpOk XX ps H' b := fun {H' ps} hn hp b hb => by
    refine ⟨hn b hb, ?_, ?_, ?_, ?_, ?_⟩
    · rw [eL]; exact Nat.ne_of_lt (Nat.lt_of_lt_of_le (hfs b hb) hCle)
    · rw [efs]
      intro z
      rcases List.mem_cons.mp (I2.stkSub b z) with q | q
      · exact (f2 b hb).2.1 q
      · exact (f2 b hb).2.2.1 q
    · rw [eex]; exact .inl hb
    · rw [ecl]; exact fun x c e => (f2 b hb).2.2.2.2.1 x c (h1 x c e)
    · intro p hp' z
      rw [epn] at hp'
      rcases List.mem_append.mp hp' with q | q
      · exact (f2 b hb).2.2.2.2.2 p q z
      · rw [hp p q] at z
        exact absurd (hfs b hb) (by rw [z]; exact Nat.lt_irrefl _)
  have nofsD : s2.heap.objs.size ∉ XX.fs := by
    rw [efs]; intro z
    rcases List.mem_cons.mp (I2.stkSub _ z) with q | q
    · exact absurd I2.lt (by rw [← q]; exact Nat.lt_irrefl _)
    · exact I2.nofs (Nat.le_refl _) q
  have pinD : ∀ {σ' : St} {H' : Hp} {s' : Shared} {its : List Value} {n : Nat}, Inv XX [] σ' H' s' → H' s2.heap.objs.size = none → s'.heap.get? s2.heap.objs.size = some { cls := .type "list", data := .seq its.toArray n } →
      Inv XX [(s2.heap.objs.size, { cls := .type "list", data := .seq its.toArray n })] σ' H' s' := fun {σ' H' s' its n} I' hn ho => I'.pins_of fun p hp => by
    have e : p = (s2.heap.objs.size, { cls := .type "list", data := .seq its.toArray n }) := by simpa using hp
    subst e
    refine ⟨ho, hn, by rw [eL]; exact hDC, nofsD, fun v z => ?_⟩
    have z' : Data.seq its.toArray n = Data.cell v := z
    cases z'
  have loop : ∀ s₃ : Shared, (∃ tk, s₃ = { s2 with heap := h₁, toks := tk }) →
      codeAny (model X.prog X.w) X.A (.compLoop (.ListComp elt [⟨tg, iter, ifs, 0⟩] scope pos) 0 (.ref it) (.ref s2.heap.objs.size) (compEnvC scope cl G.objs.size X.env)) (RR (.ref s2.heap.objs.size) G.objs.size) s₃ := by
    rintro s₃ ⟨tk, rfl⟩
    refine compLoop_gen (fun n s' => ∃ i ys its k H', Inv XX [] (inSt ρ σ) H' s' ∧ tn i s'.heap ∧ (∀ b ∈ fp, H' b = none) ∧ H' s2.heap.objs.size = none ∧ Vals ys its ∧
      s'.heap.get? s2.heap.objs.size = some { cls := .type "list", data := .seq its.toArray k } ∧ W i n ys H') ?_ m0
      ⟨0, [], [], 0, H2, IN tk, T.keep _ _ _ st2 fun b _ o e => old b o e, fun b hb => (f2 b hb).1, I2.hok.fresh (Nat.le_refl _), .nil, hacc, w0⟩
    rintro n s3 ⟨i, ys, its, k, H3, I3, st3, fr3, hD3, rv, ho3, w3⟩
    rcases turn i n ys H3 w3 with ⟨stop, hz, qn⟩ | ⟨go, hz, N, hN, step⟩
    · have I3p := pinD I3 hD3 ho3
      have q := T.done XX eP eW eK ec i _ s3 (inSt ρ σ) H3 (fun _ _ => False) I3p (stat fr3 (by simp)) st3 stop
      rw [eA] at q
      refine thn q fun r s4 ⟨hr, I4⟩ => ?_
      subst hr
      have ho4 := (I4.pin (s2.heap.objs.size, { cls := .type "list", data := .seq its.toArray k }) (by simp)).1
      obtain ⟨m, hm, _⟩ := I4.loc
      rw [eL] at hm
      have hun : Un (frs X.stack) fp H2 (upd H3 s2.heap.objs.size (.lst ys)) s2.heap s4.heap := by
        have u := I4.base
        rw [efs, eex, eH0, es0] at u
        refine ⟨u.keep, u.slot, fun b o e n hx => ?_, u.there, fun b xs e => ?_, fun b o xs e => ?_, fun b ps e => ?_⟩
        · rw [upd_ne (Nat.ne_of_lt (Heap.lt_size e))]; exact u.free b o e n hx
        · have q := u.tups b xs e
          rw [upd_ne (ne_of_none q hD3)]; exact q
        · have q := u.frzs b o xs e
          rw [upd_ne (ne_of_none q hD3)]; exact q
        · obtain ⟨more, q⟩ := u.tbls b ps e
          exact ⟨more, by rw [upd_ne (ne_of_none q hD3)]; exact q⟩
      have hok : HOk X.prog X.w (upd H3 s2.heap.objs.size (.lst ys)) s4.heap := by
        have q := I4.hok
        rw [eP, eW] at q
        exact q.track hD3 ⟨hz, its, k, rv, ho4⟩
      have hfr : ∀ b ∈ fp, (b ∈ X.ex ∨ X.s₀.heap.objs.size ≤ b) ∧ b ≠ X.env.locals ∧ (∀ x c, X.env.cells.lookup x = some c → c ≠ b) ∧ ∀ p ∈ X.pn ++ pins, p.1 ≠ b := fun b hb => ⟨(f2 b hb).2.2.2.1, (f2 b hb).2.1, (f2 b hb).2.2.2.2.1, (f2 b hb).2.2.2.2.2⟩
      have IO : Inv X pins σ (upd H3 s2.heap.objs.size (.lst ys)) s4 := I2.call' (by have := I4.os; rw [es0] at this; exact this) hun hok I4.bare hfr
      refine fin _ _ s4 _ m IO (qn _ hD3) hm (I2.fpOk hCle ?_)
      rw [upd_ne (Ne.symm hDC)]
      have := I4.free
      rw [eL] at this
      exact this
    · have I3p := pinD I3 hD3 ho3
      have q := T.item XX eP eW eK ec i _ s3 (inSt ρ σ) H3 (fun _ _ => False) I3p (stat fr3 (by simp)) st3 go
      rw [eA] at q
      refine thn q fun r s4 ⟨u, hr, h4⟩ => ?_
      subst hr
      refine thn h4 fun _ s5 ⟨x, H5, I5, r5, y5, st5, fr5⟩ => ?_
      have I5' := I5.pinned (stat fr5 (by simp)) (T.obj _ _ st5)
      have qa := pg _ s5 (inSt ρ σ) H5 x u _ I5' r5 (step x H5 y5)
      rw [eP, eW, eA, eE, ex] at qa
      refine thn qa fun _ s6 ⟨σ6, H6, I6, ⟨ou1, ou2⟩, q6⟩ => ?_
      have hw6 : (inSt ρ σ).length = σ6.length := by rw [ou1]; unfold inSt; rw [List.length_map]
      have qt := pt _ s6 σ6 H6 _ I6 q6
      rw [eP, eW, eA, eE, ex] at qt
      refine thn qt fun ok s7 ⟨H7, I7, q7⟩ => ?_
      have back : ∀ {s8 : Shared} {H8 : Hp}, Inv XX ([(s2.heap.objs.size, { cls := .type "list", data := .seq its.toArray k })] ++ pinsAt fp s5.heap) σ6 H8 s8 → tn (i + 1) s8.heap ∧ (∀ b ∈ fp, H8 b = none) ∧ H8 s2.heap.objs.size = none ∧
          s8.heap.get? s2.heap.objs.size = some { cls := .type "list", data := .seq its.toArray k } := fun {s8 H8} I8 => by
        refine ⟨T.keep _ _ _ st5 fun b hb o e => (I8.pin (b, o) (List.mem_append_right _ (List.mem_append_right _ (mem_pinsAt hb e)))).1, fun b hb => ?_, ?_, ?_⟩
        · obtain ⟨o, e, d⟩ := T.obj _ _ st5 b hb
          exact (I8.pin (b, o) (List.mem_append_right _ (List.mem_append_right _ (mem_pinsAt hb e)))).2.1
        · exact (I8.pin (s2.heap.objs.size, { cls := .type "list", data := .seq its.toArray k }) (by simp)).2.1
        · exact (I8.pin (s2.heap.objs.size, { cls := .type "list", data := .seq its.toArray k }) (by simp)).1
      cases ok with
      | false =>
        obtain ⟨m', hm, w7⟩ := hN _ _ q7
        obtain ⟨b1, b2, b3, b4⟩ := back I7
        exact ⟨m', hm, i + 1, ys, its, k, H7, (I7.pins_of (pins' := []) (fun _ z => nomatch z)).weak hw6 ou2, b1, b2, b3, rv, b4, w7⟩
      | true =>
        have qe := pe _ s7 σ6 H7 _ I7 q7
        rw [eP, eW, eA, eE, ex] at qe
        refine thn qe fun y s8 ⟨v8, H8, I8, r8, n8⟩ => ?_
        obtain ⟨m', hm, w8⟩ := hN _ _ n8
        obtain ⟨b1, b2, b3, b4⟩ := back I8
        have hlen := rv.length
        refine call_meets F.slot_list_append ⟨_, b4, rfl⟩ F.entry_list_append (F.args_list_append_2 _ _) (PySem.list_append s2.heap.objs.size its.toArray k y (by rw [List.size_toArray]; omega)) ⟨b4, ?_⟩
        have qL := PySem.IsL.update b4 (fun xs => xs.push y)
        have I8' : Inv XX [] σ6 H8 s8 := I8.pins_of (fun _ z => nomatch z)
        have I9 : Inv XX [] σ6 H8 { s8 with heap := s8.heap.update s2.heap.objs.size (Obj.mapSeq fun xs => xs.push y), toks := s8.toks } := I8'.turned (it := s2.heap.objs.size) (fun b o hb e => (Heap.get?_update_other s8.heap _ (Ne.symm hb)).trans e) b3
          (by rw [eL]; exact hDC) (.inr (by rw [es0]; exact Nat.le_refl _)) (by
            rw [ecl]; intro x c e z
            obtain ⟨v, qc⟩ := I2.cell x c (h1 x c e)
            exact absurd qc.lt (by rw [z]; exact Nat.lt_irrefl _)) (by
            intro p hp z
            have hp' : p ∈ X.pn ++ pins := by rw [epn] at hp; simpa using hp
            exact absurd (Heap.lt_size (I2.pin p hp').1) (by rw [z]; exact Nat.lt_irrefl _))
        have hnd : s2.heap.objs.size ∉ fp := fun z => Nat.lt_irrefl _ (hfs _ z)
        rw [show its.toArray.push y = (its ++ [y]).toArray by simp] at qL
        refine ⟨m', hm, i + 1, ys ++ [v8], its ++ [y], _, H8, I9.weak hw6 ou2, T.keep _ _ _ b1 fun b hb o e => (Heap.get?_update_other s8.heap _ (by rintro rfl; exact hnd hb)).trans e, b2, b3, rv.append (.cons r8 .nil), qL, w8⟩
  refine codeAny_compStart_list (loop _ ⟨_, rfl⟩) (T.self X.A 0 _ _ _ (T.keep _ _ _ st2 fun b _ o e => old b o e) (loop _ ⟨_, rfl⟩))
theorem pe_comp {X : Cx} {elt iter tg : Expr} {ifs : List Expr} {scope : Scope} {pos : Pos} (N' : List Str) (ρ : List (Option Nat)) {wi : TI} {g : TG} {tt : TT} {te : TE} (hc : X.calm = true) (hi : PI X tg iter wi) (S : CompScope scope X.env.scope) (hρ : SlotOk scope X.env X.N N' ρ)
    (hl : ∀ x, (x, NameKind.free) ∈ scope.names → scope.names.lookup x = some .free)
    (inner : ∀ (cl : List (Str × Addr)) (C : Addr) (s : Shared) (H : Hp) (fp : List Addr) (pins : List (Addr × Obj)), PG (compCx X scope N' cl C s H fp pins) tg g ∧ PTs (compCx X scope N' cl C s H fp pins) ifs tt ∧ PE (compCx X scope N' cl C s H fp pins) elt te)
    (hs : ∀ x, foldedSetIterable iter X.env x = pure x := by intro _; rfl) : PE X (.ListComp elt [⟨tg, iter, ifs, 0⟩] scope pos) (tComp ρ wi g tt te) := by
  intro pins s σ H Q I h
  obtain ⟨cl, hcl, h1, h2⟩ := closureFor_of (scope := scope) (env := X.env) (fun n hn => I.ok.has n (S.free (n, .free) hn rfl))
  rw [eval_ListComp]
  refine wpAny_comprehension_free (use := none) rfl hs hcl S.kind S.loc ?_
  refine comp_run (RR := fun acc C => compPost (model X.prog X.w) X.A X.xe none (EP X pins σ Q) acc C) hc hi S hρ hl inner I h h1 h2 ?_
  intro D C s' H' m I' q hm hf
  refine ⟨m, hm, fun h' sb => ⟨.ref D, H', ?_, rfl, q⟩⟩
  exact I'.turned (t' := s'.toks) (fun b o hb e => (sb.2 b hb).trans e) hf.1 hf.2.1 hf.2.2.2.1 hf.2.2.2.2.1 hf.2.2.2.2.2

theorem ps_setcomp {X : Cx} {elt iter tg : Expr} {ifs : List Expr} {scope : Scope} {pos pos' spos : Pos} {i : Nat} {x : Str} (N' : List Str) (ρ : List (Option Nat)) {wi : TI} {g : TG} {tt : TT} {te : TE} (hN : X.N.Nodup) (hix : X.N[i]? = some x) (hx : Loc X.env.scope x)
    (hc : X.calm = true) (hi : PI X tg iter wi) (S : CompScope scope X.env.scope) (hρ : SlotOk scope X.env X.N N' ρ)
    (hl : ∀ x, (x, NameKind.free) ∈ scope.names → scope.names.lookup x = some .free)
    (inner : ∀ (cl : List (Str × Addr)) (C : Addr) (s : Shared) (H : Hp) (fp : List Addr) (pins : List (Addr × Obj)), PG (compCx X scope N' cl C s H fp pins) tg g ∧ PTs (compCx X scope N' cl C s H fp pins) ifs tt ∧ PE (compCx X scope N' cl C s H fp pins) elt te)
    (hsw : swapsWith (.ListComp elt [⟨tg, iter, ifs, 0⟩] scope pos) (some (.Name x pos')) spos.line X.env = pure true := by rfl)
    (hs : ∀ x, foldedSetIterable iter X.env x = pure x := by intro _; rfl) (hf : X.fn x = true ∨ X.env.scope.names.lookup x = some .local := by first | exact .inl rfl | exact .inr rfl | assumption) :
    PS X (.Assign [.Name x pos'] (.ListComp elt [⟨tg, iter, ifs, 0⟩] scope pos) spos) (tAsg (tComp ρ wi g tt te) (gName i)) := by
  intro pins s σ H Dn I h
  obtain ⟨cl, hcl, h1, h2⟩ := closureFor_of (scope := scope) (env := X.env) (fun n hn => I.ok.has n (S.free (n, .free) hn rfl))
  rw [exec_Assign_Name_used _ _ _ _ hsw]
  refine wpAny_bind (wpAny_standAt (wpAny_bind ?_))
  show wpAny _ X.A (do let _ ← comprehension (.ListComp elt [⟨tg, iter, ifs, 0⟩] scope pos) scope X.env _ (newList []) false (eval iter X.env) (some (assign (.Name x pos') X.env))) _ _ s
  refine wpAny_bind (wpAny_mono (wpAny_comprehension_free (use := some (assign (.Name x pos') X.env)) (Q := fun _ s' => SP X pins Dn .next s') rfl hs hcl S.kind S.loc ?_) (fun _ s' hq => wpAny_pure (wpAny_pure hq)) fun _ _ e => e)
  refine comp_run (RR := fun acc C => compPost (model X.prog X.w) X.A X.xe (some (assign (.Name x pos') X.env)) (fun _ s' => SP X pins Dn .next s') acc C) hc hi S hρ hl inner I h h1 h2 ?_
  intro D C s' H' m I' q hm hfC
  obtain ⟨oC, es, ep, hoC, hr⟩ := id hm
  have pin : Inv X (pins ++ pinsAt [C] s'.heap) σ H' s' := I'.pinned (fun b hb => by
    have e : b = C := by simpa using hb
    subst e
    exact hfC) (fun b hb => by
    have e : b = C := by simpa using hb
    subst e
    exact ⟨oC, hoC, fun v z => by rw [hr.1] at z; cases z⟩)
  show wpAny _ X.A (assign (.Name x pos') X.env (.ref D)) _ _ _
  refine wpAny_assign_Name ?_
  refine store_ok (M := model X.prog X.w) (A := X.A) (E := X.xe) pin hN hix hx (v := .ref D) (u := .ref D) rfl (fun s'' I'' => ?_) hf
  have pC := (I''.pin (C, oC) (List.mem_append_right _ (List.mem_append_right _ (mem_pinsAt (by simp) hoC))))
  refine ⟨m, ⟨oC, es, ep, pC.1, hr⟩, fun h' sb => ⟨_, H', ?_, q⟩⟩
  have I2 : Inv X pins (σ.set i (some (.ref D))) H' s'' := I''.unpinned
  exact I2.turned (t' := s''.toks) (fun b o hb e => (sb.2 b hb).trans e) hfC.1 hfC.2.1 hfC.2.2.2.1 hfC.2.2.2.2.1 hfC.2.2.2.2.2

theorem inSt_cons (σ : St) (o : Option Nat) (ρ : List (Option Nat)) : inSt (o :: ρ) σ = (match o with | some i => (σ[i]?).getD none | none => none) :: inSt ρ σ := rfl
theorem outs1 {ρ : List (Option Nat)} {σ : St} (o : Option V) : Outs (none :: ρ) σ (o :: inSt ρ σ) := by
  refine ⟨by unfold inSt; simp, fun j v e => ?_⟩
  cases j with
  | zero => rw [inSt_cons] at e; simp at e
  | succ j => rw [inSt_cons] at e; simpa using e
theorem outs2 {ρ : List (Option Nat)} {σ : St} (o o' : Option V) : Outs (none :: none :: ρ) σ (o :: o' :: inSt ρ σ) := by
  refine ⟨by unfold inSt; simp, fun j v e => ?_⟩
  cases j with
  | zero => rw [inSt_cons] at e; simp at e
  | succ j =>
    rw [inSt_cons, inSt_cons] at e
    cases j with
    | zero => simp at e
    | succ j => simpa using e
theorem comp_by {J : It} {n : Nat} {X : Nat → V → Prop} {ρ : List (Option Nat)} {tt : TT} {te : TE} {σ : St} {H : Hp} {Q : VK} (Pv : Nat → List V → Hp → Prop) (h0 : Pv 0 [] H) (hlen : n ≤ sizeLine)
    (hy : ∀ i ys H, i ≤ n → Pv i ys H → ys.length ≤ i) (hgo : ∀ i ys H, i < n → Pv i ys H → J.go i H) (hyl : ∀ i ys H x H', i < n → Pv i ys H → J.yld i H x H' → H' = H ∧ X i x) (hst : ∀ ys H, Pv n ys H → J.stop n H)
    (hs : ∀ i x ys H, i < n → X i x → Pv i ys H → tt (some x :: inSt ρ σ) H fun ok H4 => if ok = true then te (some x :: inSt ρ σ) H4 fun v H5 => Pv (i + 1) (ys ++ [v]) H5 else Pv (i + 1) ys H4)
    (hd : ∀ ys H, Pv n ys H → ∀ p, H p = none → Q (.ref p) (upd H p (.lst ys))) :
    CompW (none :: ρ) (gName 0) tt te σ Q J H := by
  refine ⟨fun i m ys H => m = n - i ∧ i ≤ n ∧ Pv i ys H, ⟨n, by simp, Nat.zero_le _, h0⟩, ?_⟩
  rintro i m ys H ⟨rfl, hi, p⟩
  have hl := hy i ys H hi p
  by_cases hlt : i < n
  · refine .inr ⟨hgo i ys H hlt p, by omega, Pv (i + 1), fun ys' H'' p' => ⟨n - (i + 1), by omega, rfl, hlt, p'⟩, fun x H' y => ?_⟩
    obtain ⟨e, y2⟩ := hyl i ys H x H' hlt p y
    subst e
    exact ⟨outs1 _, hs i x ys _ hlt y2 p⟩
  · have e : i = n := by omega
    subst e
    exact .inl ⟨hst ys H p, by omega, hd ys H p⟩
theorem comp_range {lo : Int} {n : Nat} {ρ : List (Option Nat)} {tt : TT} {te : TE} {σ : St} {H : Hp} {Q : VK} (Pv : Nat → List V → Hp → Prop) (h0 : Pv 0 [] H) (hlen : n ≤ sizeLine) (hl : ∀ i ys H, i ≤ n → Pv i ys H → ys.length ≤ i)
    (hs : ∀ i ys H, i < n → Pv i ys H → tt (some (.int (lo + i)) :: inSt ρ σ) H fun ok H4 => if ok = true then te (some (.int (lo + i)) :: inSt ρ σ) H4 fun v H5 => Pv (i + 1) (ys ++ [v]) H5 else Pv (i + 1) ys H4)
    (hd : ∀ ys H, Pv n ys H → ∀ p, H p = none → Q (.ref p) (upd H p (.lst ys))) :
    CompW (none :: ρ) (gName 0) tt te σ Q (Itr lo n) H :=
  comp_by (n := n) (X := fun i x => x = .int (lo + i)) Pv h0 hlen hl (fun i ys H hi p => hi) (fun i ys H x H' hi p y => y) (fun ys H p => Nat.le_refl _) (fun i x ys H hi e p => by subst e; exact hs i ys H hi p) hd
end L2

set_option Elab.async false
set_option linter.all false
set_option maxRecDepth 100000
set_option maxHeartbeats 4000000
namespace L2
open PySem PySem.Spec PyProof.Rows

noncomputable def cutC {α : Type} (xs : List α) (lo hi : Option Int) : List α := (xs.drop (HT.sIx xs.length 0 lo)).take (HT.sIx xs.length xs.length hi - HT.sIx xs.length 0 lo)
section
variable {X : Cx}
end

section
variable {X : Cx}
theorem call_allB (hc : X.calm = true) : CallR X (.builtin "all") (fun xs H Q => ∃ (p : Addr) (bs : List Bool), xs = [.ref p] ∧ SqL X.K H p (bs.map V.bl) ∧ Q (.bl (bs.all id)) H) := by
  intro pins s σ H xs us Q I r h
  obtain ⟨p, bs, rfl, hq, q⟩ := h
  obtain ⟨u, rfl, ru⟩ := vals1 r
  cases ru
  obtain ⟨its, rv, pl, hz⟩ := I.list hq
  have hne : p ≠ s.heap.objs.size := by
    obtain ⟨o, n, e, _⟩ := pl
    exact Nat.ne_of_lt (Heap.lt_size e)
  have hl := rv.length
  refine call_all_walk (wpAny_pyIter_list pl.isList ⟨s.heap.objs.size, _, _, its.toArray.size, _, _, fun i => bs.getD i true, rfl, Walks.list (A := X.A.in1) (show X.A.in1.handled = none from I.ok.hd hc) s.heap.objs.size p hne its.toArray, ⟨⟨_, Heap.get?_push_size _ rfl, rfl, rfl⟩, (pl.isList).push _⟩, ?_, fun h' tk kk => ?_⟩)
  · intro i v s' Q' E hv hq'
    have hv' : its[i]? = some v := by simpa using hv
    have hb : ∃ b, bs[i]? = some b ∧ v = .bool b := by
      cases e : (bs.map V.bl)[i]? with
      | none =>
        have := rv.none_of e
        rw [hv'] at this; cases this
      | some y =>
        obtain ⟨u, hu, ru⟩ := rv.get e
        rw [hv'] at hu; cases hu
        rw [List.getElem?_map] at e
        cases eb : bs[i]? with
        | none => rw [eb] at e; cases e
        | some b =>
          rw [eb] at e
          cases e
          exact ⟨b, rfl, ru⟩
    obtain ⟨b, hb, rfl⟩ := hb
    refine wpAny_truthy_bool ?_
    have hq2 : Q' ((bs[i]?).getD true) s' := hq'
    rw [hb] at hq2
    exact hq2
  · have e : ((List.range its.toArray.size).all fun i => bs.getD i true) = bs.all id := by
      have el : its.toArray.size = bs.length := by rw [List.size_toArray, ← hl, List.length_map]
      rw [el]
      rw [Bool.eq_iff_iff]
      simp only [List.all_eq_true, List.mem_range]
      constructor
      · intro h b hb
        obtain ⟨i, hi, e⟩ := List.mem_iff_getElem.mp hb
        have := h i hi
        rw [List.getD_eq_getElem?_getD, List.getElem?_eq_getElem hi] at this
        rw [← e]; exact this
      · intro h i hi
        rw [List.getD_eq_getElem?_getD, List.getElem?_eq_getElem hi]
        exact h _ (List.getElem_mem hi)
    rw [e]
    refine ⟨.bl (bs.all id), H, I.kept (t' := tk) fun b o eb => kk b o ?_ (Heap.get?_push_of_some _ eb), rfl, q⟩
    intro z
    have z' : b = s.heap.objs.size := by simpa using z
    exact absurd (Heap.lt_size eb) (by rw [z']; exact Nat.lt_irrefl _)

noncomputable def clsV : V → Option Value
  | .ty n => some (.type n)
  | .ref a => some (.ref a)
  | _ => none
theorem call_isi : CallR X (.builtin "isinstance") (fun xs H Q => ∃ x c t cv b, xs = [x, c] ∧ clsV c = some cv ∧ TyOf X.K H x t ∧ PySem.W.kitOne X.K t cv = some b ∧ Q (.bl b) H) := by
  intro pins s σ H xs us Q I r h
  obtain ⟨x, c, t, cv, b, rfl, rc, ty, e, q⟩ := h
  obtain ⟨u, w', rfl, rx, rw'⟩ := r.two
  have : w' = cv := by
    cases c with
    | ref a => cases rc; exact rw'
    | ty a => cases rc; exact rw'
    | _ => cases rc
  subst this
  exact isinst_ok I rx ty e fun tk => ⟨.bl b, H, I.tok _, rfl, q⟩
end
end L2

set_option Elab.async false
set_option linter.all false
set_option maxRecDepth 100000
set_option maxHeartbeats 4000000
namespace L2
open PySem PySem.Spec PyProof.Rows

noncomputable def compB (sc out : Scope) (N N' : List Str) (ρ : List (Option Nat)) : Bool :=
  decide (sc.kind = .function) && sc.names.all (fun y => decide (y.2 ≠ .cell)) && sc.names.all (fun y => decide (y.2 = .local → sc.names.lookup y.1 = some .local)) &&
  sc.names.all (fun y => decide (y.2 = .free → sc.names.lookup y.1 = some .free ∧ (out.names.lookup y.1 = some .cell ∨ out.names.lookup y.1 = some .free))) &&
  decide (ρ.length = N'.length) && decide N'.Nodup &&
  (ρ.zip N').all (fun p => match p.1 with | none => true | some i => decide (N[i]? = some p.2) && decide (out.names.lookup p.2 = some .local ∨ out.names.lookup p.2 = some .cell ∨ out.names.lookup p.2 = some .free) && sc.names.any (fun y => decide (y = (p.2, NameKind.free))))
structure CompF (sc : Scope) (env : Env) (N N' : List Str) (ρ : List (Option Nat)) : Prop where
  S : CompScope sc env.scope
  sl : SlotOk sc env N N' ρ
  hl : ∀ x, (x, NameKind.free) ∈ sc.names → sc.names.lookup x = some .free
  nd : N'.Nodup
theorem compF_of {sc : Scope} {env : Env} {N N' : List Str} {ρ : List (Option Nat)} (h : compB sc env.scope N N' ρ = true) : CompF sc env N N' ρ := by
  unfold compB at h
  simp only [Bool.and_eq_true, decide_eq_true_eq, List.all_eq_true] at h
  obtain ⟨⟨⟨⟨⟨⟨h1, h2⟩, h3⟩, h4⟩, h5⟩, h6⟩, h7⟩ := h
  refine ⟨⟨h1, h2, h3, fun y hy e => (h4 y hy e).2⟩, ⟨h5, fun j i x e1 e2 => ?_⟩, fun x hx => (h4 _ hx rfl).1, h6⟩
  have hm : (some i, x) ∈ ρ.zip N' := by
    refine List.mem_of_getElem? (i := j) ?_
    rw [List.getElem?_zip_eq_some]
    exact ⟨e1, e2⟩
  have q := h7 _ hm
  simp only [Bool.and_eq_true, decide_eq_true_eq, List.any_eq_true] at q
  obtain ⟨⟨q1, q2⟩, y, hy, e⟩ := q
  exact ⟨q1, q2, e ▸ hy⟩

theorem pe_compB {X : Cx} {elt iter tg : Expr} {ifs : List Expr} {scope : Scope} {pos : Pos} (N' : List Str) (ρ : List (Option Nat)) {wi : TI} {g : TG} {tt : TT} {te : TE} (hc : X.calm = true) (hi : PI X tg iter wi) (h : compB scope X.env.scope X.N N' ρ = true)
    (inner : ∀ (cl : List (Str × Addr)) (C : Addr) (s : Shared) (H : Hp) (fp : List Addr) (pins : List (Addr × Obj)), PG (compCx X scope N' cl C s H fp pins) tg g ∧ PTs (compCx X scope N' cl C s H fp pins) ifs tt ∧ PE (compCx X scope N' cl C s H fp pins) elt te)
    (hs : ∀ x, foldedSetIterable iter X.env x = pure x := by intro _; rfl) : PE X (.ListComp elt [⟨tg, iter, ifs, 0⟩] scope pos) (tComp ρ wi g tt te) :=
  have F := compF_of h
  pe_comp N' ρ hc hi F.S F.sl F.hl inner hs
theorem ps_setcompB {X : Cx} {elt iter tg : Expr} {ifs : List Expr} {scope : Scope} {pos pos' spos : Pos} {i : Nat} {x : Str} (N' : List Str) (ρ : List (Option Nat)) {wi : TI} {g : TG} {tt : TT} {te : TE} (hN : X.N.Nodup) (hix : X.N[i]? = some x) (hx : Loc X.env.scope x)
    (hc : X.calm = true) (hi : PI X tg iter wi) (h : compB scope X.env.scope X.N N' ρ = true)
    (inner : ∀ (cl : List (Str × Addr)) (C : Addr) (s : Shared) (H : Hp) (fp : List Addr) (pins : List (Addr × Obj)), PG (compCx X scope N' cl C s H fp pins) tg g ∧ PTs (compCx X scope N' cl C s H fp pins) ifs tt ∧ PE (compCx X scope N' cl C s H fp pins) elt te)
    (hsw : swapsWith (.ListComp elt [⟨tg, iter, ifs, 0⟩] scope pos) (some (.Name x pos')) spos.line X.env = pure true := by rfl)
    (hs : ∀ x, foldedSetIterable iter X.env x = pure x := by intro _; rfl) (hf : X.fn x = true ∨ X.env.scope.names.lookup x = some .local := by first | exact .inl rfl | exact .inr rfl | assumption) :
    PS X (.Assign [.Name x pos'] (.ListComp elt [⟨tg, iter, ifs, 0⟩] scope pos) spos) (tAsg (tComp ρ wi g tt te) (gName i)) :=
  have F := compF_of h
  ps_setcomp N' ρ hN hix hx hc hi F.S F.sl F.hl inner hsw hs hf

noncomputable def spLaw (K : PySem.W.Frag) : Sp := fun vs H Q _ => ∃ (a : Addr) (ns : List Int), vs = [.ref a] ∧ SqL K H a (ns.map V.int) ∧ ns.length ≤ 63 ∧ Only H ∧ ∀ H', Q (.bl true) H'
theorem law_walk {l : PySem.W.OpenLaw} {q : Program} {loose : List Str} {XP : (Str → Option Value) → Heap → Prop} {YP : World → Heap → Prop} {d : DefRec} {K : Params → PySem.W.Frag} {x : Str} (k : Nat) (hk : k ≤ 200) (hn : l.most = some 63) (hdf : d.params.defaults = [])
    (hY : ∀ (w : World) (h : Heap), YP w h → (K w.params).In h)
    (F : ∀ (w : World) (mg : Str → Option Value) (fa : Addr) (h : Heap), (K w.params).In h → h.Ns mainGlobals mg → mg d.name = some (.ref fa) →
      ∃ fd : FuncData, (∀ (s : Shared) (u : Value), BindsTo s fd ⟨[u], []⟩ [(x, u)]) ∧ ∀ base : Heap, (K w.params).In base → base.Ns mainGlobals mg → FnOk l.prog w (K w.params) mg base CX0 k fa fd [x] (spLaw (K w.params))) :
    PySem.W.WalkO q loose XP YP l.row.toRowW d [] (fun f vs => PySem.call f vs) :=
  L2.walk_of (n := 63) (k := k) (x := x) (CX := fun _ => CX0) (sp := fun w => spLaw (K w.params)) hn (by decide) hdf
    ⟨rfl, by have : callerA.depth + 605 < recursionLimit := by decide
             omega, by have : callerA.units + 3400 < cLine := by decide
                       omega, rfl⟩ hY F (fun _ H a ns hl hO hS => ⟨a, ns, rfl, hS, hl, hO, fun _ => rfl⟩) fun _ _ _ _ _ z => z
end L2
namespace L2
open PySem
noncomputable def mkSc (l : List (Str × NameKind)) : Scope := { kind := .function, names := l, isGenerator := false, isCoroutine := false, more := [] }
end L2

namespace L2
open PySem
theorem bt_len : bootBuiltins "len" = some (.builtin "len") := by decide +kernel
theorem bt_all : bootBuiltins "all" = some (.builtin "all") := by decide +kernel
theorem bt_isinstance : bootBuiltins "isinstance" = some (.builtin "isinstance") := by decide +kernel
theorem bt_int : bootBuiltins "int" = some (.type "int") := by decide +kernel
theorem bt_str : bootBuiltins "str" = some (.type "str") := by decide +kernel
theorem bt_bool : bootBuiltins "bool" = some (.type "bool") := by decide +kernel
theorem bt_list : bootBuiltins "list" = some (.type "list") := by decide +kernel
theorem bt_tuple : bootBuiltins "tuple" = some (.type "tuple") := by decide +kernel
end L2

set_option Elab.async false
set_option linter.all false
set_option maxRecDepth 100000
set_option maxHeartbeats 4000000
namespace L2
open PySem PySem.Spec PyProof.Rows

theorem szl {n : Nat} (h : n ≤ 1000000) : n ≤ sizeLine := by rw [sizeLine_eq]; omega
theorem szlt {n : Nat} (h : n < 1000000) : n < sizeLine := by rw [sizeLine_eq]; omega
theorem same_new {H : Hp} {p : Addr} (h : H p = none) (o : HO) : Same H (upd H p o) := fun b u q => by rw [upd_ne (ne_of_none q h)]; exact q
theorem dT {p : Prop} [Decidable p] (h : decide p = true) : p := of_decide_eq_true h
theorem dF {p : Prop} [Decidable p] (h : ¬ decide p = true) : ¬ p := fun z => h (decide_eq_true z)

theorem cell_in {ns : List Int} {k : Int} (h0 : 0 ≤ k) (h : k < (ns.length : Int)) : atI (ns.map V.int) k = some (.int (ns.getD k.toNat 0)) := by
  have hk : k.toNat < ns.length := by omega
  have ek : k = ((k.toNat : Nat) : Int) := by omega
  have q : atI (ns.map V.int) ((k.toNat : Nat) : Int) = some (.int (ns.getD k.toNat 0)) := atI_nat (by rw [List.getElem?_map, List.getElem?_eq_getElem hk]; simp [List.getD_eq_getElem?_getD, hk])
  rw [← ek] at q
  exact q
theorem take_snoc {α : Type} {l : List α} {i : Nat} {c : α} (h : l[i]? = some c) : l.take (i + 1) = l.take i ++ [c] := by
  rw [List.take_succ, h]; rfl
end L2
namespace L2
open PySem
end L2
namespace L2
open PySem
theorem seq_any {t u : TS} {D : Ends} {σ : St} {H : Hp} (M : St → Hp → Prop) (hu : ∀ σ' H', M σ' H' → u D σ' H') (ht : (∀ σ' H', M σ' H' → u D σ' H') → t { D with nx := u D } σ H) : tSeq t u D σ H := ht hu
theorem ndF {p : Prop} [Decidable p] (h : p) : (!decide p) = false := by rw [decide_eq_true h]; rfl
theorem iteE {b : Bool} {A B : Prop} {v : Bool} (e : b = v) (h : if v = true then A else B) : if b = true then A else B := by rw [e]; exact h
end L2
namespace L2
open PySem
end L2

set_option Elab.async false
set_option linter.all false
set_option maxRecDepth 100000
set_option maxHeartbeats 4000000
namespace L2
open PySem PySem.Spec PyProof.Rows

inductive Tr where
  | v (x : V)
  | lst (l : List Tr)
  | tup (l : List Tr)
mutual
inductive TrIs (K : PySem.W.Frag) (H : Hp) : V → Tr → Prop
  | flat {x : V} : flatV x = true → TrIs K H x (.v x)
  | lst {p : Addr} {xs : List V} {l : List Tr} : SqL K H p xs → TrsIs K H xs l → TrIs K H (.ref p) (.lst l)
  | tup {p : Addr} {xs : List V} {l : List Tr} : SqT K H p xs → TrsIs K H xs l → TrIs K H (.ref p) (.tup l)
inductive TrsIs (K : PySem.W.Frag) (H : Hp) : List V → List Tr → Prop
  | nil : TrsIs K H [] []
  | cons {x : V} {t : Tr} {xs : List V} {l : List Tr} : TrIs K H x t → TrsIs K H xs l → TrsIs K H (x :: xs) (t :: l)
end
mutual
noncomputable def eqT : Tr → Tr → Bool
  | .v x, .v y => eqV x y
  | .lst l, .lst m => eqTs l m
  | .tup l, .tup m => eqTs l m
  | _, _ => false
noncomputable def eqTs : List Tr → List Tr → Bool
  | [], [] => true
  | x :: l, y :: m => eqT x y && eqTs l m
  | _, _ => false
end
mutual
noncomputable def simT : Tr → Tr → Bool
  | .v _, .v _ => true
  | .lst l, .lst m => simTs l m
  | .tup l, .tup m => simTs l m
  | _, _ => false
noncomputable def simTs : List Tr → List Tr → Bool
  | x :: l, y :: m => simT x y && simTs l m
  | _, _ => true
end
mutual
noncomputable def depT : Tr → Nat
  | .v _ => 0
  | .lst l => depTs l + 1
  | .tup l => depTs l + 1
noncomputable def depTs : List Tr → Nat
  | [] => 0
  | x :: l => max (depT x) (depTs l)
end
theorem eqV_refl {x : V} (h : flatV x = true) : eqV x x = true := by
  cases x <;> first | rfl | (simp [eqV]; done) | (simp [flatV] at h)
mutual
/-- a tree of flat values -/
noncomputable def okT : Tr → Bool
  | .v x => flatV x
  | .lst l => okTs l
  | .tup l => okTs l
noncomputable def okTs : List Tr → Bool
  | [] => true
  | x :: l => okT x && okTs l
end
mutual
theorem eqT_refl : ∀ t : Tr, okT t = true → eqT t t = true
  | .v x, h => by rw [eqT]; exact eqV_refl (by simpa [okT] using h)
  | .lst l, h => by rw [eqT]; exact eqTs_refl l (by simpa [okT] using h)
  | .tup l, h => by rw [eqT]; exact eqTs_refl l (by simpa [okT] using h)
theorem eqTs_refl : ∀ l : List Tr, okTs l = true → eqTs l l = true
  | [], _ => by rw [eqTs]
  | x :: l, h => by
    rw [okTs, Bool.and_eq_true] at h
    rw [eqTs, eqT_refl x h.1, eqTs_refl l h.2]; rfl
end
mutual
theorem simT_refl : ∀ t : Tr, simT t t = true
  | .v x => by rw [simT]
  | .lst l => by rw [simT]; exact simTs_refl l
  | .tup l => by rw [simT]; exact simTs_refl l
theorem simTs_refl : ∀ l : List Tr, simTs l l = true
  | [] => by simp [simTs]
  | x :: l => by rw [simTs, simT_refl x, simTs_refl l]; rfl
end
mutual
theorem TrIs.ok {K : PySem.W.Frag} {H : Hp} : ∀ {x : V} {t : Tr}, TrIs K H x t → okT t = true
  | _, _, .flat h => by rw [okT]; exact h
  | _, _, .lst _ h => by rw [okT]; exact h.ok
  | _, _, .tup _ h => by rw [okT]; exact h.ok
theorem TrsIs.ok {K : PySem.W.Frag} {H : Hp} : ∀ {xs : List V} {l : List Tr}, TrsIs K H xs l → okTs l = true
  | _, _, .nil => by rw [okTs]
  | _, _, .cons h r => by rw [okTs, h.ok, r.ok]; rfl
end
theorem TrsIs.length {K : PySem.W.Frag} {H : Hp} : ∀ {xs : List V} {l : List Tr}, TrsIs K H xs l → xs.length = l.length
  | _, _, .nil => rfl
  | _, _, .cons _ r => by simp [r.length]
theorem eqTs_len : ∀ {l m : List Tr}, l.length ≠ m.length → eqTs l m = false
  | [], [], h => absurd rfl h
  | [], _ :: _, _ => by rw [eqTs] <;> simp
  | _ :: _, [], _ => by rw [eqTs] <;> simp
  | x :: l, y :: m, h => by
    rw [eqTs, eqTs_len (l := l) (m := m) (fun e => h (by simp [e])), Bool.and_false]
section
variable {X : Cx} {pins : List (Addr × Obj)} {σ : St} {H : Hp} {s : Shared}
mutual
theorem TrIs.inj (I : Inv X pins σ H s) : ∀ {t t' : Tr} {x : V}, TrIs X.K H x t → TrIs X.K H x t' → t = t'
  | .v x, t', _, .flat h, h' => by
    cases h' with
    | flat _ => rfl
    | lst _ _ => cases h
    | tup _ _ => cases h
  | .lst l, t', _, .lst (p := p) (xs := xs) hq hr, h' => by
    cases h' with
    | flat h => cases h
    | lst hq' hr' =>
      have e := I.list_inj hq hq'
      subst e
      rw [TrsIs.inj I hr hr']
    | tup hq' hr' =>
      obtain ⟨_, _, ⟨o, n, e1, c1, _⟩, _⟩ := I.list hq
      obtain ⟨_, _, ⟨o', e2, c2, _⟩, _⟩ := I.tuple hq'
      rw [e1] at e2; cases e2
      rw [c1] at c2; simp at c2
  | .tup l, t', _, .tup (p := p) (xs := xs) hq hr, h' => by
    cases h' with
    | flat h => cases h
    | tup hq' hr' =>
      have e := I.tuple_inj hq hq'
      subst e
      rw [TrsIs.inj I hr hr']
    | lst hq' hr' =>
      obtain ⟨_, _, ⟨o, n, e1, c1, _⟩, _⟩ := I.list hq'
      obtain ⟨_, _, ⟨o', e2, c2, _⟩, _⟩ := I.tuple hq
      rw [e1] at e2; cases e2
      rw [c1] at c2; simp at c2
theorem TrsIs.inj (I : Inv X pins σ H s) : ∀ {l l' : List Tr} {xs : List V}, TrsIs X.K H xs l → TrsIs X.K H xs l' → l = l'
  | [], _, _, .nil, h' => by cases h'; rfl
  | t :: l, _, _, .cons h r, h' => by
    cases h' with
    | cons h2 r2 => rw [TrIs.inj I h h2, TrsIs.inj I r r2]
end
theorem range_all_eq {α : Type} {e : Nat → Bool} {f : α → Bool} : ∀ {l : List α}, (∀ j x, l[j]? = some x → e j = f x) → (List.range l.length).all e = l.all f := by
  intro l h
  rw [Bool.eq_iff_iff]
  simp only [List.all_eq_true, List.mem_range]
  constructor
  · intro q x hx
    obtain ⟨i, hi, hx⟩ := List.mem_iff_getElem.mp hx
    rw [← h i x (by rw [List.getElem?_eq_getElem hi, hx])]
    exact q i hi
  · intro q i hi
    rw [h i l[i] (List.getElem?_eq_getElem hi)]
    exact q _ (List.getElem_mem hi)
theorem eqTs_zip : ∀ {l m : List Tr}, l.length = m.length → eqTs l m = (l.zip m).all fun p => eqT p.1 p.2
  | [], [], _ => by rw [eqTs]; rfl
  | [], _ :: _, h => by simp at h
  | _ :: _, [], h => by simp at h
  | x :: l, y :: m, h => by
    rw [eqTs, eqTs_zip (l := l) (m := m) (by simpa using h)]
    rfl
theorem TrsIs.at {K : PySem.W.Frag} {H : Hp} : ∀ {xs : List V} {l : List Tr} {j : Nat} {t : Tr}, TrsIs K H xs l → l[j]? = some t → ∃ x, xs[j]? = some x ∧ TrIs K H x t
  | _, _, _, _, .nil, h => by simp at h
  | _, _, 0, _, .cons h _, e => by simp at e; subst e; exact ⟨_, rfl, h⟩
  | _, _, j + 1, _, .cons _ r, e => by
    obtain ⟨x, h1, h2⟩ := r.at (j := j) (by simpa using e)
    exact ⟨x, by simpa using h1, h2⟩
theorem simTs_at : ∀ {l m : List Tr} {j : Nat} {t t' : Tr}, simTs l m = true → l[j]? = some t → m[j]? = some t' → simT t t' = true
  | [], _, _, _, _, _, h, _ => by simp at h
  | _ :: _, [], _, _, _, _, _, h => by simp at h
  | x :: l, y :: m, 0, t, t', h, e1, e2 => by
    simp at e1 e2; subst e1 e2
    rw [simTs, Bool.and_eq_true] at h; exact h.1
  | x :: l, y :: m, j + 1, t, t', h, e1, e2 => by
    rw [simTs, Bool.and_eq_true] at h
    exact simTs_at (j := j) h.2 (by simpa using e1) (by simpa using e2)
theorem depTs_at : ∀ {l : List Tr} {j : Nat} {t : Tr}, l[j]? = some t → depT t ≤ depTs l
  | [], _, _, h => by simp at h
  | x :: l, 0, t, h => by simp at h; subst h; rw [depTs]; omega
  | x :: l, j + 1, t, h => by
    have := depTs_at (l := l) (j := j) (t := t) (by simpa using h)
    rw [depTs]; omega
theorem items_eq {A : Around} {l m : List Tr} {xs ys : List V} {its jts : List Value} (hr : TrsIs X.K H xs l) (hr' : TrsIs X.K H ys m) (rv : Vals xs its) (rv' : Vals ys jts)
    (ih : ∀ (j : Nat) (t t' : Tr) (x y : V) (u v : Value), l[j]? = some t → m[j]? = some t' → TrIs X.K H x t → RelV x u → TrIs X.K H y t' → RelV y v → SeqAt.EqAt A.in1 s u v (eqT t t')) :
    ∀ j (h1 : j < its.toArray.size) (h2 : j < jts.toArray.size), SeqAt.EqAt A.in1 s its.toArray[j] jts.toArray[j] (match l[j]?, m[j]? with | some t, some t' => eqT t t' | _, _ => true) := by
  intro j h1 h2
  have l1 := hr.length; have l2 := hr'.length; have l3 := rv.length; have l4 := rv'.length
  rw [List.size_toArray] at h1 h2
  obtain ⟨t, ht⟩ : ∃ t, l[j]? = some t := ⟨l[j]'(by omega), List.getElem?_eq_getElem (by omega)⟩
  obtain ⟨t', ht'⟩ : ∃ t', m[j]? = some t' := ⟨m[j]'(by omega), List.getElem?_eq_getElem (by omega)⟩
  obtain ⟨x, hx, hxt⟩ := hr.at ht
  obtain ⟨y, hy, hyt⟩ := hr'.at ht'
  obtain ⟨u, hu, ru⟩ := rv.get hx
  obtain ⟨v, hv, rw'⟩ := rv'.get hy
  rw [ht, ht']
  have e1 : its.toArray[j] = u := by
    have := List.getElem?_eq_getElem (l := its) (i := j) h1
    rw [hu] at this
    simpa using (Option.some.inj this).symm
  have e2 : jts.toArray[j] = v := by
    have := List.getElem?_eq_getElem (l := jts) (i := j) h2
    rw [hv] at this
    simpa using (Option.some.inj this).symm
  rw [e1, e2]
  exact ih j t t' x y u v ht ht' hxt ru hyt rw'
theorem all_items {l m : List Tr} (h : l.length = m.length) : (List.range l.length).all (fun j => match l[j]?, m[j]? with | some t, some t' => eqT t t' | _, _ => true) = eqTs l m := by
  rw [eqTs_zip h]
  have e : l.length = (l.zip m).length := by rw [List.length_zip]; omega
  rw [e]
  refine range_all_eq fun j p hp => ?_
  obtain ⟨h1, h2⟩ := List.getElem?_zip_eq_some.mp hp
  rw [h1, h2]
theorem RcAt_lists {A : Around} {p q : Addr} {xs ys : List V} {l m : List Tr} (I : Inv X pins σ H s) (hu : A.units < cLine) (hq : SqL X.K H p xs) (hr : TrsIs X.K H xs l) (hq' : SqL X.K H q ys) (hr' : TrsIs X.K H ys m)
    (ih : ∀ (j : Nat) (t t' : Tr) (x y : V) (u v : Value), l[j]? = some t → m[j]? = some t' → TrIs X.K H x t → RelV x u → TrIs X.K H y t' → RelV y v → SeqAt.EqAt A.in1 s u v (eqT t t')) :
    SeqAt.RcAt A s (.ref p) (.ref q) (eqTs l m) ∧ SeqAt.RcNeAt A s (.ref p) (.ref q) (!eqTs l m) := by
  obtain ⟨its, rv, pl, _⟩ := I.list hq
  obtain ⟨jts, rv', pl', _⟩ := I.list hq'
  have l1 := hr.length; have l2 := hr'.length; have l3 := rv.length; have l4 := rv'.length
  by_cases hl : l.length = m.length
  · have e : its.toArray.size = l.length := by rw [List.size_toArray]; omega
    have a := SeqAt.RcAt.lists (A := A) pl.isList pl'.isList (by rw [List.size_toArray, List.size_toArray]; omega) hu (items_eq hr hr' rv rv' ih)
    have b := SeqAt.RcNeAt.lists (A := A) pl.isList pl'.isList (by rw [List.size_toArray, List.size_toArray]; omega) hu (items_eq hr hr' rv rv' ih)
    rw [e, all_items hl] at a b
    exact ⟨a, b⟩
  · rw [eqTs_len hl]
    have hne : (its.toArray.size != jts.toArray.size) = true := by
      rw [List.size_toArray, List.size_toArray]
      simp only [bne_iff_ne, ne_eq]; omega
    exact ⟨SeqAt.RcAt.lists_lengths pl.isList pl'.isList hne hu, SeqAt.RcNeAt.lists_lengths pl.isList pl'.isList hne hu⟩
theorem RcAt_tuples {A : Around} {p q : Addr} {xs ys : List V} {l m : List Tr} (I : Inv X pins σ H s) (hu : A.units < cLine) (hq : SqT X.K H p xs) (hr : TrsIs X.K H xs l) (hq' : SqT X.K H q ys) (hr' : TrsIs X.K H ys m)
    (ih : ∀ (j : Nat) (t t' : Tr) (x y : V) (u v : Value), l[j]? = some t → m[j]? = some t' → TrIs X.K H x t → RelV x u → TrIs X.K H y t' → RelV y v → SeqAt.EqAt A.in1 s u v (eqT t t')) :
    SeqAt.RcAt A s (.ref p) (.ref q) (eqTs l m) ∧ SeqAt.RcNeAt A s (.ref p) (.ref q) (!eqTs l m) := by
  obtain ⟨its, rv, pl, _⟩ := I.tuple hq
  obtain ⟨jts, rv', pl', _⟩ := I.tuple hq'
  have l1 := hr.length; have l2 := hr'.length; have l3 := rv.length; have l4 := rv'.length
  have a := SeqAt.RcAt.tuples (A := A) (show s.heap.IsTuple p its.toArray from pl) (show s.heap.IsTuple q jts.toArray from pl') hu (items_eq hr hr' rv rv' ih)
  have b := SeqAt.RcNeAt.tuples (A := A) (show s.heap.IsTuple p its.toArray from pl) (show s.heap.IsTuple q jts.toArray from pl') hu (items_eq hr hr' rv rv' ih)
  have e : ((List.range (min its.toArray.size jts.toArray.size)).all (fun j => match l[j]?, m[j]? with | some t, some t' => eqT t t' | _, _ => true) && its.toArray.size == jts.toArray.size) = eqTs l m := by
    by_cases hl : l.length = m.length
    · have e1 : min its.toArray.size jts.toArray.size = l.length := by rw [List.size_toArray, List.size_toArray]; omega
      have e2 : (its.toArray.size == jts.toArray.size) = true := by rw [List.size_toArray, List.size_toArray]; simp; omega
      rw [e1, e2, all_items hl, Bool.and_true]
    · have e2 : (its.toArray.size == jts.toArray.size) = false := by rw [List.size_toArray, List.size_toArray]; simp; omega
      rw [e2, eqTs_len hl, Bool.and_false]
  rw [e] at a b
  exact ⟨a, b⟩
theorem eqAt_T (I : Inv X pins σ H s) (n : Nat) : ∀ (A : Around) (t t' : Tr) (x y : V) (u v : Value), depT t ≤ n → A.units + n < cLine → simT t t' = true → TrIs X.K H x t → RelV x u → TrIs X.K H y t' → RelV y v → SeqAt.EqAt A s u v (eqT t t') := by
  induction n with
  | zero =>
    intro A t t' x y u v hd hu hs hx rx hy ry
    cases hx with
    | flat fx =>
      cases hy with
      | flat fy => rw [eqT]; exact eqAt_V rx ry fx fy
      | lst _ _ => simp [simT] at hs
      | tup _ _ => simp [simT] at hs
    | lst _ _ => simp [depT] at hd
    | tup _ _ => simp [depT] at hd
  | succ n ih =>
    intro A t t' x y u v hd hu hs hx rx hy ry
    cases hx with
    | flat fx =>
      cases hy with
      | flat fy => rw [eqT]; exact eqAt_V rx ry fx fy
      | lst _ _ => simp [simT] at hs
      | tup _ _ => simp [simT] at hs
    | @lst p xs l hq hr =>
      cases hy with
      | flat fy => simp [simT] at hs
      | tup _ _ => simp [simT] at hs
      | @lst q ys m hq' hr' =>
        cases rx; cases ry
        rw [depT] at hd
        rw [simT] at hs
        by_cases e : p = q
        · subst e
          have e1 := TrIs.inj I (TrIs.lst hq hr) (TrIs.lst hq' hr')
          rw [← e1, eqT_refl _ (TrIs.lst hq hr).ok]
          exact SeqAt.EqAt.same _
        · rw [eqT]
          refine SeqAt.EqAt.of_refs e (RcAt_lists I (by omega) hq hr hq' hr' fun j t t' x y u v h1 h2 h3 h4 h5 h6 => ?_).1
          exact ih A.in1 t t' x y u v (by have := depTs_at h1; omega) (by show A.units + 1 + n < cLine; omega) (simTs_at hs h1 h2) h3 h4 h5 h6
    | @tup p xs l hq hr =>
      cases hy with
      | flat fy => simp [simT] at hs
      | lst _ _ => simp [simT] at hs
      | @tup q ys m hq' hr' =>
        cases rx; cases ry
        rw [depT] at hd
        rw [simT] at hs
        by_cases e : p = q
        · subst e
          have e1 := TrIs.inj I (TrIs.tup hq hr) (TrIs.tup hq' hr')
          rw [← e1, eqT_refl _ (TrIs.tup hq hr).ok]
          exact SeqAt.EqAt.same _
        · rw [eqT]
          refine SeqAt.EqAt.of_refs e (RcAt_tuples I (by omega) hq hr hq' hr' fun j t t' x y u v h1 h2 h3 h4 h5 h6 => ?_).1
          exact ih A.in1 t t' x y u v (by have := depTs_at h1; omega) (by show A.units + 1 + n < cLine; omega) (simTs_at hs h1 h2) h3 h4 h5 h6
end

section
variable {X : Cx}
noncomputable def rEqX (K : PySem.W.Frag) (neg : Bool) : R2 := fun x y H Q => ∃ t t', TrIs K H x t ∧ TrIs K H y t' ∧ (∃ p, x = .ref p) ∧ (∃ p, y = .ref p) ∧ simT t t' = true ∧ depT t ≤ 60 ∧ Q (.bl (if neg then !eqT t t' else eqT t t')) H
theorem eqX_aux {neg : Bool} (hu : X.A.units + 64 < cLine) : OpR X (compareOp (if neg then .NotEq else .Eq)) (rEqX X.K neg) := by
  intro pins s σ H x y v u Q I rx ry h
  obtain ⟨t, t', hx, hy, ⟨p, rfl⟩, ⟨q, rfl⟩, hs, hd, q'⟩ := h
  cases rx; cases ry
  have done : ∀ l m, SeqAt.RcAt X.A s (.ref p) (.ref q) (eqTs l m) ∧ SeqAt.RcNeAt X.A s (.ref p) (.ref q) (!eqTs l m) → Q (.bl (if neg then !eqTs l m else eqTs l m)) H →
      wpAny (model X.prog X.w) X.A (compareOp (if neg then .NotEq else .Eq) (.ref p) (.ref q)) (EP X pins σ Q) X.xe s := fun l m hb hq => by
    cases neg with
    | false => exact hb.1 X.prog X.w X.xe _ ⟨.bl _, H, I, rfl, hq⟩
    | true => exact hb.2 X.prog X.w X.xe _ ⟨.bl _, H, I, rfl, hq⟩
  cases hx with
  | flat fx => cases fx
  | @lst _ xs l hq hr =>
    cases hy with
    | flat fy => cases fy
    | tup _ _ => simp [simT] at hs
    | @lst _ ys m hq' hr' =>
      rw [depT] at hd
      rw [simT] at hs
      rw [eqT] at q'
      refine done l m (RcAt_lists I (by omega) hq hr hq' hr' fun j t t' x y u v h1 h2 h3 h4 h5 h6 => ?_) q'
      exact eqAt_T I 60 X.A.in1 t t' x y u v (by have := depTs_at h1; omega) (by show X.A.units + 1 + 60 < cLine; omega) (simTs_at hs h1 h2) h3 h4 h5 h6
  | @tup _ xs l hq hr =>
    cases hy with
    | flat fy => cases fy
    | lst _ _ => simp [simT] at hs
    | @tup _ ys m hq' hr' =>
      rw [depT] at hd
      rw [simT] at hs
      rw [eqT] at q'
      refine done l m (RcAt_tuples I (by omega) hq hr hq' hr' fun j t t' x y u v h1 h2 h3 h4 h5 h6 => ?_) q'
      exact eqAt_T I 60 X.A.in1 t t' x y u v (by have := depTs_at h1; omega) (by show X.A.units + 1 + 60 < cLine; omega) (simTs_at hs h1 h2) h3 h4 h5 h6
theorem op_eqS (hu : X.A.units + 64 < cLine) : OpR X (compareOp .Eq) (rEqX X.K false) := eqX_aux (neg := false) hu
theorem op_neS (hu : X.A.units + 64 < cLine) : OpR X (compareOp .NotEq) (rEqX X.K true) := eqX_aux (neg := true) hu
theorem hu64 {A : Around} {k : Nat} (hr : Room k A) : A.units + 64 < cLine := by have := hr.un; omega
end
end L2

set_option Elab.async false
set_option linter.all false
set_option maxRecDepth 100000
set_option maxHeartbeats 4000000
namespace L2
open PySem PySem.Spec PyProof.Rows

section
variable {X : Cx}
end

end L2

set_option Elab.async false
set_option linter.all false
set_option maxRecDepth 100000
set_option maxHeartbeats 4000000
namespace L2
open PySem PySem.Spec PyProof.Rows

theorem cut_to {α : Type} (l : List α) {k : Int} (h : 0 ≤ k) : cutC l none (some k) = l.take k.toNat := by
  unfold cutC
  have e : k = ((k.toNat : Nat) : Int) := by omega
  rw [HT.sIx_none, e, HT.sIx_nat, List.drop_zero, Nat.sub_zero]
  rw [show (((k.toNat : Nat) : Int)).toNat = k.toNat by omega]
  by_cases h : k.toNat ≤ l.length
  · rw [Nat.min_eq_left h]
  · rw [Nat.min_eq_right (by omega), List.take_of_length_le (by omega), List.take_of_length_le (by omega)]
theorem cut_mid {α : Type} (l : List α) {i j : Int} (hi : 0 ≤ i) (hj : 0 ≤ j) (hl : j ≤ (l.length : Int)) (hij : i ≤ j) : cutC l (some i) (some j) = (l.drop i.toNat).take (j.toNat - i.toNat) := by
  unfold cutC
  have e1 : i = ((i.toNat : Nat) : Int) := by omega
  have e2 : j = ((j.toNat : Nat) : Int) := by omega
  rw [e1, e2, HT.sIx_nat, HT.sIx_nat]
  rw [show (((i.toNat : Nat) : Int)).toNat = i.toNat by omega, show (((j.toNat : Nat) : Int)).toNat = j.toNat by omega, Nat.min_eq_left (by omega), Nat.min_eq_left (by omega)]
end L2
namespace L2
open PySem
end L2
namespace L2
open PySem
end L2
namespace L2
open PySem
end L2

set_option Elab.async false
set_option linter.all false
set_option maxRecDepth 100000
set_option maxHeartbeats 4000000
namespace L2
open PySem PySem.Spec PyProof.Rows

end L2

set_option Elab.async false
set_option linter.all false
set_option maxRecDepth 100000
set_option maxHeartbeats 4000000
namespace L2
open PySem PySem.Spec PyProof.Rows
theorem if_any {tt : TT} {ta tb : TS} {D : Ends} {σ : St} {H : Hp} (M : Hp → Prop) (hb : ∀ H', M H' → tb D σ H') (h : (∀ H', M H' → tb D σ H') → tIfS tt ta tb D σ H) : tIfS tt ta tb D σ H := h hb
end L2

set_option Elab.async false
set_option linter.all false
set_option maxRecDepth 100000
set_option maxHeartbeats 4000000
namespace L2
open PySem PySem.Spec PyProof.Rows
section
variable {X : Cx} {pins : List (Addr × Obj)} {σ : St} {H : Hp} {s : Shared} {h' : Heap}
theorem Inv.turnedL {t' : Nat} {ch : List Addr} (I : Inv X pins σ H s) (k : ∀ b o, b ∉ ch → s.heap.get? b = some o → h'.get? b = some o) (hf : ∀ b ∈ ch, FpOk X pins H b) : Inv X pins σ H { s with heap := h', toks := t' } := by
  have nit : ∀ b u, H b = some u → b ∉ ch := fun b u e z => by rw [(hf b z).1] at e; cases e
  have hL : X.env.locals ∉ ch := fun z => (hf _ z).2.1 rfl
  refine I.step (g' := s.gens) (d' := s.drawn) (ch := ch) (fun b hb => ?_) (fun b o _ _ hc e _ => k b o hc e) (fun b o _ _ hc e _ => ⟨o.slots, k b o hc e⟩) (fun _ _ _ _ n => n)
    (fun b o hc e => ⟨o, k b o hc e⟩) (fun _ _ e => e) (fun _ _ _ e => e) (fun b ps e => ⟨#[], by rw [e]; simp⟩) (fun m hm => ?_) (fun b u e => ?_) I.bare
  · obtain ⟨f0, f1, f2, f3, f4, f5⟩ := hf b hb
    exact ⟨f3, f1, f4, f5⟩
  · obtain ⟨o, es, ep, ho, r⟩ := hm
    exact ⟨o, es, ep, k _ o hL ho, r⟩
  · refine (I.hok b u e).stay (fun c v hc q => k c v ?_ q) (fun _ q => q) fun _ _ q => q
    rcases hc with z | z
    · rw [z]; exact nit b u e
    · exact nit c _ z
end
noncomputable def Ite (K : PySem.W.Frag) (a : Addr) : It :=
  ⟨fun i H => ∃ xs x, SqL K H a xs ∧ xs[i]? = some x, fun i H v H' => ∃ x T, (∀ xs, SqL K H a xs → xs[i]? = some x) ∧ H T = none ∧ v = .ref T ∧ H' = upd H T (.tup [.int i, x]), fun i H => ∃ xs, SqL K H a xs ∧ xs.length ≤ i⟩
theorem turn_enum {P : Program} {w : World} {K : PySem.W.Frag} {elts : List Expr} {x1 : Nat} {pos : Pos} (a e it : Addr) (hei : e ≠ it) : Turn P w K (.Tuple elts x1 pos) (Ite K a) [e, it] e (fun i h => (∃ old, IsEnum h e it i old) ∧ h.IsListIter it a i) where
  mem := by simp
  obj := fun i h st b hb => by
    obtain ⟨⟨old, he⟩, hit⟩ := st
    rcases List.mem_cons.mp hb with rfl | hb
    · exact ⟨_, he, fun v z => by cases z⟩
    · have e : b = it := by simpa using hb
      subst e
      obtain ⟨o, e, c, d⟩ := hit
      exact ⟨o, e, fun v z => by rw [d] at z; cases z⟩
  keep := fun i h h' st k => by
    obtain ⟨⟨old, he⟩, hit⟩ := st
    exact ⟨⟨old, k e (by simp) _ he⟩, hit.at fun o e => k it (by simp) o e⟩
  item := by
    intro X hP hw hK hc i pins s σ H E I hf st hg
    subst hP hw hK
    obtain ⟨xs, x, hq, hx⟩ := hg
    obtain ⟨its, rv, p, hz⟩ := I.list hq
    obtain ⟨u, hu, ru⟩ := rv.get hx
    obtain ⟨⟨old, he⟩, hit⟩ := st
    refine wpAny_pyNext_enum_item he hit p.isList (x := u) (by simpa using hu) hei fun h1 ho hit' hT hsz hk => ⟨_, rfl, ?_⟩
    refine wpAny_letOwnedTupleGo_enum ho fun h2 he2 hs2 => ?_
    have hTn : H s.heap.objs.size = none := I.hok.fresh (Nat.le_refl _)
    have helt : e < s.heap.objs.size := Heap.lt_size he
    have hilt : it < s.heap.objs.size := by obtain ⟨_, x, _⟩ := hit; exact Heap.lt_size x
    have I1 : Inv X pins σ (upd H s.heap.objs.size (.tup [.int i, x])) { s with heap := s.heap.push { cls := .type "tuple", data := .seq #[.int i s.toks, u] }, toks := s.toks + 1 } := I.laid (t' := s.toks + 1) (o := .tup [.int i, x]) (fun b o e => Heap.get?_push_of_some _ e) (Nat.le_refl _) ⟨szl (by show 2 ≤ 1000000; decide), [.int i s.toks, u], .cons ⟨_, rfl⟩ (.cons ru .nil), IsTupN.new _ _⟩
    have I2 : Inv X pins σ (upd H s.heap.objs.size (.tup [.int i, x])) { s with heap := h2, toks := s.toks + 1 } := by
      refine Inv.turnedL (s := { s with heap := s.heap.push { cls := .type "tuple", data := .seq #[.int i s.toks, u] }, toks := s.toks + 1 }) (h' := h2) (ch := [e, it]) (t' := s.toks + 1) I1 (fun b o hb q => ?_) (fun b hb => ?_)
      · have nbe : b ≠ e := fun z => hb (by simp [z])
        have nbi : b ≠ it := fun z => hb (by simp [z])
        show h2.get? b = some o
        rw [hs2.2 b nbe]
        rcases Heap.get?_push_cases q with ⟨rfl, rfl⟩ | q
        · exact hT
        · exact hk b o nbe nbi q
      · obtain ⟨f0, f1, f2, f3, f4, f5⟩ := hf b hb
        have nb : b ≠ s.heap.objs.size := by
          rcases List.mem_cons.mp hb with rfl | hb
          · exact Nat.ne_of_lt helt
          · have : b = it := by simpa using hb
            subst this
            exact Nat.ne_of_lt hilt
        exact ⟨by rw [upd_ne nb]; exact f0, f1, f2, f3, f4, f5⟩
    refine ⟨.ref s.heap.objs.size, _, I2, rfl, ⟨x, _, fun ys hy => by rw [I.list_inj hy hq]; exact hx, hTn, rfl, rfl⟩, ⟨⟨_, by simpa using he2⟩, hit'.at fun o y => (hs2.2 it hei.symm).trans y⟩, fun b hb => ?_⟩
    obtain ⟨f0, f1, f2, f3, f4, f5⟩ := hf b hb
    have nb : b ≠ s.heap.objs.size := by
      rcases List.mem_cons.mp hb with rfl | hb
      · exact Nat.ne_of_lt helt
      · have : b = it := by simpa using hb
        subst this
        exact Nat.ne_of_lt hilt
    rw [upd_ne nb]
    exact f0
  done := by
    intro X hP hw hK hc i pins s σ H E I hf st hg
    subst hP hw hK
    obtain ⟨xs, hq, hx⟩ := hg
    obtain ⟨its, rv, p, hz⟩ := I.list hq
    obtain ⟨⟨old, he⟩, hit⟩ := st
    have hl := rv.length
    refine wpAny_pyNext_enum_end (I.ok.hd hc) he hit p.isList (by simp; omega) fun h' eb => ⟨rfl, ?_⟩
    exact I.turnedL (ch := [e, it]) (t' := s.toks) (fun b o hb q => eb b o (fun z => hb (by simp [z])) q) hf
  self := fun _ _ _ _ _ st h => by
    obtain ⟨⟨old, he⟩, _⟩ := st
    exact wpAny_pyIter_enum he h
noncomputable def iEnum (K : PySem.W.Frag) (ta : TA) : TI := fun σ H R => ta σ H fun vs H1 => ∃ a : Addr, vs = [.ref a] ∧ (∃ xs, SqL K H1 a xs) ∧ R (Ite K a) H1
theorem pi_enum {X : Cx} {a : Expr} {ta : TA} {p pos : Pos} {elts : List Expr} {x1 : Nat} {pos2 : Pos} (hg : Gl X "enumerate") (hm : X.mg "enumerate" = none) (ha : PA X [a] ta) (hs : starEach [a] X.env = [(false, eval a X.env)] := by rfl) : PI X (.Tuple elts x1 pos2) (.Call (.Name "enumerate" p) [a] [] pos) (iEnum X.K ta) := by
  intro pins s σ H R I h
  refine Call_ (ld_blt I hg hm boot_enumerate (PyProof.Rows.callWith_type1 (thn (ha pos pins s σ H _ I h) fun us s1 ⟨vs, H1, I1, r1, q1⟩ => ?_) hs rfl))
  obtain ⟨l, rfl, ⟨xs, hq⟩, q⟩ := q1
  cases r1 with
  | cons r rr =>
    cases rr
    cases r
    obtain ⟨its, rv, pl, hz⟩ := I1.list hq
    refine call_enumerate_list pl.isList fun h' he hit hsz hk => ?_
    refine wpAny_pyIter_enum he ?_
    refine ⟨_, [s1.heap.objs.size + 1, s1.heap.objs.size], _, _, H1, rfl, I1.kept (t' := s1.toks) hk, turn_enum l _ _ (Nat.ne_of_gt (Nat.lt_succ_self _)), ⟨⟨_, he⟩, hit⟩, fun b hb => ?_, q⟩
    rcases List.mem_cons.mp hb with rfl | hb
    · exact I1.fpOk (Nat.le_succ _) (I1.hok.fresh (Nat.le_succ _))
    · have e : b = s1.heap.objs.size := by simpa using hb
      subst e
      exact I1.fpOk (Nat.le_refl _) (I1.hok.fresh (Nat.le_refl _))
theorem for_enum {K : PySem.W.Frag} {a : Addr} {xs : List V} {g : TG} {tb : TS} {D : Ends} {σ : St} {H : Hp} (Pv : Nat → St → Hp → Prop) (h0 : Pv 0 σ H) (hl : ∀ i σ H, i ≤ xs.length → Pv i σ H → SqL K H a xs)
    (hs : ∀ i x T σ H, xs[i]? = some x → Pv i σ H → H T = none → g (.ref T) σ (upd H T (.tup [.int i, x])) fun σ2 H2 => tb { D with nx := Pv (i + 1), ct := Pv (i + 1), bk := D.nx } σ2 H2) (hd : ∀ σ H, Pv xs.length σ H → D.nx σ H) :
    ∃ W : Nat → Nat → St → Hp → Prop, (∃ m, W 0 m σ H) ∧ ∀ i m σ H, W i m σ H →
      ((Ite K a).stop i H ∧ D.nx σ H) ∨ ((Ite K a).go i H ∧ ∃ N : St → Hp → Prop, (∀ σ' H', N σ' H' → ∃ m', m' < m ∧ W (i + 1) m' σ' H') ∧ ∀ x H', (Ite K a).yld i H x H' → g x σ H' fun σ2 H2 => tb { D with nx := N, ct := N, bk := D.nx } σ2 H2) := by
  refine ⟨fun i m σ H => m = xs.length - i ∧ i ≤ xs.length ∧ Pv i σ H, ⟨xs.length, by simp, Nat.zero_le _, h0⟩, ?_⟩
  rintro i m σ H ⟨rfl, hi, p⟩
  have q := hl i σ H hi p
  by_cases hlt : i < xs.length
  · refine .inr ⟨⟨xs, xs[i], q, List.getElem?_eq_getElem hlt⟩, Pv (i + 1), fun σ' H' p' => ⟨xs.length - (i + 1), by omega, rfl, hlt, p'⟩, fun v H' y => ?_⟩
    obtain ⟨x, T, hx, hT, rfl, rfl⟩ := y
    exact hs i x T σ H (hx xs q) p hT
  · have e : i = xs.length := by omega
    subst e
    exact .inl ⟨⟨xs, q, Nat.le_refl _⟩, hd σ H p⟩
noncomputable def Itz (K : PySem.W.Frag) (a b : Addr) : It :=
  ⟨fun i H => ∃ xs ys x y, SqL K H a xs ∧ SqL K H b ys ∧ xs[i]? = some x ∧ ys[i]? = some y, fun i H v H' => ∃ x y T, (∀ xs, SqL K H a xs → xs[i]? = some x) ∧ (∀ ys, SqL K H b ys → ys[i]? = some y) ∧ H T = none ∧ v = .ref T ∧ H' = upd H T (.tup [x, y]),
    fun i H => ∃ xs ys, SqL K H a xs ∧ SqL K H b ys ∧ (xs.length ≤ i ∨ ys.length ≤ i)⟩
theorem turn_zip {P : Program} {w : World} {K : PySem.W.Frag} {elts : List Expr} {x1 : Nat} {pos : Pos} (a b z TI TO i1 i2 : Addr) (D : ZipApart z TI TO i1 i2 a b) :
    Turn P w K (.Tuple elts x1 pos) (Itz K a b) [z, TI, TO, i1, i2] z (fun i h => IsZip h z TI TO .none ∧ IsPair h TI (.ref i1) (.ref i2) ∧ (∃ p q, IsPair h TO p q) ∧ h.IsListIter i1 a i ∧ h.IsListIter i2 b i) where
  mem := by simp
  obj := fun i h st c hc => by
    obtain ⟨hz, hTI, ⟨p, q, hTO⟩, h1, h2⟩ := st
    simp only [List.mem_cons, List.not_mem_nil, or_false] at hc
    rcases hc with rfl | rfl | rfl | rfl | rfl
    · exact ⟨_, hz, fun v z => by cases z⟩
    · exact ⟨_, hTI, fun v z => by cases z⟩
    · exact ⟨_, hTO, fun v z => by cases z⟩
    · obtain ⟨o, e, c, d⟩ := h1
      exact ⟨o, e, fun v z => by rw [d] at z; cases z⟩
    · obtain ⟨o, e, c, d⟩ := h2
      exact ⟨o, e, fun v z => by rw [d] at z; cases z⟩
  keep := fun i h h' st k => by
    obtain ⟨hz, hTI, ⟨p, q, hTO⟩, h1, h2⟩ := st
    exact ⟨k z (by simp) _ hz, k TI (by simp) _ hTI, ⟨p, q, k TO (by simp) _ hTO⟩, h1.at fun o e => k i1 (by simp) o e, h2.at fun o e => k i2 (by simp) o e⟩
  item := by
    intro X hP hw hK hc i pins s σ H E I hf st hg
    subst hP hw hK
    obtain ⟨xs, ys, x, y, hq1, hq2, hx, hy⟩ := hg
    obtain ⟨its1, rv1, p1, _⟩ := I.list hq1
    obtain ⟨its2, rv2, p2, _⟩ := I.list hq2
    obtain ⟨u, hu, ru⟩ := rv1.get hx
    obtain ⟨v, hv, rv⟩ := rv2.get hy
    obtain ⟨hz, hTI, ⟨pa, qa, hTO⟩, h1, h2⟩ := st
    refine wpAny_pyNext_zip_item D hz hTI hTO h1 h2 p1.isList p2.isList (x := u) (y := v) (by simpa using hu) (by simpa using hv) fun hh hz' hTO' h1' h2' hT hsz hk => ⟨_, rfl, ?_⟩
    refine wpAny_letOwnedTupleGo_zip hz' fun h3 hz3 hs3 => ?_
    have hTn : H s.heap.objs.size = none := I.hok.fresh (Nat.le_refl _)
    have lts : ∀ c ∈ [z, TI, TO, i1, i2], c < s.heap.objs.size := fun c hc => by
      simp only [List.mem_cons, List.not_mem_nil, or_false] at hc
      rcases hc with rfl | rfl | rfl | rfl | rfl
      · exact Heap.lt_size hz
      · exact Heap.lt_size hTI
      · exact Heap.lt_size hTO
      · obtain ⟨_, e, _⟩ := h1; exact Heap.lt_size e
      · obtain ⟨_, e, _⟩ := h2; exact Heap.lt_size e
    have I1 : Inv X pins σ (upd H s.heap.objs.size (.tup [x, y])) { s with heap := s.heap.push { cls := .type "tuple", data := .seq #[u, v] } } := I.laid (t' := s.toks) (o := .tup [x, y]) (fun b o e => Heap.get?_push_of_some _ e) (Nat.le_refl _) ⟨szl (by show 2 ≤ 1000000; decide), [u, v], .cons ru (.cons rv .nil), IsTupN.new _ _⟩
    have I2 : Inv X pins σ (upd H s.heap.objs.size (.tup [x, y])) { s with heap := h3 } := by
      refine Inv.turnedL (s := { s with heap := s.heap.push { cls := .type "tuple", data := .seq #[u, v] } }) (h' := h3) (ch := [z, TI, TO, i1, i2]) (t' := s.toks) I1 (fun b o hb q => ?_) (fun b hb => ?_)
      · simp only [List.mem_cons, List.not_mem_nil, or_false, not_or] at hb
        obtain ⟨n1, n2, n3, n4, n5⟩ := hb
        show h3.get? b = some o
        rw [hs3.2 b n1]
        rcases Heap.get?_push_cases q with ⟨rfl, rfl⟩ | q
        · exact hT
        · exact hk b o n1 n3 n4 n5 q
      · obtain ⟨f0, f1, f2, f3, f4, f5⟩ := hf b hb
        exact ⟨by rw [upd_ne (Nat.ne_of_lt (lts b hb))]; exact f0, f1, f2, f3, f4, f5⟩
    have k3 : ∀ c, c ≠ z → ∀ o, hh.get? c = some o → h3.get? c = some o := fun c hc o e => (hs3.2 c hc).trans e
    refine ⟨.ref s.heap.objs.size, _, I2, rfl, ⟨x, y, _, fun zs hy => by rw [I.list_inj hy hq1]; exact hx, fun zs hy' => by rw [I.list_inj hy' hq2]; exact hy, hTn, rfl, rfl⟩, ⟨hz3, k3 TI D.TIz _ (hk TI _ D.TIz D.TITO D.TIi1 D.TIi2 hTI), ⟨u, v, k3 TO D.TOz _ hTO'⟩, h1'.at (k3 i1 D.i1z), h2'.at (k3 i2 D.i2z)⟩, fun b hb => ?_⟩
    rw [upd_ne (Nat.ne_of_lt (lts b hb))]
    exact (hf b hb).1
  done := by
    intro X hP hw hK hc i pins s σ H E I hf st hg
    subst hP hw hK
    obtain ⟨xs, ys, hq1, hq2, hl⟩ := hg
    obtain ⟨its1, rv1, p1, _⟩ := I.list hq1
    obtain ⟨its2, rv2, p2, _⟩ := I.list hq2
    obtain ⟨hz, hTI, ⟨pa, qa, hTO⟩, h1, h2⟩ := st
    have hl1 := rv1.length
    have hl2 := rv2.length
    refine wpAny_pyNext_zip_end (I.ok.hd hc) D hz hTI hTO h1 h2 p1.isList p2.isList (hl.imp (fun z => by simp; omega) (fun z => by simp; omega)) fun h' hk => ⟨rfl, ?_⟩
    refine I.turnedL (ch := [z, TI, TO, i1, i2]) (t' := s.toks) (fun b o hb q => ?_) hf
    simp only [List.mem_cons, List.not_mem_nil, or_false, not_or] at hb
    obtain ⟨n1, n2, n3, n4, n5⟩ := hb
    exact hk b o n1 n3 n4 n5 q
  self := fun _ _ _ _ _ st h => by
    obtain ⟨hz, _⟩ := st
    exact wpAny_pyIter_zip hz h
noncomputable def iZip (K : PySem.W.Frag) (ta : TA) : TI := fun σ H R => ta σ H fun vs H1 => ∃ a b : Addr, vs = [.ref a, .ref b] ∧ (∃ xs, SqL K H1 a xs) ∧ (∃ ys, SqL K H1 b ys) ∧ R (Itz K a b) H1
theorem pi_zip2 {X : Cx} {a b : Expr} {ta : TA} {p pos : Pos} {elts : List Expr} {x1 : Nat} {pos2 : Pos} (hg : Gl X "zip") (hm : X.mg "zip" = none) (ha : PA X [a, b] ta) (hs : starEach [a, b] X.env = [(false, eval a X.env), (false, eval b X.env)] := by rfl) (hs2 : starEach [b] X.env = [(false, eval b X.env)] := by rfl) :
    PI X (.Tuple elts x1 pos2) (.Call (.Name "zip" p) [a, b] [] pos) (iZip X.K ta) := by
  intro pins s σ H R I h
  refine Call_ (ld_blt I hg hm boot_zip (PyProof.Rows.callWith_type1 (thn (ha pos pins s σ H _ I h) fun us s1 ⟨vs, H1, I1, r1, q1⟩ => ?_) (by rw [hs, hs2]) (by rw [hs2]; rfl)))
  obtain ⟨l1, l2, rfl, ⟨xs, hq1⟩, ⟨ys, hq2⟩, q⟩ := q1
  cases r1 with
  | cons r rr =>
    cases rr with
    | cons r' rr =>
      cases rr
      cases r
      cases r'
      obtain ⟨its1, rv1, p1, _⟩ := I1.list hq1
      obtain ⟨its2, rv2, p2, _⟩ := I1.list hq2
      have lt1 : l1 < s1.heap.objs.size := by obtain ⟨_, e, _⟩ := p1.isList; exact Heap.lt_size e
      have lt2 : l2 < s1.heap.objs.size := by obtain ⟨_, e, _⟩ := p2.isList; exact Heap.lt_size e
      refine call_zip_2 p1.isList p2.isList fun h' hz hTI hTO h1 h2 hsz hk => ?_
      refine wpAny_pyIter_zip hz ?_
      have ne : ∀ {m n : Nat}, m < n → (m : Nat) ≠ n := fun h => Nat.ne_of_lt h
      refine ⟨_, [s1.heap.objs.size + 4, s1.heap.objs.size + 2, s1.heap.objs.size + 3, s1.heap.objs.size, s1.heap.objs.size + 1], _, _, H1, rfl, I1.kept (t' := s1.toks) hk, turn_zip l1 l2 _ _ _ _ _ ⟨?_, ?_, ?_, ?_, ?_, ?_, ?_, ?_, ?_, ?_, ?_, ?_, ?_, ?_, ?_, ?_, ?_, ?_⟩, ⟨hz, hTI, ⟨_, _, hTO⟩, h1, h2⟩, fun b hb => ?_, q⟩
      case refine_19 =>
        simp only [List.mem_cons, List.not_mem_nil, or_false] at hb
        have hb' : s1.heap.objs.size ≤ b := by
          rcases hb with rfl | rfl | rfl | rfl | rfl
          · exact Nat.le_add_right _ 4
          · exact Nat.le_add_right _ 2
          · exact Nat.le_add_right _ 3
          · exact Nat.le_refl _
          · exact Nat.le_add_right _ 1
        exact I1.fpOk hb' (I1.hok.fresh hb')
      all_goals first
        | exact Nat.ne_of_lt lt1
        | exact Nat.ne_of_lt lt2
        | exact Nat.ne_of_lt (Nat.lt_of_lt_of_le lt1 (Nat.le_add_right _ _))
        | exact Nat.ne_of_lt (Nat.lt_of_lt_of_le lt2 (Nat.le_add_right _ _))
        | (show (_ : Nat) ≠ _; omega)
theorem for_zip {K : PySem.W.Frag} {a b : Addr} {xs ys : List V} {g : TG} {tb : TS} {D : Ends} {σ : St} {H : Hp} (hlen : xs.length = ys.length) (Pv : Nat → St → Hp → Prop) (h0 : Pv 0 σ H) (hl : ∀ i σ H, i ≤ xs.length → Pv i σ H → SqL K H a xs ∧ SqL K H b ys)
    (hs : ∀ i x y T σ H, xs[i]? = some x → ys[i]? = some y → Pv i σ H → H T = none → g (.ref T) σ (upd H T (.tup [x, y])) fun σ2 H2 => tb { D with nx := Pv (i + 1), ct := Pv (i + 1), bk := D.nx } σ2 H2) (hd : ∀ σ H, Pv xs.length σ H → D.nx σ H) :
    ∃ W : Nat → Nat → St → Hp → Prop, (∃ m, W 0 m σ H) ∧ ∀ i m σ H, W i m σ H →
      ((Itz K a b).stop i H ∧ D.nx σ H) ∨ ((Itz K a b).go i H ∧ ∃ N : St → Hp → Prop, (∀ σ' H', N σ' H' → ∃ m', m' < m ∧ W (i + 1) m' σ' H') ∧ ∀ x H', (Itz K a b).yld i H x H' → g x σ H' fun σ2 H2 => tb { D with nx := N, ct := N, bk := D.nx } σ2 H2) := by
  refine ⟨fun i m σ H => m = xs.length - i ∧ i ≤ xs.length ∧ Pv i σ H, ⟨xs.length, by simp, Nat.zero_le _, h0⟩, ?_⟩
  rintro i m σ H ⟨rfl, hi, p⟩
  obtain ⟨q1, q2⟩ := hl i σ H hi p
  by_cases hlt : i < xs.length
  · refine .inr ⟨⟨xs, ys, xs[i], ys[i], q1, q2, List.getElem?_eq_getElem hlt, List.getElem?_eq_getElem (by omega)⟩, Pv (i + 1), fun σ' H' p' => ⟨xs.length - (i + 1), by omega, rfl, hlt, p'⟩, fun v H' yy => ?_⟩
    obtain ⟨x, y, T, hx, hy, hT, rfl, rfl⟩ := yy
    exact hs i x y T σ H (hx xs q1) (hy ys q2) p hT
  · have e : i = xs.length := by omega
    subst e
    exact .inl ⟨⟨xs, ys, q1, q2, .inl (Nat.le_refl _)⟩, hd σ H p⟩
end L2

set_option Elab.async false
set_option linter.all false
set_option maxRecDepth 100000
set_option maxHeartbeats 4000000
namespace L2
open PySem PySem.Spec PyProof.Rows
end L2

set_option Elab.async false
set_option linter.all false
set_option maxRecDepth 100000
set_option maxHeartbeats 4000000
namespace PySem
open Builtin
theorem noFill_tuple_mulF : fillsNumberSlot (.type "tuple") "mul" = pure false :=
  fillsNumberSlot_seq (id := "tuple.__mul__") (r := some (.builtin "tuple.__rmul__")) F.slot_tuple_mul.lookup (by decide +kernel) F.slot_tuple_rmul.lookup (by decide +kernel)
theorem repeat_tupleF : seqRepeat? (.type "tuple") = pure (some (.builtin "tuple.__mul__")) := by
  unfold seqRepeat?
  rw [seqSlot_of (T := "tuple") (name := "__mul__") (id := "tuple.__mul__") F.slot_tuple_mul.lookup (by decide +kernel), seqSlot_of (T := "tuple") (name := "__rmul__") (id := "tuple.__rmul__") F.slot_tuple_rmul.lookup (by decide +kernel)]
  rfl
theorem rmul_int_tuple (a : Int) (t : Tok) (l : Addr) (items : Array Value) (n : Nat) (dd : Option Addr) (sl : Array (Option Value)) :
    Meets (Builtin.«int.__rmul__» ⟨[.int a t, .ref l], []⟩) (fun _ R s => s.heap.get? l = some { cls := .type "tuple", dict := dd, data := .seq items n, slots := sl } ∧ R (.ok (.ret Value.notImplemented)) s) :=
  .of_wp fun prog w A R s h => by obtain ⟨hp, g, d, tk, os⟩ := s; obtain ⟨hl, h⟩ := h; wp_walk; exact ⟨_, rfl, h⟩
open AutoSeq1 (wpAny_loadPart')
theorem tuple_mul1 (l : Addr) (k : Tok) (items : Array Value) (n : Nat) (dd : Option Addr) (sl : Array (Option Value)) :
    Meets (Builtin.«tuple.__mul__» ⟨[.ref l, .int 1 k], []⟩) (fun _ R s => s.heap.get? l = some { cls := .type "tuple", dict := dd, data := .seq items n, slots := sl } ∧ R (.ok (.ret (Value.ref l))) { s with heap := s.heap, toks := s.toks }) :=
  .of_wp fun prog w A R s h => by obtain ⟨hp, g, d, tk, os⟩ := s; obtain ⟨hl, h⟩ := h; have f1 := AutoSeq1.idx_int; have f2 := AutoSeq1.sub_tuple_tuple; wp_walk using wpAny_loadPart' hl; exact ⟨_, rfl, h⟩
theorem tuple_mul0 (l : Addr) (k : Tok) (items : Array Value) (n : Nat) (dd : Option Addr) (sl : Array (Option Value)) (hc0 : ¬items.isEmpty = true) :
    Meets (Builtin.«tuple.__mul__» ⟨[.ref l, .int 0 k], []⟩) (fun _ R s => s.heap.get? l = some { cls := .type "tuple", dict := dd, data := .seq items n, slots := sl } ∧ R (.ok (.ret (Value.ref s.heap.objs.size))) { s with heap := s.heap.push { cls := Value.type "tuple", data := Data.seq #[] }, toks := s.toks }) :=
  .of_wp fun prog w A R s h => by obtain ⟨hp, g, d, tk, os⟩ := s; obtain ⟨hl, h⟩ := h; have f1 := AutoSeq1.idx_int; have f2 := AutoSeq1.sub_tuple_tuple; wp_walk using wpAny_loadPart' hl; exact ⟨_, rfl, h⟩
end PySem
namespace L2
open PySem PySem.Spec PyProof.Rows
section
variable {X : Cx}
end
end L2

set_option Elab.async false
set_option linter.all false
set_option maxRecDepth 100000
set_option maxHeartbeats 4000000
namespace Bd
end Bd
namespace L2
open PySem PySem.Spec PyProof.Rows Bd
section
variable {es : List Expr} {env : Env} {p : Pos}
end
section
variable {X : Cx} {e : Expr} {es : List Expr} {te : TE} {t : TA} {pos : Pos}
end
theorem pickI {L : List Int} {i : Int} (h0 : 0 ≤ i) (h1 : i < (L.length : Int)) : ∃ z ∈ L, atI (L.map V.int) i = some (.int z) := by
  have e : L[i.toNat]? = some L[i.toNat] := List.getElem?_eq_getElem (by omega)
  refine ⟨L[i.toNat], List.getElem_mem _, ?_⟩
  have h : atI (L.map V.int) ((i.toNat : Nat) : Int) = some (.int L[i.toNat]) := atI_nat (by rw [List.getElem?_map, e]; rfl)
  rwa [Int.toNat_of_nonneg h0] at h
theorem pickN {L : List Int} {i : Int} (n : Nat) (hn : L.length = n) (h0 : 0 ≤ i) (h1 : i < (n : Int)) : ∃ z ∈ L, atI (L.map V.int) i = some (.int z) := pickI h0 (by rw [hn]; exact h1)
theorem while_ix {c : TT} {tb : TS} {D : Ends} {σ : St} {H : Hp} (k : Nat) (Pv : Nat → St → Hp → Prop) (h0 : Pv 0 σ H)
    (hs : ∀ i σ H, i ≤ k → Pv i σ H → c σ H fun b H1 => if b = true then i < k ∧ tb { D with nx := Pv (i + 1), ct := Pv (i + 1), bk := D.nx } σ H1 else D.nx σ H1)
    (mono : ∀ σ H Q Q', (∀ b H1, Q b H1 → Q' b H1) → c σ H Q → c σ H Q') : tWhile c tb D σ H := by
  refine ⟨fun m σ H => ∃ i, i ≤ k ∧ m = k - i ∧ Pv i σ H, ⟨_, 0, Nat.zero_le _, rfl, h0⟩, ?_⟩
  rintro m σ H ⟨i, hi, rfl, p⟩
  refine mono σ H _ _ (fun b H1 q => ?_) (hs i σ H hi p)
  cases b with
  | true => exact ⟨Pv (i + 1), fun σ' H' p' => ⟨k - (i + 1), by have := q.1; omega, i + 1, by have := q.1; omega, rfl, p'⟩, q.2⟩
  | false => exact q
end L2

set_option Elab.async false
set_option linter.all false
set_option maxRecDepth 100000
set_option maxHeartbeats 4000000
namespace Bd
end Bd
namespace L2
open PySem PySem.Spec PyProof.Rows Bd
end L2

set_option Elab.async false
set_option linter.all false
set_option maxRecDepth 100000
set_option maxHeartbeats 4000000
namespace L2
open PySem PySem.Spec PyProof.Rows
open Bd
end L2

set_option Elab.async false
set_option linter.all false
set_option maxRecDepth 100000
set_option maxHeartbeats 4000000
namespace L2
open PySem PySem.Spec PyProof.Rows Bd
theorem dS {x y : Str} (h : x ≠ y) : decide (V.str x = V.str y) = false := decide_eq_false fun e => h (V.str.inj e)
end L2

set_option Elab.async false
set_option linter.all false
set_option maxRecDepth 100000
set_option maxHeartbeats 4000000
namespace L2
open PySem PySem.Spec PyProof.Rows
section
open PySem.SeqAt
open PySem.AutoSeq1 (wpAny_loadPart')
open PySem.MeetsSeq PySem.MeetsSeq2 PySem.MeetsSeq3
end
end L2

set_option Elab.async false
set_option linter.all false
set_option maxRecDepth 100000
set_option maxHeartbeats 4000000
namespace L2
open PySem PySem.Spec PyProof.Rows
section
variable {prog : Program} {w : World} {A : Around} {E : Value → Shared → Prop} {s : Shared}
theorem tu_ask {it t : Addr} {k : Nat} {its : Array Value} {Q : Value → Shared → Prop} (a : s.heap.IsTupleIter it t k) (b : s.heap.IsTuple t its)
    (q : wpAny (model prog w) A.in1 (match its[k]? with
        | some x => do setField (.ref it) 1 (rawInt (k + 1)); ret x
        | none => do rule (toString "tuple_iterator.__next__" ++ toString ".end"); setField (.ref it) 0 .none; Builtin.SmallTypes.stopIteration) (fun fin s' => ∃ v, fin = .done (.ret v) ∧ Q v s') E s) :
    wpAny (model prog w) A (Builtin.SmallTypes.nextOf (.ref it)) Q E s := by
  have ty := a.typeIs
  obtain ⟨o, g, c, d⟩ := a
  obtain ⟨o2, g2, -, n2, d2⟩ := b
  unfold Builtin.SmallTypes.nextOf
  apply wpAny_bind
  apply wpAny_callSpecial?_slot (name := Str.ofString "__next__") ty F.slot_tuple_iterator_next
  refine wpAny_call_entry F.slot_tuple_iterator_next ty F.entry_tuple_iterator_next ?_ (F.args_tuple_iterator_next_1 _)
  unfold Builtin.«tuple_iterator.__next__»
  wp_walk using wpAny_field g d (x := .ref t) rfl
  rw [d]
  apply wpAny_pure
  apply wpAny_pure
  apply wpAny_bind
  apply wpAny_seqItems g2 d2
  rw [show Int.toNat (k : Int) = k from rfl]
  exact wpAny_mono q (fun fin s' ⟨v, e, z⟩ => ⟨v, e, wpAny_pure z⟩) fun _ _ z => z
theorem tu_item {it t : Addr} {k : Nat} {its : Array Value} {x : Value} {Q : Value → Shared → Prop} (a : s.heap.IsTupleIter it t k) (b : s.heap.IsTuple t its) (hx : its[k]? = some x)
    (q : ∀ h', h'.IsTupleIter it t (k + 1) → Heap.SameBut it s.heap h' → Q x { s with heap := h' }) : wpAny (model prog w) A (Builtin.SmallTypes.nextOf (.ref it)) Q E s := by
  apply tu_ask a b
  obtain ⟨o, g, c, d⟩ := a
  rw [hx]
  apply wpAny_bind
  apply wpAny_setField g d (by simp)
  apply wpAny_pure
  refine ⟨x, rfl, q _ ⟨_, Heap.get?_update_self _ g ?_, ?_, ?_⟩ (Heap.SameBut.update ..)⟩
  · exact Obj.isFreed_of_fields (Obj.data_mapFields d _)
  · exact (Obj.cls_mapFields ..).trans c
  · rw [Obj.data_mapFields d]; rfl
theorem tu_end {it t : Addr} {k : Nat} {its : Array Value} {Q : Value → Shared → Prop} (hh : A.handled = none) (a : s.heap.IsTupleIter it t k) (b : s.heap.IsTuple t its) (hx : its[k]? = none)
    (q : ∀ h' e, Heap.ExtBut it s.heap h' → (∃ o, h'.get? e = some o ∧ o.cls = .type "StopIteration") → E (.ref e) { s with heap := h' }) : wpAny (model prog w) A (Builtin.SmallTypes.nextOf (.ref it)) Q E s := by
  apply tu_ask a b
  obtain ⟨o, g, c, d⟩ := a
  rw [hx]
  apply wpAny_bind
  apply wpAny_rule
  apply wpAny_bind
  apply wpAny_setField g d (by simp)
  have h1 : A.in1.handled = none := hh
  wp_walk
  unfold raiseNew
  apply wpAny_bind
  apply wpAny_handled
  rw [h1]
  show wpAny _ _ (throw _) _ _ _
  apply wpAny_throw
  exact q _ _ (((Heap.SameBut.update ..).extBut.push _).push _) ⟨_, Heap.get?_push_size _ rfl, rfl⟩
theorem drawsT (hh : A.handled = none) (it t : Addr) (ne : t ≠ it) (its : Array Value) : Draws prog w A it [it, t] its.size (fun i v => its[i]? = some v) (fun i h => h.IsTupleIter it t i ∧ h.IsTuple t its) where
  live := fun _ _ ⟨⟨o, g, _⟩, _⟩ => ⟨o, g⟩
  frame := fun _ _ _ ⟨⟨o, g, r⟩, ⟨o2, g2, r2⟩⟩ k => ⟨⟨o, k it (by simp) o g, r⟩, ⟨o2, k t (by simp) o2 g2, r2⟩⟩
  item := fun i s Q E lt ⟨a, b⟩ q => tu_item a b (Array.getElem?_eq_getElem lt) fun h' a' sb => q _ h' s.toks (Array.getElem?_eq_getElem lt) ⟨a', b.extBut sb.extBut ne⟩ sb
  done := fun s Q E ⟨a, b⟩ q => tu_end hh a b (by simp) q
end
structure ZA (z TI TO i1 i2 : Addr) (f g : List Addr) : Prop where
  zf : z ∉ f
  zg : z ∉ g
  of : TO ∉ f
  og : TO ∉ g
  nf : i2 ∉ f
  ng : i1 ∉ g
  Iz : TI ≠ z
  Oz : TO ≠ z
  az : i1 ≠ z
  bz : i2 ≠ z
  IO : TI ≠ TO
  Ia : TI ≠ i1
  Ib : TI ≠ i2
  Oa : TO ≠ i1
  Ob : TO ≠ i2
theorem mv {prog : Program} {w : World} {A : Around} {it : Addr} {f : List Addr} {n : Nat} {P : Nat → Value → Prop} {S : Nat → Heap → Prop} (D : Draws prog w A it f n P S) {k : Nat} {h h' : Heap} {a : Addr} (st : S k h) (b : Heap.ExtBut a h h') (na : a ∉ f) : S k h' :=
  D.frame k h h' st fun c hc o e => b c o (fun q => na (q ▸ hc)) e
section
variable {prog : Program} {w : World} {A : Around} {E : Value → Shared → Prop} {s : Shared}
theorem zip_draw {z TI TO i1 i2 : Addr} {f g : List Addr} {m n k : Nat} {P R : Nat → Value → Prop} {S T : Nat → Heap → Prop} (Z : ZA z TI TO i1 i2 f g) (D1 : Draws prog w A i1 f m P S) (D2 : Draws prog w A i2 g n R T) {a b : Value} {Q : Value → Shared → Prop}
    (hz : IsZip s.heap z TI TO .none) (hI : IsPair s.heap TI (.ref i1) (.ref i2)) (hO : IsPair s.heap TO a b) (s1 : S k s.heap) (s2 : T k s.heap) (le1 : k ≤ m) (le2 : k ≤ n)
    (q : k < m → k < n → ∀ x y h' tk, P k x → R k y → IsZip h' z TI TO (rawInt s.heap.objs.size) → IsPair h' TO x y → S (k + 1) h' → T (k + 1) h' → IsPair h' s.heap.objs.size x y → 
      (∀ c o, c ≠ z → c ≠ TO → c ≠ i1 → c ≠ i2 → s.heap.get? c = some o → h'.get? c = some o) → Q (.ref s.heap.objs.size) { s with heap := h', toks := tk })
    (qe : (k = m ∨ k = n) → ∀ h' e tk, (∀ c o, c ≠ z → c ≠ TO → c ≠ i1 → c ≠ i2 → s.heap.get? c = some o → h'.get? c = some o) → (∃ o, h'.get? e = some o ∧ o.cls = .type "StopIteration") → E (.ref e) { s with heap := h', toks := tk }) :
    wpAny (model prog w) A (Builtin.«zip.__next__» ⟨[.ref z], []⟩) (fun fin s' => ∃ v, fin = .done (.ret v) ∧ Q v s') E s := by
  change wpAny _ _ (field (.ref z) 2 >>= _) _ _ _
  apply wpAny_bind
  apply wpAny_field hz rfl (x := .bool false) rfl
  change wpAny _ _ (field (.ref z) 3 >>= _) _ _ _
  apply wpAny_bind
  apply wpAny_field hz rfl (x := .ref TI) rfl
  apply wpAny_bind
  apply wpAny_seqItems hI rfl
  change wpAny _ _ (Builtin.SmallTypes.ownedTupleIsFree (.ref z) >>= _) _ _ _
  apply wpAny_bind
  unfold Builtin.SmallTypes.ownedTupleIsFree
  apply wpAny_bind
  apply wpAny_field hz rfl (x := .none) rfl
  apply wpAny_pure
  simp only [if_true]
  apply wpAny_bind
  apply wpAny_rule
  apply wpAny_bind
  apply wpAny_field hz rfl (x := .ref TO) rfl
  apply wpAny_bind
  apply wpAny_setField_rec hz (by simp)
  intro hA zA bA
  have zA' : IsZip hA z TI TO .ellipsis := zA
  clear zA
  have oA : IsPair hA TO a b := bA.extBut _ _ Z.Oz hO
  have sA := mv D1 s1 bA.extBut Z.zf
  have tA := mv D2 s2 bA.extBut Z.zg
  apply wpAny_bind
  simp only [List.zipIdx_cons, List.zipIdx_nil, List.forIn_cons, List.forIn_nil]
  apply wpAny_bind
  apply wpAny_bind
  apply wpAny_onRaise
  change wpAny _ _ (Builtin.SmallTypes.nextOf (.ref i1) >>= _) _ _ _
  apply wpAny_bind
  rcases Nat.lt_or_eq_of_le le1 with l1 | rfl
  rotate_left
  · apply D1.done _ _ _ sA
    rintro h' e kp ⟨o, ge, ce⟩
    have z' : IsZip h' z TI TO .ellipsis := kp _ _ Z.az.symm zA'
    have ne : e ≠ z := fun q => by subst q; rw [z'] at ge; cases ge; simp at ce
    apply wpAny_setField_rec z' (by simp)
    intro h2 _ b2
    exact qe (.inl rfl) h2 e s.toks (fun c o c1 _ c3 _ x => b2.extBut _ _ c1 (kp _ _ c3 (bA.extBut _ _ c1 x))) ⟨o, b2.extBut _ _ ne ge, ce⟩
  apply D1.item k _ _ _ l1 sA
  intro x hB t1 px sB bB
  apply wpAny_pure
  have oB : IsPair hB TO a b := bB.extBut _ _ Z.Oa oA
  have zB : IsZip hB z TI TO .ellipsis := bB.extBut _ _ Z.az.symm zA'
  have tB := mv D2 tA bB.extBut Z.ng
  apply wpAny_bind
  apply wpAny_seqItems oB rfl
  apply wpAny_bind
  apply wpAny_updateSeq_pair oB
  intro hC oC bC
  have oC' : IsPair hC TO x b := oC
  clear oC
  have zC : IsZip hC z TI TO .ellipsis := bC.extBut _ _ Z.Oz.symm zB
  have sC := mv D1 sB bC.extBut Z.of
  have tC := mv D2 tB bC.extBut Z.og
  apply wpAny_bind
  apply wpAny_letGo
  apply wpAny_pure
  apply wpAny_bind
  apply wpAny_bind
  apply wpAny_onRaise
  change wpAny _ _ (Builtin.SmallTypes.nextOf (.ref i2) >>= _) _ _ _
  apply wpAny_bind
  have upC : ∀ c o, c ≠ z → c ≠ TO → c ≠ i1 → s.heap.get? c = some o → hC.get? c = some o := fun c o c1 c2 c3 e => bC.extBut _ _ c2 (bB.extBut _ _ c3 (bA.extBut _ _ c1 e))
  rcases Nat.lt_or_eq_of_le le2 with l2 | rfl
  rotate_left
  · apply D2.done _ _ _ tC
    rintro h' e kp ⟨o, ge, ce⟩
    have z' : IsZip h' z TI TO .ellipsis := kp _ _ Z.bz.symm zC
    have ne : e ≠ z := fun q => by subst q; rw [z'] at ge; cases ge; simp at ce
    apply wpAny_setField_rec z' (by simp)
    intro h2 _ b2
    exact qe (.inr rfl) h2 e t1 (fun c o c1 c2 c3 c4 x => b2.extBut _ _ c1 (kp _ _ c4 (upC c o c1 c2 c3 x))) ⟨o, b2.extBut _ _ ne ge, ce⟩
  apply D2.item k _ _ _ l2 tC
  intro y hD t2 py tD bD
  apply wpAny_pure
  have oD : IsPair hD TO x b := bD.extBut _ _ Z.Ob oC'
  have zD : IsZip hD z TI TO .ellipsis := bD.extBut _ _ Z.bz.symm zC
  have sD := mv D1 sC bD.extBut Z.nf
  apply wpAny_bind
  apply wpAny_seqItems oD rfl
  apply wpAny_bind
  apply wpAny_updateSeq_pair oD
  intro hE oE bE
  have oE' : IsPair hE TO x y := oE
  clear oE
  have zE : IsZip hE z TI TO .ellipsis := bE.extBut _ _ Z.Oz.symm zD
  have sE := mv D1 sD bE.extBut Z.of
  have tE := mv D2 tD bE.extBut Z.og
  have upE : ∀ c o, c ≠ z → c ≠ TO → c ≠ i1 → c ≠ i2 → s.heap.get? c = some o → hE.get? c = some o := fun c o c1 c2 c3 c4 e => bE.extBut _ _ c2 (bD.extBut _ _ c4 (upC c o c1 c2 c3 e))
  have sz : hE.objs.size = s.heap.objs.size := by rw [bE.1, bD.1, bC.1, bB.1, bA.1]
  apply wpAny_bind
  apply wpAny_letGo
  apply wpAny_pure
  apply wpAny_pure
  apply wpAny_bind
  apply wpAny_seqItems oE' rfl
  apply wpAny_bind
  refine wpAny_newTuple ?_
  change wpAny _ _ (Builtin.SmallTypes.ownedTupleHandOut (.ref z) (.ref hE.objs.size) >>= _) _ _ _
  apply wpAny_bind
  unfold Builtin.SmallTypes.ownedTupleHandOut
  have zF : IsZip (hE.push { cls := .type "tuple", data := .seq #[x, y] }) z TI TO .ellipsis := Heap.get?_push_of_some _ zE
  have pF : IsPair (hE.push { cls := .type "tuple", data := .seq #[x, y] }) hE.objs.size x y := Heap.get?_push_size _ rfl
  apply wpAny_bind
  apply wpAny_setField_rec zF (by simp)
  intro hG zG bG
  have zG' : IsZip hG z TI TO (rawInt hE.objs.size) := zG
  clear zG
  apply wpAny_setField_rec zG' (by simp)
  intro hH zH bH
  have zH' : IsZip hH z TI TO (rawInt hE.objs.size) := zH
  clear zH
  have far : hE.objs.size ≠ z := Nat.ne_of_gt (Heap.lt_size zE)
  have up : Heap.ExtBut z hE hH := fun c o c1 e => bH.extBut _ _ c1 (bG.extBut _ _ c1 (Heap.get?_push_of_some _ e))
  have pH : IsPair hH hE.objs.size x y := bH.extBut _ _ far (bG.extBut _ _ far pF)
  apply wpAny_pure
  refine ⟨_, rfl, ?_⟩
  have := q l1 l2 x y hH t2 px py (by rw [← sz]; exact zH') (up _ _ Z.Oz oE') (mv D1 sE up Z.zf) (mv D2 tE up Z.zg) (by rw [← sz]; exact pH) fun c o c1 c2 c3 c4 e => up c o c1 (upE c o c1 c2 c3 c4 e)
  rw [← sz] at this
  exact this
theorem zip_on {z TI TO i1 i2 : Addr} {f g : List Addr} {m n k : Nat} {P R : Nat → Value → Prop} {S T : Nat → Heap → Prop} (Z : ZA z TI TO i1 i2 f g) (D1 : Draws prog w A.in1 i1 f m P S) (D2 : Draws prog w A.in1 i2 g n R T) {a b : Value} {Q : Option Value → Shared → Prop}
    (hz : IsZip s.heap z TI TO .none) (hI : IsPair s.heap TI (.ref i1) (.ref i2)) (hO : IsPair s.heap TO a b) (s1 : S k s.heap) (s2 : T k s.heap) (le1 : k ≤ m) (le2 : k ≤ n)
    (q : k < m → k < n → ∀ x y h' tk, P k x → R k y → IsZip h' z TI TO (rawInt s.heap.objs.size) → IsPair h' TO x y → S (k + 1) h' → T (k + 1) h' → IsPair h' s.heap.objs.size x y → 
      (∀ c o, c ≠ z → c ≠ TO → c ≠ i1 → c ≠ i2 → s.heap.get? c = some o → h'.get? c = some o) → Q (some (.ref s.heap.objs.size)) { s with heap := h', toks := tk })
    (qe : (k = m ∨ k = n) → ∀ h' tk, (∀ c o, c ≠ z → c ≠ TO → c ≠ i1 → c ≠ i2 → s.heap.get? c = some o → h'.get? c = some o) → Q none { s with heap := h', toks := tk }) :
    wpAny (model prog w) A (pyNext (.ref z)) Q E s := by
  have ty : s.TypeIs (.ref z) "zip" := ⟨_, hz, rfl⟩
  unfold pyNext
  apply wpAny_bind
  apply wpAny_attempt
  apply wpAny_callSpecial?_slot (name := Str.ofString "__next__") ty F.slot_zip_next
  refine wpAny_call_entry F.slot_zip_next ty F.entry_zip_next (zip_draw Z D1 D2 hz hI hO s1 s2 le1 le2 ?_ ?_) (F.args_zip_next_1 _)
  · intro l1 l2 x y h' tk a1 a2 a3 a4 a5 a6 a7 a8
    exact wpAny_pure (q l1 l2 x y h' tk a1 a2 a3 a4 a5 a6 a7 a8)
  · rintro l h' e tk kp ⟨o, ge, ce⟩
    exact wpAny_bind (wpAny_isInstance (T := "StopIteration") (b := true) ⟨o, ge, ce⟩ isSubtype_stop (wpAny_pure (qe l h' tk kp)))
end
noncomputable def Ity (K : PySem.W.Frag) (a b : Addr) : It :=
  ⟨fun i H => ∃ xs ys x y, SqT K H a xs ∧ SqT K H b ys ∧ xs[i]? = some x ∧ ys[i]? = some y, fun i H v H' => ∃ x y T, (∀ xs, SqT K H a xs → xs[i]? = some x) ∧ (∀ ys, SqT K H b ys → ys[i]? = some y) ∧ H T = none ∧ v = .ref T ∧ H' = upd H T (.tup [x, y]),
    fun i H => ∃ xs ys, SqT K H a xs ∧ SqT K H b ys ∧ i ≤ xs.length ∧ i ≤ ys.length ∧ (i = xs.length ∨ i = ys.length)⟩
theorem turn_zipT {P : Program} {w : World} {K : PySem.W.Frag} {elts : List Expr} {x1 : Nat} {pos : Pos} (a b z TI TO i1 i2 : Addr) (D : ZA z TI TO i1 i2 [i1, a] [i2, b]) (na : a ≠ i1) (nb : b ≠ i2) :
    Turn P w K (.Tuple elts x1 pos) (Ity K a b) [z, TI, TO, i1, i2] z (fun i h => IsZip h z TI TO .none ∧ IsPair h TI (.ref i1) (.ref i2) ∧ (∃ p q, IsPair h TO p q) ∧ h.IsTupleIter i1 a i ∧ h.IsTupleIter i2 b i) where
  mem := by simp
  obj := fun i h st c hc => by
    obtain ⟨hz, hTI, ⟨p, q, hTO⟩, h1, h2⟩ := st
    simp only [List.mem_cons, List.not_mem_nil, or_false] at hc
    rcases hc with rfl | rfl | rfl | rfl | rfl
    · exact ⟨_, hz, fun v z => by cases z⟩
    · exact ⟨_, hTI, fun v z => by cases z⟩
    · exact ⟨_, hTO, fun v z => by cases z⟩
    · obtain ⟨o, e, c, d⟩ := h1
      exact ⟨o, e, fun v z => by rw [d] at z; cases z⟩
    · obtain ⟨o, e, c, d⟩ := h2
      exact ⟨o, e, fun v z => by rw [d] at z; cases z⟩
  keep := fun i h h' st k => by
    obtain ⟨hz, hTI, ⟨p, q, hTO⟩, h1, h2⟩ := st
    exact ⟨k z (by simp) _ hz, k TI (by simp) _ hTI, ⟨p, q, k TO (by simp) _ hTO⟩, h1.at fun o e => k i1 (by simp) o e, h2.at fun o e => k i2 (by simp) o e⟩
  item := by
    intro X hP hw hK hc i pins s σ H E I hf st hg
    subst hP hw hK
    obtain ⟨xs, ys, x, y, hq1, hq2, hx, hy⟩ := hg
    obtain ⟨its1, rv1, p1, _⟩ := I.tuple hq1
    obtain ⟨its2, rv2, p2, _⟩ := I.tuple hq2
    obtain ⟨hz, hTI, ⟨pa, qa, hTO⟩, h1, h2⟩ := st
    have p1' : s.heap.IsTuple a its1.toArray := p1
    have p2' : s.heap.IsTuple b its2.toArray := p2
    have l1 := rv1.length
    have l2 := rv2.length
    obtain ⟨b1, _⟩ := List.getElem?_eq_some_iff.1 hx
    obtain ⟨b2, _⟩ := List.getElem?_eq_some_iff.1 hy
    have hn : X.A.in1.handled = none := I.ok.hd hc
    have d1 := drawsT (prog := X.prog) (w := X.w) hn i1 a na its1.toArray
    have d2 := drawsT (prog := X.prog) (w := X.w) hn i2 b nb its2.toArray
    refine zip_on (k := i) D d1 d2 hz hTI hTO ⟨h1, p1'⟩ ⟨h2, p2'⟩ (by simp; omega) (by simp; omega) (fun _ _ u v hh tk hu hv hz' hTO' h1' h2' hT hk => ⟨_, rfl, ?_⟩) fun q => absurd q (by simp; omega)
    obtain ⟨u', hu', ru⟩ := rv1.get hx
    obtain ⟨v', hv', rv⟩ := rv2.get hy
    have eu : u' = u := by simpa [hu'] using hu
    have ev : v' = v := by simpa [hv'] using hv
    subst eu ev
    refine wpAny_letOwnedTupleGo_zip hz' fun h3 hz3 hs3 => ?_
    have hTn : H s.heap.objs.size = none := I.hok.fresh (Nat.le_refl _)
    have lts : ∀ c ∈ [z, TI, TO, i1, i2], c < s.heap.objs.size := fun c hc => by
      simp only [List.mem_cons, List.not_mem_nil, or_false] at hc
      rcases hc with rfl | rfl | rfl | rfl | rfl
      · exact Heap.lt_size hz
      · exact Heap.lt_size hTI
      · exact Heap.lt_size hTO
      · obtain ⟨_, e, _⟩ := h1; exact Heap.lt_size e
      · obtain ⟨_, e, _⟩ := h2; exact Heap.lt_size e
    have I1 : Inv X pins σ (upd H s.heap.objs.size (.tup [x, y])) { s with heap := s.heap.push { cls := .type "tuple", data := .seq #[u', v'] } } := I.laid (t' := s.toks) (o := .tup [x, y]) (fun b o e => Heap.get?_push_of_some _ e) (Nat.le_refl _) ⟨szl (by show 2 ≤ 1000000; decide), [u', v'], .cons ru (.cons rv .nil), IsTupN.new _ _⟩
    have I2 : Inv X pins σ (upd H s.heap.objs.size (.tup [x, y])) { s with heap := h3, toks := tk } := by
      refine Inv.turnedL (s := { s with heap := s.heap.push { cls := .type "tuple", data := .seq #[u', v'] } }) (h' := h3) (ch := [z, TI, TO, i1, i2]) (t' := tk) I1 (fun b o hb q => ?_) (fun b hb => ?_)
      · simp only [List.mem_cons, List.not_mem_nil, or_false, not_or] at hb
        obtain ⟨n1, n2, n3, n4, n5⟩ := hb
        show h3.get? b = some o
        rw [hs3.2 b n1]
        rcases Heap.get?_push_cases q with ⟨rfl, rfl⟩ | q
        · exact hT
        · exact hk b o n1 n3 n4 n5 q
      · obtain ⟨f0, f1, f2, f3, f4, f5⟩ := hf b hb
        exact ⟨by rw [upd_ne (Nat.ne_of_lt (lts b hb))]; exact f0, f1, f2, f3, f4, f5⟩
    have k3 : ∀ c, c ≠ z → ∀ o, hh.get? c = some o → h3.get? c = some o := fun c hc o e => (hs3.2 c hc).trans e
    refine ⟨.ref s.heap.objs.size, _, I2, rfl, ⟨x, y, _, fun zs hy => by rw [I.tuple_inj hy hq1]; exact hx, fun zs hy' => by rw [I.tuple_inj hy' hq2]; exact hy, hTn, rfl, rfl⟩, ⟨hz3, k3 TI D.Iz _ (hk TI _ D.Iz D.IO D.Ia D.Ib hTI), ⟨u', v', k3 TO D.Oz _ hTO'⟩, h1'.1.at (k3 i1 D.az), h2'.1.at (k3 i2 D.bz)⟩, fun b hb => ?_⟩
    rw [upd_ne (Nat.ne_of_lt (lts b hb))]
    exact (hf b hb).1
  done := by
    intro X hP hw hK hc i pins s σ H E I hf st hg
    subst hP hw hK
    obtain ⟨xs, ys, hq1, hq2, b1, b2, hl⟩ := hg
    obtain ⟨its1, rv1, p1, _⟩ := I.tuple hq1
    obtain ⟨its2, rv2, p2, _⟩ := I.tuple hq2
    obtain ⟨hz, hTI, ⟨pa, qa, hTO⟩, h1, h2⟩ := st
    have p1' : s.heap.IsTuple a its1.toArray := p1
    have p2' : s.heap.IsTuple b its2.toArray := p2
    have l1 := rv1.length
    have l2 := rv2.length
    have hn : X.A.in1.handled = none := I.ok.hd hc
    have d1 := drawsT (prog := X.prog) (w := X.w) hn i1 a na its1.toArray
    have d2 := drawsT (prog := X.prog) (w := X.w) hn i2 b nb its2.toArray
    refine zip_on (k := i) D d1 d2 hz hTI hTO ⟨h1, p1'⟩ ⟨h2, p2'⟩ (by simp; omega) (by simp; omega) (fun e1 e2 => absurd e2 (by simp at e1 ⊢; omega)) fun _ h' tk hk => ⟨rfl, ?_⟩
    refine I.turnedL (ch := [z, TI, TO, i1, i2]) (t' := tk) (fun b o hb q => ?_) hf
    simp only [List.mem_cons, List.not_mem_nil, or_false, not_or] at hb
    obtain ⟨n1, n2, n3, n4, n5⟩ := hb
    exact hk b o n1 n3 n4 n5 q
  self := fun _ _ _ _ _ st h => by
    obtain ⟨hz, _⟩ := st
    exact wpAny_pyIter_zip hz h
theorem zip_newT (a b : Addr) (xs ys : Array Value) :
    Meets (Builtin.«zip.__new__» ⟨[.type "zip", .ref a, .ref b], []⟩) (fun _ R s => s.heap.IsTuple a xs ∧ s.heap.IsTuple b ys ∧
      ∀ h', IsZip h' (s.heap.objs.size + 4) (s.heap.objs.size + 2) (s.heap.objs.size + 3) .none → IsPair h' (s.heap.objs.size + 2) (.ref s.heap.objs.size) (.ref (s.heap.objs.size + 1)) → IsPair h' (s.heap.objs.size + 3) .none .none →
        h'.IsTupleIter s.heap.objs.size a 0 → h'.IsTupleIter (s.heap.objs.size + 1) b 0 → (∀ c o, s.heap.get? c = some o → h'.get? c = some o) → R (.ok (.ret (.ref (s.heap.objs.size + 4)))) { s with heap := h' }) :=
  .of_wp fun prog w A R s h => by
    obtain ⟨hp, g, d, tk, os⟩ := s
    obtain ⟨t1, t2, h⟩ := h
    have hs := sub_zip
    have u1 : Heap.IsTuple (Shared.heap ⟨hp, g, d, tk, os⟩) a xs := t1
    have u2 : Heap.IsTuple (Shared.heap ⟨hp.push { cls := .type "tuple_iterator", data := .fields #[.ref a, .int 0 0] }, g, d, tk, os⟩) b ys := Heap.IsTuple.push t2 _
    wp_walk using wpAny_pyIter_tuple u1, wpAny_pyIter_tuple u2
    refine ⟨_, rfl, ?_⟩
    have key : ∀ (n1 n2 n3 n4 : Nat) (h' : Heap), n1 = hp.objs.size + 1 → n2 = hp.objs.size + 2 → n3 = hp.objs.size + 3 → n4 = hp.objs.size + 4 → IsZip h' n4 n2 n3 .none → IsPair h' n2 (.ref hp.objs.size) (.ref n1) → IsPair h' n3 .none .none →
        h'.IsTupleIter hp.objs.size a 0 → h'.IsTupleIter n1 b 0 → (∀ c o, hp.get? c = some o → h'.get? c = some o) → R (.ok (.ret (.ref n4))) ⟨h', g, d, tk, os⟩ := by
      rintro _ _ _ _ h' rfl rfl rfl rfl
      exact h h'
    refine key (hp.push { cls := .type "tuple_iterator", data := .fields #[.ref a, .int 0 0] }).objs.size _ _ _ _ ?e1 ?e2 ?e3 ?e4 (Heap.get?_push_size _ rfl) ?g5 ?g6 ?g7 ?g8 ?g9
    case g5 => exact Heap.get?_push_of_some _ (Heap.get?_push_of_some _ (Heap.get?_push_size _ rfl))
    case g6 => exact Heap.get?_push_of_some _ (Heap.get?_push_size _ rfl)
    case g7 => exact ⟨_, Heap.get?_push_of_some _ (Heap.get?_push_of_some _ (Heap.get?_push_of_some _ (Heap.get?_push_of_some _ (Heap.get?_push_size _ rfl)))), rfl, rfl⟩
    case g8 => exact ⟨_, Heap.get?_push_of_some _ (Heap.get?_push_of_some _ (Heap.get?_push_of_some _ (Heap.get?_push_size _ rfl))), rfl, rfl⟩
    case g9 => exact fun c o e => Heap.get?_push_of_some _ (Heap.get?_push_of_some _ (Heap.get?_push_of_some _ (Heap.get?_push_of_some _ (Heap.get?_push_of_some _ e))))
    all_goals simp only [Heap.size_push]
noncomputable def iZipT (K : PySem.W.Frag) (ta : TA) : TI := fun σ H R => ta σ H fun vs H1 => ∃ a b : Addr, vs = [.ref a, .ref b] ∧ (∃ xs, SqT K H1 a xs) ∧ (∃ ys, SqT K H1 b ys) ∧ R (Ity K a b) H1
theorem pi_zipT {X : Cx} {a b : Expr} {ta : TA} {p pos : Pos} {elts : List Expr} {x1 : Nat} {pos2 : Pos} (hg : Gl X "zip") (hm : X.mg "zip" = none) (ha : PA X [a, b] ta) (hs : starEach [a, b] X.env = [(false, eval a X.env), (false, eval b X.env)] := by rfl) (hs2 : starEach [b] X.env = [(false, eval b X.env)] := by rfl) :
    PI X (.Tuple elts x1 pos2) (.Call (.Name "zip" p) [a, b] [] pos) (iZipT X.K ta) := by
  intro pins s σ H R I h
  refine Call_ (ld_blt I hg hm boot_zip (PyProof.Rows.callWith_type1 (thn (ha pos pins s σ H _ I h) fun us s1 ⟨vs, H1, I1, r1, q1⟩ => ?_) (by rw [hs, hs2]) (by rw [hs2]; rfl)))
  obtain ⟨l1, l2, rfl, ⟨xs, hq1⟩, ⟨ys, hq2⟩, q⟩ := q1
  cases r1 with
  | cons r rr =>
    cases rr with
    | cons r' rr =>
      cases rr
      cases r
      cases r'
      obtain ⟨its1, rv1, p1, _⟩ := I1.tuple hq1
      obtain ⟨its2, rv2, p2, _⟩ := I1.tuple hq2
      have lt1 : l1 < s1.heap.objs.size := p1.lt
      have lt2 : l2 < s1.heap.objs.size := p2.lt
      refine callType_new F.called_zip (by decide) (F.typeCall_zip_2 _ _) (F.newCall_zip_2 _ _) (fun obj => F.args_object_init_3 obj _ _) F.entry_zip_new (zip_newT l1 l2 its1.toArray its2.toArray) ⟨p1, p2, fun h' hz hTI hTO h1 h2 hk => ⟨⟨_, hz, rfl⟩, ?_⟩⟩
      refine wpAny_pyIter_zip hz ?_
      refine ⟨_, [s1.heap.objs.size + 4, s1.heap.objs.size + 2, s1.heap.objs.size + 3, s1.heap.objs.size, s1.heap.objs.size + 1], _, _, H1, rfl, I1.kept (t' := s1.toks) hk, turn_zipT l1 l2 _ _ _ _ _ ⟨?_, ?_, ?_, ?_, ?_, ?_, ?_, ?_, ?_, ?_, ?_, ?_, ?_, ?_, ?_⟩ ?_ ?_, ⟨hz, hTI, ⟨_, _, hTO⟩, h1, h2⟩, fun b hb => ?_, q⟩
      case refine_18 =>
        simp only [List.mem_cons, List.not_mem_nil, or_false] at hb
        have hb' : s1.heap.objs.size ≤ b := by
          rcases hb with rfl | rfl | rfl | rfl | rfl
          · exact Nat.le_add_right _ 4
          · exact Nat.le_add_right _ 2
          · exact Nat.le_add_right _ 3
          · exact Nat.le_refl _
          · exact Nat.le_add_right _ 1
        exact I1.fpOk hb' (I1.hok.fresh hb')
      all_goals first
        | exact Nat.ne_of_lt lt1
        | exact Nat.ne_of_lt (Nat.lt_of_lt_of_le lt2 (Nat.le_add_right _ _))
        | (show (_ : Nat) ≠ _; omega)
        | (simp only [List.mem_cons, List.not_mem_nil, or_false, not_or]
           exact ⟨by show (_ : Nat) ≠ _; omega, by first
             | exact Nat.ne_of_gt lt1
             | exact Nat.ne_of_gt lt2
             | exact Nat.ne_of_gt (Nat.lt_of_lt_of_le lt1 (Nat.le_add_right _ _))
             | exact Nat.ne_of_gt (Nat.lt_of_lt_of_le lt2 (Nat.le_add_right _ _))⟩)
noncomputable def Itu (K : PySem.W.Frag) (a : Addr) : It :=
  ⟨fun i H => ∃ xs x, SqT K H a xs ∧ xs[i]? = some x, fun i H v H' => ∃ x T, (∀ xs, SqT K H a xs → xs[i]? = some x) ∧ H T = none ∧ v = .ref T ∧ H' = upd H T (.tup [.int i, x]), fun i H => ∃ xs, SqT K H a xs ∧ xs.length = i⟩
theorem turn_enumT {P : Program} {w : World} {K : PySem.W.Frag} {elts : List Expr} {x1 : Nat} {pos : Pos} (a e it : Addr) (hei : e ≠ it) (na : a ≠ it) (ne : e ≠ a) : Turn P w K (.Tuple elts x1 pos) (Itu K a) [e, it] e (fun i h => (∃ old, IsEnum h e it i old) ∧ h.IsTupleIter it a i) where
  mem := by simp
  obj := fun i h st b hb => by
    obtain ⟨⟨old, he⟩, hit⟩ := st
    rcases List.mem_cons.mp hb with rfl | hb
    · exact ⟨_, he, fun v z => by cases z⟩
    · have e : b = it := by simpa using hb
      subst e
      obtain ⟨o, e, c, d⟩ := hit
      exact ⟨o, e, fun v z => by rw [d] at z; cases z⟩
  keep := fun i h h' st k => by
    obtain ⟨⟨old, he⟩, hit⟩ := st
    exact ⟨⟨old, k e (by simp) _ he⟩, hit.at fun o e => k it (by simp) o e⟩
  item := by
    intro X hP hw hK hc i pins s σ H E I hf st hg
    subst hP hw hK
    obtain ⟨xs, x, hq, hx⟩ := hg
    obtain ⟨its, rv, p, hz⟩ := I.tuple hq
    obtain ⟨u, hu, ru⟩ := rv.get hx
    obtain ⟨⟨old, he⟩, hit⟩ := st
    have p' : s.heap.IsTuple a its.toArray := p
    have hn : X.A.in1.handled = none := I.ok.hd hc
    have d1 := drawsT (prog := X.prog) (w := X.w) hn it a na its.toArray
    have l1 := rv.length
    obtain ⟨b1, _⟩ := List.getElem?_eq_some_iff.1 hx
    refine wpAny_pyNext_enum_itemD d1 he ⟨hit, p'⟩ (by simp; omega) hei (by simp [hei, ne]) fun u' h1 tk hu' ho hit' hT hsz hk => ⟨_, rfl, ?_⟩
    have eu : u = u' := by simpa [hu] using hu'
    subst eu
    refine wpAny_letOwnedTupleGo_enum ho fun h2 he2 hs2 => ?_
    have hTn : H s.heap.objs.size = none := I.hok.fresh (Nat.le_refl _)
    have helt : e < s.heap.objs.size := Heap.lt_size he
    have hilt : it < s.heap.objs.size := by obtain ⟨_, x, _⟩ := hit; exact Heap.lt_size x
    have I1 : Inv X pins σ (upd H s.heap.objs.size (.tup [.int i, x])) { s with heap := s.heap.push { cls := .type "tuple", data := .seq #[.int i tk, u] }, toks := tk + 1 } := I.laid (t' := tk + 1) (o := .tup [.int i, x]) (fun b o e => Heap.get?_push_of_some _ e) (Nat.le_refl _) ⟨szl (by show 2 ≤ 1000000; decide), [.int i tk, u], .cons ⟨_, rfl⟩ (.cons ru .nil), IsTupN.new _ _⟩
    have I2 : Inv X pins σ (upd H s.heap.objs.size (.tup [.int i, x])) { s with heap := h2, toks := tk + 1 } := by
      refine Inv.turnedL (s := { s with heap := s.heap.push { cls := .type "tuple", data := .seq #[.int i tk, u] }, toks := tk + 1 }) (h' := h2) (ch := [e, it]) (t' := tk + 1) I1 (fun b o hb q => ?_) (fun b hb => ?_)
      · have nbe : b ≠ e := fun z => hb (by simp [z])
        have nbi : b ≠ it := fun z => hb (by simp [z])
        show h2.get? b = some o
        rw [hs2.2 b nbe]
        rcases Heap.get?_push_cases q with ⟨rfl, rfl⟩ | q
        · exact hT
        · exact hk b o nbe nbi q
      · obtain ⟨f0, f1, f2, f3, f4, f5⟩ := hf b hb
        have nb : b ≠ s.heap.objs.size := by
          rcases List.mem_cons.mp hb with rfl | hb
          · exact Nat.ne_of_lt helt
          · have : b = it := by simpa using hb
            subst this
            exact Nat.ne_of_lt hilt
        exact ⟨by rw [upd_ne nb]; exact f0, f1, f2, f3, f4, f5⟩
    refine ⟨.ref s.heap.objs.size, _, I2, rfl, ⟨x, _, fun ys hy => by rw [I.tuple_inj hy hq]; exact hx, hTn, rfl, rfl⟩, ⟨⟨_, by simpa using he2⟩, hit'.1.at fun o y => (hs2.2 it hei.symm).trans y⟩, fun b hb => ?_⟩
    obtain ⟨f0, f1, f2, f3, f4, f5⟩ := hf b hb
    have nb : b ≠ s.heap.objs.size := by
      rcases List.mem_cons.mp hb with rfl | hb
      · exact Nat.ne_of_lt helt
      · have : b = it := by simpa using hb
        subst this
        exact Nat.ne_of_lt hilt
    rw [upd_ne nb]
    exact f0
  done := by
    intro X hP hw hK hc i pins s σ H E I hf st hg
    subst hP hw hK
    obtain ⟨xs, hq, hx⟩ := hg
    obtain ⟨its, rv, p, hz⟩ := I.tuple hq
    obtain ⟨⟨old, he⟩, hit⟩ := st
    have p' : s.heap.IsTuple a its.toArray := p
    have hn : X.A.in1.handled = none := I.ok.hd hc
    have d1 := drawsT (prog := X.prog) (w := X.w) hn it a na its.toArray
    have hl := rv.length
    have e1 : its.toArray.size = i := by simp; omega
    refine wpAny_pyNext_enum_endD d1 he ⟨by rw [e1]; exact hit, p'⟩ fun h' eb => ⟨rfl, ?_⟩
    exact I.turnedL (ch := [e, it]) (t' := s.toks) (fun b o hb q => eb b o (fun z => hb (by simp [z])) q) hf
  self := fun _ _ _ _ _ st h => by
    obtain ⟨⟨old, he⟩, _⟩ := st
    exact wpAny_pyIter_enum he h
theorem enum_newT (l : Addr) (items : Array Value) (n : Nat) (dd : Option Addr) (sl : Array (Option Value)) :
    Meets (Builtin.«enumerate.__new__» ⟨[.type "enumerate", .ref l], []⟩) (fun _ R s => s.heap.get? l = some { cls := .type "tuple", dict := dd, data := .seq items n, slots := sl } ∧
      ∀ h', IsEnum h' (s.heap.objs.size + 1) s.heap.objs.size 0 .none → h'.IsTupleIter s.heap.objs.size l 0 → (∀ c o, s.heap.get? c = some o → h'.get? c = some o) → R (.ok (.ret (.ref (s.heap.objs.size + 1)))) { s with heap := h' }) :=
  .of_wp fun prog w A R s h => by
    obtain ⟨hp, g, d, tk, os⟩ := s
    obtain ⟨hl, h⟩ := h
    have hsub := sub_enumerate
    have hL : Heap.IsTuple (Shared.heap ⟨hp, g, d, tk, os⟩) l items := ⟨_, hl, rfl, n, rfl⟩
    have key : ∀ (n1 : Nat) (h' : Heap), n1 = hp.objs.size + 1 → IsEnum h' n1 hp.objs.size 0 .none → h'.IsTupleIter hp.objs.size l 0 → (∀ c o, hp.get? c = some o → h'.get? c = some o) → R (.ok (.ret (.ref n1))) ⟨h', g, d, tk, os⟩ := by
      rintro _ h' rfl
      exact h h'
    wp_walk using AutoSeq1.wpAny_loadPart' hl
    apply wpAny_stack_any
    intro st
    apply wpAny_pure
    have fin : R (.ok (.ret (.ref (hp.push { cls := .type "tuple_iterator", data := .fields #[.ref l, .int 0 0] }).objs.size))) ⟨(hp.push { cls := .type "tuple_iterator", data := .fields #[.ref l, .int 0 0] }).push { cls := .type "enumerate", data := .fields #[.none, .bool false, .ref hp.objs.size, rawInt 0, .none, .none] }, g, d, tk, os⟩ :=
      key _ _ (by simp only [Heap.size_push]) (Heap.get?_push_size _ rfl) ⟨_, Heap.get?_push_of_some _ (Heap.get?_push_size _ rfl), rfl, rfl⟩ fun c o e => Heap.get?_push_of_some _ (Heap.get?_push_of_some _ e)
    split
    · rename_i c _ _ _ _ _
      cases (c == Value.type "enumerate")
      all_goals
        wp_walk using AutoSeq1.wpAny_loadPart' hl, wpAny_pyIter_tuple hL
        exact ⟨_, rfl, fin⟩
    · wp_walk using AutoSeq1.wpAny_loadPart' hl, wpAny_pyIter_tuple hL
      exact ⟨_, rfl, fin⟩
noncomputable def iEnumT (K : PySem.W.Frag) (ta : TA) : TI := fun σ H R => ta σ H fun vs H1 => ∃ a : Addr, vs = [.ref a] ∧ (∃ xs, SqT K H1 a xs) ∧ R (Itu K a) H1
theorem pi_enumT {X : Cx} {a : Expr} {ta : TA} {p pos : Pos} {elts : List Expr} {x1 : Nat} {pos2 : Pos} (hg : Gl X "enumerate") (hm : X.mg "enumerate" = none) (ha : PA X [a] ta) (hs : starEach [a] X.env = [(false, eval a X.env)] := by rfl) : PI X (.Tuple elts x1 pos2) (.Call (.Name "enumerate" p) [a] [] pos) (iEnumT X.K ta) := by
  intro pins s σ H R I h
  refine Call_ (ld_blt I hg hm boot_enumerate (PyProof.Rows.callWith_type1 (thn (ha pos pins s σ H _ I h) fun us s1 ⟨vs, H1, I1, r1, q1⟩ => ?_) hs rfl))
  obtain ⟨l, rfl, ⟨xs, hq⟩, q⟩ := q1
  cases r1 with
  | cons r rr =>
    cases rr
    cases r
    obtain ⟨its, rv, pl, hz⟩ := I1.tuple hq
    have lt1 : l < s1.heap.objs.size := pl.lt
    obtain ⟨⟨c, dct, dt, sl⟩, hl, hc, n, hd⟩ := pl
    have hc' : c = .type "tuple" := hc
    have hd' : dt = .seq its.toArray n := hd
    subst hc' hd'
    refine callType_new F.called_enumerate (by decide) (F.typeCall_enumerate_1 _) (F.newCall_enumerate_1 _) (fun obj => F.args_object_init_2 obj _) F.entry_enumerate_new (enum_newT l its.toArray n dct sl) ⟨hl, fun h' he hit hk => ⟨⟨_, he, rfl⟩, ?_⟩⟩
    refine wpAny_pyIter_enum he ?_
    refine ⟨_, [s1.heap.objs.size + 1, s1.heap.objs.size], _, _, H1, rfl, I1.kept (t' := s1.toks) hk, turn_enumT l _ _ (Nat.ne_of_gt (Nat.lt_succ_self _)) (Nat.ne_of_lt lt1) (Nat.ne_of_gt (Nat.lt_of_lt_of_le lt1 (Nat.le_add_right _ _))), ⟨⟨_, he⟩, hit⟩, fun b hb => ?_, q⟩
    rcases List.mem_cons.mp hb with rfl | hb
    · exact I1.fpOk (Nat.le_succ _) (I1.hok.fresh (Nat.le_succ _))
    · have e : b = s1.heap.objs.size := by simpa using hb
      subst e
      exact I1.fpOk (Nat.le_refl _) (I1.hok.fresh (Nat.le_refl _))
theorem for_enumT {K : PySem.W.Frag} {a : Addr} {xs : List V} {g : TG} {tb : TS} {D : Ends} {σ : St} {H : Hp} (Pv : Nat → St → Hp → Prop) (h0 : Pv 0 σ H) (hl : ∀ i σ H, i ≤ xs.length → Pv i σ H → SqT K H a xs)
    (hs : ∀ i x T σ H, xs[i]? = some x → Pv i σ H → H T = none → g (.ref T) σ (upd H T (.tup [.int i, x])) fun σ2 H2 => tb { D with nx := Pv (i + 1), ct := Pv (i + 1), bk := D.nx } σ2 H2) (hd : ∀ σ H, Pv xs.length σ H → D.nx σ H) :
    ∃ W : Nat → Nat → St → Hp → Prop, (∃ m, W 0 m σ H) ∧ ∀ i m σ H, W i m σ H →
      ((Itu K a).stop i H ∧ D.nx σ H) ∨ ((Itu K a).go i H ∧ ∃ N : St → Hp → Prop, (∀ σ' H', N σ' H' → ∃ m', m' < m ∧ W (i + 1) m' σ' H') ∧ ∀ x H', (Itu K a).yld i H x H' → g x σ H' fun σ2 H2 => tb { D with nx := N, ct := N, bk := D.nx } σ2 H2) := by
  refine ⟨fun i m σ H => m = xs.length - i ∧ i ≤ xs.length ∧ Pv i σ H, ⟨xs.length, by simp, Nat.zero_le _, h0⟩, ?_⟩
  rintro i m σ H ⟨rfl, hi, p⟩
  have q := hl i σ H hi p
  by_cases hlt : i < xs.length
  · refine .inr ⟨⟨xs, xs[i], q, List.getElem?_eq_getElem hlt⟩, Pv (i + 1), fun σ' H' p' => ⟨xs.length - (i + 1), by omega, rfl, hlt, p'⟩, fun v H' y => ?_⟩
    obtain ⟨x, T, hx, hT, rfl, rfl⟩ := y
    exact hs i x T σ H (hx xs q) p hT
  · have e : i = xs.length := by omega
    subst e
    exact .inl ⟨⟨xs, q, rfl⟩, hd σ H p⟩
end L2

set_option Elab.async false
set_option linter.all false
set_option maxRecDepth 100000
set_option maxHeartbeats 4000000
namespace L2
open PySem PySem.Spec PyProof.Rows
end L2
namespace L2
open PySem PySem.Spec PyProof.Rows
end L2
namespace L2
open PySem PySem.Spec PyProof.Rows
noncomputable def rCatH : R2 := fun x y H Q => ∃ (a b : Addr) (xs ys : List V), x = .ref a ∧ y = .ref b ∧ H a = some (.tup xs) ∧ H b = some (.tup ys) ∧ xs.length + ys.length ≤ sizeLine ∧ ∀ (p : Addr) (H' : Hp), Same H H' → H' p = some (.tup (xs ++ ys)) → Q (.ref p) H'
theorem op_catH {X : Cx} : OpR X (binaryOp .Add) rCatH := by
  intro pins s σ H x y v u Q I rx ry h
  obtain ⟨a, b, xs, ys, rfl, rfl, ha, hb, hz, q⟩ := h
  by_cases c : xs = []
  · subst c
    cases rx
    cases ry
    obtain ⟨its, r1, p1, _⟩ := I.tuple (SqT.of ha)
    obtain ⟨its2, r2, p2, _⟩ := I.tuple (SqT.of hb)
    obtain ⟨⟨cls, dd, data, sl⟩, ho, hc, n, hd⟩ := id p1
    obtain ⟨⟨cls2, dd2, data2, sl2⟩, ho2, hc2, n2, hd2⟩ := id p2
    simp only at hc hd hc2 hd2
    subst hc hd hc2 hd2
    have e : its = [] := r1.nil_iff.mpr rfl
    exact concat_meets ⟨_, ho, rfl⟩ ⟨_, ho2, rfl⟩ noFill_tuple_add seq_tuple_add PySem.F.slot_tuple_add PySem.F.entry_tuple_add (PySem.F.args_tuple_add_2 _ _)
      (tuple_addW0 a b its.toArray its2.toArray n n2 dd dd2 sl sl2 (by simp [e])) ⟨ho, ho2, .ref b, H, I, rfl, q b H (Same.refl _) hb⟩
  · refine op_catT pins s σ H (.ref a) (.ref b) v u Q I rx ry ⟨a, b, xs, ys, rfl, rfl, SqT.of ha, SqT.of hb, c, hz, fun z => ?_, fun z p hp => ?_⟩
    · subst z
      exact q a H (Same.refl _) (by rw [List.append_nil]; exact ha)
    · exact q p _ (same_new hp _) upd_same
end L2

set_option linter.all false
namespace Fo
inductive F (W : Type) where
  | nil : F W
  | leaf (k : Int) (pl : List (Int × Int)) (rest : F W) : F W
  | node (cut : Bool) (way : W) (sub rest : F W) : F W
structure Bo (W : Type) where
  k : Int
  sh : Nat
  ways : List (Bool × W)
  pl : List (Int × Int)
variable {W L : Type}
noncomputable def HeadSh (B : List (Bo W)) (d : Nat) : Prop := ∀ c, B.head? = some c → c.sh = d
noncomputable def Is : F W → List (Bo W) → Nat → Prop
  | .nil, B, _ => B = []
  | .leaf k pl rest, B, d => ∃ b B', B = b :: B' ∧ b.k = k ∧ b.pl = pl ∧ b.ways.length = d ∧ HeadSh B' d ∧ Is rest B' d
  | .node cut way sub rest, B, d => ∃ b G B', B = (b :: G) ++ B' ∧ b.ways[d]? = some (cut, way) ∧ (∀ c ∈ G, d < c.sh) ∧ HeadSh B' d ∧ Is sub (b :: G) (d + 1) ∧ Is rest B' d
section
variable (hdr : Nat → Bool → W → L) (dl : Nat → Int → List (Int × Int) → L)
end
structure Ok (B : List (Bo W)) : Prop where
  sh : ∀ b ∈ B, b.sh ≤ b.ways.length
  ln : ∀ (i : Nat) (b c : Bo W), B[i]? = some b → B[i + 1]? = some c → c.sh ≤ b.ways.length ∧ c.ways.take c.sh = b.ways.take c.sh
structure En where
  k : Int
  pl : List (Int × Int)
  path : List Int
noncomputable def deedsF : F W → List Int → Nat → List En
  | .nil, _, _ => []
  | .leaf k pl rest, p, j => ⟨k, pl, p ++ [(j : Int)]⟩ :: deedsF rest p (j + 1)
  | .node _ _ sub rest, p, j => deedsF sub (p ++ [(j : Int)]) 0 ++ deedsF rest p (j + 1)
theorem deeds_map : ∀ (f : F W) (B : List (Bo W)) (d : Nat) (p : List Int) (j : Nat), Is f B d → (deedsF f p j).map (fun e => (e.k, e.pl)) = B.map fun b => (b.k, b.pl)
  | .nil, B, d, p, j, h => by cases (show B = [] from h); rfl
  | .leaf k pl rest, B, d, p, j, h => by
    obtain ⟨b, B', rfl, rfl, rfl, hl, hh, hr⟩ := h
    show (b.k, b.pl) :: _ = (b.k, b.pl) :: _
    rw [deeds_map rest B' d p (j + 1) hr]
  | .node c w sub rest, B, d, p, j, h => by
    obtain ⟨b, G, B', rfl, hw, hG, hh, hs, hr⟩ := h
    show List.map _ (deedsF sub (p ++ [(j : Int)]) 0 ++ deedsF rest p (j + 1)) = _
    rw [List.map_append, deeds_map sub (b :: G) (d + 1) _ _ hs, deeds_map rest B' d p (j + 1) hr, ← List.map_append]
theorem deeds_len {f : F W} {B : List (Bo W)} {d : Nat} (p : List Int) (j : Nat) (h : Is f B d) : (deedsF f p j).length = B.length := by
  have := congrArg List.length (deeds_map f B d p j h)
  rwa [List.length_map, List.length_map] at this
theorem deeds_begin : ∀ (f : F W) (p : List Int) (j : Nat) (e : En), e ∈ deedsF f p j → ∃ (i : Nat) (q : List Int), j ≤ i ∧ e.path = p ++ (i : Int) :: q
  | .nil, p, j, e, h => by cases h
  | .leaf k pl rest, p, j, e, h => by
    rcases List.mem_cons.mp h with rfl | h
    · exact ⟨j, [], Nat.le_refl _, rfl⟩
    · obtain ⟨i, q, h1, h2⟩ := deeds_begin rest p (j + 1) e h
      exact ⟨i, q, by omega, h2⟩
  | .node c w sub rest, p, j, e, h => by
    rcases List.mem_append.mp h with h | h
    · obtain ⟨i, q, h1, h2⟩ := deeds_begin sub (p ++ [(j : Int)]) 0 e h
      exact ⟨j, (i : Int) :: q, Nat.le_refl _, by rw [h2]; simp⟩
    · obtain ⟨i, q, h1, h2⟩ := deeds_begin rest p (j + 1) e h
      exact ⟨i, q, by omega, h2⟩
end Fo
namespace Fo
variable {W L : Type}
noncomputable def app : F W → F W → F W
  | .nil, g => g
  | .leaf k pl r, g => .leaf k pl (app r g)
  | .node c w s r, g => .node c w s (app r g)
theorem HeadSh.app {B C : List (Bo W)} {d : Nat} (h : HeadSh B d) (g : HeadSh C d) : HeadSh (B ++ C) d := by
  cases B with
  | nil => exact g
  | cons b B => exact h
theorem Is.app : ∀ (f g : F W) (B C : List (Bo W)) (d : Nat), Is f B d → Is g C d → HeadSh C d → Is (app f g) (B ++ C) d
  | .nil, g, B, C, d, hf, hg, hh => by cases (show B = [] from hf); exact hg
  | .leaf k pl r, g, B, C, d, hf, hg, hh => by
    obtain ⟨b, B', rfl, h1, h2, h3, h4, h5⟩ := hf
    exact ⟨b, B' ++ C, rfl, h1, h2, h3, h4.app hh, Is.app r g B' C d h5 hg hh⟩
  | .node c w s r, g, B, C, d, hf, hg, hh => by
    obtain ⟨b, G, B', rfl, h1, h2, h3, h4, h5⟩ := hf
    exact ⟨b, G, B' ++ C, by simp, h1, h2, h3.app hh, h4, Is.app r g B' C d h5 hg hh⟩
theorem Is.leaf1 {b : Bo W} {d : Nat} (h : b.ways.length = d) : Is (.leaf b.k b.pl .nil) [b] d := ⟨b, [], rfl, rfl, rfl, h, (fun c hc => by cases hc), rfl⟩
theorem Is.node1 {b : Bo W} {G : List (Bo W)} {d : Nat} {s : F W} {c : Bool} {w : W} (hw : b.ways[d]? = some (c, w)) (hG : ∀ c ∈ G, d < c.sh) (hs : Is s (b :: G) (d + 1)) : Is (.node c w s .nil) (b :: G) d := ⟨b, G, [], by simp, hw, hG, (fun c hc => by cases hc), hs, rfl⟩
end Fo

set_option Elab.async false
set_option linter.all false
set_option maxRecDepth 100000
set_option maxHeartbeats 4000000
namespace L2
open PySem PySem.Spec PyProof.Rows
noncomputable def All2 {α : Type} (R : V → α → Prop) (xs : List V) (as : List α) : Prop := xs.length = as.length ∧ ∀ (i : Nat) (x : V) (a : α), xs[i]? = some x → as[i]? = some a → R x a
theorem All2.nil {α : Type} {R : V → α → Prop} : All2 R [] [] := ⟨rfl, fun i x a h => by simp at h⟩
theorem All2.mono {α : Type} {R S : V → α → Prop} {xs : List V} {as : List α} (h : All2 R xs as) (m : ∀ x a, R x a → S x a) : All2 S xs as := ⟨h.1, fun i x a p q => m _ _ (h.2 i x a p q)⟩
theorem All2.get {α : Type} {R : V → α → Prop} {xs : List V} {as : List α} {i : Nat} {a : α} (h : All2 R xs as) (ha : as[i]? = some a) : ∃ x, xs[i]? = some x ∧ R x a := by
  have hi : i < xs.length := by rw [h.1]; exact (List.getElem?_eq_some_iff.mp ha).1
  exact ⟨_, List.getElem?_eq_getElem hi, h.2 i _ a (List.getElem?_eq_getElem hi) ha⟩
theorem All2.get' {α : Type} {R : V → α → Prop} {xs : List V} {as : List α} {i : Nat} {x : V} (h : All2 R xs as) (hx : xs[i]? = some x) : ∃ a, as[i]? = some a ∧ R x a := by
  have hi : i < as.length := by rw [← h.1]; exact (List.getElem?_eq_some_iff.mp hx).1
  exact ⟨_, List.getElem?_eq_getElem hi, h.2 i x _ hx (List.getElem?_eq_getElem hi)⟩
theorem All2.app {α : Type} {R : V → α → Prop} {xs ys : List V} {as bs : List α} (h : All2 R xs as) (g : All2 R ys bs) : All2 R (xs ++ ys) (as ++ bs) := by
  refine ⟨by rw [List.length_append, List.length_append, h.1, g.1], fun i x a p q => ?_⟩
  by_cases l : i < xs.length
  · rw [List.getElem?_append_left l] at p
    rw [List.getElem?_append_left (by rw [← h.1]; exact l)] at q
    exact h.2 i x a p q
  · rw [List.getElem?_append_right (by omega)] at p
    rw [List.getElem?_append_right (by have := h.1; omega)] at q
    rw [h.1] at p
    exact g.2 _ x a p q
theorem All2.one {α : Type} {R : V → α → Prop} {x : V} {a : α} (h : R x a) : All2 R [x] [a] := ⟨rfl, fun i y b p q => by
  cases i with
  | zero => cases p; cases q; exact h
  | succ i => simp at p⟩
theorem All2.snoc {α : Type} {R : V → α → Prop} {xs : List V} {as : List α} {x : V} {a : α} (h : All2 R xs as) (g : R x a) : All2 R (xs ++ [x]) (as ++ [a]) := h.app (.one g)
theorem All2.drop {α : Type} {R : V → α → Prop} {xs : List V} {as : List α} (h : All2 R xs as) (n : Nat) : All2 R (xs.drop n) (as.drop n) := ⟨by rw [List.length_drop, List.length_drop, h.1], fun i x a p q => by
  rw [List.getElem?_drop] at p q
  exact h.2 _ x a p q⟩
theorem All2.take {α : Type} {R : V → α → Prop} {xs : List V} {as : List α} (h : All2 R xs as) (n : Nat) : All2 R (xs.take n) (as.take n) := ⟨by rw [List.length_take, List.length_take, h.1], fun i x a p q => by
  by_cases l : i < n
  · rw [List.getElem?_take_of_lt l] at p q
    exact h.2 _ x a p q
  · rw [List.getElem?_take_eq_none (by omega)] at p
    cases p⟩
noncomputable abbrev Way := Bool × Str
noncomputable abbrev Bgh := Fo.Bo Str
noncomputable abbrev Frs := Fo.F Str
noncomputable def WayAt (H : Hp) (x : V) (w : Way) : Prop := ∃ t, x = .ref t ∧ H t = some (.tup [.bl w.1, .str w.2])
noncomputable def PrAt (H : Hp) (x : V) (p : Int × Int) : Prop := ∃ t, x = .ref t ∧ H t = some (.tup [.int p.1, .int p.2])
theorem WayAt.over {H H' : Hp} {x : V} {w : Way} (h : WayAt H x w) (e : Same H H') : WayAt H' x w := by obtain ⟨t, a, b⟩ := h; exact ⟨t, a, e _ _ b⟩
theorem PrAt.over {H H' : Hp} {x : V} {p : Int × Int} (h : PrAt H x p) (e : Same H H') : PrAt H' x p := by obtain ⟨t, a, b⟩ := h; exact ⟨t, a, e _ _ b⟩
noncomputable def WaysAt (H : Hp) (l : Addr) (ws : List Way) : Prop := ∃ xs, H l = some (.lst xs) ∧ All2 (WayAt H) xs ws
noncomputable def PrsT (H : Hp) (l : Addr) (ps : List (Int × Int)) : Prop := ∃ xs, H l = some (.tup xs) ∧ All2 (PrAt H) xs ps
theorem WaysAt.over {H H' : Hp} {l : Addr} {ws : List Way} (h : WaysAt H l ws) (e : Same H H') : WaysAt H' l ws := by obtain ⟨xs, a, b⟩ := h; exact ⟨xs, e _ _ a, b.mono fun x w p => p.over e⟩
theorem PrsT.over {H H' : Hp} {l : Addr} {ps : List (Int × Int)} (h : PrsT H l ps) (e : Same H H') : PrsT H' l ps := by obtain ⟨xs, a, b⟩ := h; exact ⟨xs, e _ _ a, b.mono fun x w p => p.over e⟩
noncomputable def FoAt (H : Hp) : List V → Frs → Prop
  | xs, .nil => xs = []
  | xs, .leaf k pl rest => ∃ t p ys, xs = .ref t :: ys ∧ H t = some (.tup [.str "deed", .int k, .ref p]) ∧ PrsT H p pl ∧ FoAt H ys rest
  | xs, .node c w sub rest => ∃ t p zs ys, xs = .ref t :: ys ∧ H t = some (.tup [.str "sweep", .bl c, .str w, .ref p]) ∧ H p = some (.tup zs) ∧ FoAt H zs sub ∧ FoAt H ys rest
theorem FoAt.over {H H' : Hp} (e : Same H H') : ∀ {f : Frs} {xs : List V}, FoAt H xs f → FoAt H' xs f
  | .nil, xs, h => h
  | .leaf k pl rest, xs, h => by
    obtain ⟨t, p, ys, a, b, c, d⟩ := h
    exact ⟨t, p, ys, a, e _ _ b, c.over e, FoAt.over e d⟩
  | .node c w sub rest, xs, h => by
    obtain ⟨t, p, zs, ys, a, b, c, d, g⟩ := h
    exact ⟨t, p, zs, ys, a, e _ _ b, e _ _ c, FoAt.over e d, FoAt.over e g⟩
noncomputable def FoT (H : Hp) (p : Addr) (f : Frs) : Prop := ∃ xs, H p = some (.tup xs) ∧ FoAt H xs f
theorem FoT.over {H H' : Hp} {p : Addr} {f : Frs} (h : FoT H p f) (e : Same H H') : FoT H' p f := by obtain ⟨xs, a, b⟩ := h; exact ⟨xs, e _ _ a, FoAt.over e b⟩
end L2

set_option Elab.async false
set_option linter.all false
set_option maxRecDepth 100000
set_option maxHeartbeats 4000000
namespace L2
open PySem PySem.Spec PyProof.Rows
noncomputable def TK (H H' : Hp) : Prop := ∀ (b : Addr) (xs : List V), H b = some (.tup xs) → H' b = some (.tup xs)
theorem TK.trans {H H' H'' : Hp} (a : TK H H') (b : TK H' H'') : TK H H'' := fun x xs h => b x xs (a x xs h)
theorem Same.tk {H H' : Hp} (e : Same H H') : TK H H' := fun b xs h => e b _ h
theorem TK.upd {H : Hp} {l : Addr} {xs : List V} {o : HO} (hl : H l = some (.lst xs)) : TK H (upd H l o) := fun b ys hb => by
  rw [upd_ne (ne_of hb hl (by intro z; cases z))]
  exact hb
theorem WayAt.tk {H H' : Hp} {x : V} {w : Way} (h : WayAt H x w) (e : TK H H') : WayAt H' x w := by obtain ⟨t, a, b⟩ := h; exact ⟨t, a, e _ _ b⟩
theorem PrAt.tk {H H' : Hp} {x : V} {w : Int × Int} (h : PrAt H x w) (e : TK H H') : PrAt H' x w := by obtain ⟨t, a, b⟩ := h; exact ⟨t, a, e _ _ b⟩
theorem PrsT.tk {H H' : Hp} {l : Addr} {ps : List (Int × Int)} (h : PrsT H l ps) (e : TK H H') : PrsT H' l ps := by obtain ⟨xs, a, b⟩ := h; exact ⟨xs, e _ _ a, b.mono fun x w p => p.tk e⟩
theorem FoAt.tk {H H' : Hp} (e : TK H H') : ∀ {f : Frs} {xs : List V}, FoAt H xs f → FoAt H' xs f
  | .nil, xs, h => h
  | .leaf k pl rest, xs, h => by
    obtain ⟨t, p, ys, a, b, c, d⟩ := h
    exact ⟨t, p, ys, a, e _ _ b, c.tk e, FoAt.tk e d⟩
  | .node c w sub rest, xs, h => by
    obtain ⟨t, p, zs, ys, a, b, c, d, g⟩ := h
    exact ⟨t, p, zs, ys, a, e _ _ b, e _ _ c, FoAt.tk e d, FoAt.tk e g⟩
theorem FoT.tk {H H' : Hp} {p : Addr} {f : Frs} (h : FoT H p f) (e : TK H H') : FoT H' p f := by obtain ⟨xs, a, b⟩ := h; exact ⟨xs, e _ _ a, FoAt.tk e b⟩
theorem FoAt.app {H : Hp} : ∀ {f g : Frs} {xs ys : List V}, FoAt H xs f → FoAt H ys g → FoAt H (xs ++ ys) (Fo.app f g)
  | .nil, g, xs, ys, h, k => by cases (show xs = [] from h); exact k
  | .leaf k pl rest, g, xs, ys, h, hg => by
    obtain ⟨t, p, zs, rfl, b, c, d⟩ := h
    exact ⟨t, p, zs ++ ys, rfl, b, c, FoAt.app d hg⟩
  | .node c w sub rest, g, xs, ys, h, hg => by
    obtain ⟨t, p, zs, us, rfl, b, c, d, k⟩ := h
    exact ⟨t, p, zs, us ++ ys, rfl, b, c, d, FoAt.app k hg⟩
structure From (B : List Bgh) (d n : Nat) : Prop where
  ok : Fo.Ok B
  sh : ∀ i c, B[i + 1]? = some c → d ≤ c.sh
  lo : ∀ b ∈ B, d ≤ b.ways.length
  hi : ∀ b ∈ B, b.ways.length ≤ d + n
  pl : ∀ b ∈ B, b.pl.length ≤ 6
  len : B.length ≤ 6
theorem ok_slice {B : List Bgh} (h : Fo.Ok B) (i j : Nat) : Fo.Ok ((B.drop i).take j) := by
  refine ⟨fun b hb => h.sh b (List.mem_of_mem_drop (List.mem_of_mem_take hb)), fun n b c h1 h2 => ?_⟩
  have l2 := (List.getElem?_eq_some_iff.mp h2).1
  rw [List.length_take] at l2
  rw [List.getElem?_take_of_lt (by omega), List.getElem?_drop] at h1 h2
  exact h.ln (i + n) b c h1 h2
theorem From.group {B : List Bgh} {d n at' m : Nat} {b : Bgh} (h : From B d (n + 1)) (hb : B[at']? = some b) (hd : b.ways.length ≠ d) (hm : at' < m) (hG : ∀ i c, at' < i → i < m → B[i]? = some c → d < c.sh) : From ((B.drop at').take (m - at')) (d + 1) n := by
  have mem : ∀ c ∈ (B.drop at').take (m - at'), c ∈ B := fun c hc => List.mem_of_mem_drop (List.mem_of_mem_take hc)
  refine ⟨ok_slice h.ok _ _, fun i c hc => ?_, fun c hc => ?_, fun c hc => by have := h.hi c (mem c hc); omega, fun c hc => h.pl c (mem c hc), ?_⟩
  · have l2 := (List.getElem?_eq_some_iff.mp hc).1
    rw [List.length_take] at l2
    rw [List.getElem?_take_of_lt (by omega), List.getElem?_drop] at hc
    exact hG (at' + (i + 1)) c (by omega) (by omega) hc
  · obtain ⟨i, hi⟩ := List.mem_iff_getElem?.mp hc
    have l2 := (List.getElem?_eq_some_iff.mp hi).1
    rw [List.length_take] at l2
    rw [List.getElem?_take_of_lt (by omega), List.getElem?_drop] at hi
    by_cases z : i = 0
    · subst z
      rw [Nat.add_zero, hb] at hi
      cases hi
      have := h.lo b (List.mem_of_getElem? hb)
      omega
    · have := hG (at' + i) c (by omega) (by omega) hi
      have := h.ok.sh c (mem c hc)
      omega
  · have := h.len
    rw [List.length_take, List.length_drop]
    omega
noncomputable def dep : Frs → Nat
  | .nil => 1
  | .leaf _ _ rest => dep rest
  | .node _ _ sub rest => max (1 + dep sub) (dep rest)
theorem dep_pos : ∀ f : Frs, 1 ≤ dep f
  | .nil => Nat.le_refl _
  | .leaf _ _ rest => dep_pos rest
  | .node _ _ sub rest => by have := dep_pos sub; unfold dep; omega
theorem dep_of : ∀ (f : Frs) (B : List Bgh) (d n : Nat), Fo.Is f B d → (∀ b ∈ B, b.ways.length ≤ d + n) → dep f ≤ n + 1
  | .nil, B, d, n, h, hn => by unfold dep; omega
  | .leaf k pl rest, B, d, n, h, hn => by
    obtain ⟨b, B', rfl, _, _, _, _, h5⟩ := h
    exact dep_of rest B' d n h5 fun b hb => hn b (List.mem_cons_of_mem _ hb)
  | .node c w sub rest, B, d, n, h, hn => by
    obtain ⟨b, G, B', rfl, h1, h2, h3, h4, h5⟩ := h
    have := dep_of rest B' d n h5 fun b hb => hn b (List.mem_append_right _ hb)
    have l := (List.getElem?_eq_some_iff.mp h1).1
    have l2 := hn b (List.mem_append_left _ List.mem_cons_self)
    obtain ⟨n, rfl⟩ : ∃ m, n = m + 1 := ⟨n - 1, by omega⟩
    have := dep_of sub (b :: G) (d + 1) n h4 fun b hb => by have := hn b (List.mem_append_left _ hb); omega
    unfold dep
    omega
noncomputable def ME (t : TE) : Prop := ∀ (σ : St) (H : Hp) (Q Q' : VK), (∀ v H1, Q v H1 → Q' v H1) → t σ H Q → t σ H Q'
noncomputable def MT (t : TT) : Prop := ∀ σ H Q Q', (∀ b H1, Q b H1 → Q' b H1) → t σ H Q → t σ H Q'
noncomputable def MA (t : TA) : Prop := ∀ σ H Q Q', (∀ b H1, Q b H1 → Q' b H1) → t σ H Q → t σ H Q'
noncomputable def MR (r : R2) : Prop := ∀ (x y : V) (H : Hp) (Q Q' : VK), (∀ v H1, Q v H1 → Q' v H1) → r x y H Q → r x y H Q'
noncomputable def MB (r : List V → Hp → VK → Prop) : Prop := ∀ (vs : List V) (H : Hp) (Q Q' : VK), (∀ v H1, Q v H1 → Q' v H1) → r vs H Q → r vs H Q'
theorem ME.var (i : Nat) : ME (tVar i) := fun σ H Q Q' hq ⟨v, h, k⟩ => ⟨v, h, hq _ _ k⟩
theorem ME.c (v : V) : ME (tC v) := fun σ H Q Q' hq h => hq _ _ h
theorem ME.op {r : R2} {a b : TE} (hr : MR r) (ha : ME a) (hb : ME b) : ME (tOp r a b) := fun σ H Q Q' hq h => ha _ _ _ _ (fun x H1 k => hb _ _ _ _ (fun y H2 k => hr _ _ _ _ _ hq k) k) h
theorem ME.cb {r : List V → Hp → VK → Prop} {t : TA} (hr : MB r) (h : MA t) : ME (tCB r t) := fun σ H Q Q' hq k => h _ _ _ _ (fun xs H1 m => hr _ _ _ _ hq m) k
theorem MA.nil : MA tNil := fun σ H Q Q' hq h => hq _ _ h
theorem MA.cons {t : TE} {u : TA} (ht : ME t) (hu : MA u) : MA (tCons t u) := fun σ H Q Q' hq h => ht _ _ _ _ (fun x H1 k => hu _ _ _ _ (fun xs H2 m => hq _ _ m) k) h
theorem MT.test {t : TE} (h : ME t) : MT (tTest t) := fun σ H Q Q' hq k => h _ _ _ _ (fun x H1 ⟨b, e, m⟩ => ⟨b, e, hq _ _ m⟩) k
theorem MT.b {t : TE} (h : ME t) : MT (tB t) := fun σ H Q Q' hq k => h _ _ _ _ (fun x H1 ⟨b, e, m⟩ => ⟨b, e, hq _ _ m⟩) k
theorem MT.and {t u : TT} (h : MT t) (g : MT u) : MT (tAnd t u) := fun σ H Q Q' hq k => h _ _ _ _ (fun c H1 m => by
  cases c with
  | true => exact g _ _ _ _ hq m
  | false => exact hq _ _ m) k
theorem MR.i0 (g : Int → Int → V) : MR (rI0 g) := fun x y H Q Q' hq ⟨i, j, a, b, d⟩ => ⟨i, j, a, b, hq _ _ d⟩
theorem MR.ixL (K : PySem.W.Frag) : MR (rIxL K) := fun x y H Q Q' hq ⟨p, xs, i, v, a, b, c, d, e⟩ => ⟨p, xs, i, v, a, b, c, d, hq _ _ e⟩
theorem MR.ixT (K : PySem.W.Frag) : MR (rIxT K) := fun x y H Q Q' hq ⟨p, xs, i, v, a, b, c, d, e⟩ => ⟨p, xs, i, v, a, b, c, d, hq _ _ e⟩
theorem MB.len {P R : Hp → Addr → List V → Prop} : MB (fun xs H Q => ∃ p ys, xs = [V.ref p] ∧ (P H p ys ∨ R H p ys) ∧ Q (V.int (ys.length : Int)) H) := fun vs H Q Q' hq ⟨p, ys, a, b, c⟩ => ⟨p, ys, a, b, hq _ _ c⟩
theorem ints_tr {K : PySem.W.Frag} {H : Hp} : ∀ L : List Int, TrsIs K H (L.map V.int) (L.map fun i => Tr.v (.int i))
  | [] => .nil
  | x :: L => .cons (.flat rfl) (ints_tr L)
theorem ints_dep : ∀ L : List Int, depTs (L.map fun i => Tr.v (.int i)) = 0
  | [] => rfl
  | x :: L => by rw [List.map_cons, depTs, ints_dep L]; rfl
theorem left_eq {K : PySem.W.Frag} {H : Hp} {p z : Addr} {L : List Int} {neg : Bool} {Q : VK} (hp : H p = some (.lst (L.map V.int))) (hz : H z = some (.lst [])) (h : Q (.bl (if neg then !L.isEmpty else L.isEmpty)) H) : rEqX K neg (.ref p) (.ref z) H Q := by
  refine ⟨.lst (L.map fun i => Tr.v (.int i)), .lst [], .lst (SqL.of hp) (ints_tr L), .lst (SqL.of hz) .nil, ⟨_, rfl⟩, ⟨_, rfl⟩, by rw [simT]; cases L <;> rfl, by rw [depT, ints_dep]; decide, ?_⟩
  have e : eqT (.lst (L.map fun i => Tr.v (.int i))) (.lst []) = L.isEmpty := by
    rw [eqT]
    cases L <;> rfl
  rw [e]
  exact h

noncomputable def av (H : Hp) (S : List Addr) : Hp := fun b => if b ∈ S then none else H b
theorem av_upd {H : Hp} {S : List Addr} {l : Addr} {o : HO} (h : l ∈ S) : av (upd H l o) S = av H S := by
  funext b
  unfold av
  by_cases c : b ∈ S
  · rw [if_pos c, if_pos c]
  · rw [if_neg c, if_neg c, upd_ne (fun z : b = l => c (by rw [z]; exact h))]
theorem av_same {H : Hp} {S : List Addr} : Same (av H S) H := fun b o h => by
  unfold av at h
  split at h
  · cases h
  · exact h
theorem av_mono {H H' : Hp} {S : List Addr} (e : Same H H') : Same (av H S) (av H' S) := fun b o h => by
  unfold av at h ⊢
  split at h
  · cases h
  · rename_i c; rw [if_neg c]; exact e b o h
theorem av_ne {H : Hp} {S : List Addr} {b : Addr} (h : b ∉ S) : av H S b = H b := by unfold av; rw [if_neg h]
theorem Fo.Ok.snoc {B : List Bgh} {b : Bgh} (h : Fo.Ok B) (h1 : b.sh ≤ b.ways.length) (h2 : ∀ c, B.getLast? = some c → b.sh ≤ c.ways.length ∧ b.ways.take b.sh = c.ways.take b.sh) : Fo.Ok (B ++ [b]) := by
  refine ⟨fun c hc => ?_, fun i c e hc he => ?_⟩
  · rcases List.mem_append.mp hc with hc | hc
    · exact h.sh c hc
    · rw [List.mem_singleton] at hc; subst hc; exact h1
  · have le := (List.getElem?_eq_some_iff.mp he).1
    rw [List.length_append, List.length_singleton] at le
    rw [List.getElem?_append_left (by omega)] at hc
    by_cases z : i + 1 < B.length
    · rw [List.getElem?_append_left z] at he
      exact h.ln i c e hc he
    · have hi : i + 1 = B.length := by omega
      rw [hi, List.getElem?_append_right (Nat.le_refl _), Nat.sub_self] at he
      cases he
      refine h2 c ?_
      rw [List.getLast?_eq_getElem?, show B.length - 1 = i by omega]
      exact hc
theorem seqIx {j n : Nat} (h : j < n) : seqIndex? (j : Int) n = some j := by
  unfold seqIndex?
  simp only [show ¬ ((j : Int) < 0) by omega, if_false]
  rw [if_pos (by simp; omega), Int.toNat_natCast]
theorem erase_map (L : List Int) : ∀ j : Nat, (L.map V.int).eraseIdx j = (L.eraseIdx j).map V.int := by
  induction L with
  | nil => intro j; rfl
  | cons x L ih =>
    intro j
    cases j with
    | zero => rfl
    | succ j => show V.int x :: (L.map V.int).eraseIdx j = V.int x :: (L.eraseIdx j).map V.int; rw [ih]
theorem is_nil : ∀ {f : Frs} {d : Nat}, Fo.Is f [] d → f = .nil
  | .nil, d, h => rfl
  | .leaf k pl r, d, h => by obtain ⟨b, B', e, _⟩ := h; cases e
  | .node c w s r, d, h => by obtain ⟨b, G, B', e, _⟩ := h; simp at e
theorem is_app {f g : Frs} {B C : List Bgh} {d : Nat} (hf : Fo.Is f B d) (hg : Fo.Is g C d) (hh : B ≠ [] → Fo.HeadSh C d) : Fo.Is (Fo.app f g) (B ++ C) d := by
  by_cases c : B = []
  · subst c
    rw [is_nil hf]
    exact hg
  · exact Fo.Is.app f g B C d hf hg (hh c)
theorem take_slice {α : Type} (B : List α) {i m : Nat} (h : i ≤ m) : B.take i ++ (B.drop i).take (m - i) = B.take m := by
  have : B.take i = (B.take m).take i := by rw [List.take_take, Nat.min_eq_left h]
  rw [← List.drop_take, this, List.take_append_drop]
theorem seq_asgC {v : V} {i : Nat} {b : TS} {D : Ends} {σ : St} {H : Hp} (h : b D (σ.set i (some v)) H) : tSeq (tAsg (tC v) (gName i)) b D σ H := h
end L2

set_option Elab.async false
set_option linter.all false
set_option maxRecDepth 100000
set_option maxHeartbeats 4000000
namespace L2
open PySem PySem.Spec PyProof.Rows
theorem prs_dep : ∀ P : List (Int × Int), depTs (P.map fun p => Tr.tup [.v (.int p.1), .v (.int p.2)]) ≤ 1
  | [] => Nat.zero_le _
  | p :: P => by
    rw [List.map_cons, depTs]
    have := prs_dep P
    have : depT (Tr.tup [.v (.int p.1), .v (.int p.2)]) = 1 := by simp [depT, depTs]
    omega

end L2
namespace PySem
open Builtin
open AutoSeq1 (wpAny_loadPart')
theorem tuple_mul2x (l : Addr) (k : Tok) (x : Value) (n : Nat) (dd : Option Addr) (sl : Array (Option Value)) :
    Meets (Builtin.«tuple.__mul__» ⟨[.ref l, .int 2 k], []⟩) (fun _ R s => s.heap.get? l = some { cls := .type "tuple", dict := dd, data := .seq #[x] n, slots := sl } ∧ R (.ok (.ret (Value.ref s.heap.objs.size))) { s with heap := s.heap.push { cls := Value.type "tuple", data := Data.seq #[x, x] }, toks := s.toks }) :=
  .of_wp fun prog w A R s h => by obtain ⟨hp, g, d, tk, os⟩ := s; obtain ⟨hl, h⟩ := h; have f1 := AutoSeq1.idx_int; have f2 := AutoSeq1.sub_tuple_tuple; wp_walk using wpAny_loadPart' hl; exact ⟨_, rfl, h⟩
theorem tuple_mul3x (l : Addr) (k : Tok) (x : Value) (n : Nat) (dd : Option Addr) (sl : Array (Option Value)) :
    Meets (Builtin.«tuple.__mul__» ⟨[.ref l, .int 3 k], []⟩) (fun _ R s => s.heap.get? l = some { cls := .type "tuple", dict := dd, data := .seq #[x] n, slots := sl } ∧ R (.ok (.ret (Value.ref s.heap.objs.size))) { s with heap := s.heap.push { cls := Value.type "tuple", data := Data.seq #[x, x, x] }, toks := s.toks }) :=
  .of_wp fun prog w A R s h => by obtain ⟨hp, g, d, tk, os⟩ := s; obtain ⟨hl, h⟩ := h; have f1 := AutoSeq1.idx_int; have f2 := AutoSeq1.sub_tuple_tuple; wp_walk using wpAny_loadPart' hl; exact ⟨_, rfl, h⟩
theorem tuple_mul4x (l : Addr) (k : Tok) (x : Value) (n : Nat) (dd : Option Addr) (sl : Array (Option Value)) :
    Meets (Builtin.«tuple.__mul__» ⟨[.ref l, .int 4 k], []⟩) (fun _ R s => s.heap.get? l = some { cls := .type "tuple", dict := dd, data := .seq #[x] n, slots := sl } ∧ R (.ok (.ret (Value.ref s.heap.objs.size))) { s with heap := s.heap.push { cls := Value.type "tuple", data := Data.seq #[x, x, x, x] }, toks := s.toks }) :=
  .of_wp fun prog w A R s h => by obtain ⟨hp, g, d, tk, os⟩ := s; obtain ⟨hl, h⟩ := h; have f1 := AutoSeq1.idx_int; have f2 := AutoSeq1.sub_tuple_tuple; wp_walk using wpAny_loadPart' hl; exact ⟨_, rfl, h⟩
end PySem
namespace L2
open PySem PySem.Spec PyProof.Rows
end L2

set_option Elab.async false
set_option linter.all false
set_option maxRecDepth 100000
set_option maxHeartbeats 4000000
namespace L2
open PySem PySem.Spec PyProof.Rows
noncomputable def EnAt (H : Hp) (x : V) (e : Fo.En) : Prop := ∃ t pl pt cu, x = .ref t ∧ H t = some (.tup [.int e.k, .ref pl, .ref pt, .ref cu]) ∧ PrsT H pl e.pl ∧ H pt = some (.tup (e.path.map V.int))
theorem EnAt.tk {H H' : Hp} {x : V} {e : Fo.En} (h : EnAt H x e) (k : TK H H') : EnAt H' x e := by obtain ⟨t, pl, pt, cu, a, b, c, d⟩ := h; exact ⟨t, pl, pt, cu, a, k _ _ b, c.tk k, k _ _ d⟩
theorem EnAt.over {H H' : Hp} {x : V} {e : Fo.En} (h : EnAt H x e) (k : Same H H') : EnAt H' x e := h.tk (Same.tk k)
noncomputable def spDeedsP (n : Nat) : Sp := fun vs H Q _ => ∃ (it pa cu : Addr) (f : Frs) (P : List Int) (cs : List V), vs = [.ref it, .ref pa, .ref cu] ∧ FoT H it f ∧ H pa = some (.tup (P.map V.int)) ∧ H cu = some (.tup cs) ∧ dep f ≤ n ∧ P.length + n ≤ 100 ∧ cs.length + n ≤ 100 ∧ (Fo.deedsF f P 0).length ≤ 1000 ∧ ∀ (r : Addr) (ys : List V) (H' : Hp), Same H H' → H' r = some (.lst ys) → All2 (EnAt H') ys (Fo.deedsF f P 0) → Q (.ref r) H'
noncomputable def spStandP : Sp := fun vs H Q _ => ∃ (p : Addr) (k : Int) (f : Frs) (i : Nat) (e : Fo.En), vs = [.ref p, .int k] ∧ FoT H p f ∧ dep f ≤ 7 ∧ (Fo.deedsF f [] 0).length ≤ 1000 ∧ (Fo.deedsF f [] 0)[i]? = some e ∧ e.k = k ∧ (∀ j e', j < i → (Fo.deedsF f [] 0)[j]? = some e' → e'.k ≠ k) ∧ ∀ (r pt pl : Addr) (H' : Hp), Same H H' → H' r = some (.tup [.ref pt, .ref pl]) → H' pt = some (.tup (e.path.map V.int)) → PrsT H' pl e.pl → Q (.ref r) H'
theorem en_at {f : Frs} {B : List Bgh} {i : Nat} {b : Bgh} (h : Fo.Is f B 0) (hb : B[i]? = some b) : ∃ e, (Fo.deedsF f [] 0)[i]? = some e ∧ e.k = b.k ∧ e.pl = b.pl := by
  have l := Fo.deeds_len [] 0 h
  have hi : i < (Fo.deedsF f [] 0).length := by rw [l]; exact (List.getElem?_eq_some_iff.mp hb).1
  have m := congrArg (fun l : List (Int × List (Int × Int)) => l[i]?) (Fo.deeds_map f B 0 [] 0 h)
  simp only [List.getElem?_map, List.getElem?_eq_getElem hi, hb, Option.map_some] at m
  have m := Option.some.inj m
  exact ⟨_, List.getElem?_eq_getElem hi, congrArg Prod.fst m, congrArg Prod.snd m⟩
theorem en_first {f : Frs} {B : List Bgh} {i : Nat} {b : Bgh} (h : Fo.Is f B 0) (nd : (B.map (·.k)).Nodup) (hb : B[i]? = some b) (j : Nat) (e' : Fo.En) (hj : j < i) (he : (Fo.deedsF f [] 0)[j]? = some e') : e'.k ≠ b.k := fun z => by
  have l := Fo.deeds_len [] 0 h
  have hjl : j < B.length := by have := (List.getElem?_eq_some_iff.mp he).1; omega
  obtain ⟨e'', g1, g2, _⟩ := en_at h (List.getElem?_eq_getElem hjl)
  rw [he] at g1
  cases g1
  obtain ⟨l1, a1⟩ := List.getElem?_eq_some_iff.mp hb
  exact List.pairwise_iff_getElem.mp nd j i (by rw [List.length_map]; exact hjl) (by rw [List.length_map]; exact l1) hj (by rw [List.getElem_map, List.getElem_map, a1, ← z, g2])
end L2
namespace HT
open PySem PySem.Spec PyProof.Rows L2
section
variable {prog : Program} {w : World} {A : Around} {E : Value → Shared → Prop} {s : Shared}
theorem getItem_tuple_all {t sl : Addr} {items : Array Value} {vl vu : Value} {lo hi : Option Int} {Q : Value → Shared → Prop} (ht : IsTup s.heap t items) (hs : s.heap.IsSliceOf sl vl vu .none) (pl : IsPart vl lo) (pu : IsPart vu hi)
    (hw : sIx items.size 0 lo = 0 ∧ sIx items.size items.size hi = items.size) (h : Q (.ref t) s) : wpAny (model prog w) A (getItem (.ref t) (.ref sl)) Q E s := by
  obtain ⟨os, hos, hcs, hds⟩ := id hs
  have hTs : s.TypeIs (.ref sl) "slice" := ⟨os, hos, hcs⟩
  unfold getItem
  try with_reducible refine wpAny_holding ?_
  first | refine wpAny_bind (wpAny_pure ?_) | skip
  refine wpAny_bind (wpAny_sequenceKey ht.typeIs (by decide) ?_)
  refine wpAny_bind (wpAny_callSpecial?_slot (name := Str.ofString "__getitem__") ht.typeIs PyProof.Rows.slot_tuple_getitem
    (wpAny_call_entry PyProof.Rows.slot_tuple_getitem ht.typeIs entry_tuple_getitem ?_ (args_tuple_getitem _ _)))
  show wpAny _ _ (Builtin.Tuple.tupleItemsOf (.ref t) >>= _) _ _ s
  refine wpAny_bind (tupleItemsOf_ ht ?_)
  refine wpAny_bind (wpAny_typeOf hTs ?_)
  rw [if_pos (by decide)]
  refine wpAny_bind (sliceApplied_gen hs pl pu ?_)
  have hyes : (((sIx items.size 0 lo : Nat) : Int) == 0 && (1 : Int) == 1 && (sIx items.size items.size hi - sIx items.size 0 lo) == items.size) = true := by
    rw [hw.1, hw.2]
    simp
  show wpAny _ _ (if (((sIx items.size 0 lo : Nat) : Int) == 0 && (1 : Int) == 1 && (sIx items.size items.size hi - sIx items.size 0 lo) == items.size) = true then _ else _) _ _ s
  rw [if_pos hyes]
  show wpAny _ _ (Builtin.Tuple.tupleIsExact (.ref t) >>= _) _ _ s
  unfold Builtin.Tuple.tupleIsExact
  refine wpAny_bind (wpAny_bind (wpAny_typeOf ht.typeIs (wpAny_pure ?_)))
  rw [if_pos (by decide)]
  wp_walk
  first
    | exact ⟨_, rfl, wpAny_pure h⟩
    | exact wpAny_pure ⟨_, rfl, wpAny_pure h⟩
end
end HT
namespace L2
open PySem PySem.Spec PyProof.Rows
noncomputable def rSlH : V → Option Int → Option Int → Hp → VK → Prop := fun x lo hi H Q => ∃ (a : Addr) (xs : List V), x = .ref a ∧ H a = some (.tup xs) ∧ ∀ (p : Addr) (H' : Hp), Same H H' → H' p = some (.tup (cutV xs lo hi)) → Q (.ref p) H'
theorem sl_tupH {X : Cx} : SlR X rSlH := by
  intro pins s σ H x v vl vu lo hi sl Q I rx hs pl pu h
  obtain ⟨a, xs, rfl, ha, q⟩ := h
  by_cases c : HT.sIx xs.length 0 lo = 0 ∧ HT.sIx xs.length xs.length hi = xs.length
  · cases rx
    obtain ⟨its, r, ht, hz⟩ := I.tuple (SqT.of ha)
    have hlen : its.toArray.size = xs.length := by rw [List.size_toArray]; exact r.length.symm
    refine ⟨"tuple", _, PyProof.Rows.slot_tuple_getitem.lookup, ht.typeIs, ?_⟩
    refine HT.getItem_tuple_all ht hs pl pu (by rw [hlen]; exact c) ⟨.ref a, H, I, rfl, q a H (Same.refl _) ?_⟩
    have : cutV xs lo hi = xs := by
      unfold cutV
      rw [c.1, c.2]
      simp
    rw [this]
    exact ha
  · exact sl_tup pins s σ H (.ref a) v vl vu lo hi sl Q I rx hs pl pu ⟨a, xs, rfl, SqT.of ha, c, fun p hp => q p _ (same_new hp _) upd_same⟩
end L2

set_option Elab.async false
set_option linter.all false
set_option maxRecDepth 100000
set_option maxHeartbeats 4000000
namespace L2
open PySem PySem.Spec PyProof.Rows

end L2

set_option linter.all false
namespace Fo
variable {W : Type}
noncomputable def nxt (prev : List Int) (b : Bo W) : List Int := prev.take b.sh ++ [prev.getD b.sh 0 + 1] ++ List.replicate (b.ways.length - b.sh) 0
noncomputable def pathsFrom : List Int → List (Bo W) → List (List Int)
  | _, [] => []
  | prev, b :: B => nxt prev b :: pathsFrom (nxt prev b) B
noncomputable def lastP : List Int → List (Bo W) → List Int
  | prev, [] => prev
  | prev, b :: B => lastP (nxt prev b) B
theorem paths_app : ∀ (A B : List (Bo W)) (prev : List Int), pathsFrom prev (A ++ B) = pathsFrom prev A ++ pathsFrom (lastP prev A) B
  | [], B, prev => rfl
  | a :: A, B, prev => by
    show nxt prev a :: pathsFrom (nxt prev a) (A ++ B) = nxt prev a :: (pathsFrom (nxt prev a) A ++ _)
    rw [paths_app]
    rfl
theorem lastP_mem : ∀ (A : List (Bo W)) (prev : List Int), lastP prev A = prev ∨ lastP prev A ∈ pathsFrom prev A
  | [], prev => .inl rfl
  | a :: A, prev => by
    right
    rcases lastP_mem A (nxt prev a) with h | h
    · show lastP (nxt prev a) A ∈ _
      rw [h]; exact List.mem_cons_self
    · exact List.mem_cons_of_mem _ h
noncomputable def fst (p : List Int) (j : Nat) (n : Nat) : List Int := p ++ (j : Int) :: List.replicate n 0
theorem deeds_paths : ∀ (f : F W) (B : List (Bo W)) (d : Nat) (p : List Int) (j : Nat), Is f B d → p.length = d → ∀ b B', B = b :: B' → (deedsF f p j).map (·.path) = fst p j (b.ways.length - d) :: pathsFrom (fst p j (b.ways.length - d)) B'
  | .nil, B, d, p, j, h, hp, b, B', e => by
    have h : B = [] := h
    rw [h] at e
    cases e
  | .leaf k pl rest, B, d, p, j, h, hp, b, B', e => by
    obtain ⟨b0, B0, rfl, rfl, rfl, hl, hh, hr⟩ := h
    cases e
    have e0 : b.ways.length - d = 0 := by omega
    rw [e0]
    show (p ++ [(j : Int)]) :: (deedsF rest p (j + 1)).map (·.path) = (p ++ [(j : Int)]) :: pathsFrom (p ++ [(j : Int)]) B'
    congr 1
    cases B' with
    | nil =>
      cases rest with
      | nil => rfl
      | leaf k' pl' r' => obtain ⟨_, _, z, _⟩ := hr; cases z
      | node c w s r' => obtain ⟨_, _, _, z, _⟩ := hr; cases z
    | cons c B2 =>
      have hs : c.sh = d := hh c rfl
      rw [deeds_paths rest (c :: B2) d p (j + 1) hr hp c B2 rfl]
      have en : nxt (p ++ [(j : Int)]) c = fst p (j + 1) (c.ways.length - d) := by
        unfold nxt fst
        rw [hs, ← hp, List.take_left', List.getD_eq_getElem?_getD, List.getElem?_append_right (Nat.le_refl _), Nat.sub_self]
        · simp
        · rfl
      show _ = nxt (p ++ [(j : Int)]) c :: pathsFrom (nxt (p ++ [(j : Int)]) c) B2
      rw [en]
  | .node c w sub rest, B, d, p, j, h, hp, b, B', e => by
    obtain ⟨b0, G, B0, rfl, hw, hG, hh, hsub, hr⟩ := h
    cases e
    have hlw : d < b.ways.length := (List.getElem?_eq_some_iff.mp hw).1
    have i1 := deeds_paths sub (b :: G) (d + 1) (p ++ [(j : Int)]) 0 hsub (by rw [List.length_append, hp]; rfl) b G rfl
    have ef : fst (p ++ [(j : Int)]) 0 (b.ways.length - (d + 1)) = fst p j (b.ways.length - d) := by
      unfold fst
      rw [show b.ways.length - d = (b.ways.length - (d + 1)) + 1 by omega, List.replicate_succ, List.append_assoc]
      rfl
    rw [ef] at i1
    show (deedsF sub (p ++ [(j : Int)]) 0 ++ deedsF rest p (j + 1)).map (·.path) = fst p j (b.ways.length - d) :: pathsFrom (fst p j (b.ways.length - d)) (G ++ B0)
    rw [List.map_append, i1, paths_app]
    show _ :: (_ ++ _) = _ :: (_ ++ _)
    congr 1
    congr 1
    cases B0 with
    | nil =>
      cases rest with
      | nil => rfl
      | leaf k' pl' r' => obtain ⟨_, _, z, _⟩ := hr; cases z
      | node c w s r' => obtain ⟨_, _, _, z, _⟩ := hr; cases z
    | cons c2 B2 =>
      have hs : c2.sh = d := hh c2 rfl
      rw [deeds_paths rest (c2 :: B2) d p (j + 1) hr hp c2 B2 rfl]
      -- all paths of the group begin with p and j
      have beg : ∃ q, lastP (fst p j (b.ways.length - d)) G = p ++ (j : Int) :: q := by
        have hm : lastP (fst p j (b.ways.length - d)) G ∈ (deedsF sub (p ++ [(j : Int)]) 0).map (·.path) := by
          rw [i1]
          rcases lastP_mem G (fst p j (b.ways.length - d)) with h | h
          · rw [h]; exact List.mem_cons_self
          · exact List.mem_cons_of_mem _ h
        obtain ⟨x, hx, ex⟩ := List.mem_map.mp hm
        obtain ⟨i, q, _, h2⟩ := deeds_begin sub (p ++ [(j : Int)]) 0 x hx
        exact ⟨(i : Int) :: q, by rw [← ex, h2, List.append_assoc]; rfl⟩
      obtain ⟨q, hq⟩ := beg
      have en : nxt (lastP (fst p j (b.ways.length - d)) G) c2 = fst p (j + 1) (c2.ways.length - d) := by
        rw [hq]
        unfold nxt fst
        rw [hs, ← hp, List.take_left', List.getD_eq_getElem?_getD, List.getElem?_append_right (Nat.le_refl _), Nat.sub_self]
        · simp
        · rfl
      show _ = nxt (lastP (fst p j (b.ways.length - d)) G) c2 :: pathsFrom (nxt (lastP (fst p j (b.ways.length - d)) G) c2) B2
      rw [en]
noncomputable abbrev Sw (W : Type) := List Int × Bool × W
noncomputable def swF : F W → List Int → Nat → List (Sw W)
  | .nil, _, _ => []
  | .leaf _ _ rest, p, j => swF rest p (j + 1)
  | .node c w sub rest, p, j => (p ++ [(j : Int)], c, w) :: (swF sub (p ++ [(j : Int)]) 0 ++ swF rest p (j + 1))
noncomputable def swOf (path : List Int) : Nat → List (Bool × W) → List (Sw W)
  | _, [] => []
  | e, w :: ws => (path.take (e + 1), w.1, w.2) :: swOf path (e + 1) ws
noncomputable def sweepsFrom : List Int → List (Bo W) → List (Sw W)
  | _, [] => []
  | prev, b :: B => swOf (nxt prev b) b.sh (b.ways.drop b.sh) ++ sweepsFrom (nxt prev b) B
theorem sweeps_app : ∀ (A B : List (Bo W)) (prev : List Int), sweepsFrom prev (A ++ B) = sweepsFrom prev A ++ sweepsFrom (lastP prev A) B
  | [], B, prev => rfl
  | a :: A, B, prev => by
    show swOf (nxt prev a) a.sh (a.ways.drop a.sh) ++ sweepsFrom (nxt prev a) (A ++ B) = swOf (nxt prev a) a.sh (a.ways.drop a.sh) ++ sweepsFrom (nxt prev a) A ++ _
    rw [sweeps_app, List.append_assoc]
    rfl
theorem sweeps_paths : ∀ (f : F W) (B : List (Bo W)) (d : Nat) (p : List Int) (j : Nat), Is f B d → p.length = d → ∀ b B', B = b :: B' → swF f p j = swOf (fst p j (b.ways.length - d)) d (b.ways.drop d) ++ sweepsFrom (fst p j (b.ways.length - d)) B'
  | .nil, B, d, p, j, h, hp, b, B', e => by
    have h : B = [] := h
    rw [h] at e
    cases e
  | .leaf k pl rest, B, d, p, j, h, hp, b, B', e => by
    obtain ⟨b0, B0, rfl, rfl, rfl, hl, hh, hr⟩ := h
    cases e
    have e0 : b.ways.length - d = 0 := by omega
    rw [e0, List.drop_eq_nil_of_le (by omega)]
    show swF rest p (j + 1) = [] ++ sweepsFrom (p ++ [(j : Int)]) B'
    rw [List.nil_append]
    cases B' with
    | nil =>
      cases rest with
      | nil => rfl
      | leaf k' pl' r' => obtain ⟨_, _, z, _⟩ := hr; cases z
      | node c w s r' => obtain ⟨_, _, _, z, _⟩ := hr; cases z
    | cons c B2 =>
      have hs : c.sh = d := hh c rfl
      rw [sweeps_paths rest (c :: B2) d p (j + 1) hr hp c B2 rfl]
      have en : nxt (p ++ [(j : Int)]) c = fst p (j + 1) (c.ways.length - d) := by
        unfold nxt fst
        rw [hs, ← hp, List.take_left', List.getD_eq_getElem?_getD, List.getElem?_append_right (Nat.le_refl _), Nat.sub_self]
        · simp
        · rfl
      show _ = swOf (nxt (p ++ [(j : Int)]) c) c.sh (c.ways.drop c.sh) ++ sweepsFrom (nxt (p ++ [(j : Int)]) c) B2
      rw [en, hs]
  | .node c w sub rest, B, d, p, j, h, hp, b, B', e => by
    obtain ⟨b0, G, B0, rfl, hw, hG, hh, hsub, hr⟩ := h
    cases e
    obtain ⟨hlw, ew⟩ := List.getElem?_eq_some_iff.mp hw
    have hp1 : (p ++ [(j : Int)]).length = d + 1 := by rw [List.length_append, hp]; rfl
    have i1 := sweeps_paths sub (b :: G) (d + 1) (p ++ [(j : Int)]) 0 hsub hp1 b G rfl
    have ip := deeds_paths sub (b :: G) (d + 1) (p ++ [(j : Int)]) 0 hsub hp1 b G rfl
    have ef : fst (p ++ [(j : Int)]) 0 (b.ways.length - (d + 1)) = fst p j (b.ways.length - d) := by
      unfold fst
      rw [show b.ways.length - d = (b.ways.length - (d + 1)) + 1 by omega, List.replicate_succ, List.append_assoc]
      rfl
    rw [ef] at i1 ip
    have hd : b.ways.drop d = (c, w) :: b.ways.drop (d + 1) := by rw [List.drop_eq_getElem_cons hlw, ew]
    have tk : (fst p j (b.ways.length - d)).take (d + 1) = p ++ [(j : Int)] := by
      have : fst p j (b.ways.length - d) = (p ++ [(j : Int)]) ++ List.replicate (b.ways.length - d) 0 := by unfold fst; rw [List.append_assoc]; rfl
      rw [this, ← hp1, List.take_left']
      rfl
    show (p ++ [(j : Int)], c, w) :: (swF sub (p ++ [(j : Int)]) 0 ++ swF rest p (j + 1)) = swOf (fst p j (b.ways.length - d)) d (b.ways.drop d) ++ sweepsFrom (fst p j (b.ways.length - d)) (G ++ B0)
    rw [hd, i1, sweeps_app]
    show _ = ((fst p j (b.ways.length - d)).take (d + 1), c, w) :: swOf (fst p j (b.ways.length - d)) (d + 1) (b.ways.drop (d + 1)) ++ _
    rw [tk]
    have rest_eq : swF rest p (j + 1) = sweepsFrom (lastP (fst p j (b.ways.length - d)) G) B0 := by
      cases B0 with
      | nil =>
        cases rest with
        | nil => rfl
        | leaf k' pl' r' => obtain ⟨_, _, z, _⟩ := hr; cases z
        | node c w s r' => obtain ⟨_, _, _, z, _⟩ := hr; cases z
      | cons c2 B2 =>
        have hs : c2.sh = d := hh c2 rfl
        rw [sweeps_paths rest (c2 :: B2) d p (j + 1) hr hp c2 B2 rfl]
        have beg : ∃ q, lastP (fst p j (b.ways.length - d)) G = p ++ (j : Int) :: q := by
          have hm : lastP (fst p j (b.ways.length - d)) G ∈ (deedsF sub (p ++ [(j : Int)]) 0).map (·.path) := by
            rw [ip]
            rcases lastP_mem G (fst p j (b.ways.length - d)) with h | h
            · rw [h]; exact List.mem_cons_self
            · exact List.mem_cons_of_mem _ h
          obtain ⟨x, hx, ex⟩ := List.mem_map.mp hm
          obtain ⟨i, q, _, h2⟩ := deeds_begin sub (p ++ [(j : Int)]) 0 x hx
          exact ⟨(i : Int) :: q, by rw [← ex, h2, List.append_assoc]; rfl⟩
        obtain ⟨q, hq⟩ := beg
        have en : nxt (lastP (fst p j (b.ways.length - d)) G) c2 = fst p (j + 1) (c2.ways.length - d) := by
          rw [hq]
          unfold nxt fst
          rw [hs, ← hp, List.take_left', List.getD_eq_getElem?_getD, List.getElem?_append_right (Nat.le_refl _), Nat.sub_self]
          · simp
          · rfl
        show _ = swOf (nxt (lastP (fst p j (b.ways.length - d)) G) c2) c2.sh (c2.ways.drop c2.sh) ++ sweepsFrom (nxt (lastP (fst p j (b.ways.length - d)) G) c2) B2
        rw [en, hs]
    rw [rest_eq]
    simp
end Fo

set_option Elab.async false
set_option linter.all false
set_option maxRecDepth 100000
set_option maxHeartbeats 4000000
namespace L2
open PySem PySem.Spec PyProof.Rows
section
variable {X : Cx} {pins : List (Addr × Obj)} {s : Shared} {σ : St} {H : Hp}
theorem isinst_tup {A : Around} {E : Value → Shared → Prop} {Q : Value → Shared → Prop} {b : Bool} {x : V} {u t : Value} {tp : Addr} {dd : Option Addr} {its : List Value} {n : Nat} {sl : Array (Option Value)} (I : Inv X pins σ H s) (rx : RelV x u) (ty : TyOf X.K H x t) (htp : s.heap.get? tp = some ⟨.type "tuple", dd, .seq its.toArray n, sl⟩) (e : PySem.W.kitAny X.K t its = some b) (h : ∀ tk, Q (.bool b) { s with toks := tk }) :
    wpAny (model X.prog X.w) A (call (.builtin "isinstance") [u, .ref tp]) Q E s := by
  cases ty with
  | non => cases (show u = Value.none from rx); exact PySem.W.kia_tup PySem.W.kitx_none I.kIn True.intro htp e (fun z => nomatch z) h
  | bl y => cases (show u = Value.bool y from rx); exact PySem.W.kia_tup PySem.W.kitx_bool I.kIn True.intro htp e (fun z => nomatch z) h
  | int i => obtain ⟨t, q⟩ := (show ∃ t, u = Value.int i t from rx); cases q; exact PySem.W.kia_tup PySem.W.kitx_int I.kIn True.intro htp e (fun z => nomatch z) h
  | str y => obtain ⟨t, q⟩ := (show ∃ t, u = Value.str y t from rx); cases q; exact PySem.W.kia_tup PySem.W.kitx_str I.kIn True.intro htp e (fun z => nomatch z) h
  | flt y => obtain ⟨t, q⟩ := (show ∃ t, u = Value.float y t from rx); cases q; exact PySem.W.kia_tup PySem.W.kitx_float I.kIn True.intro htp e (fun z => nomatch z) h
  | @lst a xs ea =>
    cases (show u = Value.ref a from rx)
    obtain ⟨_, _, n, _, h1⟩ := (show ObjOk X.prog X.w H s.heap a (.lst xs) from I.hok a _ ea)
    exact PySem.W.kia_tup PySem.W.kitx_list I.kIn ⟨_, h1, rfl⟩ htp e (fun z => nomatch z) h
  | @frz a ob xs ea =>
    cases (show u = Value.ref a from rx)
    obtain ⟨_, _, _, n, _, h1⟩ := (show ObjOk X.prog X.w H s.heap a (.frz ob (.lst xs)) from I.hok a _ ea)
    exact PySem.W.kia_tup PySem.W.kitx_list I.kIn ⟨_, h1, rfl⟩ htp e (fun z => nomatch z) h
  | @tup a xs ea =>
    cases (show u = Value.ref a from rx)
    obtain ⟨_, _, _, p⟩ := (show ObjOk X.prog X.w H s.heap a (.tup xs) from I.hok a _ ea)
    obtain ⟨o, h1, h2, _⟩ := p
    exact PySem.W.kia_tup PySem.W.kitx_tuple I.kIn ⟨o, h1, h2⟩ htp e (fun z => nomatch z) h
  | @dK a kvs ea =>
    cases (show u = Value.ref a from rx)
    obtain ⟨_, _, vs, _, p⟩ := (show ObjOk X.prog X.w H s.heap a (.dK kvs) from I.hok a _ ea)
    obtain ⟨o, es, ep, h1, h2, _⟩ := p
    exact PySem.W.kia_tup PySem.W.kitx_dict I.kIn ⟨o, h1, h2.1⟩ htp e (fun z => nomatch z) h
  | @dT a kvs ea =>
    cases (show u = Value.ref a from rx)
    obtain ⟨_, _, xs, _, o, es, ep, h1, h2, _⟩ := (show ObjOk X.prog X.w H s.heap a (.dT kvs) from I.hok a _ ea)
    exact PySem.W.kia_tup PySem.W.kitx_dict I.kIn ⟨o, h1, h2.1⟩ htp e (fun z => nomatch z) h
  | @ins a C dx fs ea cl ha hn htk hm =>
    cases (show u = Value.ref a from rx)
    obtain ⟨mA, O, _⟩ := ins_get I.hok ea
    obtain ⟨od, J, _⟩ := O.look
    exact PySem.W.kia_tup (PySem.W.kitx_own (cl.get _) cl.hd ha hn htk hm) I.kIn J htp e (fun z => nomatch z) h
noncomputable def rIsi2 (K : PySem.W.Frag) : List V → Hp → VK → Prop := fun xs H Q => ∃ x tp n1 n2 t b, xs = [x, .ref tp] ∧ H tp = some (.tup [.ty n1, .ty n2]) ∧ TyOf K H x t ∧ PySem.W.kitAny K t [.type n1, .type n2] = some b ∧ Q (.bl b) H
theorem call_isi2 : CallR X (.builtin "isinstance") (rIsi2 X.K) := by
  intro pins s σ H xs us Q I r h
  obtain ⟨x, tp, n1, n2, t, b, rfl, hp, ty, e, q⟩ := h
  obtain ⟨u, w', rfl, rx, rw'⟩ := r.two
  cases (show w' = Value.ref tp from rw')
  obtain ⟨its, rv, ⟨o, h1, h2, n, h3⟩, _⟩ := I.tuple (.inl (.inl hp))
  have e2 : its = [.type n1, .type n2] := by
    obtain ⟨u1, u2, rfl, r1, r2⟩ := rv.two
    cases (show u1 = Value.type n1 from r1)
    cases (show u2 = Value.type n2 from r2)
    rfl
  subst e2
  obtain ⟨oc, od, dt, sl⟩ := o
  cases (show oc = Value.type "tuple" from h2)
  cases (show dt = .seq _ n from h3)
  exact isinst_tup I rx ty h1 e fun tk => ⟨.bl b, H, I.tok _, rfl, q⟩
end
theorem comp_zipT {K : PySem.W.Frag} {a b : Addr} {xs ys : List V} {ρ : List (Option Nat)} {g : TG} {tt : TT} {te : TE} {σ : St} {H : Hp} {Q : VK} (hlen : xs.length = ys.length) (Pv : Nat → List V → Hp → Prop) (h0 : Pv 0 [] H) (hsz : xs.length ≤ sizeLine) (hl : ∀ i zs H, i ≤ xs.length → Pv i zs H → SqT K H a xs ∧ SqT K H b ys ∧ zs.length ≤ i)
    (hs : ∀ i x y T zs H, xs[i]? = some x → ys[i]? = some y → Pv i zs H → H T = none → g (.ref T) (inSt ρ σ) (upd H T (.tup [x, y])) fun σ2 H3 => Outs ρ σ σ2 ∧ tt σ2 H3 fun ok H4 => if ok = true then te σ2 H4 fun v H5 => Pv (i + 1) (zs ++ [v]) H5 else Pv (i + 1) zs H4)
    (hd : ∀ zs H, Pv xs.length zs H → ∀ p, H p = none → Q (.ref p) (upd H p (.lst zs))) : CompW ρ g tt te σ Q (Ity K a b) H := by
  refine ⟨fun i m zs H => m = xs.length - i ∧ i ≤ xs.length ∧ Pv i zs H, ⟨_, rfl, Nat.zero_le _, h0⟩, ?_⟩
  rintro i m zs H ⟨rfl, hi, p⟩
  obtain ⟨q1, q2, hz⟩ := hl i zs H hi p
  by_cases hlt : i < xs.length
  · refine .inr ⟨⟨xs, ys, xs[i], ys[i], q1, q2, List.getElem?_eq_getElem hlt, List.getElem?_eq_getElem (by omega)⟩, by omega, Pv (i + 1), fun ys' H'' p' => ⟨xs.length - (i + 1), by omega, rfl, hlt, p'⟩, fun v H' yy => ?_⟩
    obtain ⟨x, y, T, hx, hy, hT, rfl, rfl⟩ := yy
    exact hs i x y T zs H (hx xs q1) (hy ys q2) p hT
  · have : i = xs.length := by omega
    subst this
    exact .inl ⟨⟨xs, ys, q1, q2, Nat.le_refl _, by omega, .inl rfl⟩, by omega, hd zs H p⟩
noncomputable def plnV : V → Bool
  | .int _ => true
  | .str _ => true
  | .bl _ => true
  | _ => false
mutual
noncomputable def NtAt (H : Hp) : Tr → V → Prop
  | .v y, x => x = y ∧ plnV y = true
  | .tup l, x => ∃ p xs, x = .ref p ∧ H p = some (.tup xs) ∧ NtsAt H l xs
  | .lst _, _ => False
noncomputable def NtsAt (H : Hp) : List Tr → List V → Prop
  | [], xs => xs = []
  | t :: l, xs => ∃ x xs', xs = x :: xs' ∧ NtAt H t x ∧ NtsAt H l xs'
end
mutual
theorem NtAt.over {H H' : Hp} (e : Same H H') : ∀ {t : Tr} {x : V}, NtAt H t x → NtAt H' t x
  | .v y, x, h => by rw [NtAt] at h ⊢; exact h
  | .tup l, x, h => by
    rw [NtAt] at h ⊢
    obtain ⟨p, xs, r, h0, h1⟩ := h
    exact ⟨p, xs, r, e _ _ h0, NtsAt.over e h1⟩
  | .lst l, x, h => by rw [NtAt] at h; exact h.elim
theorem NtsAt.over {H H' : Hp} (e : Same H H') : ∀ {l : List Tr} {xs : List V}, NtsAt H l xs → NtsAt H' l xs
  | [], xs, h => by rw [NtsAt] at h ⊢; exact h
  | t :: l, xs, h => by
    rw [NtsAt] at h ⊢
    obtain ⟨x, xs', r, h0, h1⟩ := h
    exact ⟨x, xs', r, NtAt.over e h0, NtsAt.over e h1⟩
end
theorem NtsAt.len {H : Hp} : ∀ {l : List Tr} {xs : List V}, NtsAt H l xs → xs.length = l.length
  | [], xs, h => by rw [NtsAt] at h; subst h; rfl
  | t :: l, xs, h => by
    rw [NtsAt] at h
    obtain ⟨x, xs', rfl, _, h1⟩ := h
    rw [List.length_cons, List.length_cons, NtsAt.len h1]
theorem NtsAt.get {H : Hp} : ∀ {l : List Tr} {xs : List V} {i : Nat} {t : Tr}, NtsAt H l xs → l[i]? = some t → ∃ x, xs[i]? = some x ∧ NtAt H t x
  | [], xs, i, t, h, ht => by simp at ht
  | u :: l, xs, i, t, h, ht => by
    rw [NtsAt] at h
    obtain ⟨x, xs', rfl, h0, h1⟩ := h
    cases i with
    | zero => cases ht; exact ⟨x, rfl, h0⟩
    | succ i =>
      rw [List.getElem?_cons_succ] at ht
      exact NtsAt.get (xs := xs') h1 ht
theorem depTs_get : ∀ {l : List Tr} {i : Nat} {t : Tr}, l[i]? = some t → depT t ≤ depTs l
  | [], i, t, h => by simp at h
  | u :: l, i, t, h => by
    rw [depTs]
    cases i with
    | zero => cases h; exact Nat.le_max_left _ _
    | succ i =>
      rw [List.getElem?_cons_succ] at h
      exact Nat.le_trans (depTs_get h) (Nat.le_max_right _ _)
mutual
/-- no tuple is too long -/
noncomputable def brT : Tr → Nat
  | .v _ => 0
  | .lst l => max l.length (brTs l)
  | .tup l => max l.length (brTs l)
noncomputable def brTs : List Tr → Nat
  | [] => 0
  | t :: l => max (brT t) (brTs l)
end
theorem brTs_get : ∀ {l : List Tr} {i : Nat} {t : Tr}, l[i]? = some t → brT t ≤ brTs l
  | [], i, t, h => by simp at h
  | u :: l, i, t, h => by
    rw [brTs]
    cases i with
    | zero => cases h; exact Nat.le_max_left _ _
    | succ i =>
      rw [List.getElem?_cons_succ] at h
      exact Nat.le_trans (brTs_get h) (Nat.le_max_right _ _)
noncomputable def spSame (n : Nat) : Sp := fun vs H Q _ => ∃ (x y : V) (t : Tr), vs = [x, y] ∧ NtAt H t x ∧ NtAt H t y ∧ depT t < n ∧ brT t ≤ 10000 ∧ ∀ H', Same H H' → Q (.bl true) H'
noncomputable def spAt63 (K : PySem.W.Frag) : Sp := fun vs H Q _ => ∃ (p : Addr) (ns : List Int) (k : Int), vs = [.ref p, .int k] ∧ SqL K H p (ns.map V.int) ∧ 0 ≤ k ∧ k ≤ 1000000 ∧ ∀ m : Int, 0 ≤ m → m < 2147483629 → Q (.int m) H
noncomputable def spDigits : Sp := fun vs H Q _ => ∃ (c : Int) (l : Addr) (ms : List Int), vs = [.int c, .ref l] ∧ H l = some (.lst (ms.map V.int)) ∧ 0 ≤ c ∧ ms.length ≤ 100 ∧ (∀ m ∈ ms, 0 < m ∧ m < 1073741824) ∧ ∀ (r : Addr) (H' : Hp) (ds : List Int), Same H H' → H' r = some (.lst (ds.map V.int)) → ds.length = ms.length → (∀ (i : Nat) (d m : Int), ds[i]? = some d → ms[i]? = some m → 0 ≤ d ∧ d < m) → Q (.ref r) H'
end L2

set_option Elab.async false
set_option linter.all false
set_option maxRecDepth 100000
set_option maxHeartbeats 4000000
namespace PySem
open PySem.Spec PyProof.Rows
open AutoSeq1 (wpAny_loadPart')
theorem tuple_mul5x (l : Addr) (k : Tok) (x : Value) (n : Nat) (dd : Option Addr) (sl : Array (Option Value)) :
    Meets (Builtin.«tuple.__mul__» ⟨[.ref l, .int 5 k], []⟩) (fun _ R s => s.heap.get? l = some { cls := .type "tuple", dict := dd, data := .seq #[x] n, slots := sl } ∧ R (.ok (.ret (Value.ref s.heap.objs.size))) { s with heap := s.heap.push { cls := Value.type "tuple", data := Data.seq #[x, x, x, x, x] }, toks := s.toks }) :=
  .of_wp fun prog w A R s h => by obtain ⟨hp, g, d, tk, os⟩ := s; obtain ⟨hl, h⟩ := h; have f1 := AutoSeq1.idx_int; have f2 := AutoSeq1.sub_tuple_tuple; wp_walk using wpAny_loadPart' hl; exact ⟨_, rfl, h⟩
theorem tuple_mul6x (l : Addr) (k : Tok) (x : Value) (n : Nat) (dd : Option Addr) (sl : Array (Option Value)) :
    Meets (Builtin.«tuple.__mul__» ⟨[.ref l, .int 6 k], []⟩) (fun _ R s => s.heap.get? l = some { cls := .type "tuple", dict := dd, data := .seq #[x] n, slots := sl } ∧ R (.ok (.ret (Value.ref s.heap.objs.size))) { s with heap := s.heap.push { cls := Value.type "tuple", data := Data.seq #[x, x, x, x, x, x] }, toks := s.toks }) :=
  .of_wp fun prog w A R s h => by obtain ⟨hp, g, d, tk, os⟩ := s; obtain ⟨hl, h⟩ := h; have f1 := AutoSeq1.idx_int; have f2 := AutoSeq1.sub_tuple_tuple; wp_walk using wpAny_loadPart' hl; exact ⟨_, rfl, h⟩
end PySem
namespace L2
open PySem PySem.Spec PyProof.Rows
noncomputable def rRep6 : R2 := fun x y H Q => ∃ (a : Addr) (k : Nat) (v : V), x = .ref a ∧ y = .int (k : Int) ∧ H a = some (.tup [v]) ∧ k ≤ 6 ∧ ∀ (p : Addr) (H' : Hp), Same H H' → H' p = some (.tup (List.replicate k v)) → Q (.ref p) H'
theorem op_rep6 {X : Cx} : OpR X (binaryOp .Mult) rRep6 := by
  intro pins s σ H x y v u Q I rx ry h
  obtain ⟨a, k, vv, rfl, rfl, ha, h6, q⟩ := h
  cases rx
  obtain ⟨t, rfl⟩ := ry
  obtain ⟨its, r1, p1, _⟩ := I.tuple (SqT.of ha)
  obtain ⟨uu, rfl, ru⟩ := vals1 r1
  obtain ⟨⟨cls, dd, data, sl⟩, ho, hc, n, hd⟩ := id p1
  simp only at hc hd
  subst hc hd
  refine wpAny_binaryOp_repeat_ref (T := "tuple") (U := "int") (by decide) ⟨_, ho, rfl⟩ (fun s' => typeIs_int s' (k : Int) t) noFill_tuple_mulF F.fills_int_mul F.slot_int_rmul repeat_tupleF F.slot_int_index.lookup ?_
  refine call_meets F.slot_int_rmul (typeIs_int _ _ _) F.entry_int_rmul (F.args_int_rmul_2 _ _) (rmul_int_tuple (k : Int) t a _ n dd sl) ⟨ho, rfl, ⟨_, ho, rfl⟩, ?_⟩
  have new : ∀ (its : List Value), Vals (List.replicate k vv) its → EP X pins σ Q (Value.ref s.heap.objs.size) { s with heap := s.heap.push { cls := Value.type "tuple", data := Data.seq its.toArray }, toks := s.toks } := fun its r =>
    ⟨.ref s.heap.objs.size, _, I.laid (t' := s.toks) (o := .tup (List.replicate k vv)) (fun b o e => Heap.get?_push_of_some _ e) (Nat.le_refl _) ⟨szl (by rw [List.length_replicate]; omega), its, r, IsTupN.new _ _⟩, rfl, q _ _ (same_new (I.hok.fresh (Nat.le_refl _)) _) upd_same⟩
  have : k = 0 ∨ k = 1 ∨ k = 2 ∨ k = 3 ∨ k = 4 ∨ k = 5 ∨ k = 6 := by omega
  rcases this with rfl | rfl | rfl | rfl | rfl | rfl | rfl
  · refine call_meets F.slot_tuple_mul ⟨_, ho, rfl⟩ F.entry_tuple_mul (F.args_tuple_mul_2 _ _) (tuple_mul0 a t _ n dd sl (by simp)) ⟨ho, new [] .nil⟩
  · exact call_meets F.slot_tuple_mul ⟨_, ho, rfl⟩ F.entry_tuple_mul (F.args_tuple_mul_2 _ _) (tuple_mul1 a t _ n dd sl) ⟨ho, ⟨.ref a, H, I, rfl, q a H (Same.refl _) ha⟩⟩
  · exact call_meets F.slot_tuple_mul ⟨_, ho, rfl⟩ F.entry_tuple_mul (F.args_tuple_mul_2 _ _) (tuple_mul2x a t uu n dd sl) ⟨ho, new [uu, uu] (.cons ru (.cons ru .nil))⟩
  · exact call_meets F.slot_tuple_mul ⟨_, ho, rfl⟩ F.entry_tuple_mul (F.args_tuple_mul_2 _ _) (tuple_mul3x a t uu n dd sl) ⟨ho, new [uu, uu, uu] (.cons ru (.cons ru (.cons ru .nil)))⟩
  · exact call_meets F.slot_tuple_mul ⟨_, ho, rfl⟩ F.entry_tuple_mul (F.args_tuple_mul_2 _ _) (tuple_mul4x a t uu n dd sl) ⟨ho, new [uu, uu, uu, uu] (.cons ru (.cons ru (.cons ru (.cons ru .nil))))⟩
  · exact call_meets F.slot_tuple_mul ⟨_, ho, rfl⟩ F.entry_tuple_mul (F.args_tuple_mul_2 _ _) (tuple_mul5x a t uu n dd sl) ⟨ho, new [uu, uu, uu, uu, uu] (.cons ru (.cons ru (.cons ru (.cons ru (.cons ru .nil)))))⟩
  · exact call_meets F.slot_tuple_mul ⟨_, ho, rfl⟩ F.entry_tuple_mul (F.args_tuple_mul_2 _ _) (tuple_mul6x a t uu n dd sl) ⟨ho, new [uu, uu, uu, uu, uu, uu] (.cons ru (.cons ru (.cons ru (.cons ru (.cons ru (.cons ru .nil))))))⟩
noncomputable def rInsert0 : V → List V → Hp → VK → Prop := fun x vs H Q => ∃ l xs y, x = .ref l ∧ vs = [.int 0, y] ∧ H l = some (.lst xs) ∧ xs.length < sizeLine ∧ Q .non (upd H l (.lst (y :: xs)))
theorem mt_insert0 {X : Cx} : MtM X "list.insert" rInsert0 := by
  intro pins s σ H x vs v us Q I rx rv h
  obtain ⟨l, xs, y, rfl, rfl, hH, hz, q⟩ := h
  cases rx
  obtain ⟨u1, u2, rfl, r1, r2⟩ := rv.two
  obtain ⟨t, rfl⟩ := r1
  obtain ⟨z, its, n, r, hl, e⟩ := I.lstM hH
  refine call_meets F.slot_list_insert ⟨_, e, rfl⟩ F.entry_list_insert (F.args_list_insert_3 _ _ _) (PySem.AutoSeq1.list_insert_list_int_val_1 l its.toArray n 0 t u2 (by decide) (by rw [List.size_toArray]; omega)) ⟨e, ?_⟩
  refine ⟨.non, _, I.lset (its' := u2 :: its) hH e (by simp) (.cons r2 r) ?_, rfl, q⟩
  rw [List.length_cons]
  omega
end L2
namespace HU
open PySem PySem.Spec
section
variable {prog : Program} {w : World} {A : Around} {E : Value → Shared → Prop} {s : Shared}
theorem draw_list {it t : Addr} {items : Array Value} (hne : t ≠ it) : ∀ (n i : Nat) (s : Shared) (Q : List Value → Shared → Prop), s.heap.IsListIter it t i → s.heap.IsList t items → i + n ≤ items.size →
    (∀ h', h'.IsListIter it t (i + n) → Heap.SameBut it s.heap h' → Q ((items.toList.drop i).take n) { s with heap := h' }) → wpAny (model prog w) A (draw (.ref it) n) Q E s
  | 0, i, s, Q, hit, _, _, hQ => by
    show wpAny _ _ (pure []) Q E s
    exact wpAny_pure (by simpa using hQ s.heap hit (Heap.SameBut.refl ..))
  | n + 1, i, s, Q, hit, ht, hle, hQ => by
    have hlt : i < items.size := by omega
    show wpAny _ _ (pyNext (.ref it) >>= _) Q E s
    refine wpAny_bind (wpAny_pyNext_list_item hit ht (x := items[i]) (by simp [hlt]) fun h1 hit1 hs1 => ?_)
    refine wpAny_bind (wpAny_holding (draw_list hne n (i + 1) _ _ hit1 (ht.extBut hs1.extBut hne) (by omega) fun h2 hit2 hs2 => wpAny_pure ?_))
    have hd : items.toList.drop i = items[i] :: items.toList.drop (i + 1) := by simp [List.drop_eq_getElem_cons, hlt]
    have := hQ h2 (by rw [show i + (n + 1) = i + 1 + n by omega]; exact hit2) (hs1.trans hs2)
    rw [hd, List.take_succ_cons] at this
    exact this
theorem unpackItems_list {t : Addr} {items : Array Value} {Q : List Value → Shared → Prop} (hh : A.handled = none) (ht : s.heap.IsList t items)
    (hQ : ∀ h', Heap.ExtBut s.heap.objs.size s.heap h' → Q items.toList { s with heap := h' }) : wpAny (model prog w) A (unpackItems (.ref t) items.size none) Q E s := by
  have hlt : t ≠ s.heap.objs.size := by obtain ⟨o, ho, _⟩ := ht; exact Nat.ne_of_lt (Heap.lt_size ho)
  unfold unpackItems
  refine wpAny_bind ?_
  unfold notIterableAtAll
  refine wpAny_bind (wpAny_specialOf ht.typeIs slot_list_iter.lookup ?_)
  refine wpAny_pure ?_
  simp only [Bool.false_eq_true, if_false]
  refine wpAny_bind (wpAny_holding (wpAny_pyIter_list ht ?_))
  refine wpAny_bind (wpAny_holding (draw_list hlt items.size 0 _ _ ⟨_, Heap.get?_push_size _ rfl, rfl, rfl⟩ (ht.push _) (by omega) fun h1 hit1 hs1 => ?_))
  have hall : List.take items.size (List.drop 0 items.toList) = items.toList := by
    rw [List.drop_zero]; exact List.take_of_length_le (by simp)
  rw [hall]
  rw [if_neg (by simp)]
  have ht1 : h1.IsList t items := (ht.push _).extBut hs1.extBut hlt
  refine wpAny_bind (wpAny_holding (wpAny_pyNext_list_end hh hit1 ht1 (by simp) fun h2 he2 => ?_))
  simp only [Option.isSome_none, Bool.false_eq_true, if_false]
  refine wpAny_pure (hQ h2 fun b o hb e => he2 b o hb (hs1.extBut b o hb (Heap.get?_push_of_some _ e)))
theorem assign_Tuple_list {env : Env} {elts : List Expr} {x1} {pos : Pos} {t : Addr} {items : Array Value} {Q : Unit → Shared → Prop} (hh : A.handled = none) (ht : s.heap.IsList t items)
    (hn : (assignEach elts env).length = items.size) (hstar : (assignEach elts env).findIdx? (·.1) = none)
    (h : ∀ h', Heap.ExtBut s.heap.objs.size s.heap h' → wpAny (model prog w) A (assignInOrder ((assignEach elts env).map (·.2)) items.toList) Q E { s with heap := h' }) :
    wpAny (model prog w) A (assign (.Tuple elts x1 pos) env (.ref t)) Q E s := by
  rw [PyProof.Rows.assign_Tuple]
  refine wpAny_bind (wpAny_standAt ?_)
  unfold unpack
  rw [hn, hstar]
  exact wpAny_bind (wpAny_holding (unpackItems_list hh ht h))
end
end HU
namespace L2
open PySem PySem.Spec PyProof.Rows
noncomputable def gLst (n : Nat) (t : TGs) : TG := fun v σ H Q => ∃ a xs, v = .ref a ∧ H a = some (.lst xs) ∧ xs.length = n ∧ t xs σ H Q
theorem pg_lst {X : Cx} {pos : Pos} {es : List Expr} {k : Nat} {t : TGs} {n : Nat} (hc : X.calm = true) (h : PGs X es t)
    (hn : (assignEach es X.env).length = n := by rfl) (hst : (assignEach es X.env).findIdx? (·.1) = none := by rfl) : PG X (.Tuple es k pos) (gLst n t) := by
  intro pins s σ H v u Q I r hw
  obtain ⟨a, xs, e1, hq, hl, hw⟩ := hw
  subst e1
  cases r
  obtain ⟨z, its, m, rv, hl2, e⟩ := I.lstM hq
  refine HU.assign_Tuple_list (I.ok.hd hc) ⟨_, e, rfl, m, rfl⟩ (by simp [hn, ← hl, rv.length]) hst fun h' hx => ?_
  have I1 : Inv X pins σ H { s with heap := h' } := I.kept (t' := s.toks) fun b o e => hx b o (Nat.ne_of_lt (Heap.lt_size e)) e
  exact h pins _ σ H xs _ Q I1 (by simpa using rv) hw
end L2

set_option Elab.async false
set_option linter.all false
set_option maxRecDepth 100000
set_option maxHeartbeats 4000000
namespace L2
open PySem PySem.Spec PyProof.Rows
noncomputable def rLenS (K : PySem.W.Frag) : List V → Hp → VK → Prop := fun xs H Q => ∃ p ys, xs = [V.ref p] ∧ (SqL K H p ys ∨ SqT K H p ys) ∧ Q (V.int (ys.length : Int)) H
theorem ninj63 {e l : Nat} (h : V.int (e : Int) = V.int (l : Int)) : e = l := by have := V.int.inj h; omega
noncomputable def SwAt (H : Hp) (x : V) (s : Fo.Sw Str) : Prop := ∃ t pt, x = .ref t ∧ H t = some (.tup [.ref pt, .bl s.2.1, .str s.2.2]) ∧ H pt = some (.tup (s.1.map V.int))
theorem SwAt.tk {H H' : Hp} {x : V} {s : Fo.Sw Str} (h : SwAt H x s) (e : TK H H') : SwAt H' x s := by obtain ⟨t, pt, a, b, c⟩ := h; exact ⟨t, pt, a, e _ _ b, e _ _ c⟩
theorem SwAt.over {H H' : Hp} {x : V} {s : Fo.Sw Str} (h : SwAt H x s) (e : Same H H') : SwAt H' x s := h.tk (Same.tk e)
noncomputable def spSweepsP (n : Nat) : Sp := fun vs H Q _ => ∃ (it pa : Addr) (f : Frs) (P : List Int), vs = [.ref it, .ref pa] ∧ FoT H it f ∧ H pa = some (.tup (P.map V.int)) ∧ dep f ≤ n ∧ P.length + n ≤ 100 ∧ (Fo.swF f P 0).length ≤ 1000 ∧ ∀ (r : Addr) (ys : List V) (H' : Hp), Same H H' → H r = none → H' r = some (.lst ys) → All2 (SwAt H') ys (Fo.swF f P 0) → Q (.ref r) H'
noncomputable def spSweepsOf : Sp := fun vs H Q _ => ∃ (it : Addr) (f : Frs), vs = [.ref it] ∧ FoT H it f ∧ dep f ≤ 7 ∧ (Fo.swF f [] 0).length ≤ 1000 ∧ ∀ (r : Addr) (ys : List V) (H' : Hp), Same H H' → H r = none → H' r = some (.lst ys) → All2 (SwAt H') ys (Fo.swF f [] 0) → Q (.ref r) H'
noncomputable def wys : List V := [.str "up", .str "down", .str "any"]
noncomputable abbrev cutN (ws : List Way) : Nat := ws.countP fun w => w.1
noncomputable abbrev whoN (ws : List Way) : Nat := ws.countP fun w => !w.1
noncomputable def spSweepsL (K : PySem.W.Frag) : Sp := fun vs H Q _ => ∃ (sc old wl : Addr) (ns : List Int) (first : Int) (n : Nat) (ws0 : List Way), vs = [.ref sc, .int first, .int (n : Int), .ref old, .ref wl] ∧ SqL K H sc (ns.map V.int) ∧ 0 ≤ first ∧ first ≤ 1000 ∧ n ≤ 3 ∧ WaysAt H old ws0 ∧ cutN ws0 ≤ 3 ∧ H wl = some (.lst wys) ∧
  ∀ (r w : Addr) (H' : Hp) (sh : Nat) (ws : List Way), Same H H' → H w = none → H' r = some (.tup [.int (sh : Int), .ref w]) → WaysAt H' w ws → sh ≤ ws0.length → sh ≤ ws.length → ws.take sh = ws0.take sh → cutN ws ≤ 3 → whoN ws = n → (n = 0 → ws0 = [] → ws = []) → Q (.ref r) H'
theorem way_pick {i : Int} (h0 : 0 ≤ i) (h1 : i < 3) : ∃ s : Str, atI wys i = some (.str s) := by
  have : i = 0 ∨ i = 1 ∨ i = 2 := by omega
  rcases this with rfl | rfl | rfl
  · exact ⟨"up", rfl⟩
  · exact ⟨"down", rfl⟩
  · exact ⟨"any", rfl⟩
theorem cnt_len (ws : List Way) : ws.length = cutN ws + whoN ws := by
  show ws.length = List.countP (fun w : Way => w.1) ws + List.countP (fun w : Way => !w.1) ws
  induction ws with
  | nil => rfl
  | cons w ws ih =>
    rw [List.length_cons, List.countP_cons, List.countP_cons, ih]
    cases w.1 <;> simp <;> omega
theorem cut_snoc (ws : List Way) (w : Way) : cutN (ws ++ [w]) = cutN ws + (if w.1 = true then 1 else 0) := by
  show List.countP _ _ = _
  rw [List.countP_append, List.countP_singleton]
theorem who_snoc (ws : List Way) (w : Way) : whoN (ws ++ [w]) = whoN ws + (if (!w.1) = true then 1 else 0) := by
  show List.countP _ _ = _
  rw [List.countP_append, List.countP_singleton]
theorem cut_take (ws : List Way) (i : Nat) : cutN (ws.take i) ≤ cutN ws := by
  have := List.take_append_drop i ws
  have h : cutN (ws.take i ++ ws.drop i) = cutN (ws.take i) + cutN (ws.drop i) := List.countP_append
  rw [this] at h
  omega
noncomputable def spPlacesL (K : PySem.W.Frag) : Sp := fun vs H Q _ => ∃ (sc sw lo : Addr) (ns L : List Int) (first : Int) (ws : List Way), vs = [.ref sc, .int first, .ref sw, .ref lo, .bl true] ∧ SqL K H sc (ns.map V.int) ∧ 0 ≤ first ∧ first ≤ 1000 ∧ WaysAt H sw ws ∧ ws.length ≤ 6 ∧ H lo = some (.lst (L.map V.int)) ∧ L.length ≤ 3 ∧ whoN ws ≤ L.length ∧ (ws ≠ [] → L ≠ []) ∧
  ∀ (r : Addr) (H' : Hp) (ps : List (Int × Int)), Same H H' → H r = none → PrsT H' r ps → ps.length = ws.length → Q (.ref r) H'
noncomputable def LfAt (H : Hp) (x : V) (b : Bgh) : Prop := ∃ t w p, x = .ref t ∧ H t = some (.tup [.int b.k, .int (b.sh : Int), .ref w, .ref p]) ∧ WaysAt H w b.ways ∧ PrsT H p b.pl
theorem LfAt.over {H H' : Hp} {x : V} {b : Bgh} (h : LfAt H x b) (e : Same H H') : LfAt H' x b := by obtain ⟨t, w, p, a, b, c, d⟩ := h; exact ⟨t, w, p, a, e _ _ b, c.over e, d.over e⟩
noncomputable def LfsAt (H : Hp) (l : Addr) (B : List Bgh) : Prop := ∃ xs, H l = some (.lst xs) ∧ All2 (LfAt H) xs B
theorem LfsAt.over {H H' : Hp} {l : Addr} {B : List Bgh} (h : LfsAt H l B) (e : Same H H') : LfsAt H' l B := by obtain ⟨xs, a, b⟩ := h; exact ⟨xs, e _ _ a, b.mono fun x w p => p.over e⟩
structure LvOk (B : List Bgh) : Prop where
  ok : Fo.Ok B
  fst : ∀ b, B.head? = some b → b.sh = 0
  len : B.length ≤ 6
  way : ∀ b ∈ B, b.ways.length ≤ 6
  pll : ∀ b ∈ B, b.pl.length = b.ways.length
theorem LvOk.from {B : List Bgh} (h : LvOk B) : From B 0 6 := ⟨h.ok, fun _ _ _ => Nat.zero_le _, fun _ _ => Nat.zero_le _, fun b hb => by have := h.way b hb; omega, fun b hb => by have := h.way b hb; have := h.pll b hb; omega, h.len⟩
noncomputable def rowI (s : Int) (m i : Nat) : List Int := (List.range i).map fun n : Nat => ((n : Int) + s) % (m : Int)
theorem rowI_succ (s : Int) (m i : Nat) : rowI s m (i + 1) = rowI s m i ++ [((i : Int) + s) % (m : Int)] := by
  unfold rowI
  rw [List.range_succ, List.map_append]
  rfl
theorem rowI_nodup {s : Int} {m : Nat} (h0 : 0 ≤ s) (h1 : s < 6) (hm : m ≤ 6) : (rowI s m m).Nodup := by
  obtain ⟨k, rfl⟩ : ∃ k : Nat, s = (k : Int) := ⟨s.toNat, by omega⟩
  have : ∀ m < 7, ∀ k < 6, (rowI ((k : Nat) : Int) m m).Nodup := by decide +kernel
  exact this m (by omega) k (by omega)
theorem rowI_len (s : Int) (m i : Nat) : (rowI s m i).length = i := by unfold rowI; rw [List.length_map, List.length_range]
theorem rowI_mem {s : Int} {m i : Nat} (hm : 0 < m) : ∀ k ∈ rowI s m i, 0 ≤ k ∧ k < (m : Int) := fun k hk => by
  obtain ⟨n, _, rfl⟩ := List.mem_map.mp hk
  exact ⟨Int.emod_nonneg _ (by omega), Int.emod_lt_of_pos _ (by omega)⟩
theorem erase_perm63 : ∀ (l : List Int) (i : Nat) (h : i < l.length), (l[i] :: l.eraseIdx i).Perm l
  | x :: l, 0, h => .refl _
  | x :: l, i + 1, h => by
    have h' : i < l.length := by rw [List.length_cons] at h; omega
    show (l[i] :: x :: l.eraseIdx i).Perm (x :: l)
    exact (List.Perm.swap _ _ _).trans ((erase_perm63 l i h').cons x)
structure LvSt (B : List Bgh) (R : List Int) (i : Nat) : Prop where
  ok : Fo.Ok B
  fst : ∀ b, B.head? = some b → b.sh = 0
  ks : B.map (·.k) = R.take i
  way : ∀ b ∈ B, cutN b.ways ≤ 3 ∧ b.ways.length ≤ 6
  pll : ∀ b ∈ B, b.pl.length = b.ways.length
theorem LvSt.nil (R : List Int) : LvSt [] R 0 := ⟨⟨fun b hb => (by cases hb), fun i b c hb => (by simp at hb)⟩, fun b hb => (by cases hb), rfl, fun b hb => (by cases hb), fun b hb => (by cases hb)⟩
theorem LvSt.len {B : List Bgh} {R : List Int} {i : Nat} (h : LvSt B R i) (hi : i ≤ R.length) : B.length = i := by
  have := congrArg List.length h.ks
  rw [List.length_map, List.length_take] at this
  omega
theorem LvSt.snoc {B : List Bgh} {R : List Int} {i : Nat} {b : Bgh} (h : LvSt B R i) (hk : R[i]? = some b.k) (h1 : b.sh ≤ b.ways.length) (h0 : B = [] → b.sh = 0) (h2 : ∀ c, B.getLast? = some c → b.sh ≤ c.ways.length ∧ b.ways.take b.sh = c.ways.take b.sh) (hw : cutN b.ways ≤ 3 ∧ b.ways.length ≤ 6) (hp : b.pl.length = b.ways.length) : LvSt (B ++ [b]) R (i + 1) := by
  refine ⟨Fo.Ok.snoc h.ok h1 h2, fun c hc => ?_, ?_, fun c hc => ?_, fun c hc => ?_⟩
  · cases B with
    | nil => cases hc; exact h0 rfl
    | cons b0 B => exact h.fst c hc
  · rw [take_snoc hk, List.map_append, h.ks]
    rfl
  · rcases List.mem_append.mp hc with hc | hc
    · exact h.way c hc
    · rw [List.mem_singleton] at hc; subst hc; exact hw
  · rcases List.mem_append.mp hc with hc | hc
    · exact h.pll c hc
    · rw [List.mem_singleton] at hc; subst hc; exact hp
theorem LvSt.fin {B : List Bgh} {R : List Int} (h : LvSt B R R.length) (hl : R.length ≤ 6) (hn : R.Nodup) : LvOk B ∧ B.length = R.length ∧ (B.map (·.k)).Nodup := by
  have l := h.len (Nat.le_refl _)
  refine ⟨⟨h.ok, h.fst, by omega, fun b hb => (h.way b hb).2, h.pll⟩, l, ?_⟩
  rw [h.ks, List.take_of_length_le (Nat.le_refl _)]
  exact hn
theorem av_tk {H : Hp} {lv : Addr} {xs : List V} (h : H lv = some (.lst xs)) : TK H (av H [lv]) := fun b ys hb => by
  rw [av_ne (by
    intro z
    rw [List.mem_singleton] at z
    rw [z, h] at hb
    cases hb)]
  exact hb
theorem WaysAt.av {H : Hp} {lv w : Addr} {xs : List V} {ws : List Way} (h : WaysAt H w ws) (hl : H lv = some (.lst xs)) (hn : w ≠ lv) : WaysAt (av H [lv]) w ws := by
  obtain ⟨ys, a, b⟩ := h
  exact ⟨ys, by rw [av_ne (by rw [List.mem_singleton]; exact hn)]; exact a, b.mono fun x v z => z.tk (av_tk hl)⟩
noncomputable def spLeaves (K : PySem.W.Frag) : Sp := fun vs H Q _ => ∃ (sc dl wl : Addr) (ns D : List Int), vs = [.ref sc, .int 7, .ref dl, .ref wl, .bl true] ∧ SqL K H sc (ns.map V.int) ∧ H dl = some (.lst (D.map V.int)) ∧ H wl = some (.lst wys) ∧ (∀ d ∈ D, 0 ≤ d ∧ d ≤ 3) ∧ 0 < D.length ∧ D.length ≤ 6 ∧
  ∀ (r : Addr) (H' : Hp) (B : List Bgh), Same H H' → LfsAt H' r B → LvOk B → B.length = D.length → (B.map (·.k)).Nodup → Q (.ref r) H'
noncomputable def spItemsL (n : Nat) : Sp := fun vs H Q _ => ∃ (l : Addr) (d m : Nat) (B : List Bgh), vs = [.ref l, .int (d : Int)] ∧ LfsAt H l B ∧ From B d m ∧ m < n ∧ d + m ≤ 10 ∧ ∀ (r : Addr) (H' : Hp) (f : Frs), Same H H' → FoT H' r f → Fo.Is f B d → Q (.ref r) H'
noncomputable def allP : List Bgh → List (List Int)
  | [] => []
  | b :: B => Fo.fst [] 0 b.ways.length :: Fo.pathsFrom (Fo.fst [] 0 b.ways.length) B
noncomputable def allS : List Bgh → List (Fo.Sw Str)
  | [] => []
  | b :: B => Fo.swOf (Fo.fst [] 0 b.ways.length) 0 b.ways ++ Fo.sweepsFrom (Fo.fst [] 0 b.ways.length) B
noncomputable def PaAt (H : Hp) (x : V) (p : List Int) : Prop := ∃ t, x = .ref t ∧ H t = some (.tup (p.map V.int))
theorem PaAt.tk {H H' : Hp} {x : V} {p : List Int} (h : PaAt H x p) (e : TK H H') : PaAt H' x p := by obtain ⟨t, a, b⟩ := h; exact ⟨t, a, e _ _ b⟩
theorem PaAt.over {H H' : Hp} {x : V} {p : List Int} (h : PaAt H x p) (e : Same H H') : PaAt H' x p := h.tk (Same.tk e)
theorem nxt_len {prev : List Int} {b : Bgh} (h1 : b.sh < prev.length) (h2 : b.sh ≤ b.ways.length) : (Fo.nxt prev b).length = b.ways.length + 1 := by
  unfold Fo.nxt
  rw [List.length_append, List.length_append, List.length_take, List.length_replicate, List.length_singleton]
  omega
theorem pathsFrom_len : ∀ (B : List Bgh) (prev : List Int), (Fo.pathsFrom prev B).length = B.length
  | [], _ => rfl
  | b :: B, prev => by show (Fo.pathsFrom (Fo.nxt prev b) B).length + 1 = _; rw [pathsFrom_len]; rfl
theorem allP_len (B : List Bgh) : (allP B).length = B.length := by
  cases B with
  | nil => rfl
  | cons b B => show (Fo.pathsFrom _ B).length + 1 = _; rw [pathsFrom_len]; rfl
theorem pathsFrom_get : ∀ (B : List Bgh) (prev : List Int) (i : Nat) (b : Bgh) (p : List Int), (prev :: Fo.pathsFrom prev B)[i]? = some p → B[i]? = some b → (Fo.pathsFrom prev B)[i]? = some (Fo.nxt p b)
  | [], prev, i, b, p, hp, hb => by simp at hb
  | c :: B, prev, 0, b, p, hp, hb => by cases hp; cases hb; rfl
  | c :: B, prev, i + 1, b, p, hp, hb => by
    rw [List.getElem?_cons_succ] at hp hb
    show (Fo.nxt prev c :: Fo.pathsFrom (Fo.nxt prev c) B)[i + 1]? = _
    rw [List.getElem?_cons_succ]
    exact pathsFrom_get B (Fo.nxt prev c) i b p hp hb
theorem allP_next {B : List Bgh} {i : Nat} {b : Bgh} {p : List Int} (hp : (allP B)[i]? = some p) (hb : B[i + 1]? = some b) : (allP B)[i + 1]? = some (Fo.nxt p b) := by
  cases B with
  | nil => simp at hb
  | cons b0 B =>
    rw [List.getElem?_cons_succ] at hb
    show (_ :: Fo.pathsFrom _ B)[i + 1]? = _
    rw [List.getElem?_cons_succ]
    exact pathsFrom_get B _ i b p hp hb
theorem allP_lens {B : List Bgh} (ok : LvOk B) : ∀ (i : Nat) (b : Bgh) (p : List Int), (allP B)[i]? = some p → B[i]? = some b → p.length = b.ways.length + 1
  | 0, b, p, hp, hb => by
    cases B with
    | nil => cases hb
    | cons b0 B =>
      cases hb
      cases hp
      unfold Fo.fst
      rw [List.nil_append, List.length_cons, List.length_replicate]
  | i + 1, b, p, hp, hb => by
    have hi := (List.getElem?_eq_some_iff.mp hb).1
    have hb0 : B[i]? = some B[i] := List.getElem?_eq_getElem (by omega)
    have hp0 : (allP B)[i]? = some ((allP B)[i]'(by rw [allP_len]; omega)) := List.getElem?_eq_getElem _
    have l := allP_lens ok i _ _ hp0 hb0
    rw [allP_next hp0 hb] at hp
    cases hp
    have o := (ok.ok.ln i _ b hb0 hb).1
    exact nxt_len (by omega) (ok.ok.sh b (List.mem_of_getElem? hb))
theorem swOf_len (path : List Int) : ∀ (ws : List Way) (e : Nat), (Fo.swOf path e ws).length = ws.length
  | [], _ => rfl
  | w :: ws, e => by show (Fo.swOf path (e + 1) ws).length + 1 = _; rw [swOf_len]; rfl
theorem swOf_get (path : List Int) : ∀ (ws : List Way) (e j : Nat) (w : Way), ws[j]? = some w → (Fo.swOf path e ws)[j]? = some (path.take (e + j + 1), w.1, w.2)
  | [], e, j, w, h => by simp at h
  | v :: ws, e, 0, w, h => by cases h; rfl
  | v :: ws, e, j + 1, w, h => by
    rw [List.getElem?_cons_succ] at h
    show (_ :: Fo.swOf path (e + 1) ws)[j + 1]? = _
    rw [List.getElem?_cons_succ, swOf_get path ws (e + 1) j w h, show e + 1 + j + 1 = e + (j + 1) + 1 by omega]
noncomputable def gS (bp : Bgh × List Int) : List (Fo.Sw Str) := Fo.swOf bp.2 bp.1.sh (bp.1.ways.drop bp.1.sh)
theorem sweepsFrom_zip : ∀ (B : List Bgh) (prev : List Int), Fo.sweepsFrom prev B = (B.zip (Fo.pathsFrom prev B)).flatMap gS
  | [], _ => rfl
  | b :: B, prev => by
    show Fo.swOf (Fo.nxt prev b) b.sh (b.ways.drop b.sh) ++ Fo.sweepsFrom (Fo.nxt prev b) B = gS (b, Fo.nxt prev b) ++ (B.zip (Fo.pathsFrom (Fo.nxt prev b) B)).flatMap gS
    rw [sweepsFrom_zip]
    rfl
theorem allS_zip {B : List Bgh} (h : ∀ b, B.head? = some b → b.sh = 0) : allS B = (B.zip (allP B)).flatMap gS := by
  cases B with
  | nil => rfl
  | cons b B =>
    have := h b rfl
    show Fo.swOf (Fo.fst [] 0 b.ways.length) 0 b.ways ++ Fo.sweepsFrom (Fo.fst [] 0 b.ways.length) B = gS (b, Fo.fst [] 0 b.ways.length) ++ (B.zip (Fo.pathsFrom (Fo.fst [] 0 b.ways.length) B)).flatMap gS
    rw [sweepsFrom_zip]
    unfold gS
    rw [this]
    rfl
theorem zip_take_snoc {B : List Bgh} {P : List (List Int)} {i : Nat} {b : Bgh} {p : List Int} (hb : B[i]? = some b) (hp : P[i]? = some p) : ((B.zip P).take (i + 1)).flatMap gS = ((B.zip P).take i).flatMap gS ++ gS (b, p) := by
  have : (B.zip P)[i]? = some (b, p) := by rw [List.getElem?_zip_eq_some]; exact ⟨hb, hp⟩
  rw [take_snoc this, List.flatMap_append]
  simp
theorem gS_len (b : Bgh) (p : List Int) : (gS (b, p)).length = b.ways.length - b.sh := by unfold gS; rw [swOf_len, List.length_drop]
theorem flat_len {B : List Bgh} (ok : ∀ b ∈ B, b.ways.length ≤ 6) : ∀ (P : List (List Int)) (i : Nat), (((B.zip P).take i).flatMap gS).length ≤ 6 * i := by
  intro P i
  have : ∀ L : List (Bgh × List Int), (∀ x ∈ L, x.1.ways.length ≤ 6) → (L.flatMap gS).length ≤ 6 * L.length := by
    intro L
    induction L with
    | nil => intro _; exact Nat.zero_le _
    | cons x L ih =>
      intro h
      have h1 := ih fun y hy => h y (List.mem_cons_of_mem _ hy)
      have h2 := h x List.mem_cons_self
      have h3 := gS_len x.1 x.2
      rw [List.flatMap_cons, List.length_append, List.length_cons]
      change (gS x).length = _ at h3
      omega
  have h := this ((B.zip P).take i) fun x hx => ok x.1 (List.of_mem_zip (List.mem_of_mem_take (a := x) hx)).1
  have l : ((B.zip P).take i).length ≤ i := List.length_take_le _ _
  omega
theorem allS_len {B : List Bgh} (ok : LvOk B) : (allS B).length ≤ 36 := by
  rw [allS_zip ok.fst]
  have := flat_len ok.way (allP B) B.length
  rw [List.take_of_length_le (by rw [List.length_zip]; omega)] at this
  have := ok.len
  omega
noncomputable def spPaths : Sp := fun vs H Q _ => ∃ (l : Addr) (B : List Bgh), vs = [.ref l] ∧ LfsAt H l B ∧ LvOk B ∧ ∀ (r : Addr) (xs : List V) (H' : Hp), Same H H' → H' r = some (.lst xs) → All2 (PaAt H') xs (allP B) → Q (.ref r) H'
noncomputable def spDue63 : Sp := fun vs H Q _ => ∃ (l p : Addr) (B : List Bgh) (xs : List V), vs = [.ref l, .ref p] ∧ LfsAt H l B ∧ LvOk B ∧ H p = some (.lst xs) ∧ All2 (PaAt H) xs (allP B) ∧ ∀ (r : Addr) (ys : List V) (H' : Hp), Same H H' → H' r = some (.lst ys) → All2 (SwAt H') ys (allS B) → Q (.ref r) H'
mutual
theorem NtAt.tr {K : PySem.W.Frag} {H : Hp} : ∀ {t : Tr} {x : V}, NtAt H t x → TrIs K H x t
  | .v y, x, h => by
    rw [NtAt] at h
    obtain ⟨rfl, h⟩ := h
    exact .flat (by cases x <;> first | rfl | cases h)
  | .tup l, x, h => by
    rw [NtAt] at h
    obtain ⟨p, xs, rfl, h0, h1⟩ := h
    exact .tup (SqT.of h0) (NtsAt.tr h1)
  | .lst l, x, h => by rw [NtAt] at h; exact h.elim
theorem NtsAt.tr {K : PySem.W.Frag} {H : Hp} : ∀ {l : List Tr} {xs : List V}, NtsAt H l xs → TrsIs K H xs l
  | [], xs, h => by rw [NtsAt] at h; subst h; exact .nil
  | t :: l, xs, h => by
    rw [NtsAt] at h
    obtain ⟨x, xs', rfl, h0, h1⟩ := h
    exact .cons (NtAt.tr h0) (NtsAt.tr h1)
end
noncomputable def inT (p : List Int) : Tr := .tup (p.map fun i => Tr.v (.int i))
noncomputable def prT (P : List (Int × Int)) : Tr := .tup (P.map fun p => Tr.tup [.v (.int p.1), .v (.int p.2)])
noncomputable def swT (s : Fo.Sw Str) : Tr := .tup [inT s.1, .v (.bl s.2.1), .v (.str s.2.2)]
noncomputable def stT (p : List Int) (P : List (Int × Int)) : Tr := .tup [inT p, prT P]
theorem ints_nt {H : Hp} : ∀ L : List Int, NtsAt H (L.map fun i => Tr.v (.int i)) (L.map V.int)
  | [] => by rw [List.map_nil, NtsAt]; rfl
  | x :: L => by
    rw [List.map_cons, NtsAt]
    exact ⟨_, _, rfl, by rw [NtAt]; exact ⟨rfl, rfl⟩, ints_nt L⟩
theorem inT_nt {H : Hp} {t : Addr} {p : List Int} (h : H t = some (.tup (p.map V.int))) : NtAt H (inT p) (.ref t) := by
  rw [inT, NtAt]
  exact ⟨t, _, rfl, h, ints_nt p⟩
theorem nts_of {α : Type} {H : Hp} {R : V → α → Prop} {g : α → Tr} (h : ∀ x a, R x a → NtAt H (g a) x) : ∀ {ys : List V} {P : List α}, All2 R ys P → NtsAt H (P.map g) ys
  | [], [], _ => by rw [List.map_nil, NtsAt]
  | [], p :: P, z => by have := z.1; cases this
  | y :: ys, [], z => by have := z.1; cases this
  | y :: ys, p :: P, z => by
    rw [List.map_cons, NtsAt]
    exact ⟨y, ys, rfl, h y p (z.2 0 y p rfl rfl), nts_of h ⟨Nat.succ.inj z.1, fun i x a p q => z.2 (i + 1) x a (by simpa using p) (by simpa using q)⟩⟩
theorem prT_nt {H : Hp} {t : Addr} {P : List (Int × Int)} (h : PrsT H t P) : NtAt H (prT P) (.ref t) := by
  obtain ⟨xs, h0, h1⟩ := h
  rw [prT, NtAt]
  refine ⟨t, xs, rfl, h0, nts_of (fun x a z => ?_) h1⟩
  obtain ⟨u, rfl, hu⟩ := z
  rw [NtAt]
  refine ⟨u, _, rfl, hu, ?_⟩
  rw [NtsAt]
  refine ⟨_, _, rfl, by rw [NtAt]; exact ⟨rfl, rfl⟩, ?_⟩
  rw [NtsAt]
  refine ⟨_, _, rfl, by rw [NtAt]; exact ⟨rfl, rfl⟩, ?_⟩
  rw [NtsAt]
theorem sw_nt {H : Hp} {x : V} {s : Fo.Sw Str} (h : SwAt H x s) : NtAt H (swT s) x := by
  obtain ⟨t, pt, rfl, h0, h1⟩ := h
  rw [swT, NtAt]
  refine ⟨t, _, rfl, h0, ?_⟩
  rw [NtsAt]
  refine ⟨_, _, rfl, inT_nt h1, ?_⟩
  rw [NtsAt]
  refine ⟨_, _, rfl, by rw [NtAt]; exact ⟨rfl, rfl⟩, ?_⟩
  rw [NtsAt]
  refine ⟨_, _, rfl, by rw [NtAt]; exact ⟨rfl, rfl⟩, ?_⟩
  rw [NtsAt]
theorem sws_nt {H : Hp} {ys : List V} {S : List (Fo.Sw Str)} (h : All2 (SwAt H) ys S) : NtsAt H (S.map swT) ys := nts_of (fun _ _ z => sw_nt z) h
theorem swsT_nt {H : Hp} {t : Addr} {ys : List V} {S : List (Fo.Sw Str)} (ht : H t = some (.tup ys)) (h : All2 (SwAt H) ys S) : NtAt H (.tup (S.map swT)) (.ref t) := by
  rw [NtAt]
  exact ⟨t, ys, rfl, ht, sws_nt h⟩
theorem stT_nt {H : Hp} {t pt pl : Addr} {p : List Int} {P : List (Int × Int)} (ht : H t = some (.tup [.ref pt, .ref pl])) (h1 : H pt = some (.tup (p.map V.int))) (h2 : PrsT H pl P) : NtAt H (stT p P) (.ref t) := by
  rw [stT, NtAt]
  refine ⟨t, _, rfl, ht, ?_⟩
  rw [NtsAt]
  refine ⟨_, _, rfl, inT_nt h1, ?_⟩
  rw [NtsAt]
  refine ⟨_, _, rfl, prT_nt h2, ?_⟩
  rw [NtsAt]
theorem depTs_all {n : Nat} : ∀ {l : List Tr}, (∀ t ∈ l, depT t ≤ n) → depTs l ≤ n
  | [], _ => by rw [depTs]; exact Nat.zero_le _
  | t :: l, h => by
    rw [depTs]
    exact Nat.max_le.mpr ⟨h t List.mem_cons_self, depTs_all fun u hu => h u (List.mem_cons_of_mem _ hu)⟩
theorem brTs_all {n : Nat} : ∀ {l : List Tr}, (∀ t ∈ l, brT t ≤ n) → brTs l ≤ n
  | [], _ => by rw [brTs]; exact Nat.zero_le _
  | t :: l, h => by
    rw [brTs]
    exact Nat.max_le.mpr ⟨h t List.mem_cons_self, brTs_all fun u hu => h u (List.mem_cons_of_mem _ hu)⟩
theorem inT_dep (p : List Int) : depT (inT p) ≤ 1 := by
  rw [inT, depT, ints_dep]
  exact Nat.le_refl _
theorem inT_br (p : List Int) : brT (inT p) ≤ p.length := by
  rw [inT, brT, List.length_map]
  refine Nat.max_le.mpr ⟨Nat.le_refl _, brTs_all fun t ht => ?_⟩
  obtain ⟨i, _, rfl⟩ := List.mem_map.mp ht
  rw [brT]
  exact Nat.zero_le _
theorem prT_dep (P : List (Int × Int)) : depT (prT P) ≤ 2 := by
  rw [prT, depT]
  have := prs_dep P
  omega
theorem prT_br (P : List (Int × Int)) (h : 2 ≤ 10000) (hl : P.length ≤ 10000) : brT (prT P) ≤ 10000 := by
  rw [prT, brT, List.length_map]
  refine Nat.max_le.mpr ⟨hl, brTs_all fun t ht => ?_⟩
  obtain ⟨i, _, rfl⟩ := List.mem_map.mp ht
  simp [brT, brTs]
theorem swT_dep (s : Fo.Sw Str) : depT (swT s) ≤ 2 := by
  have := inT_dep s.1
  simp only [swT, depT, depTs]
  omega
theorem swT_br (s : Fo.Sw Str) (h : s.1.length ≤ 100) : brT (swT s) ≤ 100 := by
  have := inT_br s.1
  simp only [swT, brT, brTs, List.length_cons, List.length_nil]
  omega
theorem stT_dep (p : List Int) (P : List (Int × Int)) : depT (stT p P) ≤ 3 := by
  have := inT_dep p
  have := prT_dep P
  simp only [stT, depT, depTs]
  omega
theorem stT_br {p : List Int} {P : List (Int × Int)} (h : p.length ≤ 100) (h2 : P.length ≤ 100) : brT (stT p P) ≤ 10000 := by
  have := inT_br p
  have := prT_br P (by decide) (by omega)
  simp only [stT, brT, brTs, List.length_cons, List.length_nil]
  omega
theorem sws_dep (S : List (Fo.Sw Str)) : depTs (S.map swT) ≤ 2 := depTs_all fun t ht => by
  obtain ⟨s, _, rfl⟩ := List.mem_map.mp ht
  exact swT_dep s
theorem sws_br {S : List (Fo.Sw Str)} (h : S.length ≤ 1000) (hs : ∀ s ∈ S, s.1.length ≤ 100) : brT (.tup (S.map swT)) ≤ 10000 := by
  rw [brT, List.length_map]
  refine Nat.max_le.mpr ⟨by omega, brTs_all fun t ht => ?_⟩
  obtain ⟨s, h1, rfl⟩ := List.mem_map.mp ht
  have := swT_br s (hs s h1)
  omega
theorem swOf_short (path : List Int) : ∀ (ws : List Way) (e : Nat), ∀ s ∈ Fo.swOf path e ws, s.1.length ≤ path.length
  | [], _, s, h => by cases h
  | w :: ws, e, s, h => by
    rcases List.mem_cons.mp h with rfl | h
    · exact List.length_take_le' _ _
    · exact swOf_short path ws (e + 1) s h
theorem allP_short {B : List Bgh} (ok : LvOk B) : ∀ p ∈ allP B, p.length ≤ 7 := fun p hp => by
  obtain ⟨i, hi⟩ := List.mem_iff_getElem?.mp hp
  have l := (List.getElem?_eq_some_iff.mp hi).1
  rw [allP_len] at l
  have hb : B[i]? = some B[i] := List.getElem?_eq_getElem l
  have := allP_lens ok i _ p hi hb
  have := ok.way _ (List.mem_of_getElem? hb)
  omega
theorem allS_short {B : List Bgh} (ok : LvOk B) : ∀ s ∈ allS B, s.1.length ≤ 100 := fun s hs => by
  rw [allS_zip ok.fst] at hs
  obtain ⟨x, hx, hs⟩ := List.mem_flatMap.mp hs
  have h1 := swOf_short _ _ _ s hs
  have h2 := allP_short ok x.2 (List.of_mem_zip (a := x.1) (b := x.2) hx).2
  omega
theorem plan_paths {f : Frs} {B : List Bgh} (h : Fo.Is f B 0) (hn : 0 < B.length) : (Fo.deedsF f [] 0).map (·.path) = allP B := by
  cases B with
  | nil => cases hn
  | cons b B => exact Fo.deeds_paths f (b :: B) 0 [] 0 h rfl b B rfl
theorem plan_sweeps {f : Frs} {B : List Bgh} (h : Fo.Is f B 0) (hn : 0 < B.length) : Fo.swF f [] 0 = allS B := by
  cases B with
  | nil => cases hn
  | cons b B => exact Fo.sweeps_paths f (b :: B) 0 [] 0 h rfl b B rfl
theorem plan_path {f : Frs} {B : List Bgh} (h : Fo.Is f B 0) (hn : 0 < B.length) {i : Nat} {e : Fo.En} {p : List Int} (he : (Fo.deedsF f [] 0)[i]? = some e) (hp : (allP B)[i]? = some p) : e.path = p := by
  rw [← plan_paths h hn, List.getElem?_map, he] at hp
  exact Option.some.inj hp
theorem eq_same {K : PySem.W.Frag} {H : Hp} {x y : Addr} {t : Tr} {Q : VK} (hx : TrIs K H (.ref x) t) (hy : TrIs K H (.ref y) t) (hd : depT t ≤ 60) (h : Q (.bl true) H) : rEqX K false (.ref x) (.ref y) H Q := by
  refine ⟨t, t, hx, hy, ⟨_, rfl⟩, ⟨_, rfl⟩, simT_refl t, hd, ?_⟩
  rw [show (if false = true then !eqT t t else eqT t t) = true from eqT_refl t hx.ok]
  exact h
end L2

set_option Elab.async false
set_option linter.all false
set_option maxRecDepth 100000
set_option maxHeartbeats 4000000

namespace Fw
open PySem L2 Bd


noncomputable def top (i : Nat) : Stmt := PySem.Challenge.pw_furrow_k63_sweeps_and_stands.main.body.getD i (.Pass ⟨0, 0, 0, 0⟩)
noncomputable abbrev s_l_at : Stmt := top 6
noncomputable abbrev s_l_digits : Stmt := top 7
noncomputable abbrev s_l_sweeps : Stmt := top 8
noncomputable abbrev s_l_places : Stmt := top 9
noncomputable abbrev s_l_leaves : Stmt := top 10
noncomputable abbrev s_l_items : Stmt := top 11
noncomputable abbrev s_l_same : Stmt := top 12
noncomputable abbrev s_l_paths : Stmt := top 13
noncomputable abbrev s_l_due : Stmt := top 14
noncomputable abbrev s_deeds_within : Stmt := top 1
noncomputable abbrev s_stand : Stmt := top 4
noncomputable abbrev s_sweeps_within : Stmt := top 3
noncomputable abbrev s_sweeps_of : Stmt := top 2
noncomputable abbrev s_law : Stmt := top 15
theorem sc_l_at : FnScope ["_law_script", "_law_k", "_law_number"] ["_law_script", "_law_k"] (defScope s_l_at) := ⟨rfl, rfl, rfl, by decide +kernel, rfl, by decide +kernel, by decide +kernel⟩
theorem sc_l_digits : FnScope ["_law_cell", "_law_sizes", "_law_found", "_law_many"] ["_law_cell", "_law_sizes"] (defScope s_l_digits) := ⟨rfl, rfl, rfl, by decide +kernel, rfl, by decide +kernel, by decide +kernel⟩
theorem sc_l_sweeps : FnScope ["_law_script", "_law_first", "_law_depth", "_law_old", "_law_ways", "_law_sweeps_here", "_law_free", "_law_split", "_law_pair", "_law_share", "_law_more", "_law_way", "_law_kind"] ["_law_script", "_law_first", "_law_depth", "_law_old", "_law_ways"] (defScope s_l_sweeps) := ⟨rfl, rfl, rfl, by decide +kernel, rfl, by decide +kernel, by decide +kernel⟩
theorem sc_l_places : FnScope ["_law_script", "_law_first", "_law_sweeps_here", "_law_loops", "_law_far", "_law_places_here", "_law_left", "_law_e", "_law_pair", "_law_cell", "_law_loop", "_law_step", "_law_big", "_law_shift", "_law_number"] ["_law_script", "_law_first", "_law_sweeps_here", "_law_loops", "_law_far"] (defScope s_l_places) := ⟨rfl, rfl, rfl, by decide +kernel, rfl, by decide +kernel, by decide +kernel⟩
theorem sc_l_leaves : FnScope ["_law_script", "_law_first", "_law_depths", "_law_ways", "_law_far", "_law_start", "_law_back", "_law_front", "_law_row", "_law_leaves_here", "_law_n", "_law_k", "_law_cell", "_law_like", "_law_turn", "_law_flip", "_law_loops", "_law_old", "_law_share", "_law_sweeps_here"] ["_law_script", "_law_first", "_law_depths", "_law_ways", "_law_far"] (defScope s_l_leaves) := ⟨rfl, rfl, rfl, by decide +kernel, rfl, by decide +kernel, by decide +kernel⟩
theorem sc_l_items : FnScope ["_law_leaves_here", "_law_level", "_law_items_here", "_law_at_here", "_law_upto", "_law_pair"] ["_law_leaves_here", "_law_level"] (defScope s_l_items) := ⟨rfl, rfl, rfl, by decide +kernel, rfl, by decide +kernel, by decide +kernel⟩
theorem sc_l_same : FnScope ["_law_found", "_law_due_here"] ["_law_found", "_law_due_here"] (defScope s_l_same) := ⟨rfl, rfl, rfl, by decide +kernel, rfl, by decide +kernel, by decide +kernel⟩
theorem sc_l_paths : FnScope ["_law_leaves_here", "_law_found", "_law_n", "_law_leaf", "_law_path"] ["_law_leaves_here"] (defScope s_l_paths) := ⟨rfl, rfl, rfl, by decide +kernel, rfl, by decide +kernel, by decide +kernel⟩
theorem sc_l_due : FnScope ["_law_leaves_here", "_law_paths_here", "_law_found", "_law_leaf", "_law_path", "_law_e"] ["_law_leaves_here", "_law_paths_here"] (defScope s_l_due) := ⟨rfl, rfl, rfl, by decide +kernel, rfl, by decide +kernel, by decide +kernel⟩
theorem sc_deeds_within : FnScope ["items", "path", "cuts", "found", "number", "item", "here"] ["items", "path", "cuts"] (defScope s_deeds_within) := ⟨rfl, rfl, rfl, by decide +kernel, rfl, by decide +kernel, by decide +kernel⟩
theorem sc_stand : FnScope ["plan", "k", "number", "places", "path", "cuts"] ["plan", "k"] (defScope s_stand) := ⟨rfl, rfl, rfl, by decide +kernel, rfl, by decide +kernel, by decide +kernel⟩
theorem sc_sweeps_within : FnScope ["items", "path", "found", "number", "item", "here"] ["items", "path"] (defScope s_sweeps_within) := ⟨rfl, rfl, rfl, by decide +kernel, rfl, by decide +kernel, by decide +kernel⟩
theorem sc_sweeps_of : FnScope ["plan"] ["plan"] (defScope s_sweeps_of) := ⟨rfl, rfl, rfl, by decide +kernel, rfl, by decide +kernel, by decide +kernel⟩
theorem sc_law : FnScope ["_law_script", "_law_depths", "_law_leaves_here", "_law_plan", "_law_paths_here", "_law_due_here", "_law_found", "_law_leaf", "_law_path"] ["_law_script"] (defScope s_law) := ⟨rfl, rfl, rfl, by decide +kernel, rfl, by decide +kernel, by decide +kernel⟩
theorem c_l_same_0 : compB (mkSc [(".0", .local), ("_law_one", .local), ("_law_other", .local), ("_law_same", .globalImplicit)]) (defScope s_l_same) ["_law_found", "_law_due_here"] ["_law_one", "_law_other"] [none, none] = true := by decide +kernel
theorem c_l_same_0n : (["_law_one", "_law_other"] : List Str).Nodup := by decide +kernel
theorem c_l_leaves_0 : compB (mkSc [(".0", .local), ("_law_n", .local), ("len", .globalImplicit), ("_law_depths", .free), ("_law_start", .free)]) (defScope s_l_leaves) ["_law_script", "_law_first", "_law_depths", "_law_ways", "_law_far", "_law_start", "_law_back", "_law_front", "_law_row", "_law_leaves_here", "_law_n", "_law_k", "_law_cell", "_law_like", "_law_turn", "_law_flip", "_law_loops", "_law_old", "_law_share", "_law_sweeps_here"] ["_law_n", "_law_depths", "_law_start"] [none, some 2, some 5] = true := by decide +kernel
theorem c_l_leaves_0n : (["_law_n", "_law_depths", "_law_start"] : List Str).Nodup := by decide +kernel
theorem c_l_leaves_1 : compB (mkSc [(".0", .local), ("_law_e", .local), ("_law_depths", .free), ("_law_k", .free), ("_law_turn", .free)]) (defScope s_l_leaves) ["_law_script", "_law_first", "_law_depths", "_law_ways", "_law_far", "_law_start", "_law_back", "_law_front", "_law_row", "_law_leaves_here", "_law_n", "_law_k", "_law_cell", "_law_like", "_law_turn", "_law_flip", "_law_loops", "_law_old", "_law_share", "_law_sweeps_here"] ["_law_e", "_law_depths", "_law_k", "_law_turn"] [none, some 2, some 11, some 14] = true := by decide +kernel
theorem c_l_leaves_1n : (["_law_e", "_law_depths", "_law_k", "_law_turn"] : List Str).Nodup := by decide +kernel
theorem c_law_0 : compB (mkSc [(".0", .local), ("_law_k", .local), ("_law_at", .globalImplicit), ("_law_script", .free)]) (defScope s_law) ["_law_script", "_law_depths", "_law_leaves_here", "_law_plan", "_law_paths_here", "_law_due_here", "_law_found", "_law_leaf", "_law_path"] ["_law_k", "_law_script"] [none, some 0] = true := by decide +kernel
theorem c_law_0n : (["_law_k", "_law_script"] : List Str).Nodup := by decide +kernel
structure Ad where
  f_l_at : Addr
  d_l_at : FuncData
  f_l_digits : Addr
  d_l_digits : FuncData
  f_l_sweeps : Addr
  d_l_sweeps : FuncData
  f_l_places : Addr
  d_l_places : FuncData
  f_l_leaves : Addr
  d_l_leaves : FuncData
  f_l_items : Addr
  d_l_items : FuncData
  f_l_same : Addr
  d_l_same : FuncData
  f_l_paths : Addr
  d_l_paths : FuncData
  f_l_due : Addr
  d_l_due : FuncData
  f_deeds_within : Addr
  d_deeds_within : FuncData
  f_stand : Addr
  d_stand : FuncData
  f_sweeps_within : Addr
  d_sweeps_within : FuncData
  f_sweeps_of : Addr
  d_sweeps_of : FuncData
  f_law : Addr
  d_law : FuncData
structure Tx (K : PySem.W.Frag) (mg : Str → Option Value) (a : Ad) : Prop where
  F_l_at : Fun K "_law_at" "_law_at" s_l_at a.f_l_at a.d_l_at
  b_l_at : Binds K a.d_l_at ["_law_script", "_law_k"] []
  m_l_at : mg "_law_at" = some (.ref a.f_l_at)
  F_l_digits : Fun K "_law_digits" "_law_digits" s_l_digits a.f_l_digits a.d_l_digits
  b_l_digits : Binds K a.d_l_digits ["_law_cell", "_law_sizes"] []
  m_l_digits : mg "_law_digits" = some (.ref a.f_l_digits)
  F_l_sweeps : Fun K "_law_sweeps" "_law_sweeps" s_l_sweeps a.f_l_sweeps a.d_l_sweeps
  b_l_sweeps : Binds K a.d_l_sweeps ["_law_script", "_law_first", "_law_depth", "_law_old", "_law_ways"] []
  m_l_sweeps : mg "_law_sweeps" = some (.ref a.f_l_sweeps)
  F_l_places : Fun K "_law_places" "_law_places" s_l_places a.f_l_places a.d_l_places
  b_l_places : Binds K a.d_l_places ["_law_script", "_law_first", "_law_sweeps_here", "_law_loops", "_law_far"] []
  m_l_places : mg "_law_places" = some (.ref a.f_l_places)
  F_l_leaves : Fun K "_law_leaves" "_law_leaves" s_l_leaves a.f_l_leaves a.d_l_leaves
  b_l_leaves : Binds K a.d_l_leaves ["_law_script", "_law_first", "_law_depths", "_law_ways", "_law_far"] []
  m_l_leaves : mg "_law_leaves" = some (.ref a.f_l_leaves)
  F_l_items : Fun K "_law_items" "_law_items" s_l_items a.f_l_items a.d_l_items
  b_l_items : Binds K a.d_l_items ["_law_leaves_here", "_law_level"] []
  m_l_items : mg "_law_items" = some (.ref a.f_l_items)
  F_l_same : Fun K "_law_same" "_law_same" s_l_same a.f_l_same a.d_l_same
  b_l_same : Binds K a.d_l_same ["_law_found", "_law_due_here"] []
  m_l_same : mg "_law_same" = some (.ref a.f_l_same)
  F_l_paths : Fun K "_law_paths" "_law_paths" s_l_paths a.f_l_paths a.d_l_paths
  b_l_paths : Binds K a.d_l_paths ["_law_leaves_here"] []
  m_l_paths : mg "_law_paths" = some (.ref a.f_l_paths)
  F_l_due : Fun K "_law_due" "_law_due" s_l_due a.f_l_due a.d_l_due
  b_l_due : Binds K a.d_l_due ["_law_leaves_here", "_law_paths_here"] []
  m_l_due : mg "_law_due" = some (.ref a.f_l_due)
  F_deeds_within : Fun K "deeds_within" "deeds_within" s_deeds_within a.f_deeds_within a.d_deeds_within
  b_deeds_within : Binds K a.d_deeds_within ["items", "path", "cuts"] []
  m_deeds_within : mg "deeds_within" = some (.ref a.f_deeds_within)
  F_stand : Fun K "stand" "stand" s_stand a.f_stand a.d_stand
  b_stand : Binds K a.d_stand ["plan", "k"] []
  m_stand : mg "stand" = some (.ref a.f_stand)
  F_sweeps_within : Fun K "sweeps_within" "sweeps_within" s_sweeps_within a.f_sweeps_within a.d_sweeps_within
  b_sweeps_within : Binds K a.d_sweeps_within ["items", "path"] []
  m_sweeps_within : mg "sweeps_within" = some (.ref a.f_sweeps_within)
  F_sweeps_of : Fun K "sweeps_of" "sweeps_of" s_sweeps_of a.f_sweeps_of a.d_sweeps_of
  b_sweeps_of : Binds K a.d_sweeps_of ["plan"] []
  m_sweeps_of : mg "sweeps_of" = some (.ref a.f_sweeps_of)
  F_law : Fun K "law" "law" s_law a.f_law a.d_law
  b_law : Binds K a.d_law ["_law_script"] []
  m_law : mg "law" = some (.ref a.f_law)
  z_all : mg "all" = none
  z_bool : mg "bool" = none
  z_enumerate : mg "enumerate" = none
  z_int : mg "int" = none
  z_isinstance : mg "isinstance" = none
  z_len : mg "len" = none
  z_list : mg "list" = none
  z_range : mg "range" = none
  z_str : mg "str" = none
  z_tuple : mg "tuple" = none
  z_zip : mg "zip" = none
section
variable {P : Program} {w : World} {K : PySem.W.Frag} {mg : Str → Option Value} {base : Heap} {a : Ad}
theorem ok_at63 (T : Tx K mg a) : FnOk P w K mg base CX0 1 a.f_l_at a.d_l_at ["_law_script", "_law_k"] (spAt63 K) := by
  refine T.F_l_at.ok sc_l_at (fun vs H Q E h => ?_) (fun cdv A outer s H vs Q E hr h => ?_)
  · obtain ⟨_, _, _, rfl, _⟩ := h; rfl
  obtain ⟨p, ns, k, rfl, hS, h0, h1, q⟩ := h
  refine ⟨_, (pss_cons (ps_set (i := 2) sc_l_at.nd rfl (Or.inl rfl) (pe_op op_add (pe_op op_mul pe_int (pv 1)) pe_int))
    (pss_cons (ps_if (pt_cmpR op_lt (pv 1) (pe_callB call_len_seq (by rfl) T.z_len bt_len (pa_cons (pv 0) pa_nil)) (nomark _))
    (pss_one (ps_set (i := 2) sc_l_at.nd rfl (Or.inl rfl) (pe_op op_add (pv 2) (pe_ix ix_list (pv 0) (pv 1) (fun _ _ => rfl)))))
    (pss_one (ps_if (pt_cmpR op_gt (pe_callB call_len_seq (by rfl) T.z_len bt_len (pa_cons (pv 0) pa_nil)) pe_int (nomark _))
    (pss_one (ps_set (i := 2) sc_l_at.nd rfl (Or.inl rfl) (pe_op op_add (pe_op op_mul pe_int (pv 2)) (pe_ix ix_list (pv 0) (pe_op op_mod (pe_op op_mul (pv 1) pe_int) (pe_callB call_len_seq (by rfl) T.z_len bt_len (pa_cons (pv 0) pa_nil))) (fun _ _ => rfl)))))
    pss_nil)))
    (pss_cons (ps_set (i := 2) sc_l_at.nd rfl (Or.inl rfl) (pe_op op_mod (pe_op op_mul (pv 2) pe_int) pe_int))
    (pss_one (ps_ret (pe_op op_mod (pe_op op_mul (pv 2) (pv 2)) pe_int)))))), ?_⟩
  have hl : (ns.map V.int).length = ns.length := List.length_map _
  have p64 : (2 : Int) ^ 64 = 18446744073709551616 := by decide
  refine ⟨_, rfl, _, _, rfl, rfl, .inl ⟨by decide, by decide⟩, _, _, rfl, rfl, ?_⟩
  dsimp only [gName]
  refine seq_any (fun σ' H' => H' = H ∧ ∃ n : Int, σ' = [some (.ref p), some (.int k), some (.int n)]) (fun σ' H' m => ?_) (fun nx => ?_)
  · obtain ⟨rfl, n, rfl⟩ := m
    have b0 := Int.emod_nonneg (n * 48271) (show (2147483647 : Int) ≠ 0 by decide)
    have b1 := Int.emod_lt_of_pos (n * 48271) (show (0 : Int) < 2147483647 by decide)
    refine ⟨_, rfl, _, _, rfl, rfl, .inr ⟨by decide, by decide⟩, _, _, rfl, rfl, (by show (0 : Int) < 2147483647; decide), ?_⟩
    exact ⟨_, rfl, _, rfl, _, _, rfl, rfl, .inl ⟨by omega, by omega⟩, _, _, rfl, rfl, (by show (0 : Int) < 2147483629; decide), q _ (Int.emod_nonneg _ (by decide)) (Int.emod_lt_of_pos _ (by decide))⟩
  refine ⟨_, rfl, _, rfl, p, _, rfl, .inl hS, _, _, rfl, rfl, _, rfl, ?_⟩
  refine ite2 (fun c => ?_) (fun c => ?_)
  · have c' := dT c
    rw [hl] at c'
    exact ⟨_, rfl, _, rfl, _, rfl, p, _, _, _, rfl, rfl, hS, cell_in h0 c', _, _, rfl, rfl, nx _ _ ⟨rfl, _, rfl⟩⟩
  refine ⟨_, rfl, p, _, rfl, .inl hS, _, _, rfl, rfl, _, rfl, ?_⟩
  refine ite2 (fun c2 => ?_) (fun c2 => nx _ _ ⟨rfl, _, rfl⟩)
  have c2 := dT c2
  have m0 := Int.emod_nonneg (k * 7) (show ((ns.map V.int).length : Int) ≠ 0 by omega)
  have m1 := Int.emod_lt_of_pos (k * 7) c2
  exact ⟨_, rfl, _, _, rfl, rfl, .inl ⟨by decide, by decide⟩, _, rfl, _, rfl, _, _, rfl, rfl, .inr ⟨by decide, by decide⟩, _, rfl, p, _, rfl, .inl hS, _, _, rfl, rfl, c2, p, _, _, _, rfl, rfl, hS, cell_in m0 (by rw [hl] at m1 ⊢; exact m1), _, _, rfl, rfl, nx _ _ ⟨rfl, _, rfl⟩⟩

theorem ok_digits (T : Tx K mg a) : FnOk P w K mg base CX0 1 a.f_l_digits a.d_l_digits ["_law_cell", "_law_sizes"] spDigits := by
  refine T.F_l_digits.ok sc_l_digits (fun vs H Q E h => ?_) (fun cdv A outer s H vs Q E hr h => ?_)
  · obtain ⟨_, _, _, rfl, _⟩ := h; rfl
  obtain ⟨c, l, ms, rfl, hl, c0, ml, mb, q⟩ := h
  refine ⟨_, (pss_cons (ps_set (i := 2) sc_l_digits.nd rfl (Or.inl rfl) (pe_lst pa_nil))
    (pss_cons (ps_for PassesOwn.never rfl (pi_list (pv 1)) (pg_name (i := 3) sc_l_digits.nd rfl (Or.inl rfl))
    (pss_cons (ps_expr (pe_bm PySem.F.plainAttrs_list PySem.F.slot_list_append PySem.F.type_list_append mt_append (pv 2) (pa_cons (pe_op op_mod (pv 0) (pv 3)) pa_nil)))
    (pss_one (ps_set (i := 0) sc_l_digits.nd rfl (Or.inl rfl) (pe_op op_fdiv (pv 0) (pv 3))))))
    (pss_one (ps_ret (pv 2))))), ?_⟩
  refine ⟨szl (by show 0 ≤ 1000000; decide), fun r hr' => ?_⟩
  have s1 := same_new hr' (.lst [])
  refine ⟨_, rfl, l, rfl, ⟨_, SqL.of (s1 _ _ hl)⟩, ?_⟩
  refine for_list (xs := ms.map V.int) (fun i σ' H' => Same H H' ∧ ∃ (x : Int) (ds : List Int) (o3 : Option V), σ' = [some (.int x), some (.ref l), some (.ref r), o3] ∧ 0 ≤ x ∧ H' r = some (.lst (ds.map V.int)) ∧ ds.length = i ∧ ∀ (j : Nat) (d m : Int), ds[j]? = some d → ms[j]? = some m → 0 ≤ d ∧ d < m) ⟨s1, c, [], _, rfl, c0, upd_same, rfl, fun j d m hd => by simp at hd⟩ (fun i σ' H' _ p => SqL.of (p.1 _ _ hl)) (fun i x σ' H' hx p => ?_) (fun σ' H' p => ?_)
  · obtain ⟨e, x0, ds, o3, rfl, x0n, hr2, dl, db⟩ := p
    rw [List.getElem?_map] at hx
    cases hm : ms[i]? with
    | none => rw [hm] at hx; cases hx
    | some m =>
      rw [hm] at hx
      cases hx
      obtain ⟨m0, m1⟩ := mb m (List.mem_of_getElem? hm)
      have hi := (List.getElem?_eq_some_iff.mp hm).1
      refine ⟨_, rfl, .inl ⟨rfl, _, SqL.of hr2⟩, _, rfl, _, rfl, _, _, rfl, rfl, m0, r, _, _, rfl, rfl, hr2, szlt (by rw [List.length_map]; omega), ?_⟩
      refine ⟨_, rfl, _, rfl, _, _, rfl, rfl, ⟨m0, m1⟩, ?_⟩
      refine ⟨fun b o eb => by rw [upd_ne (ne_of_none eb hr')]; exact e _ _ eb, x0 / m, ds ++ [x0 % m], _, rfl, Int.ediv_nonneg x0n (Int.le_of_lt m0), by rw [upd_same, List.map_append]; rfl, by rw [List.length_append, dl]; rfl, fun j d m' hd hm' => ?_⟩
      by_cases cj : j < ds.length
      · rw [List.getElem?_append_left cj] at hd
        exact db j d m' hd hm'
      · have ej : j = ds.length := by
          have := (List.getElem?_eq_some_iff.mp hd).1
          rw [List.length_append, List.length_singleton] at this
          omega
        subst ej
        rw [List.getElem?_append_right (Nat.le_refl _), Nat.sub_self] at hd
        cases hd
        rw [dl, hm] at hm'
        cases hm'
        exact ⟨Int.emod_nonneg _ (by omega), Int.emod_lt_of_pos _ m0⟩
  · obtain ⟨e, x0, ds, o3, rfl, x0n, hr2, dl, db⟩ := p
    rw [List.length_map] at dl
    exact ⟨_, rfl, q r _ ds e hr2 dl db⟩

theorem ok_same (T : Tx K mg a) : ∀ n : Nat, FnOk P w K mg base CX0 (n + 1) a.f_l_same a.d_l_same ["_law_found", "_law_due_here"] (spSame n)
  | 0 => by
    have no : ∀ vs H Q E, ¬ spSame 0 vs H Q E := fun vs H Q E h => by
      obtain ⟨_, _, _, _, _, _, hm, _⟩ := h
      omega
    exact ⟨fun vs H Q E h => absurd h (no vs H Q E), fun A outer s H args us vs Q E _ _ _ _ h => absurd h (no vs H Q E)⟩
  | n + 1 => by
    have G_l_same := ok_same T n
    refine T.F_l_same.ok sc_l_same (fun vs H Q E h => ?_) (fun cdv A outer s H vs Q E hr h => ?_)
    · obtain ⟨_, _, _, rfl, _⟩ := h; rfl
    obtain ⟨x, y, t, rfl, hx, hy, hd, hb, q⟩ := h
    refine ⟨_, (pss_cons (ps_if (pt_val (pe_callB call_isi (by rfl) T.z_isinstance bt_isinstance (pa_cons (pv 1) (pa_cons (pe_bltn (v := .ty "tuple") (by rfl) T.z_tuple bt_tuple rfl) pa_nil))))
    (pss_cons (ps_if ((pw_or (pt_not (pt_val (pe_callB call_isi (by rfl) T.z_isinstance bt_isinstance (pa_cons (pv 0) (pa_cons (pe_bltn (v := .ty "tuple") (by rfl) T.z_tuple bt_tuple rfl) pa_nil))))) (pw_or1 (pt_cmpR op_ne (pe_callB call_len_seq (by rfl) T.z_len bt_len (pa_cons (pv 0) pa_nil)) (pe_callB call_len_seq (by rfl) T.z_len bt_len (pa_cons (pv 1) pa_nil)) (nomark _))))).pt
    (pss_one (ps_ret pe_bl))
    pss_nil)
    (pss_one (ps_ret (pe_callB (call_allB rfl) (by rfl) T.z_all bt_all (pa_cons (pe_compB ["_law_one", "_law_other"] [none, none] (by rfl) (pi_zipT (by rfl) T.z_zip (pa_cons (pv 0) (pa_cons (pv 1) pa_nil))) c_l_same_0 (fun _ _ _ _ _ _ => ⟨(show PG _ _ (gTup K 2 _) from (pg_tup rfl (pgs_cons (pg_name (i := 0) c_l_same_0n rfl (Or.inl rfl)) (pgs_cons (pg_name (i := 1) c_l_same_0n rfl (Or.inl rfl)) pgs_nil)))), pts_nil, (pe_call G_l_same (hr.mono (by omega)) (by rfl) T.m_l_same T.F_l_same.kp T.b_l_same .nil pass0 (pa_cons (pv 0) (pa_cons (pv 1) pa_nil)))⟩)) pa_nil)))))
    pss_nil)
    (pss_cons (ps_if (pt_cmpR op_ne (pe_callB call_isi (by rfl) T.z_isinstance bt_isinstance (pa_cons (pv 0) (pa_cons (pe_bltn (v := .ty "bool") (by rfl) T.z_bool bt_bool rfl) pa_nil))) (pe_callB call_isi (by rfl) T.z_isinstance bt_isinstance (pa_cons (pv 1) (pa_cons (pe_bltn (v := .ty "bool") (by rfl) T.z_bool bt_bool rfl) pa_nil))) (nomark _))
    (pss_one (ps_ret pe_bl))
    pss_nil)
    (pss_one (ps_ret (pe_and (pe_callB call_isi2 (by rfl) T.z_isinstance bt_isinstance (pa_cons (pv 0) (pa_cons (pe_tup (pa_cons (pe_bltn (v := .ty "int") (by rfl) T.z_int bt_int rfl) (pa_cons (pe_bltn (v := .ty "str") (by rfl) T.z_str bt_str rfl) pa_nil))) pa_nil))) (pe_one (pe_cmpR op_eq (pv 0) (pv 1) (nomark _)))))))), ?_⟩
    cases t with
    | lst l => rw [NtAt] at hx; exact hx.elim
    | tup l =>
      rw [NtAt] at hx hy
      obtain ⟨p, xs, rfl, hp, hxs⟩ := hx
      obtain ⟨p2, ys, rfl, hp2, hys⟩ := hy
      have l1 := hxs.len
      have l2 := hys.len
      rw [depT] at hd
      rw [brT] at hb
      have lb : l.length ≤ 10000 := Nat.le_trans (Nat.le_max_left _ _) hb
      refine ⟨_, rfl, _, _, _, _, _, rfl, rfl, .tup hp2, rfl, _, rfl, iteT ?_⟩
      refine if_any (fun _ => False) (fun _ z => z.elim) (fun _ => ?_)
      refine ⟨_, rfl, _, _, _, _, _, rfl, rfl, .tup hp, rfl, _, rfl, iteF ?_⟩
      refine ⟨_, rfl, p, _, rfl, .inr (SqT.of hp), _, rfl, p2, _, rfl, .inr (SqT.of hp2), rfl, _, rfl, iteE (ndF (by rw [l1, l2])) (iteF ?_)⟩
      refine ⟨_, rfl, _, rfl, p, p2, rfl, ⟨_, SqT.of hp⟩, ⟨_, SqT.of hp2⟩, ?_⟩
      refine comp_zipT (xs := xs) (ys := ys) (by omega) (fun i zs H' => Same H H' ∧ zs = (List.replicate i true).map V.bl) ⟨Same.refl _, rfl⟩ (szl (by omega)) (fun i zs H' hi pp => ⟨SqT.of (pp.1 _ _ hp), SqT.of (pp.1 _ _ hp2), by rw [pp.2, List.length_map, List.length_replicate]; exact Nat.le_refl _⟩) (fun i x y Tt zs H' hx hy pp hT => ?_) (fun zs H' pp r hr' => ?_)
      · obtain ⟨e, rfl⟩ := pp
        have hi : i < l.length := by have := (List.getElem?_eq_some_iff.mp hx).1; omega
        have hl : l[i]? = some l[i] := List.getElem?_eq_getElem hi
        have sT := same_new hT (.tup [x, y])
        obtain ⟨x', hx', nx⟩ := hxs.get hl
        rw [hx] at hx'
        cases hx'
        obtain ⟨y', hy', ny⟩ := hys.get hl
        rw [hy] at hy'
        cases hy'
        have eT := e.trans sT
        refine ⟨Tt, _, rfl, SqT.of upd_same, rfl, _, _, rfl, _, _, rfl, rfl, outs2 (ρ := []) _ _, ?_⟩
        refine ⟨_, rfl, _, rfl, x, y, l[i], rfl, nx.over eT, ny.over eT, by have := depTs_get hl; omega, by have := brTs_get hl; omega, fun H2 e2 => ⟨eT.trans e2, ?_⟩⟩
        rw [List.replicate_succ', List.map_append]
        rfl
      obtain ⟨e, rfl⟩ := pp
      have tt : (List.replicate xs.length true).all id = true := by rw [List.all_eq_true]; intro b hb; rw [(List.mem_replicate.mp hb).2]; rfl
      refine ⟨r, _, rfl, SqL.of upd_same, ?_⟩
      rw [tt]
      exact q _ (e.trans (same_new hr' _))
    | v z =>
      rw [NtAt] at hx hy
      obtain ⟨ex, hz⟩ := hx
      obtain ⟨ey, _⟩ := hy
      cases z with
      | int i =>
        cases ex
        cases ey
        refine ⟨_, rfl, _, _, _, _, _, rfl, rfl, .int i, rfl, _, rfl, iteF ?_⟩
        refine ⟨_, rfl, _, _, _, _, _, rfl, rfl, .int i, rfl, _, rfl, _, _, _, _, _, rfl, rfl, .int i, rfl, rfl, _, rfl, iteE (ndF rfl) (iteF ?_)⟩
        refine ⟨_, rfl, szl (by show 2 ≤ 1000000; decide), fun tp htp => ⟨_, tp, "int", "str", _, true, rfl, upd_same, .int i, rfl, _, rfl, iteT ?_⟩⟩
        refine ⟨_, rfl, _, rfl, rfl, ?_⟩
        rw [show decide (V.int i = V.int i) = true from decide_eq_true rfl]
        exact q _ (same_new htp _)
      | str i =>
        cases ex
        cases ey
        refine ⟨_, rfl, _, _, _, _, _, rfl, rfl, .str i, rfl, _, rfl, iteF ?_⟩
        refine ⟨_, rfl, _, _, _, _, _, rfl, rfl, .str i, rfl, _, rfl, _, _, _, _, _, rfl, rfl, .str i, rfl, rfl, _, rfl, iteE (ndF rfl) (iteF ?_)⟩
        refine ⟨_, rfl, szl (by show 2 ≤ 1000000; decide), fun tp htp => ⟨_, tp, "int", "str", _, true, rfl, upd_same, .str i, rfl, _, rfl, iteT ?_⟩⟩
        refine ⟨_, rfl, _, rfl, rfl, ?_⟩
        rw [show decide (V.str i = V.str i) = true from decide_eq_true rfl]
        exact q _ (same_new htp _)
      | bl i =>
        cases ex
        cases ey
        refine ⟨_, rfl, _, _, _, _, _, rfl, rfl, .bl i, rfl, _, rfl, iteF ?_⟩
        refine ⟨_, rfl, _, _, _, _, _, rfl, rfl, .bl i, rfl, _, rfl, _, _, _, _, _, rfl, rfl, .bl i, rfl, rfl, _, rfl, iteE (ndF rfl) (iteF ?_)⟩
        refine ⟨_, rfl, szl (by show 2 ≤ 1000000; decide), fun tp htp => ⟨_, tp, "int", "str", _, true, rfl, upd_same, .bl i, rfl, _, rfl, iteT ?_⟩⟩
        refine ⟨_, rfl, _, rfl, rfl, ?_⟩
        rw [show decide (V.bl i = V.bl i) = true from decide_eq_true rfl]
        exact q _ (same_new htp _)
      | _ => cases hz

theorem ok_deedsw (T : Tx K mg a) : ∀ n : Nat, FnOk P w K mg base CX0 (n + 2) a.f_deeds_within a.d_deeds_within ["items", "path", "cuts"] (spDeedsP n)
  | 0 => by
    have no : ∀ vs H Q E, ¬ spDeedsP 0 vs H Q E := fun vs H Q E h => by
      obtain ⟨it, pa, cu, f, P', cs, _, _, _, _, hd, _⟩ := h
      have := dep_pos f
      omega
    exact ⟨fun vs H Q E h => absurd h (no vs H Q E), fun A outer s H args us vs Q E _ _ _ _ h => absurd h (no vs H Q E)⟩
  | n + 1 => by
    have G_deeds_within := ok_deedsw T n
    refine T.F_deeds_within.ok sc_deeds_within (fun vs H Q E h => ?_) (fun cdv A outer s H vs Q E hr h => ?_)
    · obtain ⟨_, _, _, _, _, _, rfl, _⟩ := h; rfl
    obtain ⟨it, pa, cu, f, PP, cs, rfl, ⟨xs, hit, hf⟩, hpa, hcu, hdep, pl, cl, hlen, q⟩ := h
    refine ⟨_, (pss_cons (ps_set (i := 3) sc_deeds_within.nd rfl (Or.inl rfl) (pe_lst pa_nil))
    (pss_cons (ps_for PassesOwn.never rfl (pi_enumT (by rfl) T.z_enumerate (pa_cons (pv 0) pa_nil)) (pg_tup rfl (pgs_cons (pg_name (i := 4) sc_deeds_within.nd rfl (Or.inl rfl)) (pgs_cons (pg_name (i := 5) sc_deeds_within.nd rfl (Or.inl rfl)) pgs_nil)))
    (pss_cons (ps_set (i := 6) sc_deeds_within.nd rfl (Or.inl rfl) (pe_op op_catH (pv 1) (pe_tup (pa_cons (pv 4) pa_nil))))
    (pss_one (ps_if (pt_cmpR op_eq (pe_ix ix_tup (pv 5) pe_int (fun _ _ => rfl)) pe_str (nomark _))
    (pss_one (ps_expr (pe_bm PySem.F.plainAttrs_list PySem.F.slot_list_append PySem.F.type_list_append mt_append (pv 3) (pa_cons (pe_tup (pa_cons (pe_ix ix_tup (pv 5) pe_int (fun _ _ => rfl)) (pa_cons (pe_ix ix_tup (pv 5) pe_int (fun _ _ => rfl)) (pa_cons (pv 6) (pa_cons (pv 2) pa_nil))))) pa_nil))))
    (pss_one (ps_expr (pe_bm PySem.F.plainAttrs_list PySem.F.slot_list_extend PySem.F.type_list_extend mt_extend (pv 3) (pa_cons (pe_call G_deeds_within (hr.mono (by omega)) (by rfl) T.m_deeds_within T.F_deeds_within.kp T.b_deeds_within .nil pass0 (pa_cons (pe_ix ix_tup (pv 5) pe_int (fun _ _ => rfl)) (pa_cons (pv 6) (pa_cons (pe_op op_catH (pv 2) (pe_tup (pa_cons (pe_ix ix_tup (pv 5) pe_int (fun _ _ => rfl)) pa_nil))) pa_nil)))) pa_nil))))))))
    (pss_one (ps_ret (pv 3))))), ?_⟩
    refine ⟨szl (by show 0 ≤ 1000000; decide), fun fo hfo => ?_⟩
    have e1 := same_new hfo (.lst [])
    have hfo1 : (upd H fo (.lst [])) fo = some (.lst []) := upd_same
    generalize upd H fo (.lst []) = H1 at e1 hfo1
    refine ⟨_, rfl, it, rfl, ⟨_, SqT.of (e1 _ _ hit)⟩, ?_⟩
    refine for_enumT (xs := xs) (fun i σ' H' => ∃ (g : Frs) (done : List Fo.En) (ys : List V) (o4 o5 o6 : Option V), σ' = [some (.ref it), some (.ref pa), some (.ref cu), some (.ref fo), o4, o5, o6] ∧ Same H H' ∧ FoAt H (xs.drop i) g ∧ dep g ≤ n + 1 ∧ H' fo = some (.lst ys) ∧ All2 (EnAt H') ys done ∧ done ++ Fo.deedsF g PP i = Fo.deedsF f PP 0) ⟨f, [], [], _, _, _, rfl, e1, hf, hdep, hfo1, .nil, rfl⟩ (fun i σ' H' _ pp => by obtain ⟨_, _, _, _, _, _, _, e, _⟩ := pp; exact SqT.of (e _ _ hit)) (fun i x Tt σ' H' hx pp hT => ?_) (fun σ' H' pp => ?_)
    rotate_left
    · obtain ⟨g, done, ys, o4, o5, o6, rfl, e, hg, _, hy, ay, hd⟩ := pp
      have hz : xs.drop xs.length = [] := List.drop_eq_nil_of_le (Nat.le_refl _)
      rw [hz] at hg
      have gn : g = .nil := by
        cases g with
        | nil => rfl
        | leaf k pl r => obtain ⟨_, _, _, z, _⟩ := hg; cases z
        | node c w s r => obtain ⟨_, _, _, _, z, _⟩ := hg; cases z
      subst gn
      have : done = Fo.deedsF f PP 0 := by rw [← hd]; show done = done ++ []; rw [List.append_nil]
      rw [this] at ay
      exact ⟨_, rfl, q fo ys _ e hy ay⟩
    obtain ⟨g, done, ys, o4, o5, o6, rfl, e, hg, gdep, hy, ay, hd⟩ := pp
    obtain ⟨hi, ex⟩ := List.getElem?_eq_some_iff.mp hx
    rw [List.drop_eq_getElem_cons hi, ex] at hg
    have tot := congrArg List.length hd
    rw [List.length_append] at tot
    have yl := ay.1
    have sT := same_new hT (.tup [V.int (i : Int), x])
    have e2 := e.trans sT
    have hy2 := sT _ _ hy
    have ay2 := ay.mono fun y v z => z.over sT
    refine ⟨Tt, _, rfl, SqT.of upd_same, rfl, _, _, rfl, _, _, rfl, rfl, ?_⟩
    generalize upd H' Tt (.tup [V.int (i : Int), x]) = H2 at e2 hy2 ay2
    refine ⟨_, rfl, _, rfl, szl (by show 1 ≤ 1000000; decide), fun t1 ht1 => ?_⟩
    have s3 := same_new ht1 (.tup [V.int (i : Int)])
    refine ⟨pa, t1, _, [V.int (i : Int)], rfl, rfl, s3 _ _ (e2 _ _ hpa), upd_same, szl (by rw [List.length_map, List.length_singleton]; omega), fun he H3 e3 hhe => ?_⟩
    have hhe : H3 he = some (.tup ((PP ++ [(i : Int)]).map V.int)) := by rw [List.map_append]; exact hhe
    have e23 := s3.trans e3
    have eH3 := e2.trans e23
    have hy3 := e23 _ _ hy2
    have ay3 := ay2.mono fun y v z => z.over e23
    dsimp only [gName]
    clear s3 e3 sT
    cases g with
    | nil => cases hg
    | leaf k pl rest =>
      obtain ⟨t, pp, zs, z, ht, hpr, hrest⟩ := hg
      cases z
      change dep rest ≤ n + 1 at gdep
      change done ++ (⟨k, pl, PP ++ [(i : Int)]⟩ :: Fo.deedsF rest PP (i + 1)) = Fo.deedsF f PP 0 at hd
      have tot' : done.length + (Fo.deedsF rest PP (i + 1)).length + 1 = (Fo.deedsF f PP 0).length := by rw [← hd, List.length_append, List.length_cons]; omega
      refine ⟨_, rfl, t, _, 0, _, rfl, rfl, SqT.of (eH3 _ _ ht), rfl, rfl, _, rfl, iteE (v := true) (decide_eq_true rfl) (iteT ?_)⟩
      refine ⟨_, rfl, .inl ⟨rfl, _, SqL.of hy3⟩, _, rfl, t, _, 1, _, rfl, rfl, SqT.of (eH3 _ _ ht), rfl, _, rfl, t, _, 2, _, rfl, rfl, SqT.of (eH3 _ _ ht), rfl, _, rfl, _, rfl, szl (by show 4 ≤ 1000000; decide), fun r hr => ?_⟩
      have s4 := same_new hr (.tup [V.int k, V.ref pp, V.ref he, V.ref cu])
      have nr : r ≠ fo := fun z => by rw [z, hy3] at hr; cases hr
      refine ⟨fo, _, _, rfl, rfl, s4 _ _ hy3, szlt (by omega), ?_⟩
      have tk := (Same.tk s4).trans (TK.upd (o := .lst (ys ++ [V.ref r])) (s4 _ _ hy3))
      refine ⟨rest, done ++ [⟨k, pl, PP ++ [(i : Int)]⟩], _, _, _, _, rfl, fun a o ha => by rw [upd_ne (ne_of_none ha hfo)]; exact s4 _ _ (eH3 _ _ ha), hrest, gdep, upd_same, ?_, by rw [List.append_assoc]; exact hd⟩
      exact (ay3.mono fun y v z => z.tk tk).snoc ⟨r, pp, he, cu, rfl, by rw [upd_ne nr]; exact upd_same, (hpr.over eH3).tk tk, tk _ _ hhe⟩
    | node c w sub rest =>
      obtain ⟨t, pp, zs, us, z, ht, hpp, hsub, hrest⟩ := hg
      cases z
      unfold dep at gdep
      change done ++ (Fo.deedsF sub (PP ++ [(i : Int)]) 0 ++ Fo.deedsF rest PP (i + 1)) = Fo.deedsF f PP 0 at hd
      have tot' : done.length + ((Fo.deedsF sub (PP ++ [(i : Int)]) 0).length + (Fo.deedsF rest PP (i + 1)).length) = (Fo.deedsF f PP 0).length := by rw [← hd, List.length_append, List.length_append]
      refine ⟨_, rfl, t, _, 0, _, rfl, rfl, SqT.of (eH3 _ _ ht), rfl, rfl, _, rfl, iteE (v := false) (dS (by decide +kernel)) (iteF ?_)⟩
      refine ⟨_, rfl, .inl ⟨rfl, _, SqL.of hy3⟩, _, rfl, t, _, 3, _, rfl, rfl, SqT.of (eH3 _ _ ht), rfl, _, rfl, _, rfl, _, rfl, t, _, 1, _, rfl, rfl, SqT.of (eH3 _ _ ht), rfl, szl (by show 1 ≤ 1000000; decide), fun t2 ht2 => ?_⟩
      have s4 := same_new ht2 (.tup [V.bl c])
      refine ⟨cu, t2, cs, [V.bl c], rfl, rfl, s4 _ _ (eH3 _ _ hcu), upd_same, szl (by rw [List.length_singleton]; omega), fun cu2 H4 e4 hcu2 => ?_⟩
      have e34 := s4.trans e4
      have eH4 := eH3.trans e34
      refine ⟨pp, he, cu2, sub, PP ++ [(i : Int)], cs ++ [V.bl c], rfl, ⟨zs, eH4 _ _ hpp, FoAt.over eH4 hsub⟩, e34 _ _ hhe, hcu2, by omega, by rw [List.length_append, List.length_singleton]; omega, by rw [List.length_append, List.length_singleton]; omega, by omega, fun r ys2 H5 e5 hr5 ay5 => ?_⟩
      have yl5 := ay5.1
      have hy5 := (e34.trans e5) _ _ hy3
      refine ⟨fo, r, _, _, rfl, rfl, hy5, hr5, szl (by omega), ?_⟩
      have tk := TK.upd (o := .lst (ys ++ ys2)) hy5
      refine ⟨rest, done ++ Fo.deedsF sub (PP ++ [(i : Int)]) 0, _, _, _, _, rfl, fun a o ha => by rw [upd_ne (ne_of_none ha hfo)]; exact e5 _ _ (eH4 _ _ ha), hrest, by omega, upd_same, ?_, by rw [List.append_assoc]; exact hd⟩
      exact ((ay3.mono fun y v z => (z.over (e34.trans e5)).tk tk)).app (ay5.mono fun y v z => z.tk tk)

theorem ok_standp (T : Tx K mg a) : FnOk P w K mg base CX0 10 a.f_stand a.d_stand ["plan", "k"] spStandP := by
  have G_deeds_within := ok_deedsw (P := P) (w := w) (base := base) T 7
  refine T.F_stand.ok sc_stand (fun vs H Q E h => ?_) (fun cdv A outer s H vs Q E hr h => ?_)
  · obtain ⟨_, _, _, _, _, rfl, _⟩ := h; rfl
  obtain ⟨p, k, f, i, e0, rfl, hf, hdep, hlen, he0, hk0, hfirst, q⟩ := h
  refine ⟨_, (pss_cons (ps_for PassesOwn.never rfl (pi_list (pe_call G_deeds_within (hr.mono (by omega)) (by rfl) T.m_deeds_within T.F_deeds_within.kp T.b_deeds_within .nil pass0 (pa_cons (pv 0) (pa_cons (pe_tup pa_nil) (pa_cons (pe_tup pa_nil) pa_nil))))) (pg_tup rfl (pgs_cons (pg_name (i := 2) sc_stand.nd rfl (Or.inl rfl)) (pgs_cons (pg_name (i := 3) sc_stand.nd rfl (Or.inl rfl)) (pgs_cons (pg_name (i := 4) sc_stand.nd rfl (Or.inl rfl)) (pgs_cons (pg_name (i := 5) sc_stand.nd rfl (Or.inl rfl)) pgs_nil)))))
    (pss_one (ps_if (pt_cmpR op_eq (pv 2) (pv 1) (nomark _))
    (pss_one (ps_ret (pe_tup (pa_cons (pv 4) (pa_cons (pv 3) pa_nil)))))
    pss_nil)))
    (pss_one (ps_ret pe_non))), ?_⟩
  refine ⟨_, rfl, szl (by show 0 ≤ 1000000; decide), fun t1 ht1 => ⟨szl (by show 0 ≤ 1000000; decide), fun t2 ht2 => ?_⟩⟩
  have s1 := same_new ht1 (.tup [])
  have s2 := same_new ht2 (.tup [])
  have e2 := s1.trans s2
  refine ⟨p, t1, t2, f, [], [], rfl, hf.over e2, s2 _ _ upd_same, upd_same, hdep, by decide, by decide, hlen, fun l ys H3 e3 hl ay => ?_⟩
  have e23 := e2.trans e3
  have yl := ay.1
  have hi : i < ys.length := by rw [yl]; exact (List.getElem?_eq_some_iff.mp he0).1
  refine ⟨l, rfl, ⟨_, SqL.of hl⟩, ?_⟩
  refine for_list (xs := ys) (fun j σ' H' => H' = H3 ∧ j ≤ i ∧ ∃ o2 o3 o4 o5, σ' = [some (.ref p), some (.int k), o2, o3, o4, o5]) ⟨rfl, Nat.zero_le _, _, _, _, _, rfl⟩ (fun j σ' H' _ pp => by rw [pp.1]; exact SqL.of hl) (fun j x σ' H' hx pp => ?_) (fun σ' H' pp => ?_)
  · obtain ⟨rfl, hji, o2, o3, o4, o5, rfl⟩ := pp
    obtain ⟨en, hen, t, pl, pt, cu, rfl, ht, hpl, hpt⟩ := ay.get' hx
    refine ⟨t, _, rfl, SqT.of ht, rfl, _, _, rfl, _, _, rfl, _, _, rfl, _, _, rfl, rfl, ?_⟩
    refine ⟨_, rfl, _, rfl, rfl, _, rfl, ?_⟩
    by_cases c : j = i
    · subst c
      rw [he0] at hen
      cases hen
      refine iteE (v := true) (decide_eq_true (congrArg V.int hk0)) (iteT ?_)
      refine ⟨_, rfl, _, rfl, szl (by show 2 ≤ 1000000; decide), fun r hr => ?_⟩
      have s4 := same_new hr (.tup [V.ref pt, V.ref pl])
      exact q r pt pl _ (e23.trans s4) upd_same (s4 _ _ hpt) (hpl.over s4)
    · refine iteE (v := false) (decide_eq_false fun z => hfirst j en (by omega) hen (V.int.inj z)) (iteF ?_)
      exact ⟨rfl, by omega, _, _, _, _, rfl⟩
  · obtain ⟨_, h, _⟩ := pp
    omega

theorem ok_sww (T : Tx K mg a) : ∀ n : Nat, FnOk P w K mg base CX0 (n + 2) a.f_sweeps_within a.d_sweeps_within ["items", "path"] (spSweepsP n)
  | 0 => by
    have no : ∀ vs H Q E, ¬ spSweepsP 0 vs H Q E := fun vs H Q E h => by
      obtain ⟨it, pa, f, P', _, _, _, hd, _⟩ := h
      have := dep_pos f
      omega
    exact ⟨fun vs H Q E h => absurd h (no vs H Q E), fun A outer s H args us vs Q E _ _ _ _ h => absurd h (no vs H Q E)⟩
  | n + 1 => by
    have G_sweeps_within := ok_sww T n
    refine T.F_sweeps_within.ok sc_sweeps_within (fun vs H Q E h => ?_) (fun cdv A outer s H vs Q E hr h => ?_)
    · obtain ⟨_, _, _, _, rfl, _⟩ := h; rfl
    obtain ⟨it, pa, f, PP, rfl, ⟨xs, hit, hf⟩, hpa, hdep, pl, hlen, q⟩ := h
    refine ⟨_, (pss_cons (ps_set (i := 2) sc_sweeps_within.nd rfl (Or.inl rfl) (pe_lst pa_nil))
    (pss_cons (ps_for PassesOwn.never rfl (pi_enumT (by rfl) T.z_enumerate (pa_cons (pv 0) pa_nil)) (pg_tup rfl (pgs_cons (pg_name (i := 3) sc_sweeps_within.nd rfl (Or.inl rfl)) (pgs_cons (pg_name (i := 4) sc_sweeps_within.nd rfl (Or.inl rfl)) pgs_nil)))
    (pss_one (ps_if (pt_cmpR op_eq (pe_ix ix_tup (pv 4) pe_int (fun _ _ => rfl)) pe_str (nomark _))
    (pss_cons (ps_set (i := 5) sc_sweeps_within.nd rfl (Or.inl rfl) (pe_op op_catH (pv 1) (pe_tup (pa_cons (pv 3) pa_nil))))
    (pss_cons (ps_expr (pe_bm PySem.F.plainAttrs_list PySem.F.slot_list_append PySem.F.type_list_append mt_append (pv 2) (pa_cons (pe_tup (pa_cons (pv 5) (pa_cons (pe_ix ix_tup (pv 4) pe_int (fun _ _ => rfl)) (pa_cons (pe_ix ix_tup (pv 4) pe_int (fun _ _ => rfl)) pa_nil)))) pa_nil)))
    (pss_one (ps_expr (pe_bm PySem.F.plainAttrs_list PySem.F.slot_list_extend PySem.F.type_list_extend mt_extend (pv 2) (pa_cons (pe_call G_sweeps_within (hr.mono (by omega)) (by rfl) T.m_sweeps_within T.F_sweeps_within.kp T.b_sweeps_within .nil pass0 (pa_cons (pe_ix ix_tup (pv 4) pe_int (fun _ _ => rfl)) (pa_cons (pv 5) pa_nil))) pa_nil))))))
    pss_nil)))
    (pss_one (ps_ret (pv 2))))), ?_⟩
    refine ⟨szl (by show 0 ≤ 1000000; decide), fun fo hfo => ?_⟩
    have e1 := same_new hfo (.lst [])
    have hfo1 : (upd H fo (.lst [])) fo = some (.lst []) := upd_same
    generalize upd H fo (.lst []) = H1 at e1 hfo1
    refine ⟨_, rfl, it, rfl, ⟨_, SqT.of (e1 _ _ hit)⟩, ?_⟩
    refine for_enumT (xs := xs) (fun i σ' H' => ∃ (g : Frs) (done : List (Fo.Sw Str)) (ys : List V) (o4 o5 o6 : Option V), σ' = [some (.ref it), some (.ref pa), some (.ref fo), o4, o5, o6] ∧ Same H H' ∧ FoAt H (xs.drop i) g ∧ dep g ≤ n + 1 ∧ H' fo = some (.lst ys) ∧ All2 (SwAt H') ys done ∧ done ++ Fo.swF g PP i = Fo.swF f PP 0) ⟨f, [], [], _, _, _, rfl, e1, hf, hdep, hfo1, .nil, rfl⟩ (fun i σ' H' _ pp => by obtain ⟨_, _, _, _, _, _, _, e, _⟩ := pp; exact SqT.of (e _ _ hit)) (fun i x Tt σ' H' hx pp hT => ?_) (fun σ' H' pp => ?_)
    rotate_left
    · obtain ⟨g, done, ys, o4, o5, o6, rfl, e, hg, _, hy, ay, hd⟩ := pp
      have hz : xs.drop xs.length = [] := List.drop_eq_nil_of_le (Nat.le_refl _)
      rw [hz] at hg
      have gn : g = .nil := by
        cases g with
        | nil => rfl
        | leaf k pl r => obtain ⟨_, _, _, z, _⟩ := hg; cases z
        | node c w s r => obtain ⟨_, _, _, _, z, _⟩ := hg; cases z
      subst gn
      have : done = Fo.swF f PP 0 := by rw [← hd]; show done = done ++ []; rw [List.append_nil]
      rw [this] at ay
      exact ⟨_, rfl, q fo ys _ e hfo hy ay⟩
    obtain ⟨g, done, ys, o4, o5, o6, rfl, e, hg, gdep, hy, ay, hd⟩ := pp
    obtain ⟨hi, ex⟩ := List.getElem?_eq_some_iff.mp hx
    rw [List.drop_eq_getElem_cons hi, ex] at hg
    have tot := congrArg List.length hd
    rw [List.length_append] at tot
    have yl := ay.1
    have sT := same_new hT (.tup [V.int (i : Int), x])
    have e2 := e.trans sT
    have hy2 := sT _ _ hy
    have ay2 := ay.mono fun y v z => z.over sT
    refine ⟨Tt, _, rfl, SqT.of upd_same, rfl, _, _, rfl, _, _, rfl, rfl, ?_⟩
    generalize upd H' Tt (.tup [V.int (i : Int), x]) = H2 at e2 hy2 ay2
    cases g with
    | nil => cases hg
    | leaf k pl rest =>
      obtain ⟨t, pp, zs, z, ht, hpr, hrest⟩ := hg
      cases z
      change dep rest ≤ n + 1 at gdep
      change done ++ Fo.swF rest PP (i + 1) = Fo.swF f PP 0 at hd
      refine ⟨_, rfl, t, _, 0, _, rfl, rfl, SqT.of (e2 _ _ ht), rfl, rfl, _, rfl, iteE (v := false) (dS (by decide +kernel)) (iteF ?_)⟩
      exact ⟨rest, done, ys, _, _, _, rfl, e2, hrest, gdep, hy2, ay2, hd⟩
    | node c w sub rest =>
      obtain ⟨t, pp, zs, us, z, ht, hpp, hsub, hrest⟩ := hg
      cases z
      unfold dep at gdep
      change done ++ ((PP ++ [(i : Int)], c, w) :: (Fo.swF sub (PP ++ [(i : Int)]) 0 ++ Fo.swF rest PP (i + 1))) = Fo.swF f PP 0 at hd
      have tot' : done.length + (((Fo.swF sub (PP ++ [(i : Int)]) 0).length + (Fo.swF rest PP (i + 1)).length) + 1) = (Fo.swF f PP 0).length := by rw [← hd, List.length_append, List.length_cons, List.length_append]
      refine ⟨_, rfl, t, _, 0, _, rfl, rfl, SqT.of (e2 _ _ ht), rfl, rfl, _, rfl, iteE (v := true) (decide_eq_true rfl) (iteT ?_)⟩
      refine ⟨_, rfl, _, rfl, szl (by show 1 ≤ 1000000; decide), fun t1 ht1 => ?_⟩
      have s3 := same_new ht1 (.tup [V.int (i : Int)])
      refine ⟨pa, t1, _, [V.int (i : Int)], rfl, rfl, s3 _ _ (e2 _ _ hpa), upd_same, szl (by rw [List.length_map, List.length_singleton]; omega), fun he H3 e3 hhe => ?_⟩
      have hhe : H3 he = some (.tup ((PP ++ [(i : Int)]).map V.int)) := by rw [List.map_append]; exact hhe
      have e23 := s3.trans e3
      have eH3 := e2.trans e23
      have hy3 := e23 _ _ hy2
      have ay3 := ay2.mono fun y v z => z.over e23
      dsimp only [gName]
      clear s3 e3 sT
      refine ⟨_, rfl, .inl ⟨rfl, _, SqL.of hy3⟩, _, rfl, _, rfl, t, _, 1, _, rfl, rfl, SqT.of (eH3 _ _ ht), rfl, _, rfl, t, _, 2, _, rfl, rfl, SqT.of (eH3 _ _ ht), rfl, szl (by show 3 ≤ 1000000; decide), fun r hr => ?_⟩
      have s4 := same_new hr (.tup [V.ref he, V.bl c, V.str w])
      have nr : r ≠ fo := fun z => by rw [z, hy3] at hr; cases hr
      refine ⟨fo, _, _, rfl, rfl, s4 _ _ hy3, szlt (by omega), ?_⟩
      have tk := (Same.tk s4).trans (TK.upd (o := .lst (ys ++ [V.ref r])) (s4 _ _ hy3))
      have hhe4 := tk _ _ hhe
      have hfo4 : (upd (upd H3 r (.tup [V.ref he, V.bl c, V.str w])) fo (.lst (ys ++ [V.ref r]))) fo = some (.lst (ys ++ [V.ref r])) := upd_same
      have eH4 : Same H (upd (upd H3 r (.tup [V.ref he, V.bl c, V.str w])) fo (.lst (ys ++ [V.ref r]))) := fun a o ha => by rw [upd_ne (ne_of_none ha hfo)]; exact s4 _ _ (eH3 _ _ ha)
      have ay4 : All2 (SwAt (upd (upd H3 r (.tup [V.ref he, V.bl c, V.str w])) fo (.lst (ys ++ [V.ref r])))) (ys ++ [V.ref r]) (done ++ [(PP ++ [(i : Int)], c, w)]) := (ay3.mono fun y v z => z.tk tk).snoc ⟨r, he, rfl, by rw [upd_ne nr]; exact upd_same, hhe4⟩
      generalize upd (upd H3 r (.tup [V.ref he, V.bl c, V.str w])) fo (.lst (ys ++ [V.ref r])) = H4 at tk hhe4 hfo4 eH4 ay4
      refine ⟨_, rfl, .inl ⟨rfl, _, SqL.of hfo4⟩, _, rfl, t, _, 3, _, rfl, rfl, SqT.of (eH4 _ _ ht), rfl, _, rfl, ?_⟩
      refine ⟨pp, he, sub, PP ++ [(i : Int)], rfl, ⟨zs, eH4 _ _ hpp, FoAt.over eH4 hsub⟩, hhe4, by omega, by rw [List.length_append, List.length_singleton]; omega, by omega, fun rr ys2 H5 e5 _ hr5 ay5 => ?_⟩
      have yl5 := ay5.1
      have hy5 := e5 _ _ hfo4
      refine ⟨fo, rr, _, _, rfl, rfl, hy5, hr5, szl (by rw [List.length_append, List.length_singleton]; omega), ?_⟩
      have tk := TK.upd (o := .lst ((ys ++ [V.ref r]) ++ ys2)) hy5
      refine ⟨rest, (done ++ [(PP ++ [(i : Int)], c, w)]) ++ Fo.swF sub (PP ++ [(i : Int)]) 0, _, _, _, _, rfl, fun a o ha => by rw [upd_ne (ne_of_none ha hfo)]; exact e5 _ _ (eH4 _ _ ha), hrest, by omega, upd_same, ?_, by rw [← hd]; simp⟩
      exact ((ay4.mono fun y v z => (z.over e5).tk tk)).app (ay5.mono fun y v z => z.tk tk)

theorem ok_swo (T : Tx K mg a) : FnOk P w K mg base CX0 10 a.f_sweeps_of a.d_sweeps_of ["plan"] spSweepsOf := by
  have G_sweeps_within := ok_sww (P := P) (w := w) (base := base) T 7
  refine T.F_sweeps_of.ok sc_sweeps_of (fun vs H Q E h => ?_) (fun cdv A outer s H vs Q E hr h => ?_)
  · obtain ⟨_, _, rfl, _⟩ := h; rfl
  obtain ⟨p, f, rfl, hf, hdep, hlen, q⟩ := h
  refine ⟨_, (pss_one (ps_ret (pe_call G_sweeps_within (hr.mono (by omega)) (by rfl) T.m_sweeps_within T.F_sweeps_within.kp T.b_sweeps_within .nil pass0 (pa_cons (pv 0) (pa_cons (pe_tup pa_nil) pa_nil))))), ?_⟩
  refine ⟨_, rfl, szl (by show 0 ≤ 1000000; decide), fun t1 ht1 => ?_⟩
  have s1 := same_new ht1 (.tup [])
  exact ⟨p, t1, f, [], rfl, hf.over s1, upd_same, hdep, by decide, hlen, fun l ys H3 e3 hn hl ay => q l ys H3 (s1.trans e3) (s1.free hn) hl ay⟩

theorem ok_sweeps63 (T : Tx K mg a) : FnOk P w K mg base CX0 2 a.f_l_sweeps a.d_l_sweeps ["_law_script", "_law_first", "_law_depth", "_law_old", "_law_ways"] (spSweepsL K) := by
  have G_l_at := ok_at63 (P := P) (w := w) (base := base) T
  have G_l_digits := ok_digits (P := P) (w := w) (base := base) T
  refine T.F_l_sweeps.ok sc_l_sweeps (fun vs H Q E h => ?_) (fun cdv A outer s H vs Q E hr h => ?_)
  · obtain ⟨_, _, _, _, _, _, _, rfl, _⟩ := h; rfl
  obtain ⟨sc, old, wl, ns, first, n, ws0, rfl, hsc, f0, f1, n3, ⟨xs0, hold, hws0⟩, cut0, hwl, q⟩ := h
  refine ⟨_, (pss_cons (ps_set (i := 5) sc_l_sweeps.nd rfl (Or.inl rfl) (pe_lst pa_nil))
    (pss_cons (ps_set (i := 6) sc_l_sweeps.nd rfl (Or.inl rfl) (pv 2))
    (pss_cons (ps_set (i := 7) sc_l_sweeps.nd rfl (Or.inl rfl) pe_int)
    (pss_cons (ps_for PassesOwn.never rfl (pi_list (pv 3)) (pg_name (i := 8) sc_l_sweeps.nd rfl (Or.inl rfl))
    (pss_cons (ps_if ((pw_and (pt_cmpR op_eq (pv 6) pe_int (nomark _)) (pw_and1 (pt_not (pt_val (pe_ix ix_tup (pv 8) pe_int (fun _ _ => rfl))))))).pt
    (pss_one ps_break)
    pss_nil)
    (pss_cons (ps_expr (pe_bm PySem.F.plainAttrs_list PySem.F.slot_list_append PySem.F.type_list_append mt_append (pv 5) (pa_cons (pv 8) pa_nil)))
    (pss_cons (ps_set (i := 6) sc_l_sweeps.nd rfl (Or.inl rfl) (pe_op op_sub (pv 6) (pe_callTy call_int1 (by rfl) T.z_int bt_int (pa_cons (pe_not (pe_ix ix_tup (pv 8) pe_int (fun _ _ => rfl))) pa_nil))))
    (pss_one (ps_set (i := 7) sc_l_sweeps.nd rfl (Or.inl rfl) (pe_op op_add (pv 7) (pe_callTy call_int1 (by rfl) T.z_int bt_int (pa_cons (pe_ix ix_tup (pv 8) pe_int (fun _ _ => rfl)) pa_nil)))))))))
    (pss_cons (ps_set (i := 9) sc_l_sweeps.nd rfl (Or.inl rfl) (pe_callB call_len_seq (by rfl) T.z_len bt_len (pa_cons (pv 5) pa_nil)))
    (pss_cons (ps_set (i := 10) sc_l_sweeps.nd rfl (Or.inl rfl) (pe_cmpR op_gt (pv 6) pe_int (nomark _)))
    (pss_cons (ps_while PassesOwn.never (pt_val (pv 10))
    (pss_cons (ps_asg (pe_call G_l_digits (hr.mono (by omega)) (by rfl) T.m_l_digits T.F_l_digits.kp T.b_l_digits .nil pass0 (pa_cons (pe_call G_l_at (hr.mono (by omega)) (by rfl) T.m_l_at T.F_l_at.kp T.b_l_at .nil pass0 (pa_cons (pv 0) (pa_cons (pe_op op_add (pv 1) (pe_callB call_len_seq (by rfl) T.z_len bt_len (pa_cons (pv 5) pa_nil))) pa_nil))) (pa_cons (pe_lst (pa_cons pe_int (pa_cons pe_int pa_nil))) pa_nil))) (pg_lst rfl (pgs_cons (pg_name (i := 11) sc_l_sweeps.nd rfl (Or.inl rfl)) (pgs_cons (pg_name (i := 12) sc_l_sweeps.nd rfl (Or.inl rfl)) pgs_nil))))
    (pss_cons (ps_set (i := 12) sc_l_sweeps.nd rfl (Or.inl rfl) (pe_and (pe_cmpR op_lt (pv 7) pe_int (nomark _)) (pe_one (pe_or (pe_cmpR op_eq (pv 6) pe_int (nomark _)) (pe_one (pe_cmpR op_eq (pv 12) pe_int (nomark _)))))))
    (pss_cons (ps_expr (pe_bm PySem.F.plainAttrs_list PySem.F.slot_list_append PySem.F.type_list_append mt_append (pv 5) (pa_cons (pe_tup (pa_cons (pv 12) (pa_cons (pe_ix ix_list (pv 4) (pe_op op_mod (pv 11) (pe_callB call_len_seq (by rfl) T.z_len bt_len (pa_cons (pv 4) pa_nil))) (fun _ _ => rfl)) pa_nil))) pa_nil)))
    (pss_cons (ps_set (i := 6) sc_l_sweeps.nd rfl (Or.inl rfl) (pe_op op_sub (pv 6) (pe_callTy call_int1 (by rfl) T.z_int bt_int (pa_cons (pe_not (pv 12)) pa_nil))))
    (pss_cons (ps_set (i := 7) sc_l_sweeps.nd rfl (Or.inl rfl) (pe_op op_add (pv 7) (pe_callTy call_int1 (by rfl) T.z_int bt_int (pa_cons (pv 12) pa_nil))))
    (pss_one (ps_set (i := 10) sc_l_sweeps.nd rfl (Or.inl rfl) (pe_or (pe_cmpR op_gt (pv 6) pe_int (nomark _)) (pe_one (pe_and (pe_cmpR op_lt (pv 7) pe_int (nomark _)) (pe_one (pe_cmpR op_eq (pe_op op_mod (pe_op op_fdiv (pe_call G_l_at (hr.mono (by omega)) (by rfl) T.m_l_at T.F_l_at.kp T.b_l_at .nil pass0 (pa_cons (pv 0) (pa_cons (pe_op op_add (pv 1) (pe_callB call_len_seq (by rfl) T.z_len bt_len (pa_cons (pv 5) pa_nil))) pa_nil))) pe_int) pe_int) pe_int (nomark _))))))))))))))
    (pss_one (ps_ret (pe_tup (pa_cons (pv 9) (pa_cons (pv 5) pa_nil)))))))))))), ?_⟩
  have xl := hws0.1
  have hw3 : (wys.length : Int) = 3 := rfl
  refine ⟨szl (by show 0 ≤ 1000000; decide), fun sw hsw => ?_⟩
  have e1 := same_new hsw (.lst [])
  have hsw1 : (upd H sw (.lst [])) sw = some (.lst []) := upd_same
  dsimp only [gName]
  generalize upd H sw (.lst []) = H1 at e1 hsw1
  refine ⟨_, rfl, ?_⟩
  dsimp only [gName]
  refine seq_asgC ?_
  refine seq_any (fun σ' H' => ∃ (i : Nat) (o8 : Option V), i ≤ ws0.length ∧ σ' = [some (.ref sc), some (.int first), some (.int (n : Int)), some (.ref old), some (.ref wl), some (.ref sw), some (.int ((n : Int) - (whoN (ws0.take i) : Int))), some (.int (cutN (ws0.take i) : Int)), o8, none, none, none, none] ∧ Same H H' ∧ H' sw = some (.lst (xs0.take i)) ∧ All2 (WayAt H') (xs0.take i) (ws0.take i) ∧ whoN (ws0.take i) ≤ n) (fun σ' H' pp => ?_) (fun nx => ?_)
  rotate_left
  · refine ⟨_, rfl, old, rfl, ⟨_, SqL.of (e1 _ _ hold)⟩, ?_⟩
    refine for_list (xs := xs0) (fun i σ' H' => ∃ (o8 : Option V), σ' = [some (.ref sc), some (.int first), some (.int (n : Int)), some (.ref old), some (.ref wl), some (.ref sw), some (.int ((n : Int) - (whoN (ws0.take i) : Int))), some (.int (cutN (ws0.take i) : Int)), o8, none, none, none, none] ∧ Same H H' ∧ H' sw = some (.lst (xs0.take i)) ∧ All2 (WayAt H') (xs0.take i) (ws0.take i) ∧ whoN (ws0.take i) ≤ n) ⟨_, by rw [show ((n : Int) - (whoN (ws0.take 0) : Int)) = (n : Int) by show ((n : Int) - ((0 : Nat) : Int)) = _; omega]; rfl, e1, hsw1, .nil, Nat.zero_le _⟩ (fun i σ' H' _ pp => by obtain ⟨_, _, e, _⟩ := pp; exact SqL.of (e _ _ hold)) (fun i x σ' H' hx pp => ?_) (fun σ' H' pp => by
      obtain ⟨o8, rfl, e, h1, h2, h3⟩ := pp
      exact nx _ _ ⟨xs0.length, o8, by omega, rfl, e, h1, h2, h3⟩)
    obtain ⟨o8, rfl, e, hs, hay, hle⟩ := pp
    have hix := (List.getElem?_eq_some_iff.mp hx).1
    obtain ⟨w0, hw0, t, rfl, ht⟩ := hws0.get' hx
    have hiw := (List.getElem?_eq_some_iff.mp hw0).1
    have tl : (xs0.take i).length = i := by rw [List.length_take]; omega
    dsimp only [gName]
    refine seq_any (fun σ2 H2 => σ2 = [some (.ref sc), some (.int first), some (.int (n : Int)), some (.ref old), some (.ref wl), some (.ref sw), some (.int ((n : Int) - (whoN (ws0.take i) : Int))), some (.int (cutN (ws0.take i) : Int)), some (.ref t), none, none, none, none] ∧ H2 = H' ∧ (w0.1 = false → whoN (ws0.take i) < n)) (fun σ2 H2 pp => ?_) (fun nx2 => ?_)
    rotate_left
    · refine ⟨_, rfl, rfl, _, rfl, ?_⟩
      refine ite2 (fun c => ?_) (fun c => nx2 _ _ ⟨rfl, rfl, fun _ => ?_⟩)
      · refine ⟨_, rfl, t, _, 0, _, rfl, rfl, SqT.of (e _ _ ht), rfl, _, rfl, ?_⟩
        cases hb : w0.1 with
        | true => exact iteF (nx2 _ _ ⟨rfl, rfl, fun z => by rw [hb] at z; cases z⟩)
        | false => exact iteT (nx _ _ ⟨i, _, by omega, rfl, e, hs, hay, hle⟩)
      · have : ¬ ((n : Int) - (whoN (ws0.take i) : Int) = 0) := fun z => c (decide_eq_true (congrArg V.int z))
        omega
    obtain ⟨rfl, rfl, hlt⟩ := pp
    refine ⟨_, rfl, .inl ⟨rfl, _, SqL.of hs⟩, _, rfl, sw, _, _, rfl, rfl, hs, szlt (by rw [tl]; have := cnt_len (ws0.take i); have := cut_take ws0 i; rw [List.length_take] at *; omega), ?_⟩
    have ex : xs0.take (i + 1) = xs0.take i ++ [V.ref t] := take_snoc hx
    have ew : ws0.take (i + 1) = ws0.take i ++ [w0] := take_snoc hw0
    have tk := TK.upd (o := .lst (xs0.take i ++ [V.ref t])) hs
    have htu : (upd H2 sw (.lst (xs0.take i ++ [V.ref t]))) t = some (.tup [.bl w0.1, .str w0.2]) := tk _ _ (e _ _ ht)
    refine ⟨_, rfl, _, rfl, t, _, 0, _, rfl, rfl, SqT.of htu, rfl, _, rfl, .inr ⟨_, rfl, _, _, rfl, rfl, ?_⟩⟩
    dsimp only [gName]
    refine ⟨_, rfl, _, rfl, t, _, 0, _, rfl, rfl, SqT.of htu, rfl, .inr ⟨_, rfl, _, _, rfl, rfl, ?_⟩⟩
    have c1 := cut_snoc (ws0.take i) w0
    have c2 := who_snoc (ws0.take i) w0
    rw [← ew] at c1 c2
    refine ⟨some (.ref t), ?_, fun a o ha => by rw [upd_ne (ne_of_none ha hsw)]; exact e _ _ ha, by rw [ex]; exact upd_same, ?_, ?_⟩
    · have i1 : (n : Int) - (whoN (ws0.take i) : Int) - (if (!w0.1) = true then 1 else 0) = (n : Int) - (whoN (ws0.take (i + 1)) : Int) := by
        rw [c2]; cases w0.1 <;> simp <;> omega
      have i2 : (cutN (ws0.take i) : Int) + (if w0.1 = true then 1 else 0) = (cutN (ws0.take (i + 1)) : Int) := by
        rw [c1]; cases w0.1 <;> simp
      rw [← i1, ← i2]
      rfl
    · rw [ex, ew]
      exact (hay.mono fun y v z => z.tk tk).snoc ⟨t, rfl, htu⟩
    · cases hb : w0.1 with
      | true => rw [hb] at c2; have : whoN (ws0.take (i + 1)) = whoN (ws0.take i) := c2; omega
      | false => rw [hb] at c2; have : whoN (ws0.take (i + 1)) = whoN (ws0.take i) + 1 := c2; have := hlt hb; omega
  obtain ⟨sh, o8, hsh, rfl, e, hs, hay, hle⟩ := pp
  have tl : (xs0.take sh).length = sh := by rw [List.length_take]; omega
  have twl : (ws0.take sh).length = sh := by rw [List.length_take]; omega
  have c3 := cut_take ws0 sh
  refine ⟨_, rfl, sw, _, rfl, .inl (SqL.of hs), ?_⟩
  dsimp only [gName]
  refine ⟨_, rfl, _, _, rfl, rfl, ?_⟩
  dsimp only [gName]
  rw [tl]
  refine seq_any (fun σ' H' => ∃ (xs : List V) (ws : List Way) (o6 o7 o8 o10 o11 o12 : Option V), σ' = [some (.ref sc), some (.int first), some (.int (n : Int)), some (.ref old), some (.ref wl), some (.ref sw), o6, o7, o8, some (.int (sh : Int)), o10, o11, o12] ∧ Same H H' ∧ H' sw = some (.lst xs) ∧ All2 (WayAt H') xs ws ∧ whoN ws = n ∧ cutN ws ≤ 3 ∧ sh ≤ ws.length ∧ ws.take sh = ws0.take sh ∧ (n = 0 → ws0 = [] → ws = [])) (fun σ' H2 pp => ?_) (fun nx => ?_)
  · obtain ⟨xs, ws, o6, o7, o8, o10, o11, o12, rfl, e2, hs2, ay, h1, h2, h3, h4, h5⟩ := pp
    refine ⟨_, rfl, _, rfl, szl (by show 2 ≤ 1000000; decide), fun r hr' => ?_⟩
    have s3 := same_new hr' (.tup [V.int (sh : Int), V.ref sw])
    exact q r sw _ sh ws (e2.trans s3) hsw upd_same ⟨xs, s3 _ _ hs2, ay.mono fun y v z => z.over s3⟩ hsh h3 h4 h2 h1 h5
  refine while_ix 7 (fun j σ' H' => ∃ (xs : List V) (ws : List Way) (mb : Bool) (o8 o11 o12 : Option V), σ' = [some (.ref sc), some (.int first), some (.int (n : Int)), some (.ref old), some (.ref wl), some (.ref sw), some (.int ((n : Int) - (whoN ws : Int))), some (.int (cutN ws : Int)), o8, some (.int (sh : Int)), some (.bl mb), o11, o12] ∧ Same H H' ∧ H' sw = some (.lst xs) ∧ All2 (WayAt H') xs ws ∧ whoN ws ≤ n ∧ cutN ws ≤ 3 ∧ sh ≤ ws.length ∧ ws.take sh = ws0.take sh ∧ (mb = true → whoN ws < n ∨ cutN ws < 3) ∧ (mb = false → whoN ws = n) ∧ j ≤ ws.length ∧ (n = 0 → ws0 = [] → ws = [] ∧ mb = false)) ⟨_, ws0.take sh, _, _, _, _, rfl, e, hs, hay, hle, by omega, by omega, by rw [List.take_take, Nat.min_self], fun z => .inl (by have := dT z; omega), fun z => by have := of_decide_eq_false z; omega, Nat.zero_le _, fun z1 z2 => ⟨by rw [z2]; exact List.take_nil, decide_eq_false (by omega)⟩⟩ (fun j σ' H' hj pp => ?_) (MT.b (ME.var _))
  obtain ⟨xs, ws, mb, o8, o11, o12, rfl, e, hs, hay, hwn, hc3, hsl, htk, m1, m2, hj2, hz0⟩ := pp
  refine ⟨_, rfl, _, rfl, ?_⟩
  have wlen := cnt_len ws
  have xl := hay.1
  cases mb with
  | false => exact iteF (nx _ _ ⟨xs, ws, _, _, _, _, _, _, rfl, e, hs, hay, m2 rfl, hc3, hsl, htk, fun z1 z2 => (hz0 z1 z2).1⟩)
  | true =>
    have m1 := m1 rfl
    have hz0 : n = 0 → ws0 = [] → False := fun z1 z2 => by have := (hz0 z1 z2).2; cases this
    refine iteT ⟨by omega, ?_⟩
    refine ⟨_, rfl, _, rfl, _, rfl, sw, _, rfl, .inl (SqL.of hs), _, _, rfl, rfl, sc, ns, first + (xs.length : Int), rfl, e.seq hsc, by omega, by omega, fun m m0 _ => ?_⟩
    refine ⟨szl (by show 2 ≤ 1000000; decide), fun dl hdl => ?_⟩
    have s3 := same_new hdl (.lst [V.int 3, V.int 2])
    refine ⟨m, dl, [3, 2], rfl, upd_same, m0, by decide, by decide, fun r H3 ds e3 hr3 dsl db => ?_⟩
    have e23 := s3.trans e3
    have eH3 := e.trans e23
    have hs3 := e23 _ _ hs
    have ay3 := hay.mono fun y v z => z.over e23
    obtain ⟨d0, d1, rfl⟩ : ∃ d0 d1, ds = [d0, d1] := by
      match ds, dsl with
      | [x, y], _ => exact ⟨x, y, rfl⟩
    have b0 := db 0 d0 3 rfl rfl
    refine ⟨r, _, rfl, hr3, rfl, _, _, rfl, _, _, rfl, rfl, ?_⟩
    dsimp only [gName]
    refine seq_any (fun σ' H' => H' = H3 ∧ ∃ kb : Bool, σ' = [some (.ref sc), some (.int first), some (.int (n : Int)), some (.ref old), some (.ref wl), some (.ref sw), some (.int ((n : Int) - (whoN ws : Int))), some (.int (cutN ws : Int)), o8, some (.int (sh : Int)), some (.bl true), some (.int d0), some (.bl kb)] ∧ (kb = false → whoN ws < n) ∧ (kb = true → cutN ws < 3)) (fun σ' H' pp => ?_) (fun nx2 => ?_)
    rotate_left
    · refine ⟨_, rfl, _, _, rfl, rfl, _, rfl, ?_⟩
      refine ite2 (fun c => ?_) (fun c => nx2 _ _ ⟨rfl, false, rfl, fun _ => ?_, fun z => by cases z⟩)
      · have c := dT c
        have c : cutN ws < 3 := by omega
        refine ⟨_, rfl, rfl, _, rfl, ?_⟩
        refine ite2 (fun c2 => nx2 _ _ ⟨rfl, true, rfl, (fun z => by cases z), fun _ => c⟩) (fun c2 => ?_)
        have c2 : ¬ ((n : Int) - (whoN ws : Int) = 0) := fun z => c2 (decide_eq_true (congrArg V.int z))
        exact ⟨_, rfl, rfl, nx2 _ _ ⟨rfl, _, rfl, fun _ => by omega, fun _ => c⟩⟩
      · have c := dF c
        omega
    obtain ⟨rfl, kb, rfl, k1, k2⟩ := pp
    obtain ⟨wyS, hat⟩ := way_pick (i := d0 % (wys.length : Int)) (by rw [hw3]; omega) (by rw [hw3]; omega)
    refine ⟨_, rfl, .inl ⟨rfl, _, SqL.of hs3⟩, _, rfl, _, rfl, _, rfl, _, rfl, wl, _, rfl, .inl (SqL.of (eH3 _ _ hwl)), _, _, rfl, rfl, (by show (0 : Int) < (wys.length : Int); decide), wl, _, _, _, rfl, rfl, SqL.of (eH3 _ _ hwl), hat, szl (by show 2 ≤ 1000000; decide), fun t ht => ?_⟩
    have s4 := same_new ht (.tup [V.bl kb, V.str wyS])
    have hs4 := s4 _ _ hs3
    have nt : t ≠ sw := fun z => by rw [z, hs3] at ht; cases ht
    refine ⟨sw, _, _, rfl, rfl, hs4, szlt (by omega), ?_⟩
    have tk := TK.upd (o := .lst (xs ++ [V.ref t])) hs4
    have ht5 : (upd (upd H' t (.tup [V.bl kb, V.str wyS])) sw (.lst (xs ++ [V.ref t]))) t = some (.tup [V.bl kb, V.str wyS]) := by rw [upd_ne nt]; exact upd_same
    have hs5 : (upd (upd H' t (.tup [V.bl kb, V.str wyS])) sw (.lst (xs ++ [V.ref t]))) sw = some (.lst (xs ++ [V.ref t])) := upd_same
    have e5 : Same H (upd (upd H' t (.tup [V.bl kb, V.str wyS])) sw (.lst (xs ++ [V.ref t]))) := fun a o ha => by rw [upd_ne (ne_of_none ha hsw)]; exact s4 _ _ (eH3 _ _ ha)
    have ay5 : All2 (WayAt (upd (upd H' t (.tup [V.bl kb, V.str wyS])) sw (.lst (xs ++ [V.ref t])))) (xs ++ [V.ref t]) (ws ++ [(kb, wyS)]) := (ay3.mono fun y v z => (z.over s4).tk tk).snoc ⟨t, rfl, ht5⟩
    generalize upd (upd H' t (.tup [V.bl kb, V.str wyS])) sw (.lst (xs ++ [V.ref t])) = H5 at ht5 hs5 e5 ay5
    have c1 := cut_snoc ws (kb, wyS)
    have c2 := who_snoc ws (kb, wyS)
    have i1 : (n : Int) - (whoN ws : Int) - (if (!kb) = true then 1 else 0) = (n : Int) - (whoN (ws ++ [(kb, wyS)]) : Int) := by
      rw [c2]; cases kb <;> simp <;> omega
    have i2 : (cutN ws : Int) + (if kb = true then 1 else 0) = (cutN (ws ++ [(kb, wyS)]) : Int) := by
      rw [c1]; cases kb <;> simp
    have hwn' : whoN (ws ++ [(kb, wyS)]) ≤ n := by
      cases kb with
      | true => have : whoN (ws ++ [(true, wyS)]) = whoN ws := c2; omega
      | false => have : whoN (ws ++ [(false, wyS)]) = whoN ws + 1 := c2; have := k1 rfl; omega
    have hcn' : cutN (ws ++ [(kb, wyS)]) ≤ 3 := by
      cases kb with
      | false => have : cutN (ws ++ [(false, wyS)]) = cutN ws := c1; omega
      | true => have : cutN (ws ++ [(true, wyS)]) = cutN ws + 1 := c1; have := k2 rfl; omega
    refine ⟨_, rfl, _, rfl, _, rfl, .inr ⟨_, rfl, _, _, rfl, rfl, ?_⟩⟩
    dsimp only [gName]
    refine ⟨_, rfl, _, rfl, .inr ⟨_, rfl, _, _, rfl, rfl, ?_⟩⟩
    dsimp only [gName]
    rw [i1, i2]
    have l1 : (ws ++ [(kb, wyS)]).length = ws.length + 1 := by rw [List.length_append, List.length_singleton]
    have tk' : (ws ++ [(kb, wyS)]).take sh = ws0.take sh := by rw [List.take_append_of_le_length hsl, htk]
    generalize ws ++ [(kb, wyS)] = ws2 at i1 i2 ay5 hwn' hcn' l1 tk' c1 c2
    refine ⟨_, rfl, _, _, rfl, rfl, _, rfl, ?_⟩
    refine ite2 (fun c => ?_) (fun c => ?_)
    · have c := dT c
      exact ⟨_, ws2, true, _, _, _, rfl, e5, hs5, ay5, hwn', hcn', by omega, tk', fun _ => .inl (by omega), (fun z => by cases z), by omega, fun z1 z2 => (hz0 z1 z2).elim⟩
    have c := dF c
    refine ⟨_, rfl, _, _, rfl, rfl, _, rfl, ?_⟩
    refine ite2 (fun c3 => ?_) (fun c3 => ⟨_, ws2, false, _, _, _, rfl, e5, hs5, ay5, hwn', hcn', by omega, tk', (fun z => by cases z), fun _ => by omega, by omega, fun z1 z2 => (hz0 z1 z2).elim⟩)
    have c3 := dT c3
    refine ⟨_, rfl, _, rfl, _, rfl, sw, _, rfl, .inl (SqL.of hs5), _, _, rfl, rfl, sc, ns, first + ((xs ++ [V.ref t]).length : Int), rfl, e5.seq hsc, by omega, by rw [List.length_append, List.length_singleton]; omega, fun m' _ _ => ?_⟩
    exact ⟨_, _, rfl, rfl, ⟨by decide, by decide⟩, _, _, rfl, rfl, (by show (0 : Int) < 5; decide), rfl, _, ws2, _, _, _, _, rfl, e5, hs5, ay5, hwn', hcn', by omega, tk', fun _ => .inr (by omega), fun _ => by omega, by omega, fun z1 z2 => (hz0 z1 z2).elim⟩

theorem ok_places63 (T : Tx K mg a) : FnOk P w K mg base CX0 2 a.f_l_places a.d_l_places ["_law_script", "_law_first", "_law_sweeps_here", "_law_loops", "_law_far"] (spPlacesL K) := by
  have G_l_at := ok_at63 (P := P) (w := w) (base := base) T
  have G_l_digits := ok_digits (P := P) (w := w) (base := base) T
  refine T.F_l_places.ok sc_l_places (fun vs H Q E h => ?_) (fun cdv A outer s H vs Q E hr h => ?_)
  · obtain ⟨_, _, _, _, _, _, _, rfl, _⟩ := h; rfl
  obtain ⟨sc, sw, lo, ns, L, first, ws, rfl, hsc, f0, f1, ⟨xs, hsw, hws⟩, wl, hlo, L3, who, hne, q⟩ := h
  refine ⟨_, (pss_cons (ps_set (i := 5) sc_l_places.nd rfl (Or.inl rfl) (pe_lst pa_nil))
    (pss_cons (ps_set (i := 6) sc_l_places.nd rfl (Or.inl rfl) (pe_callTy call_list_of (by rfl) T.z_list bt_list (pa_cons (pv 3) pa_nil)))
    (pss_cons (ps_for PassesOwn.never rfl (pi_enum (by rfl) T.z_enumerate (pa_cons (pv 2) pa_nil)) (pg_tup rfl (pgs_cons (pg_name (i := 7) sc_l_places.nd rfl (Or.inl rfl)) (pgs_cons (pg_name (i := 8) sc_l_places.nd rfl (Or.inl rfl)) pgs_nil)))
    (pss_cons (ps_set (i := 9) sc_l_places.nd rfl (Or.inl rfl) (pe_call G_l_at (hr.mono (by omega)) (by rfl) T.m_l_at T.F_l_at.kp T.b_l_at .nil pass0 (pa_cons (pv 0) (pa_cons (pe_op op_add (pv 1) (pv 7)) pa_nil))))
    (pss_cons (ps_asg (pe_call G_l_digits (hr.mono (by omega)) (by rfl) T.m_l_digits T.F_l_digits.kp T.b_l_digits .nil pass0 (pa_cons (pe_op op_fdiv (pv 9) pe_int) (pa_cons (pe_lst (pa_cons pe_int (pa_cons pe_int (pa_cons pe_int pa_nil)))) pa_nil))) (pg_lst rfl (pgs_cons (pg_name (i := 10) sc_l_places.nd rfl (Or.inl rfl)) (pgs_cons (pg_name (i := 11) sc_l_places.nd rfl (Or.inl rfl)) (pgs_cons (pg_name (i := 12) sc_l_places.nd rfl (Or.inl rfl)) pgs_nil)))))
    (pss_cons (ps_set (i := 13) sc_l_places.nd rfl (Or.inl rfl) (pe_op op_sub (pv 11) pe_int))
    (pss_cons (ps_if ((pw_and (pt_val (pv 4)) (pw_and1 (pt_cmpR op_eq (pv 12) pe_int (nomark _))))).pt
    (pss_one (ps_set (i := 13) sc_l_places.nd rfl (Or.inl rfl) (pe_op op_sub (pe_op op_mod (pe_op op_mul (pv 9) pe_int) (pe_op op_add (pe_op op_mul pe_int (pe_op op_pow pe_int pe_int)) pe_int)) (pe_op op_pow pe_int pe_int))))
    pss_nil)
    (pss_cons (ps_if ((pw_and (pt_val (pv 4)) (pw_and1 (pt_cmpR op_eq (pv 12) pe_int (nomark _))))).pt
    (pss_one (ps_set (i := 13) sc_l_places.nd rfl (Or.inl rfl) (pe_op op_mul (pe_op op_pow pe_int pe_int) (pe_op op_sub pe_int (pe_op op_mul (pe_op op_mod (pv 11) pe_int) pe_int)))))
    pss_nil)
    (pss_cons (ps_set (i := 14) sc_l_places.nd rfl (Or.inl rfl) (pe_ix ix_list (pv 3) (pe_op op_mod (pv 10) (pe_callB call_len_seq (by rfl) T.z_len bt_len (pa_cons (pv 3) pa_nil))) (fun _ _ => rfl)))
    (pss_cons (ps_if (pt_not (pt_val (pe_ix ix_tup (pv 8) pe_int (fun _ _ => rfl))))
    (pss_one (ps_set (i := 14) sc_l_places.nd rfl (Or.inl rfl) (pe_bm PySem.F.plainAttrs_list PySem.F.slot_list_pop PySem.F.type_list_pop mt_popAt (pv 6) (pa_cons pe_int pa_nil))))
    pss_nil)
    (pss_one (ps_expr (pe_bm PySem.F.plainAttrs_list PySem.F.slot_list_append PySem.F.type_list_append mt_append (pv 5) (pa_cons (pe_tup (pa_cons (pv 14) (pa_cons (pv 13) pa_nil))) pa_nil))))))))))))
    (pss_one (ps_ret (pe_callTy call_tuple_of (by rfl) T.z_tuple bt_tuple (pa_cons (pv 5) pa_nil))))))), ?_⟩
  have xl := hws.1
  refine ⟨szl (by show 0 ≤ 1000000; decide), fun pl hpl => ?_⟩
  have e1 := same_new hpl (.lst [])
  have hpl1 : (upd H pl (.lst [])) pl = some (.lst []) := upd_same
  dsimp only [gName]
  generalize upd H pl (.lst []) = H1 at e1 hpl1
  refine ⟨_, rfl, lo, _, rfl, .inl (SqL.of (e1 _ _ hlo)), fun le hle => ?_⟩
  have s2 := same_new hle (.lst (L.map V.int))
  have hle2 : (upd H1 le (.lst (L.map V.int))) le = some (.lst (L.map V.int)) := upd_same
  have hpl2 := s2 _ _ hpl1
  have e2 := e1.trans s2
  have nlp : le ≠ pl := fun z => by rw [z, hpl1] at hle; cases hle
  have hle0 := e1.free hle
  dsimp only [gName]
  generalize upd H1 le (.lst (L.map V.int)) = H2 at e2 hpl2 hle2
  refine ⟨_, rfl, sw, rfl, ⟨_, SqL.of (e2 _ _ hsw)⟩, ?_⟩
  refine for_enum (xs := xs) (fun i σ' H' => ∃ (L' : List Int) (ys : List V) (ps : List (Int × Int)) (o7 o8 o9 o10 o11 o12 o13 o14 : Option V), σ' = [some (.ref sc), some (.int first), some (.ref sw), some (.ref lo), some (.bl true), some (.ref pl), some (.ref le), o7, o8, o9, o10, o11, o12, o13, o14] ∧ Same H H' ∧ H' pl = some (.lst ys) ∧ H' le = some (.lst (L'.map V.int)) ∧ All2 (PrAt H') ys ps ∧ ps.length = i ∧ whoN (ws.drop i) ≤ L'.length) ⟨L, [], [], _, _, _, _, _, _, _, _, rfl, e2, hpl2, hle2, .nil, rfl, by rw [List.drop_zero]; exact who⟩ (fun i σ' H' _ pp => by obtain ⟨_, _, _, _, _, _, _, _, _, _, _, _, e, _⟩ := pp; exact SqL.of (e _ _ hsw)) (fun i x Tt σ' H' hx pp hT => ?_) (fun σ' H' pp => ?_)
  rotate_left
  · obtain ⟨L', ys, ps, o7, o8, o9, o10, o11, o12, o13, o14, rfl, e, hy, hl, ay, pl', _⟩ := pp
    have sz := ay.1
    refine ⟨_, rfl, pl, _, rfl, .inl ⟨SqL.of hy, fun r hr' => ?_⟩⟩
    have s3 := same_new hr' (.tup ys)
    exact q r _ ps (e.trans s3) (e.free hr') ⟨ys, upd_same, ay.mono fun y v z => z.over s3⟩ (by omega)
  obtain ⟨L', ys, ps, o7, o8, o9, o10, o11, o12, o13, o14, rfl, e, hy, hl, ay, pl', hwho⟩ := pp
  obtain ⟨wy, hwy, t, rfl, ht⟩ := hws.get' hx
  have hi := (List.getElem?_eq_some_iff.mp hwy).1
  have hLne : L ≠ [] := hne fun z => by rw [z] at hi; cases hi
  have Lpos : 0 < L.length := List.length_pos_iff.mpr hLne
  have yl := ay.1
  have sT := same_new hT (.tup [V.int (i : Int), V.ref t])
  have e2 := e.trans sT
  have hy2 := sT _ _ hy
  have hl2 := sT _ _ hl
  have ay2 := ay.mono fun y v z => z.over sT
  refine ⟨Tt, _, rfl, SqT.of upd_same, rfl, _, _, rfl, _, _, rfl, rfl, ?_⟩
  generalize upd H' Tt (.tup [V.int (i : Int), V.ref t]) = H2 at e2 hy2 ay2 hl2
  dsimp only [gName]
  refine ⟨_, rfl, _, rfl, _, rfl, _, _, rfl, rfl, sc, ns, first + (i : Int), rfl, e2.seq hsc, by omega, by omega, fun m m0 m1 => ?_⟩
  dsimp only [gName]
  refine ⟨_, rfl, _, _, rfl, rfl, ⟨by decide, by decide⟩, szl (by show 3 ≤ 1000000; decide), fun dl hdl => ?_⟩
  have s3 := same_new hdl (.lst [V.int 3, V.int 5, V.int 6])
  refine ⟨m / 30, dl, [3, 5, 6], rfl, upd_same, Int.ediv_nonneg m0 (by decide), by decide, by decide, fun r H3 ds e3 hr3 dsl db => ?_⟩
  have e23 := s3.trans e3
  have eH3 := e2.trans e23
  have hy3 := e23 _ _ hy2
  have hl3 := e23 _ _ hl2
  have ay3 := ay2.mono fun y v z => z.over e23
  obtain ⟨d0, d1, d2, rfl⟩ : ∃ d0 d1 d2, ds = [d0, d1, d2] := by
    match ds, dsl with
    | [x, y, z], _ => exact ⟨x, y, z, rfl⟩
  have b0 := db 0 d0 3 rfl rfl
  have b1 := db 1 d1 5 rfl rfl
  refine ⟨r, _, rfl, hr3, rfl, _, _, rfl, _, _, rfl, _, _, rfl, rfl, ?_⟩
  dsimp only [gName]
  refine ⟨_, rfl, _, _, rfl, rfl, ?_⟩
  dsimp only [gName]
  have p64 : (2 : Int) ^ 64 = 18446744073709551616 := by decide
  have p18 : (10 : Int) ^ (18 : Int).toNat = 1000000000000000000 := by decide
  refine seq_any (fun σ' H' => H' = H3 ∧ ∃ sh : Int, σ' = [some (.ref sc), some (.int first), some (.ref sw), some (.ref lo), some (.bl true), some (.ref pl), some (.ref le), some (.int (i : Int)), some (.ref t), some (.int m), some (.int d0), some (.int d1), some (.int d2), some (.int sh), o14]) (fun σ' H' pp => ?_) (fun nx => ?_)
  rotate_left
  · refine ⟨_, rfl, _, rfl, iteT ⟨_, rfl, rfl, _, rfl, ?_⟩⟩
    refine ite2 (fun c => ?_) (fun c => nx _ _ ⟨rfl, _, rfl⟩)
    exact ⟨_, rfl, _, _, rfl, rfl, .inr ⟨by decide, by decide⟩, _, _, rfl, rfl, ⟨by decide, by decide, by decide⟩, _, _, rfl, rfl, .inl ⟨by decide, by decide⟩, _, _, rfl, rfl, _, _, rfl, rfl, (by show (0 : Int) < 2 * 10 ^ Int.toNat 18 + 1; decide), _, _, rfl, rfl, ⟨by decide, by decide, by decide⟩, _, _, rfl, rfl, nx _ _ ⟨rfl, _, rfl⟩⟩
  obtain ⟨rfl, sh0, rfl⟩ := pp
  refine seq_any (fun σ' H4 => H4 = H' ∧ ∃ sh : Int, σ' = [some (.ref sc), some (.int first), some (.ref sw), some (.ref lo), some (.bl true), some (.ref pl), some (.ref le), some (.int (i : Int)), some (.ref t), some (.int m), some (.int d0), some (.int d1), some (.int d2), some (.int sh), o14]) (fun σ' H4 pp => ?_) (fun nx => ?_)
  rotate_left
  · refine ⟨_, rfl, _, rfl, iteT ⟨_, rfl, rfl, _, rfl, ?_⟩⟩
    refine ite2 (fun c => ?_) (fun c => nx _ _ ⟨rfl, _, rfl⟩)
    exact ⟨_, _, rfl, rfl, ⟨by decide, by decide, by decide⟩, _, rfl, _, _, rfl, rfl, (by show (0 : Int) < 2; decide), _, _, rfl, rfl, .inr ⟨by decide, by decide⟩, _, _, rfl, rfl, _, _, rfl, rfl, .inl ⟨by decide, by decide⟩, nx _ _ ⟨rfl, _, rfl⟩⟩
  obtain ⟨rfl, sh, rfl⟩ := pp
  have hml : ((L.map V.int).length : Int) = (L.length : Int) := by rw [List.length_map]
  obtain ⟨z, _, hz⟩ := pickI (L := L) (i := d0 % ((L.map V.int).length : Int)) (Int.emod_nonneg _ (by omega)) (by rw [← hml]; exact Int.emod_lt_of_pos _ (by omega))
  refine ⟨_, rfl, _, rfl, _, rfl, lo, _, rfl, .inl (SqL.of (eH3 _ _ hlo)), _, _, rfl, rfl, (by show (0 : Int) < ((L.map V.int).length : Int); omega), lo, _, _, _, rfl, rfl, SqL.of (eH3 _ _ hlo), hz, ?_⟩
  dsimp only [gName]
  have hdr : ws.drop i = wy :: ws.drop (i + 1) := by rw [List.drop_eq_getElem_cons hi, (List.getElem?_eq_some_iff.mp hwy).2]
  have hcnt : whoN (ws.drop i) = whoN (ws.drop (i + 1)) + (if (!wy.1) = true then 1 else 0) := by
    show List.countP _ (ws.drop i) = _
    rw [hdr, List.countP_cons]
  refine seq_any (fun σ' H5 => ∃ (num : Int) (L'' : List Int), σ' = [some (.ref sc), some (.int first), some (.ref sw), some (.ref lo), some (.bl true), some (.ref pl), some (.ref le), some (.int (i : Int)), some (.ref t), some (.int m), some (.int d0), some (.int d1), some (.int d2), some (.int sh), some (.int num)] ∧ Same H H5 ∧ H5 pl = some (.lst ys) ∧ H5 le = some (.lst (L''.map V.int)) ∧ All2 (PrAt H5) ys ps ∧ whoN (ws.drop (i + 1)) ≤ L''.length) (fun σ' H5 pp => ?_) (fun nx => ?_)
  rotate_left
  · refine ⟨_, rfl, t, _, 0, _, rfl, rfl, SqT.of (eH3 _ _ ht), rfl, _, rfl, ?_⟩
    cases hb : wy.1 with
    | true => exact iteF (nx _ _ ⟨z, L', rfl, eH3, hy3, hl3, ay3, by omega⟩)
    | false =>
      rw [hb] at hcnt
      have hcnt : whoN (ws.drop i) = whoN (ws.drop (i + 1)) + 1 := hcnt
      cases L' with
      | nil => rw [List.length_nil] at hwho; omega
      | cons z0 L0 =>
        rw [List.length_cons] at hwho
        refine iteT ⟨_, rfl, .inl ⟨rfl, _, SqL.of hl3⟩, le, _, 0, 0, .int z0, rfl, rfl, hl3, by decide, by decide, seqIx (j := 0) (Nat.succ_pos _), rfl, ?_⟩
        have tk := TK.upd (o := .lst (((z0 :: L0).map V.int).eraseIdx 0)) hl3
        refine nx _ _ ⟨z0, L0, rfl, fun a o ha => by rw [upd_ne (ne_of_none ha hle0)]; exact eH3 _ _ ha, by rw [upd_ne nlp.symm]; exact hy3, upd_same, ay3.mono fun y v z => z.tk tk, by omega⟩
  obtain ⟨num, L'', rfl, e5, hy5, hl5, ay5, hw5⟩ := pp
  refine ⟨_, rfl, .inl ⟨rfl, _, SqL.of hy5⟩, _, rfl, _, rfl, szl (by show 2 ≤ 1000000; decide), fun r hr' => ?_⟩
  have s6 := same_new hr' (.tup [V.int num, V.int sh])
  have hy6 := s6 _ _ hy5
  have nr : r ≠ pl := fun z => by rw [z, hy5] at hr'; cases hr'
  refine ⟨pl, _, _, rfl, rfl, hy6, szlt (by omega), ?_⟩
  have tk := TK.upd (o := .lst (ys ++ [V.ref r])) hy6
  refine ⟨L'', _, ps ++ [(num, sh)], _, _, _, _, _, _, _, _, rfl, fun a o ha => by rw [upd_ne (ne_of_none ha hpl)]; exact s6 _ _ (e5 _ _ ha), upd_same, by rw [upd_ne nlp]; exact s6 _ _ hl5, (ay5.mono fun y v z => (z.over s6).tk tk).snoc ⟨r, rfl, by rw [upd_ne nr]; exact upd_same⟩, by rw [List.length_append, pl']; rfl, hw5⟩

theorem ok_leaves63 (T : Tx K mg a) : FnOk P w K mg base CX0 3 a.f_l_leaves a.d_l_leaves ["_law_script", "_law_first", "_law_depths", "_law_ways", "_law_far"] (spLeaves K) := by
  have G_l_at := ok_at63 (P := P) (w := w) (base := base) T
  have G_l_digits := ok_digits (P := P) (w := w) (base := base) T
  have G_l_sweeps := ok_sweeps63 (P := P) (w := w) (base := base) T
  have G_l_places := ok_places63 (P := P) (w := w) (base := base) T
  refine T.F_l_leaves.ok sc_l_leaves (fun vs H Q E h => ?_) (fun cdv A outer s H vs Q E hr h => ?_)
  · obtain ⟨_, _, _, _, _, rfl, _⟩ := h; rfl
  obtain ⟨sc, dl, wl, ns, D, rfl, hsc, hdl, hwl, hD, Dpos, D6, q⟩ := h
  refine ⟨_, (pss_cons (ps_asg (pe_call G_l_digits (hr.mono (by omega)) (by rfl) T.m_l_digits T.F_l_digits.kp T.b_l_digits .nil pass0 (pa_cons (pe_call G_l_at (hr.mono (by omega)) (by rfl) T.m_l_at T.F_l_at.kp T.b_l_at .nil pass0 (pa_cons (pv 0) (pa_cons (pv 1) pa_nil))) (pa_cons (pe_lst (pa_cons pe_int (pa_cons pe_int (pa_cons pe_int pa_nil)))) pa_nil))) (pg_lst rfl (pgs_cons (pg_name (i := 5) sc_l_leaves.nd rfl (Or.inr rfl)) (pgs_cons (pg_name (i := 6) sc_l_leaves.nd rfl (Or.inl rfl)) (pgs_cons (pg_name (i := 7) sc_l_leaves.nd rfl (Or.inl rfl)) pgs_nil)))))
    (pss_cons (ps_setcompB (i := 8) ["_law_n", "_law_depths", "_law_start"] [none, some 2, some 5] sc_l_leaves.nd rfl (Or.inl rfl) (by rfl) (pi_range1 (by rfl) T.z_range (pa_cons (pe_callB call_len_seq (by rfl) T.z_len bt_len (pa_cons (pv 2) pa_nil)) pa_nil)) c_l_leaves_0 (fun _ _ _ _ _ _ => ⟨(pg_name (i := 0) c_l_leaves_0n rfl (Or.inl rfl)), pts_nil, (pe_op op_mod (pe_op op_add (pv 0) (pv 2)) (pe_callB (show CallR _ _ (rLenS K) from call_len_seq) (by rfl) T.z_len bt_len (pa_cons (pv 1) pa_nil)))⟩))
    (pss_cons (ps_if (pt_cmpR op_eq (pv 6) pe_int (nomark _))
    (pss_one (ps_expr (pe_bm0 PySem.F.plainAttrs_list PySem.F.slot_list_reverse PySem.F.type_list_reverse mt_reverse (pv 8))))
    pss_nil)
    (pss_cons (ps_expr (pe_bm PySem.F.plainAttrs_list PySem.F.slot_list_insert PySem.F.type_list_insert mt_insert0 (pv 8) (pa_cons pe_int (pa_cons (pe_bm PySem.F.plainAttrs_list PySem.F.slot_list_pop PySem.F.type_list_pop mt_popAt (pv 8) (pa_cons (pe_op op_mod (pv 7) (pe_callB call_len_seq (by rfl) T.z_len bt_len (pa_cons (pv 8) pa_nil))) pa_nil)) pa_nil))))
    (pss_cons (ps_set (i := 9) sc_l_leaves.nd rfl (Or.inl rfl) (pe_lst pa_nil))
    (pss_cons (ps_for PassesOwn.never rfl (pi_enum (by rfl) T.z_enumerate (pa_cons (pv 8) pa_nil)) (pg_tup rfl (pgs_cons (pg_name (i := 10) sc_l_leaves.nd rfl (Or.inl rfl)) (pgs_cons (pg_name (i := 11) sc_l_leaves.nd rfl (Or.inr rfl)) pgs_nil)))
    (pss_cons (ps_set (i := 12) sc_l_leaves.nd rfl (Or.inl rfl) (pe_op op_add (pe_op op_add (pv 1) pe_int) (pe_op op_mul pe_int (pv 10))))
    (pss_cons (ps_asg (pe_call G_l_digits (hr.mono (by omega)) (by rfl) T.m_l_digits T.F_l_digits.kp T.b_l_digits .nil pass0 (pa_cons (pe_call G_l_at (hr.mono (by omega)) (by rfl) T.m_l_at T.F_l_at.kp T.b_l_at .nil pass0 (pa_cons (pv 0) (pa_cons (pe_op op_sub (pv 12) pe_int) pa_nil))) (pa_cons (pe_lst (pa_cons pe_int (pa_cons pe_int (pa_cons pe_int pa_nil)))) pa_nil))) (pg_lst rfl (pgs_cons (pg_name (i := 13) sc_l_leaves.nd rfl (Or.inl rfl)) (pgs_cons (pg_name (i := 14) sc_l_leaves.nd rfl (Or.inr rfl)) (pgs_cons (pg_name (i := 15) sc_l_leaves.nd rfl (Or.inl rfl)) pgs_nil)))))
    (pss_cons (ps_setcompB (i := 16) ["_law_e", "_law_depths", "_law_k", "_law_turn"] [none, some 2, some 11, some 14] sc_l_leaves.nd rfl (Or.inl rfl) (by rfl) (pi_range1 (by rfl) T.z_range (pa_cons (pe_ix ix_list (pv 2) (pv 11) (fun _ _ => rfl)) pa_nil)) c_l_leaves_1 (fun _ _ _ _ _ _ => ⟨(pg_name (i := 0) c_l_leaves_1n rfl (Or.inl rfl)), pts_nil, (pe_op op_mod (pe_op op_add (pv 0) (pv 3)) (pe_ix (show IxR _ (rIxL K) from ix_list) (pv 1) (pv 2) (fun _ _ => rfl)))⟩))
    (pss_cons (ps_if (pt_cmpR op_eq (pv 15) pe_int (nomark _))
    (pss_one (ps_expr (pe_bm0 PySem.F.plainAttrs_list PySem.F.slot_list_reverse PySem.F.type_list_reverse mt_reverse (pv 16))))
    pss_nil)
    (pss_cons (ps_set (i := 17) sc_l_leaves.nd rfl (Or.inl rfl) (pe_lst pa_nil))
    (pss_cons (ps_if ((pw_and (pt_cmpR op_gt (pv 10) pe_int (nomark _)) (pw_and1 (pt_cmpR (op_neS (hu64 hr)) (pv 16) (pe_lst pa_nil) (nomark _))))).pt
    (pss_one (ps_set (i := 17) sc_l_leaves.nd rfl (Or.inl rfl) (pe_slice sl_list (pe_ix ix_tup (pe_ix ix_list (pv 9) (pe_op op_sub (pv 10) pe_int) (fun _ _ => rfl)) pe_int (fun _ _ => rfl)) po_none (po_some (pv 13)))))
    pss_nil)
    (pss_cons (ps_asg (pe_call G_l_sweeps (hr.mono (by omega)) (by rfl) T.m_l_sweeps T.F_l_sweeps.kp T.b_l_sweeps .nil pass0 (pa_cons (pv 0) (pa_cons (pv 12) (pa_cons (pe_callB call_len_seq (by rfl) T.z_len bt_len (pa_cons (pv 16) pa_nil)) (pa_cons (pv 17) (pa_cons (pv 3) pa_nil)))))) (pg_tup rfl (pgs_cons (pg_name (i := 18) sc_l_leaves.nd rfl (Or.inl rfl)) (pgs_cons (pg_name (i := 19) sc_l_leaves.nd rfl (Or.inl rfl)) pgs_nil))))
    (pss_one (ps_expr (pe_bm PySem.F.plainAttrs_list PySem.F.slot_list_append PySem.F.type_list_append mt_append (pv 9) (pa_cons (pe_tup (pa_cons (pv 11) (pa_cons (pv 18) (pa_cons (pv 19) (pa_cons (pe_call G_l_places (hr.mono (by omega)) (by rfl) T.m_l_places T.F_l_places.kp T.b_l_places .nil pass0 (pa_cons (pv 0) (pa_cons (pv 12) (pa_cons (pv 19) (pa_cons (pv 16) (pa_cons (pv 4) pa_nil)))))) pa_nil))))) pa_nil))))))))))))
    (pss_one (ps_ret (pv 9))))))))), ?_⟩
  have Dml : ((D.map V.int).length : Int) = (D.length : Int) := by rw [List.length_map]
  refine ⟨_, rfl, _, rfl, sc, ns, 7, rfl, hsc, by decide, by decide, fun m m0 _ => ⟨szl (by show 3 ≤ 1000000; decide), fun d1 hd1 => ?_⟩⟩
  have s1 := same_new hd1 (.lst [V.int 6, V.int 2, V.int 6])
  refine ⟨m, d1, [6, 2, 6], rfl, upd_same, m0, by decide, by decide, fun r1 H1 ds e1 hr1 dsl db => ?_⟩
  have e1 := s1.trans e1
  obtain ⟨x0, x1, x2, rfl⟩ : ∃ d0 d1 d2, ds = [d0, d1, d2] := by
    match ds, dsl with
    | [x, y, z], _ => exact ⟨x, y, z, rfl⟩
  have b0 := db 0 x0 6 rfl rfl
  have b2 := db 2 x2 6 rfl rfl
  refine ⟨r1, _, rfl, hr1, rfl, _, _, rfl, _, _, rfl, _, _, rfl, rfl, ?_⟩
  dsimp only [gName]
  -- the row
  refine ⟨_, rfl, dl, _, rfl, .inl (SqL.of (e1 _ _ hdl)), _, rfl, by omega, by omega, ?_⟩
  rw [show ((D.map V.int).length : Int).toNat = D.length by omega]
  refine comp_range (lo := 0) (n := D.length) (fun i ys H' => H' = H1 ∧ ys = (rowI x0 D.length i).map V.int) ⟨rfl, rfl⟩ (szl (by omega)) (fun i ys H' hi p => by rw [p.2, List.length_map, rowI_len]; exact Nat.le_refl _) (fun i ys H' hi pp => ?_) (fun ys H2 pp row hrow => ?_)
  · obtain ⟨rfl, rfl⟩ := pp
    refine ⟨_, rfl, _, rfl, _, _, rfl, rfl, _, rfl, dl, _, rfl, .inl (SqL.of (e1 _ _ hdl)), _, _, rfl, rfl, (by show (0 : Int) < ((D.map V.int).length : Int); omega), rfl, ?_⟩
    rw [rowI_succ, List.map_append, Dml, Int.zero_add]
    rfl
  obtain ⟨rfl, rfl⟩ := pp
  have s2 := same_new hrow (.lst ((rowI x0 D.length D.length).map V.int))
  have hrow2 : (upd H2 row (.lst ((rowI x0 D.length D.length).map V.int))) row = some (.lst ((rowI x0 D.length D.length).map V.int)) := upd_same
  have hrow0 := e1.free hrow
  have e2 := e1.trans s2
  dsimp only [gName]
  generalize upd H2 row (.lst ((rowI x0 D.length D.length).map V.int)) = H3 at s2 hrow2 e2
  refine seq_any (fun σ' H' => σ' = [some (.ref sc), some (.int 7), some (.ref dl), some (.ref wl), some (.bl true), some (.int x0), some (.int x1), some (.int x2), some (.ref row), none, none, none, none, none, none, none, none, none, none, none] ∧ Same H H' ∧ ∃ R : List Int, H' row = some (.lst (R.map V.int)) ∧ R.Nodup ∧ R.length = D.length ∧ ∀ k ∈ R, 0 ≤ k ∧ k < (D.length : Int)) (fun σ' H4 pp => ?_) (fun nx => ?_)
  rotate_left
  · have nd := rowI_nodup (m := D.length) b0.1 b0.2 D6
    have rl := rowI_len x0 D.length D.length
    have rm := rowI_mem (s := x0) (i := D.length) Dpos
    refine ⟨_, rfl, rfl, _, rfl, ?_⟩
    refine ite2 (fun c => ?_) (fun c => nx _ _ ⟨rfl, e2, _, hrow2, nd, rl, rm⟩)
    refine ⟨_, rfl, .inl ⟨rfl, _, SqL.of hrow2⟩, row, _, rfl, rfl, hrow2, ?_⟩
    exact nx _ _ ⟨rfl, fun a o ha => by rw [upd_ne (ne_of_none ha hrow0)]; exact e2 _ _ ha, (rowI x0 D.length D.length).reverse, by rw [List.map_reverse]; exact upd_same, (List.reverse_perm _).nodup_iff.mpr nd, by rw [List.length_reverse]; exact rl, fun k hk => rm k (List.mem_reverse.mp hk)⟩
  obtain ⟨rfl, e4, R0, hrow4, nd0, R0l, R0m⟩ := pp
  have R0ml : ((R0.map V.int).length : Int) = (D.length : Int) := by rw [List.length_map, R0l]
  have j0 := Int.emod_nonneg x2 (show ((R0.map V.int).length : Int) ≠ 0 by omega)
  have j1 := Int.emod_lt_of_pos x2 (show (0 : Int) < ((R0.map V.int).length : Int) by omega)
  obtain ⟨j, ej⟩ : ∃ j : Nat, x2 % ((R0.map V.int).length : Int) = (j : Int) := ⟨(x2 % ((R0.map V.int).length : Int)).toNat, by omega⟩
  have jl : j < R0.length := by omega
  have Rj : R0[j]? = some R0[j] := List.getElem?_eq_getElem jl
  have p63 : (2 : Int) ^ 63 = 9223372036854775808 := by decide
  refine ⟨_, rfl, .inl ⟨rfl, _, SqL.of hrow4⟩, _, rfl, .inl ⟨rfl, _, SqL.of hrow4⟩, _, rfl, _, rfl, row, _, rfl, .inl (SqL.of hrow4), _, _, rfl, rfl, (by show (0 : Int) < ((R0.map V.int).length : Int); omega), row, _, (j : Int), j, .int R0[j], rfl, by rw [← ej], hrow4, by omega, by omega, seqIx (by rw [List.length_map]; exact jl), by rw [List.getElem?_map, Rj]; rfl, ?_⟩
  have erm : (R0.map V.int).eraseIdx j = (R0.eraseIdx j).map V.int := erase_map R0 j
  have erl : (R0.eraseIdx j).length = R0.length - 1 := List.length_eraseIdx_of_lt jl
  rw [erm]
  refine ⟨row, _, _, rfl, rfl, upd_same, szlt (by rw [List.length_map, erl]; omega), ?_⟩
  have pm : (R0[j] :: R0.eraseIdx j).Perm R0 := erase_perm63 R0 j jl
  have hrow5 : (upd (upd H4 row (.lst ((R0.eraseIdx j).map V.int))) row (.lst (V.int R0[j] :: (R0.eraseIdx j).map V.int))) row = some (.lst ((R0[j] :: R0.eraseIdx j).map V.int)) := upd_same
  have e5 : Same H (upd (upd H4 row (.lst ((R0.eraseIdx j).map V.int))) row (.lst (V.int R0[j] :: (R0.eraseIdx j).map V.int))) := fun a o ha => by rw [upd_ne (ne_of_none ha hrow0), upd_ne (ne_of_none ha hrow0)]; exact e4 _ _ ha
  generalize upd (upd H4 row (.lst ((R0.eraseIdx j).map V.int))) row (.lst (V.int R0[j] :: (R0.eraseIdx j).map V.int)) = H5 at hrow5 e5
  have nd := pm.nodup_iff.mpr nd0
  have Rl : (R0[j] :: R0.eraseIdx j).length = D.length := by rw [pm.length_eq]; exact R0l
  have Rm : ∀ k ∈ R0[j] :: R0.eraseIdx j, 0 ≤ k ∧ k < (D.length : Int) := fun k hk => R0m k (pm.subset hk)
  generalize R0[j] :: R0.eraseIdx j = R at hrow5 nd Rl Rm
  refine ⟨szl (by show 0 ≤ 1000000; decide), fun lv hlv => ?_⟩
  have s6 := same_new hlv (.lst [])
  have hlv6 : (upd H5 lv (.lst [])) lv = some (.lst []) := upd_same
  dsimp only [gName]
  generalize upd H5 lv (.lst []) = H6 at s6 hlv6
  have hlv0 := e5.free hlv
  refine ⟨_, rfl, row, rfl, ⟨_, SqL.of (s6 _ _ hrow5)⟩, ?_⟩
  refine for_enum (xs := R.map V.int) (fun i σ' H' => ∃ (xs : List V) (B : List Bgh) (o10 o11 o12 o13 o14 o15 o16 o17 o18 o19 : Option V), σ' = [some (.ref sc), some (.int 7), some (.ref dl), some (.ref wl), some (.bl true), some (.int x0), some (.int x1), some (.int x2), some (.ref row), some (.ref lv), o10, o11, o12, o13, o14, o15, o16, o17, o18, o19] ∧ Same H5 H' ∧ H' lv = some (.lst xs) ∧ All2 (LfAt (av H' [lv])) xs B ∧ LvSt B R i) ⟨[], [], _, _, _, _, _, _, _, _, _, _, rfl, s6, hlv6, .nil, LvSt.nil R⟩ (fun i σ' H' _ pp => by obtain ⟨_, _, _, _, _, _, _, _, _, _, _, _, _, e, _⟩ := pp; exact SqL.of (e _ _ hrow5)) (fun i x Tt σ' H' hx pp hT => ?_) (fun σ' H' pp => ?_)
  rotate_left
  · obtain ⟨xs, B, o10, o11, o12, o13, o14, o15, o16, o17, o18, o19, rfl, e, hl, ay, st⟩ := pp
    rw [List.length_map] at st
    obtain ⟨f1, f2, f3⟩ := st.fin (by omega) nd
    exact ⟨_, rfl, q lv _ B (e5.trans e) ⟨xs, hl, ay.mono fun y v z => z.over av_same⟩ f1 (by omega) f3⟩
  obtain ⟨xs, B, o10, o11, o12, o13, o14, o15, o16, o17, o18, o19, rfl, e, hl, ay, st⟩ := pp
  have hiR : i < R.length := by have := (List.getElem?_eq_some_iff.mp hx).1; rwa [List.length_map] at this
  have Ri : R[i]? = some R[i] := List.getElem?_eq_getElem hiR
  rw [List.getElem?_map, Ri] at hx
  cases hx
  have hk := Rm _ (List.mem_of_getElem? Ri)
  generalize R[i] = k at Ri hk
  obtain ⟨kk, rfl⟩ : ∃ n : Nat, k = (n : Int) := ⟨k.toNat, by omega⟩
  have hkl : kk < D.length := by omega
  have Dk : D[kk]? = some D[kk] := List.getElem?_eq_getElem hkl
  have Db := hD _ (List.mem_of_getElem? Dk)
  have atD : atI (D.map V.int) (kk : Int) = some (.int D[kk]) := atI_nat (by rw [List.getElem?_map, Dk]; rfl)
  generalize D[kk] = dk at Dk Db atD
  obtain ⟨dn, rfl⟩ : ∃ n : Nat, dk = (n : Int) := ⟨dk.toNat, by omega⟩
  have Bl := st.len (Nat.le_of_lt hiR)
  have xsl := ay.1
  have sT := same_new hT (.tup [V.int (i : Int), V.int (kk : Int)])
  have eT := e.trans sT
  have hlT := sT _ _ hl
  have ayT := ay.mono fun y v z => z.over (av_mono (S := [lv]) sT)
  refine ⟨Tt, _, rfl, SqT.of upd_same, rfl, _, _, rfl, _, _, rfl, rfl, ?_⟩
  generalize upd H' Tt (.tup [V.int (i : Int), V.int (kk : Int)]) = H7 at eT hlT ayT
  dsimp only [gName]
  refine ⟨_, rfl, _, _, rfl, rfl, _, rfl, _, _, rfl, rfl, .inl ⟨by decide, by decide⟩, _, _, rfl, rfl, ?_⟩
  dsimp only [gName]
  obtain ⟨cell, hcell⟩ : ∃ c : Int, c = 7 + 2 + 7 * (i : Int) := ⟨_, rfl⟩
  rw [← hcell]
  refine ⟨_, rfl, _, rfl, _, _, rfl, rfl, sc, ns, cell - 1, rfl, (e5.trans eT).seq hsc, by omega, by omega, fun m' m0' _ => ⟨szl (by show 3 ≤ 1000000; decide), fun d2 hd2 => ?_⟩⟩
  have s8 := same_new hd2 (.lst [V.int 7, V.int 3, V.int 2])
  refine ⟨m', d2, [7, 3, 2], rfl, upd_same, m0', by decide, by decide, fun r2 H8 ds e8 hr2 dsl db => ?_⟩
  have s78 := s8.trans e8
  have e8 := eT.trans s78
  have hl8 := s78 _ _ hlT
  have ay8 := ayT.mono fun y v z => z.over (av_mono (S := [lv]) s78)
  obtain ⟨y0, y1, y2, rfl⟩ : ∃ d0 d1 d2, ds = [d0, d1, d2] := by
    match ds, dsl with
    | [x, y, z], _ => exact ⟨x, y, z, rfl⟩
  have c0' := db 0 y0 7 rfl rfl
  refine ⟨r2, _, rfl, hr2, rfl, _, _, rfl, _, _, rfl, _, _, rfl, rfl, ?_⟩
  dsimp only [gName]
  -- the loops
  have hdl8 := (e5.trans e8) _ _ hdl
  refine ⟨_, rfl, _, rfl, dl, _, _, _, rfl, rfl, SqL.of hdl8, atD, _, rfl, by omega, by omega, ?_⟩
  rw [show ((dn : Int)).toNat = dn by omega]
  refine comp_range (lo := 0) (n := dn) (fun i ys H' => H' = H8 ∧ ∃ L : List Int, ys = L.map V.int ∧ L.length = i) ⟨rfl, [], rfl, rfl⟩ (szl (by omega)) (fun i ys H' hi p => by obtain ⟨_, L, rfl, h⟩ := p; rw [List.length_map]; omega) (fun i2 ys H' hi pp => ?_) (fun ys H9 pp lo hlo => ?_)
  · obtain ⟨rfl, L, rfl, Ll⟩ := pp
    refine ⟨_, rfl, _, rfl, _, _, rfl, rfl, _, rfl, _, rfl, dl, _, _, _, rfl, rfl, SqL.of hdl8, atD, _, _, rfl, rfl, (by show (0 : Int) < (dn : Int); omega), rfl, L ++ [(0 + (i2 : Int) + y1) % (dn : Int)], by rw [List.map_append]; rfl, by rw [List.length_append, Ll]; rfl⟩
  obtain ⟨rfl, L0, rfl, L0l⟩ := pp
  have s9 := same_new hlo (.lst (L0.map V.int))
  have hlo9 : (upd H9 lo (.lst (L0.map V.int))) lo = some (.lst (L0.map V.int)) := upd_same
  dsimp only [gName]
  generalize upd H9 lo (.lst (L0.map V.int)) = HA at s9 hlo9
  refine seq_any (fun σ' H' => σ' = [some (.ref sc), some (.int 7), some (.ref dl), some (.ref wl), some (.bl true), some (.int x0), some (.int x1), some (.int x2), some (.ref row), some (.ref lv), some (.int (i : Int)), some (.int (kk : Int)), some (.int cell), some (.int y0), some (.int y1), some (.int y2), some (.ref lo), o17, o18, o19] ∧ Same H9 H' ∧ ∃ L : List Int, H' lo = some (.lst (L.map V.int)) ∧ L.length = dn) (fun σ' HB pp => ?_) (fun nx => ?_)
  rotate_left
  · refine ⟨_, rfl, rfl, _, rfl, ?_⟩
    refine ite2 (fun c => ?_) (fun c => nx _ _ ⟨rfl, s9, L0, hlo9, L0l⟩)
    refine ⟨_, rfl, .inl ⟨rfl, _, SqL.of hlo9⟩, lo, _, rfl, rfl, hlo9, ?_⟩
    exact nx _ _ ⟨rfl, fun a o ha => by rw [upd_ne (ne_of_none ha hlo)]; exact s9 _ _ ha, L0.reverse, by rw [List.map_reverse]; exact upd_same, by rw [List.length_reverse]; exact L0l⟩
  obtain ⟨rfl, eB, L, hloB, Ll⟩ := pp
  have e9 := e8.trans eB
  have hl9 := eB _ _ hl8
  have ay9 := ay8.mono fun y v z => z.over (av_mono (S := [lv]) eB)
  clear ay8 ayT ay
  refine ⟨szl (by show 0 ≤ 1000000; decide), fun ol hol => ?_⟩
  have sC := same_new hol (.lst [])
  have holC : (upd HB ol (.lst [])) ol = some (.lst []) := upd_same
  dsimp only [gName]
  generalize upd HB ol (.lst []) = HC at sC holC
  refine seq_any (fun σ' H' => ∃ (o : Addr) (ws0 : List Way), σ' = [some (.ref sc), some (.int 7), some (.ref dl), some (.ref wl), some (.bl true), some (.int x0), some (.int x1), some (.int x2), some (.ref row), some (.ref lv), some (.int (i : Int)), some (.int (kk : Int)), some (.int cell), some (.int y0), some (.int y1), some (.int y2), some (.ref lo), some (.ref o), o18, o19] ∧ Same HC H' ∧ WaysAt H' o ws0 ∧ cutN ws0 ≤ 3 ∧ (B = [] → ws0 = []) ∧ (dn = 0 → ws0 = []) ∧ (∀ c, B.getLast? = some c → ∃ j, ws0 = c.ways.take j)) (fun σ' HD pp => ?_) (fun nx => ?_)
  rotate_left
  · have none0 : ∀ HX, Same HC HX → WaysAt HX ol [] := fun HX e => ⟨[], e _ _ holC, .nil⟩
    refine ⟨_, rfl, _, _, rfl, rfl, _, rfl, ?_⟩
    refine ite2 (fun c => ?_) (fun c => nx _ _ ⟨ol, [], rfl, Same.refl _, none0 _ (Same.refl _), by decide, fun _ => rfl, fun _ => rfl, fun c _ => ⟨0, rfl⟩⟩)
    have c := dT c
    refine ⟨_, rfl, szl (by show 0 ≤ 1000000; decide), fun z hz => left_eq ((same_new hz (.lst [])) _ _ (sC _ _ hloB)) upd_same ⟨_, rfl, ?_⟩⟩
    have sz := same_new hz (.lst [])
    generalize upd HC z (.lst []) = HZ at sz
    cases hL : L with
    | nil => exact iteF (nx _ _ ⟨ol, [], rfl, sz, none0 _ sz, by decide, fun _ => rfl, fun _ => rfl, fun c _ => ⟨0, rfl⟩⟩)
    | cons l0 L1 =>
      refine iteT ?_
      obtain ⟨p, rfl⟩ : ∃ p, i = p + 1 := ⟨i - 1, by omega⟩
      have hBp : B[p]? = some B[p] := List.getElem?_eq_getElem (by omega)
      have hlast : B.getLast? = some B[p] := by rw [List.getLast?_eq_getElem?, show B.length - 1 = p by omega]; exact hBp
      generalize B[p] = c0 at hBp hlast
      obtain ⟨xp, hxp, lf⟩ := ay9.get hBp
      obtain ⟨t, w0, p0, rfl, ht, ⟨wx, hw, haw⟩, _⟩ := (lf.over av_same).over (sC.trans sz)
      have aj : atI xs (((p + 1 : Nat) : Int) - 1) = some (.ref t) := by
        rw [show (((p + 1 : Nat) : Int) - 1) = (p : Int) by omega]
        exact atI_nat hxp
      refine ⟨_, rfl, _, rfl, _, _, rfl, rfl, lv, _, _, _, rfl, rfl, SqL.of ((sC.trans sz) _ _ hl9), aj, t, _, 2, _, rfl, rfl, SqT.of ht, rfl, _, rfl, _, rfl, w0, _, rfl, SqL.of hw, fun sl hsl => ?_⟩
      have s1 := same_new hsl (.lst (cutV wx none (some y0)))
      have cy : cutV wx none (some y0) = wx.take y0.toNat := cut_to _ c0'.1
      refine nx _ _ ⟨sl, c0.ways.take y0.toNat, rfl, sz.trans s1, ⟨_, upd_same, ?_⟩, ?_, fun z => ?_, fun z => by rw [hL, List.length_cons] at Ll; omega, fun c hc => ?_⟩
      · have hh := (haw.mono fun y v z => z.over s1).take y0.toNat
        rw [← cy] at hh
        exact hh
      · have := cut_take c0.ways y0.toNat
        have := (st.way c0 (List.mem_of_getElem? hBp)).1
        omega
      · rw [z] at hBp; simp at hBp
      · rw [hlast] at hc
        cases hc
        exact ⟨_, rfl⟩
  obtain ⟨o, ws0, rfl, eD, hws0, cut0, nil0, dn0, last0⟩ := pp
  have eBD := sC.trans eD
  have eD' := e9.trans eBD
  have hlD := eBD _ _ hl9
  have hloD := eBD _ _ hloB
  have ayD := ay9.mono fun y v z => z.over (av_mono (S := [lv]) eBD)
  have eH := e5.trans eD'
  refine ⟨_, rfl, _, rfl, _, rfl, lo, _, rfl, .inl (SqL.of hloD), _, rfl, _, rfl, sc, o, wl, ns, cell, dn, ws0, by rw [List.length_map, Ll]; rfl, eH.seq hsc, by omega, by omega, by omega, hws0, cut0, eH _ _ hwl, fun r w HE sh ws eE hwn hrE hwE h1 h2 h3 h4 h5 h6 => ?_⟩
  refine ⟨r, _, rfl, SqT.of hrE, rfl, _, _, rfl, _, _, rfl, rfl, ?_⟩
  dsimp only [gName]
  have nw : w ≠ lv := fun z => by rw [z, hlD] at hwn; cases hwn
  have hlE := eE _ _ hlD
  have wlen := cnt_len ws
  have eHE := eH.trans eE
  have neL : ws ≠ [] → L ≠ [] := fun z zz => by
    have d0 : dn = 0 := by rw [zz] at Ll; exact Ll.symm
    exact z (h6 d0 (dn0 d0))
  refine ⟨_, rfl, .inl ⟨rfl, _, SqL.of hlE⟩, _, rfl, _, rfl, _, rfl, _, rfl, _, rfl, _, rfl, _, rfl, _, rfl, sc, w, lo, ns, L, cell, ws, rfl, eHE.seq hsc, by omega, by omega, hwE, by omega, eE _ _ hloD, by omega, by omega, neL, fun pr HF ps eF hpn hps psl => ⟨szl (by show 4 ≤ 1000000; decide), fun t ht => ?_⟩⟩
  have sG := same_new ht (.tup [V.int (kk : Int), V.int (sh : Int), V.ref w, V.ref pr])
  have htG : (upd HF t (.tup [V.int (kk : Int), V.int (sh : Int), V.ref w, V.ref pr])) t = some (.tup [V.int (kk : Int), V.int (sh : Int), V.ref w, V.ref pr]) := upd_same
  have hlG := sG _ _ (eF _ _ hlE)
  have ntl : t ≠ lv := fun z => by rw [z, eF _ _ hlE] at ht; cases ht
  have eFG := eF.trans sG
  generalize upd HF t (.tup [V.int (kk : Int), V.int (sh : Int), V.ref w, V.ref pr]) = HG at sG htG hlG eFG
  refine ⟨lv, _, _, rfl, rfl, hlG, szlt (by omega), ?_⟩
  refine ⟨xs ++ [.ref t], B ++ [⟨(kk : Int), sh, ws, ps⟩], _, _, _, _, _, _, _, _, _, _, rfl, fun a o ha => by rw [upd_ne (ne_of_none ha hlv)]; exact (eE.trans eFG) _ _ (eD' _ _ ha), upd_same, ?_, ?_⟩
  · rw [av_upd (by simp)]
    refine (ayD.mono fun y v z => z.over (av_mono (S := [lv]) (eE.trans eFG))).snoc ⟨t, w, pr, rfl, by rw [av_ne (by rw [List.mem_singleton]; exact ntl)]; exact htG, (hwE.over eFG).av hlG nw, (hps.over sG).tk (av_tk hlG)⟩
  · refine st.snoc Ri h2 (fun z => ?_) (fun c hc => ?_) ⟨h4, by show ws.length ≤ 6; omega⟩ psl
    · have := nil0 z
      rw [this] at h1
      exact Nat.le_zero.mp h1
    · obtain ⟨j, rfl⟩ := last0 c hc
      rw [List.length_take] at h1
      refine ⟨by show sh ≤ _; omega, ?_⟩
      show ws.take sh = c.ways.take sh
      rw [h3, List.take_take, show min sh j = sh by omega]

theorem ok_items (T : Tx K mg a) : ∀ n : Nat, FnOk P w K mg base CX0 (n + 2) a.f_l_items a.d_l_items ["_law_leaves_here", "_law_level"] (spItemsL n)
  | 0 => by
    have no : ∀ vs H Q E, ¬ spItemsL 0 vs H Q E := fun vs H Q E h => by
      obtain ⟨l, d, m, B, _, _, _, hm, _⟩ := h
      omega
    exact ⟨fun vs H Q E h => absurd h (no vs H Q E), fun A outer s H args us vs Q E _ _ _ _ h => absurd h (no vs H Q E)⟩
  | n + 1 => by
    have G_l_items := ok_items T n
    refine T.F_l_items.ok sc_l_items (fun vs H Q E h => ?_) (fun cdv A outer s H vs Q E hr h => ?_)
    · obtain ⟨_, _, _, _, rfl, _⟩ := h; rfl
    obtain ⟨l, d, mm, B, rfl, ⟨xs0, hl, hB⟩, hF, hmn, hd, q⟩ := h
    refine ⟨_, (pss_cons (ps_set (i := 2) sc_l_items.nd rfl (Or.inl rfl) (pe_lst pa_nil))
    (pss_cons (ps_set (i := 3) sc_l_items.nd rfl (Or.inl rfl) pe_int)
    (pss_cons (ps_while PassesOwn.never (pt_cmpR op_lt (pv 3) (pe_callB call_len_seq (by rfl) T.z_len bt_len (pa_cons (pv 0) pa_nil)) (nomark _))
    (pss_cons (ps_set (i := 4) sc_l_items.nd rfl (Or.inl rfl) (pe_op op_add (pv 3) pe_int))
    (pss_cons (ps_if (pt_cmpR op_eq (pe_callB call_len_seq (by rfl) T.z_len bt_len (pa_cons (pe_ix ix_tup (pe_ix ix_list (pv 0) (pv 3) (fun _ _ => rfl)) pe_int (fun _ _ => rfl)) pa_nil)) (pv 1) (nomark _))
    (pss_one (ps_expr (pe_bm PySem.F.plainAttrs_list PySem.F.slot_list_append PySem.F.type_list_append mt_append (pv 2) (pa_cons (pe_tup (pa_cons pe_str (pa_cons (pe_ix ix_tup (pe_ix ix_list (pv 0) (pv 3) (fun _ _ => rfl)) pe_int (fun _ _ => rfl)) (pa_cons (pe_ix ix_tup (pe_ix ix_list (pv 0) (pv 3) (fun _ _ => rfl)) pe_int (fun _ _ => rfl)) pa_nil)))) pa_nil))))
    (pss_cons (ps_while PassesOwn.never ((pw_and (pt_cmpR op_lt (pv 4) (pe_callB call_len_seq (by rfl) T.z_len bt_len (pa_cons (pv 0) pa_nil)) (nomark _)) (pw_and1 (pt_cmpR op_gt (pe_ix ix_tup (pe_ix ix_list (pv 0) (pv 4) (fun _ _ => rfl)) pe_int (fun _ _ => rfl)) (pv 1) (nomark _))))).pt
    (pss_one (ps_set (i := 4) sc_l_items.nd rfl (Or.inl rfl) (pe_op op_add (pv 4) pe_int))))
    (pss_cons (ps_set (i := 5) sc_l_items.nd rfl (Or.inl rfl) (pe_ix ix_list (pe_ix ix_tup (pe_ix ix_list (pv 0) (pv 3) (fun _ _ => rfl)) pe_int (fun _ _ => rfl)) (pv 1) (fun _ _ => rfl)))
    (pss_one (ps_expr (pe_bm PySem.F.plainAttrs_list PySem.F.slot_list_append PySem.F.type_list_append mt_append (pv 2) (pa_cons (pe_tup (pa_cons pe_str (pa_cons (pe_ix ix_tup (pv 5) pe_int (fun _ _ => rfl)) (pa_cons (pe_ix ix_tup (pv 5) pe_int (fun _ _ => rfl)) (pa_cons (pe_call G_l_items (hr.mono (by omega)) (by rfl) T.m_l_items T.F_l_items.kp T.b_l_items .nil pass0 (pa_cons (pe_slice sl_list (pv 0) (po_some (pv 3)) (po_some (pv 4))) (pa_cons (pe_op op_add (pv 1) pe_int) pa_nil))) pa_nil))))) pa_nil)))))))
    (pss_one (ps_set (i := 3) sc_l_items.nd rfl (Or.inl rfl) (pv 4))))))
    (pss_one (ps_ret (pe_callTy call_tuple_of (by rfl) T.z_tuple bt_tuple (pa_cons (pv 2) pa_nil))))))), ?_⟩
    have xl := hB.1
    have Bl := hF.len
    refine ⟨szl (by show 0 ≤ 1000000; decide), fun it hit => ?_⟩
    have e1 := same_new hit (.lst [])
    have hit1 : (upd H it (.lst [])) it = some (.lst []) := upd_same
    dsimp only [gName]
    generalize upd H it (.lst []) = H1 at e1 hit1
    show tSeq (tWhile _ _) (tRet _) _ _ _
    refine seq_any (fun σ' H' => ∃ (xs : List V) (f : Frs) (o3 o4 o5 : Option V), σ' = [some (.ref l), some (.int (d : Int)), some (.ref it), o3, o4, o5] ∧ Same H H' ∧ H' it = some (.lst xs) ∧ FoAt H' xs f ∧ Fo.Is f B d ∧ xs.length ≤ 1000) (fun σ' H' pp => ?_) (fun nx => ?_)
    · obtain ⟨xs, f, o3, o4, o5, rfl, e, hx, hf, hI, xl⟩ := pp
      refine ⟨_, rfl, it, _, rfl, .inl ⟨SqL.of hx, fun t ht => ?_⟩⟩
      have s1 := same_new ht (.tup xs)
      exact q t _ f (e.trans s1) ⟨xs, upd_same, FoAt.over s1 hf⟩ hI
    refine while_ix (B.length + 1) (fun j σ' H' => ∃ (at' : Nat) (xs : List V) (f : Frs) (o4 o5 : Option V), σ' = [some (.ref l), some (.int (d : Int)), some (.ref it), some (.int (at' : Int)), o4, o5] ∧ Same H H' ∧ H' it = some (.lst xs) ∧ FoAt H' xs f ∧ Fo.Is f (B.take at') d ∧ at' ≤ B.length ∧ j ≤ at' ∧ xs.length ≤ at' ∧ (0 < at' → ∀ c, B[at']? = some c → c.sh = d)) ⟨0, [], .nil, none, none, rfl, e1, hit1, rfl, rfl, Nat.zero_le _, Nat.le_refl _, Nat.le_refl _, fun z => absurd z (Nat.lt_irrefl _)⟩ (fun j σ' H' hj pp => ?_) (MT.test (ME.op (MR.i0 _) (ME.var _) (ME.cb MB.len (MA.cons (ME.var _) MA.nil))))
    obtain ⟨at', xs, f, o4, o5, rfl, e, hx, hf, hI, hat, hja, xsl, hhd⟩ := pp
    have hl' := e _ _ hl
    refine ⟨_, rfl, _, rfl, l, _, rfl, .inl (SqL.of hl'), _, _, rfl, rfl, _, rfl, ?_⟩
    refine ite2 (fun c => ?_) (fun c => ?_)
    rotate_left
    · have c := dF c
      have : at' = B.length := by omega
      subst this
      rw [List.take_length] at hI
      exact nx _ _ ⟨xs, f, _, _, _, rfl, e, hx, hf, hI, by omega⟩
    have c := dT c
    have hlt : at' < B.length := by rw [xl] at c; exact Int.ofNat_lt.mp c
    refine ⟨by omega, ?_⟩
    have Ba : B[at']? = some B[at'] := List.getElem?_eq_getElem hlt
    generalize hb : B[at'] = b at Ba
    obtain ⟨x0, hx0, hbo⟩ := hB.get Ba
    obtain ⟨t, w0, p0, rfl, ht, ⟨wx, hw, haw⟩, ⟨px, hp, hap⟩⟩ := hbo.over e
    have at0 : atI xs0 (at' : Int) = some (.ref t) := atI_nat hx0
    have wxl := haw.1
    have memb : b ∈ B := List.mem_of_getElem? Ba
    refine ⟨_, rfl, _, _, rfl, rfl, ?_⟩
    dsimp only [gName]
    refine seq_any (fun σ' H' => ∃ (m : Nat) (xs : List V) (f : Frs) (o5 : Option V), σ' = [some (.ref l), some (.int (d : Int)), some (.ref it), some (.int (at' : Int)), some (.int (m : Int)), o5] ∧ Same H H' ∧ H' it = some (.lst xs) ∧ FoAt H' xs f ∧ Fo.Is f (B.take m) d ∧ at' < m ∧ m ≤ B.length ∧ xs.length ≤ m ∧ (∀ c, B[m]? = some c → c.sh = d)) (fun σ' H2 pp => ?_) (fun nx2 => ?_)
    · obtain ⟨m, xs2, f2, o5', rfl, e2, hx2, hf2, hI2, hm1, hm2, xl2, hh2⟩ := pp
      exact ⟨_, rfl, m, xs2, f2, _, _, rfl, e2, hx2, hf2, hI2, hm2, by omega, xl2, fun _ => hh2⟩
    refine ⟨_, rfl, _, rfl, l, _, _, _, rfl, rfl, SqL.of hl', at0, t, _, 2, _, rfl, rfl, SqT.of ht, rfl, w0, _, rfl, .inl (SqL.of hw), _, rfl, rfl, _, rfl, ?_⟩
    rw [wxl]
    by_cases cd : b.ways.length = d
    · refine iteE (v := true) (decide_eq_true (congrArg (fun n : Nat => V.int (n : Int)) cd)) (iteT ?_)
      refine ⟨_, rfl, .inl ⟨rfl, _, SqL.of hx⟩, _, rfl, _, rfl, l, _, _, _, rfl, rfl, SqL.of hl', at0, t, _, 0, _, rfl, rfl, SqT.of ht, rfl, _, rfl, _, rfl, l, _, _, _, rfl, rfl, SqL.of hl', at0, t, _, 3, _, rfl, rfl, SqT.of ht, rfl, szl (by show 3 ≤ 1000000; decide), fun r hr => ?_⟩
      have s1 := same_new hr (.tup [V.str "deed", V.int b.k, V.ref p0])
      have hr1 : (upd H' r (.tup [V.str "deed", V.int b.k, V.ref p0])) r = some (.tup [V.str "deed", V.int b.k, V.ref p0]) := upd_same
      have hpt1 := s1 _ _ hp
      generalize upd H' r (.tup [V.str "deed", V.int b.k, V.ref p0]) = H2 at s1 hr1 hpt1
      have hx2 := s1 _ _ hx
      refine ⟨it, _, _, rfl, rfl, hx2, szlt (by omega), ?_⟩
      have tk : TK H2 (upd H2 it (.lst (xs ++ [V.ref r]))) := TK.upd hx2
      refine nx2 _ _ ⟨at' + 1, xs ++ [.ref r], Fo.app f (.leaf b.k b.pl .nil), _, rfl, fun a o ha => by rw [upd_ne (ne_of_none ha hit)]; exact s1 _ _ (e _ _ ha), upd_same, ?_, ?_, Nat.lt_succ_self _, hlt, by rw [List.length_append, List.length_singleton]; omega, fun c hc => ?_⟩
      · exact FoAt.tk tk (FoAt.app (FoAt.over s1 hf) ⟨r, p0, [], rfl, hr1, ⟨px, hpt1, hap.mono fun x v z => z.over s1⟩, rfl⟩)
      · rw [take_snoc Ba]
        refine is_app hI (Fo.Is.leaf1 cd) (fun z c hc => ?_)
        cases hc
        exact hhd (by rcases Nat.eq_zero_or_pos at' with z0 | z0; exact absurd (by rw [z0]; rfl) z; exact z0) b Ba
      · have h1 := (hF.ok.ln at' b c Ba hc).1
        have h2 := hF.sh at' c hc
        omega
    · refine iteE (v := false) (decide_eq_false fun z => cd (ninj63 z)) (iteF ?_)
      have hlo := hF.lo b memb
      have hhi := hF.hi b memb
      obtain ⟨mn, rfl⟩ : ∃ k, mm = k + 1 := ⟨mm - 1, by omega⟩
      refine seq_any (fun σ' H2 => H2 = H' ∧ ∃ (m : Nat), σ' = [some (.ref l), some (.int (d : Int)), some (.ref it), some (.int (at' : Int)), some (.int (m : Int)), o5] ∧ at' < m ∧ m ≤ B.length ∧ (∀ i c, at' < i → i < m → B[i]? = some c → d < c.sh) ∧ (∀ c, B[m]? = some c → c.sh ≤ d)) (fun σ' H2 pp => ?_) (fun nx3 => ?_)
      rotate_left
      · refine while_ix B.length (fun j σ' H2 => H2 = H' ∧ ∃ (m : Nat), σ' = [some (.ref l), some (.int (d : Int)), some (.ref it), some (.int (at' : Int)), some (.int (m : Int)), o5] ∧ m = at' + 1 + j ∧ m ≤ B.length ∧ (∀ i c, at' < i → i < m → B[i]? = some c → d < c.sh)) ⟨rfl, at' + 1, rfl, rfl, hlt, fun i c h1 h2 => absurd h2 (Nat.not_lt.mpr h1)⟩ (fun j σ' H2 hj pp => ?_) (MT.and (MT.test (ME.op (MR.i0 _) (ME.var _) (ME.cb MB.len (MA.cons (ME.var _) MA.nil)))) (MT.test (ME.op (MR.i0 _) (ME.op (MR.ixT _) (ME.op (MR.ixL _) (ME.var _) (ME.var _)) (ME.c _)) (ME.var _))))
        obtain ⟨rfl, m, rfl, hm, hmB, hG⟩ := pp
        refine ⟨_, rfl, _, rfl, l, _, rfl, .inl (SqL.of hl'), _, _, rfl, rfl, _, rfl, ?_⟩
        refine ite2 (fun c => ?_) (fun c => nx3 _ _ ⟨rfl, m, rfl, by omega, hmB, hG, fun c' hc' => ?_⟩)
        · have c := dT c
          have hmlt : m < B.length := by rw [xl] at c; exact Int.ofNat_lt.mp c
          have Bm : B[m]? = some B[m] := List.getElem?_eq_getElem hmlt
          obtain ⟨x1, hx1, hbo1⟩ := hB.get Bm
          obtain ⟨t1, w1, p1, rfl, ht1, _, _⟩ := hbo1.over e
          refine ⟨_, rfl, _, rfl, l, _, _, _, rfl, rfl, SqL.of hl', atI_nat hx1, t1, _, 1, _, rfl, rfl, SqT.of ht1, rfl, _, rfl, _, _, rfl, rfl, _, rfl, ?_⟩
          refine ite2 (fun c => ?_) (fun c => nx3 _ _ ⟨rfl, m, rfl, by omega, hmB, hG, fun c' hc' => ?_⟩)
          · have c := dT c
            refine ⟨by omega, _, rfl, _, _, rfl, rfl, rfl, m + 1, rfl, by omega, hmlt, fun i c' h1 h2 h3 => ?_⟩
            by_cases z : i = m
            · subst z
              rw [Bm] at h3
              cases h3
              omega
            · exact hG i c' h1 (by omega) h3
          · have c := dF c
            rw [Bm] at hc'
            cases hc'
            omega
        · have c := dF c
          have := (List.getElem?_eq_some_iff.mp hc').1
          omega
      obtain ⟨rfl, m, rfl, hm1, hm2, hG, hend⟩ := pp
      have hwd : d < b.ways.length := Nat.lt_of_le_of_ne hlo (Ne.symm cd)
      have Wd : b.ways[d]? = some b.ways[d] := List.getElem?_eq_getElem hwd
      obtain ⟨xw, hxw, tw, rfl, htw⟩ := haw.get Wd
      refine ⟨_, rfl, _, rfl, l, _, _, _, rfl, rfl, SqL.of hl', at0, t, _, 2, _, rfl, rfl, SqT.of ht, rfl, _, rfl, w0, _, _, _, rfl, rfl, SqL.of hw, atI_nat hxw, ?_⟩
      refine ⟨_, rfl, .inl ⟨rfl, _, SqL.of hx⟩, _, rfl, tw, _, 0, _, rfl, rfl, SqT.of htw, rfl, _, rfl, tw, _, 1, _, rfl, rfl, SqT.of htw, rfl, ?_⟩
      have cy : cutV xs0 (some (at' : Int)) (some (m : Int)) = (xs0.drop at').take (m - at') := by
        have : cutV xs0 (some (at' : Int)) (some (m : Int)) = (xs0.drop (at' : Int).toNat).take ((m : Int).toNat - (at' : Int).toNat) := cut_mid xs0 (Int.natCast_nonneg _) (Int.natCast_nonneg _) (by rw [xl]; exact Int.ofNat_le.mpr hm2) (Int.ofNat_le.mpr (Nat.le_of_lt hm1))
        rw [this, Int.toNat_natCast, Int.toNat_natCast]
      refine ⟨_, rfl, _, rfl, _, rfl, _, rfl, _, rfl, l, _, rfl, SqL.of hl', fun sl hsl => ?_⟩
      have s1 := same_new hsl (.lst (cutV xs0 (some (at' : Int)) (some (m : Int))))
      have hsl1 : (upd H2 sl (.lst (cutV xs0 (some (at' : Int)) (some (m : Int))))) sl = some (.lst ((xs0.drop at').take (m - at'))) := by rw [← cy]; exact upd_same
      generalize upd H2 sl (.lst (cutV xs0 (some (at' : Int)) (some (m : Int)))) = H3 at s1 hsl1
      refine ⟨_, rfl, _, _, rfl, rfl, sl, d + 1, mn, (B.drop at').take (m - at'), rfl, ⟨_, hsl1, ((hB.mono fun x v z => z.over (e.trans s1)).drop at').take (m - at')⟩, hF.group Ba cd hm1 hG, by omega, by omega, fun r H4 f' e4 hf' hI' => ⟨szl (by show 4 ≤ 1000000; decide), fun r2 hr2 => ?_⟩⟩
      have s5 := same_new hr2 (.tup [V.str "sweep", V.bl (b.ways[d]).1, V.str (b.ways[d]).2, V.ref r])
      have hr5 : (upd H4 r2 (.tup [V.str "sweep", V.bl (b.ways[d]).1, V.str (b.ways[d]).2, V.ref r])) r2 = some (.tup [V.str "sweep", V.bl (b.ways[d]).1, V.str (b.ways[d]).2, V.ref r]) := upd_same
      have e5 := (s1.trans e4).trans s5
      have hf5 := hf'.over s5
      generalize upd H4 r2 (.tup [V.str "sweep", V.bl (b.ways[d]).1, V.str (b.ways[d]).2, V.ref r]) = H5 at e5 hr5 hf5
      have hx5 := e5 _ _ hx
      refine ⟨it, _, _, rfl, rfl, hx5, szlt (by omega), ?_⟩
      have tk : TK H5 (upd H5 it (.lst (xs ++ [V.ref r2]))) := TK.upd hx5
      obtain ⟨zs, hz1, hz2⟩ := hf5
      refine nx2 _ _ ⟨m, xs ++ [.ref r2], Fo.app f (.node (b.ways[d]).1 (b.ways[d]).2 f' .nil), _, rfl, fun a o ha => by rw [upd_ne (ne_of_none ha hit)]; exact e5 _ _ (e _ _ ha), upd_same, ?_, ?_, hm1, hm2, by rw [List.length_append, List.length_singleton]; omega, fun c hc => ?_⟩
      · exact FoAt.tk tk (FoAt.app (FoAt.over e5 hf) ⟨r2, r, zs, [], rfl, hr5, hz1, hz2, rfl⟩)
      · rw [← take_slice B (Nat.le_of_lt hm1)]
        have sl1 : (B.drop at').take (m - at') = b :: (B.drop (at' + 1)).take (m - at' - 1) := by
          rw [List.drop_eq_getElem_cons hlt, hb]
          obtain ⟨k, hk⟩ : ∃ k, m - at' = k + 1 := ⟨m - at' - 1, by omega⟩
          rw [hk]
          rfl
        rw [sl1] at hI' ⊢
        refine is_app hI (Fo.Is.node1 Wd (fun c hc => ?_) hI') (fun z c hc => ?_)
        · obtain ⟨i, hi⟩ := List.mem_iff_getElem?.mp hc
          have l2 := (List.getElem?_eq_some_iff.mp hi).1
          rw [List.length_take] at l2
          rw [List.getElem?_take_of_lt (by omega), List.getElem?_drop] at hi
          exact hG (at' + 1 + i) c (by omega) (by omega) hi
        · cases hc
          exact hhd (by rcases Nat.eq_zero_or_pos at' with z0 | z0; exact absurd (by rw [z0]; rfl) z; exact z0) b Ba
      · have h1 := hend c hc
        have h2 := hF.sh (m - 1) c (by rw [show m - 1 + 1 = m by omega]; exact hc)
        omega

theorem ok_paths63 (T : Tx K mg a) : FnOk P w K mg base CX0 1 a.f_l_paths a.d_l_paths ["_law_leaves_here"] spPaths := by
  refine T.F_l_paths.ok sc_l_paths (fun vs H Q E h => ?_) (fun cdv A outer s H vs Q E hr h => ?_)
  · obtain ⟨_, _, rfl, _⟩ := h; rfl
  obtain ⟨l, B, rfl, ⟨xs0, hl, hB⟩, ok, q⟩ := h
  refine ⟨_, (pss_cons (ps_set (i := 1) sc_l_paths.nd rfl (Or.inl rfl) (pe_lst pa_nil))
    (pss_cons (ps_for PassesOwn.never rfl (pi_enum (by rfl) T.z_enumerate (pa_cons (pv 0) pa_nil)) (pg_tup rfl (pgs_cons (pg_name (i := 2) sc_l_paths.nd rfl (Or.inl rfl)) (pgs_cons (pg_name (i := 3) sc_l_paths.nd rfl (Or.inl rfl)) pgs_nil)))
    (pss_cons (ps_set (i := 4) sc_l_paths.nd rfl (Or.inl rfl) (pe_tup (pa_cons pe_int pa_nil)))
    (pss_cons (ps_if (pt_cmpR op_gt (pv 2) pe_int (nomark _))
    (pss_one (ps_set (i := 4) sc_l_paths.nd rfl (Or.inl rfl) (pe_op op_catH (pe_slice sl_tupH (pe_ix ix_list (pv 1) (pe_op op_sub (pv 2) pe_int) (fun _ _ => rfl)) po_none (po_some (pe_ix ix_tup (pv 3) pe_int (fun _ _ => rfl)))) (pe_tup (pa_cons (pe_op op_add (pe_ix ix_tup (pe_ix ix_list (pv 1) (pe_op op_sub (pv 2) pe_int) (fun _ _ => rfl)) (pe_ix ix_tup (pv 3) pe_int (fun _ _ => rfl)) (fun _ _ => rfl)) pe_int) pa_nil)))))
    pss_nil)
    (pss_one (ps_expr (pe_bm PySem.F.plainAttrs_list PySem.F.slot_list_append PySem.F.type_list_append mt_append (pv 1) (pa_cons (pe_op op_catH (pv 4) (pe_op op_rep6 (pe_tup (pa_cons pe_int pa_nil)) (pe_op op_sub (pe_callB call_len_seq (by rfl) T.z_len bt_len (pa_cons (pe_ix ix_tup (pv 3) pe_int (fun _ _ => rfl)) pa_nil)) (pe_ix ix_tup (pv 3) pe_int (fun _ _ => rfl))))) pa_nil)))))))
    (pss_one (ps_ret (pv 1))))), ?_⟩
  have xl := hB.1
  have Bl := ok.len
  refine ⟨szl (by show 0 ≤ 1000000; decide), fun fo hfo => ?_⟩
  have e1 := same_new hfo (.lst [])
  have hfo1 : (upd H fo (.lst [])) fo = some (.lst []) := upd_same
  dsimp only [gName]
  generalize upd H fo (.lst []) = H1 at e1 hfo1
  refine ⟨_, rfl, l, rfl, ⟨_, SqL.of (e1 _ _ hl)⟩, ?_⟩
  refine for_enum (xs := xs0) (fun i σ' H' => ∃ (ys : List V) (o2 o3 o4 : Option V), σ' = [some (.ref l), some (.ref fo), o2, o3, o4] ∧ Same H H' ∧ H' fo = some (.lst ys) ∧ All2 (PaAt H') ys ((allP B).take i)) ⟨[], _, _, _, rfl, e1, hfo1, .nil⟩ (fun i σ' H' _ pp => by obtain ⟨_, _, _, _, _, e, _⟩ := pp; exact SqL.of (e _ _ hl)) (fun i x Tt σ' H' hx pp hT => ?_) (fun σ' H' pp => ?_)
  rotate_left
  · obtain ⟨ys, o2, o3, o4, rfl, e, hy, ay⟩ := pp
    rw [List.take_of_length_le (by rw [allP_len, xl]; exact Nat.le_refl _)] at ay
    exact ⟨_, rfl, q fo ys _ e hy ay⟩
  obtain ⟨ys, o2, o3, o4, rfl, e, hy, ay⟩ := pp
  obtain ⟨b, hb, lf⟩ := hB.get' hx
  have hi := (List.getElem?_eq_some_iff.mp hb).1
  have hPi : (allP B)[i]? = some ((allP B)[i]'(by rw [allP_len]; exact hi)) := List.getElem?_eq_getElem _
  generalize (allP B)[i]'(by rw [allP_len]; exact hi) = pi at hPi
  have hsh := ok.ok.sh b (List.mem_of_getElem? hb)
  have hw6 := ok.way b (List.mem_of_getElem? hb)
  have pil := allP_lens ok i b pi hPi hb
  have yl := ay.1
  rw [List.length_take, allP_len] at yl
  have sT := same_new hT (.tup [V.int (i : Int), x])
  have e2 := e.trans sT
  have hy2 := sT _ _ hy
  have ay2 := ay.mono fun y v z => z.over sT
  obtain ⟨t, w0, p0, rfl, ht, ⟨wx, hw, haw⟩, _⟩ := lf
  have wxl := haw.1
  refine ⟨Tt, _, rfl, SqT.of upd_same, rfl, _, _, rfl, _, _, rfl, rfl, ?_⟩
  generalize upd H' Tt (.tup [V.int (i : Int), V.ref t]) = H2 at e2 hy2 ay2
  refine ⟨szl (by show 1 ≤ 1000000; decide), fun t0 ht0 => ?_⟩
  have s3 := same_new ht0 (.tup [V.int 0])
  have h03 : (upd H2 t0 (.tup [V.int 0])) t0 = some (.tup [V.int 0]) := upd_same
  dsimp only [gName]
  generalize upd H2 t0 (.tup [V.int 0]) = H3 at s3 h03
  have e3 := e2.trans s3
  have hy3 := s3 _ _ hy2
  have ay3 := ay2.mono fun y v z => z.over s3
  refine seq_any (fun σ' H4 => ∃ (pt : Addr) (pre : List Int), σ' = [some (.ref l), some (.ref fo), some (.int (i : Int)), some (.ref t), some (.ref pt)] ∧ Same H3 H4 ∧ H4 pt = some (.tup (pre.map V.int)) ∧ pre ++ List.replicate (b.ways.length - b.sh) 0 = pi) (fun σ' H4 pp => ?_) (fun nx => ?_)
  · obtain ⟨pt, pre, rfl, e4, hpt, epi⟩ := pp
    have eH4 := e3.trans e4
    have hy4 := e4 _ _ hy3
    have ht4 := eH4 _ _ ht
    have prl : pre.length ≤ 10 := by
      have := congrArg List.length epi
      rw [List.length_append, List.length_replicate] at this
      omega
    refine ⟨_, rfl, .inl ⟨rfl, _, SqL.of hy4⟩, _, rfl, szl (by show 1 ≤ 1000000; decide), fun t1 ht1 => ?_⟩
    have s5 := same_new ht1 (.tup [V.int 0])
    refine ⟨_, rfl, t, _, 2, _, rfl, rfl, SqT.of (s5 _ _ ht4), rfl, w0, _, rfl, .inl (SqL.of ((eH4.trans s5) _ _ hw)), _, rfl, t, _, 1, _, rfl, rfl, SqT.of (s5 _ _ ht4), rfl, _, _, rfl, rfl, ?_⟩
    refine ⟨t1, b.ways.length - b.sh, .int 0, rfl, by rw [wxl]; exact congrArg V.int (by omega), upd_same, by omega, fun tz H5 e5 htz => ?_⟩
    have e45 := s5.trans e5
    refine ⟨pt, tz, _, _, rfl, rfl, e45 _ _ hpt, htz, szl (by rw [List.length_map, List.length_replicate]; omega), fun np H6 e6 hnp => ?_⟩
    have e46 := e45.trans e6
    have hy6 := e46 _ _ hy4
    have hnp : H6 np = some (.tup (pi.map V.int)) := by rw [← epi, List.map_append, List.map_replicate]; exact hnp
    refine ⟨fo, _, _, rfl, rfl, hy6, szlt (by omega), ?_⟩
    have tk := TK.upd (o := .lst (ys ++ [V.ref np])) hy6
    refine ⟨_, _, _, _, rfl, fun a o ha => by rw [upd_ne (ne_of_none ha hfo)]; exact e46 _ _ (eH4 _ _ ha), upd_same, ?_⟩
    rw [take_snoc hPi]
    exact (ay3.mono fun y v z => (z.over (e4.trans e46)).tk tk).snoc ⟨np, rfl, tk _ _ hnp⟩
  refine ⟨_, rfl, _, _, rfl, rfl, _, rfl, ?_⟩
  refine ite2 (fun c => ?_) (fun c => ?_)
  · have c := dT c
    obtain ⟨j, rfl⟩ : ∃ j, i = j + 1 := ⟨i - 1, by omega⟩
    have hb0 : B[j]? = some B[j] := List.getElem?_eq_getElem (by omega)
    have hp0 : (allP B)[j]? = some ((allP B)[j]'(by rw [allP_len]; omega)) := List.getElem?_eq_getElem _
    generalize hpp : (allP B)[j]'(by rw [allP_len]; omega) = pj at hp0
    have pl := allP_lens ok j _ _ hp0 hb0
    have o := (ok.ok.ln j _ b hb0 hb).1
    rw [allP_next hp0 hb] at hPi
    cases hPi
    obtain ⟨xj, hxj, tj, rfl, htj⟩ := (ay3.mono fun y v z => z).get (i := j) (a := pj) (by rw [List.getElem?_take_of_lt (Nat.lt_succ_self j)]; exact hp0)
    have aj : atI ys (((j + 1 : Nat) : Int) - 1) = some (.ref tj) := by
      rw [show (((j + 1 : Nat) : Int) - 1) = (j : Int) by omega]
      exact atI_nat hxj
    have ash : (pj.map V.int)[b.sh]? = some (.int (pj.getD b.sh 0)) := by
      rw [List.getElem?_map, List.getD_eq_getElem?_getD, List.getElem?_eq_getElem (by omega : b.sh < pj.length)]
      rfl
    refine ⟨_, rfl, _, rfl, _, _, rfl, rfl, fo, _, _, _, rfl, rfl, SqL.of hy3, aj, ?_⟩
    refine ⟨_, rfl, t, _, 1, _, rfl, rfl, SqT.of (e3 _ _ ht), rfl, _, rfl, tj, _, rfl, htj, fun sl H4 e4 hsl => ?_⟩
    have ct : cutV (pj.map V.int) none (some (b.sh : Int)) = (pj.take b.sh).map V.int := by
      have : cutV (pj.map V.int) none (some (b.sh : Int)) = (pj.map V.int).take ((b.sh : Int)).toNat := cut_to _ (Int.natCast_nonneg _)
      rw [this, Int.toNat_natCast, List.map_take]
    have hsl : H4 sl = some (.tup ((pj.take b.sh).map V.int)) := by rw [← ct]; exact hsl
    refine ⟨_, rfl, _, rfl, _, _, rfl, rfl, fo, _, _, _, rfl, rfl, SqL.of (e4 _ _ hy3), aj, _, rfl, t, _, 1, _, rfl, rfl, SqT.of (e4 _ _ (e3 _ _ ht)), rfl, tj, _, _, _, rfl, rfl, SqT.of (e4 _ _ htj), atI_nat ash, _, _, rfl, rfl, szl (by show 1 ≤ 1000000; decide), fun tq htq => ?_⟩
    have s5 := same_new htq (.tup [V.int (pj.getD b.sh 0 + 1)])
    refine ⟨sl, tq, _, _, rfl, rfl, s5 _ _ hsl, upd_same, szl (by rw [List.length_map, List.length_take, List.length_singleton]; omega), fun np H6 e6 hnp => ?_⟩
    refine nx _ _ ⟨np, pj.take b.sh ++ [pj.getD b.sh 0 + 1], rfl, (e4.trans s5).trans e6, by rw [List.map_append]; exact hnp, rfl⟩
  · have c := dF c
    have : i = 0 := by omega
    subst this
    have z0 : b.sh = 0 := ok.fst b (by rw [List.head?_eq_getElem?]; exact hb)
    refine nx _ _ ⟨t0, [0], rfl, Same.refl _, h03, ?_⟩
    cases B with
    | nil => cases hb
    | cons b0 B =>
      cases hb
      cases hPi
      rw [z0]
      rfl

theorem ok_due63 (T : Tx K mg a) : FnOk P w K mg base CX0 1 a.f_l_due a.d_l_due ["_law_leaves_here", "_law_paths_here"] spDue63 := by
  refine T.F_l_due.ok sc_l_due (fun vs H Q E h => ?_) (fun cdv A outer s H vs Q E hr h => ?_)
  · obtain ⟨_, _, _, _, rfl, _⟩ := h; rfl
  obtain ⟨l, pl, B, ps, rfl, ⟨xs0, hl, hB⟩, ok, hpl, aP, q⟩ := h
  refine ⟨_, (pss_cons (ps_set (i := 2) sc_l_due.nd rfl (Or.inl rfl) (pe_lst pa_nil))
    (pss_cons (ps_for PassesOwn.never rfl (pi_zip2 (by rfl) T.z_zip (pa_cons (pv 0) (pa_cons (pv 1) pa_nil))) (pg_tup rfl (pgs_cons (pg_name (i := 3) sc_l_due.nd rfl (Or.inl rfl)) (pgs_cons (pg_name (i := 4) sc_l_due.nd rfl (Or.inl rfl)) pgs_nil)))
    (pss_one (ps_for PassesOwn.never rfl (pi_range2 (by rfl) T.z_range (pa_cons (pe_ix ix_tup (pv 3) pe_int (fun _ _ => rfl)) (pa_cons (pe_callB call_len_seq (by rfl) T.z_len bt_len (pa_cons (pe_ix ix_tup (pv 3) pe_int (fun _ _ => rfl)) pa_nil)) pa_nil))) (pg_name (i := 5) sc_l_due.nd rfl (Or.inl rfl))
    (pss_one (ps_expr (pe_bm PySem.F.plainAttrs_list PySem.F.slot_list_append PySem.F.type_list_append mt_append (pv 2) (pa_cons (pe_tup (pa_cons (pe_slice sl_tupH (pv 4) po_none (po_some (pe_op op_add (pv 5) pe_int))) (pa_cons (pe_ix ix_tup (pe_ix ix_list (pe_ix ix_tup (pv 3) pe_int (fun _ _ => rfl)) (pv 5) (fun _ _ => rfl)) pe_int (fun _ _ => rfl)) (pa_cons (pe_ix ix_tup (pe_ix ix_list (pe_ix ix_tup (pv 3) pe_int (fun _ _ => rfl)) (pv 5) (fun _ _ => rfl)) pe_int (fun _ _ => rfl)) pa_nil)))) pa_nil)))))))
    (pss_one (ps_ret (pv 2))))), ?_⟩
  have xl := hB.1
  have Bl := ok.len
  have Pl := aP.1
  rw [allP_len] at Pl
  refine ⟨szl (by show 0 ≤ 1000000; decide), fun fo hfo => ?_⟩
  have e1 := same_new hfo (.lst [])
  have hfo1 : (upd H fo (.lst [])) fo = some (.lst []) := upd_same
  dsimp only [gName]
  generalize upd H fo (.lst []) = H1 at e1 hfo1
  refine ⟨_, rfl, _, rfl, l, pl, rfl, ⟨_, SqL.of (e1 _ _ hl)⟩, ⟨_, SqL.of (e1 _ _ hpl)⟩, ?_⟩
  refine for_zip (xs := xs0) (ys := ps) (by omega) (fun i σ' H' => ∃ (ys : List V) (o3 o4 o5 : Option V), σ' = [some (.ref l), some (.ref pl), some (.ref fo), o3, o4, o5] ∧ Same H H' ∧ H' fo = some (.lst ys) ∧ All2 (SwAt H') ys (((B.zip (allP B)).take i).flatMap gS)) ⟨[], _, _, _, rfl, e1, hfo1, .nil⟩ (fun i σ' H' _ pp => by obtain ⟨_, _, _, _, _, e, _⟩ := pp; exact ⟨SqL.of (e _ _ hl), SqL.of (e _ _ hpl)⟩) (fun i x y Tt σ' H' hx hy pp hT => ?_) (fun σ' H' pp => ?_)
  rotate_left
  · obtain ⟨ys, o3, o4, o5, rfl, e, hy, ay⟩ := pp
    rw [List.take_of_length_le (by rw [List.length_zip]; omega), ← allS_zip ok.fst] at ay
    exact ⟨_, rfl, q fo ys _ e hy ay⟩
  obtain ⟨ys0, o3, o4, o5, rfl, e, hfo2, ay⟩ := pp
  obtain ⟨b, hb, lf⟩ := hB.get' hx
  obtain ⟨p, hp, tp, rfl, htp⟩ := aP.get' hy
  have hi := (List.getElem?_eq_some_iff.mp hb).1
  have hsh := ok.ok.sh b (List.mem_of_getElem? hb)
  have hw6 := ok.way b (List.mem_of_getElem? hb)
  have yl := ay.1
  have fl := flat_len ok.way (allP B) i
  have sT := same_new hT (.tup [x, V.ref tp])
  have e2 := e.trans sT
  have hy2 := sT _ _ hfo2
  have ay2 := ay.mono fun y v z => z.over sT
  obtain ⟨t, w0, p0, rfl, ht, ⟨wx, hw, haw⟩, _⟩ := lf
  have wxl := haw.1
  refine ⟨Tt, _, rfl, SqT.of upd_same, rfl, _, _, rfl, _, _, rfl, rfl, ?_⟩
  generalize upd H' Tt (.tup [V.ref t, V.ref tp]) = H2 at e2 hy2 ay2
  refine ⟨_, rfl, t, _, 1, _, rfl, rfl, SqT.of (e2 _ _ ht), rfl, _, rfl, t, _, 2, _, rfl, rfl, SqT.of (e2 _ _ ht), rfl, w0, _, rfl, .inl (SqL.of (e2 _ _ hw)), _, _, rfl, ⟨by omega, by omega, by omega, by omega⟩, ?_⟩
  rw [show ((wx.length : Int) - (b.sh : Int)).toNat = b.ways.length - b.sh by omega]
  have gl := gS_len b p
  refine for_range (lo := (b.sh : Int)) (n := b.ways.length - b.sh) (fun j σ' H' => ∃ (ys : List V) (o5 : Option V), σ' = [some (.ref l), some (.ref pl), some (.ref fo), some (.ref t), some (.ref tp), o5] ∧ Same H H' ∧ H' fo = some (.lst ys) ∧ All2 (SwAt H') ys (((B.zip (allP B)).take i).flatMap gS ++ (gS (b, p)).take j)) ⟨ys0, _, rfl, e2, hy2, by rw [List.take_zero, List.append_nil]; exact ay2⟩ (fun j σ' H' hj pp => ?_) (fun σ' H' pp => ?_)
  rotate_left
  · obtain ⟨ys, o5, rfl, e, hy, ay⟩ := pp
    refine ⟨ys, _, _, _, rfl, e, hy, ?_⟩
    rw [zip_take_snoc hb hp]
    have tg : (gS (b, p)).take (b.ways.length - b.sh) = gS (b, p) := List.take_of_length_le (by omega)
    rw [tg] at ay
    exact ay
  obtain ⟨ys, o5, rfl, e, hy, ay⟩ := pp
  have yl2 := ay.1
  rw [List.length_append, List.length_take] at yl2
  have hwj : (b.ways.drop b.sh)[j]? = some (b.ways[b.sh + j]'(by omega)) := by rw [List.getElem?_drop]; exact List.getElem?_eq_getElem _
  have hwj' : b.ways[b.sh + j]? = some (b.ways[b.sh + j]'(by omega)) := List.getElem?_eq_getElem _
  generalize b.ways[b.sh + j]'(by omega) = wy at hwj hwj'
  obtain ⟨xw, hxw, tw, rfl, htw⟩ := haw.get hwj'
  have gj : (gS (b, p))[j]? = some (p.take (b.sh + j + 1), wy.1, wy.2) := swOf_get p _ b.sh j wy hwj
  have cast : ((b.sh : Int) + (j : Int)) = ((b.sh + j : Nat) : Int) := by omega
  dsimp only [gName]
  rw [cast]
  refine ⟨_, rfl, .inl ⟨rfl, _, SqL.of hy⟩, _, rfl, _, rfl, _, _, rfl, rfl, _, rfl, tp, _, rfl, e _ _ htp, fun sl H3 e3 hsl => ?_⟩
  have ct : cutV (p.map V.int) none (some (((b.sh + j : Nat) : Int) + 1)) = (p.take (b.sh + j + 1)).map V.int := by
    have : cutV (p.map V.int) none (some (((b.sh + j : Nat) : Int) + 1)) = (p.map V.int).take (((b.sh + j : Nat) : Int) + 1).toNat := cut_to _ (by omega)
    rw [this, show (((b.sh + j : Nat) : Int) + 1).toNat = b.sh + j + 1 by omega, List.map_take]
  have hsl : H3 sl = some (.tup ((p.take (b.sh + j + 1)).map V.int)) := by rw [← ct]; exact hsl
  have eH3 := e.trans e3
  refine ⟨_, rfl, t, _, 2, _, rfl, rfl, SqT.of (eH3 _ _ ht), rfl, _, rfl, w0, _, _, _, rfl, rfl, SqL.of (eH3 _ _ hw), atI_nat hxw, tw, _, 0, _, rfl, rfl, SqT.of (eH3 _ _ htw), rfl, _, rfl, t, _, 2, _, rfl, rfl, SqT.of (eH3 _ _ ht), rfl, _, rfl, w0, _, _, _, rfl, rfl, SqL.of (eH3 _ _ hw), atI_nat hxw, tw, _, 1, _, rfl, rfl, SqT.of (eH3 _ _ htw), rfl, szl (by show 3 ≤ 1000000; decide), fun r hr => ?_⟩
  have s4 := same_new hr (.tup [V.ref sl, V.bl wy.1, V.str wy.2])
  have hy4 := s4 _ _ (e3 _ _ hy)
  have nr : r ≠ fo := fun z => by rw [z, e3 _ _ hy] at hr; cases hr
  refine ⟨fo, _, _, rfl, rfl, hy4, szlt (by omega), ?_⟩
  have tk := TK.upd (o := .lst (ys ++ [V.ref r])) hy4
  refine ⟨_, _, rfl, fun a o ha => by rw [upd_ne (ne_of_none ha hfo)]; exact s4 _ _ (eH3 _ _ ha), upd_same, ?_⟩
  rw [take_snoc gj, ← List.append_assoc]
  exact (ay.mono fun y v z => (z.over (e3.trans s4)).tk tk).snoc ⟨r, sl, rfl, by rw [upd_ne nr]; exact upd_same, tk _ _ (s4 _ _ hsl)⟩

theorem ok_law (T : Tx K mg a) : FnOk P w K mg base CX0 12 a.f_law a.d_law ["_law_script"] (spLaw K) := by
  have G_l_at := ok_at63 (P := P) (w := w) (base := base) T
  have G_l_leaves := ok_leaves63 (P := P) (w := w) (base := base) T
  have G_l_items := ok_items (P := P) (w := w) (base := base) T 7
  have G_l_paths := ok_paths63 (P := P) (w := w) (base := base) T
  have G_l_due := ok_due63 (P := P) (w := w) (base := base) T
  have G_sweeps_of := ok_swo (P := P) (w := w) (base := base) T
  have G_l_same := ok_same (P := P) (w := w) (base := base) T 5
  have G_stand := ok_standp (P := P) (w := w) (base := base) T
  refine T.F_law.ok sc_law (fun vs H Q E h => ?_) (fun cdv A outer s H vs Q E hr h => ?_)
  · obtain ⟨_, _, rfl, _⟩ := h; rfl
  obtain ⟨p, ns, rfl, hp, h63, _, q⟩ := h
  refine ⟨_, (pss_cons (ps_setcompB (i := 1) ["_law_k", "_law_script"] [none, some 0] sc_law.nd rfl (Or.inl rfl) (by rfl) (pi_range1 (by rfl) T.z_range (pa_cons (pe_op op_add pe_int (pe_op op_mod (pe_call G_l_at (hr.mono (by omega)) (by rfl) T.m_l_at T.F_l_at.kp T.b_l_at .nil pass0 (pa_cons (pv 0) (pa_cons pe_int pa_nil))) pe_int)) pa_nil)) c_law_0 (fun _ _ _ _ _ _ => ⟨(pg_name (i := 0) c_law_0n rfl (Or.inl rfl)), pts_nil, (pe_ix (show IxR _ (rIxL K) from ix_list) (pe_lst (pa_cons pe_int (pa_cons pe_int (pa_cons pe_int (pa_cons pe_int pa_nil))))) (pe_op op_mod (pe_call G_l_at (hr.mono (by omega)) (by rfl) T.m_l_at T.F_l_at.kp T.b_l_at .nil pass0 (pa_cons (pv 1) (pa_cons (pe_op op_add pe_int (pv 0)) pa_nil))) pe_int) (fun _ _ => rfl))⟩))
    (pss_cons (ps_set (i := 2) sc_law.nd rfl (Or.inl rfl) (pe_call G_l_leaves (hr.mono (by omega)) (by rfl) T.m_l_leaves T.F_l_leaves.kp T.b_l_leaves .nil pass0 (pa_cons (pv 0) (pa_cons pe_int (pa_cons (pv 1) (pa_cons (pe_lst (pa_cons pe_str (pa_cons pe_str (pa_cons pe_str pa_nil)))) (pa_cons pe_bl pa_nil)))))))
    (pss_cons (ps_set (i := 3) sc_law.nd rfl (Or.inl rfl) (pe_call G_l_items (hr.mono (by omega)) (by rfl) T.m_l_items T.F_l_items.kp T.b_l_items .nil pass0 (pa_cons (pv 2) (pa_cons pe_int pa_nil))))
    (pss_cons (ps_set (i := 4) sc_law.nd rfl (Or.inl rfl) (pe_call G_l_paths (hr.mono (by omega)) (by rfl) T.m_l_paths T.F_l_paths.kp T.b_l_paths .nil pass0 (pa_cons (pv 2) pa_nil)))
    (pss_cons (ps_set (i := 5) sc_law.nd rfl (Or.inl rfl) (pe_call G_l_due (hr.mono (by omega)) (by rfl) T.m_l_due T.F_l_due.kp T.b_l_due .nil pass0 (pa_cons (pv 2) (pa_cons (pv 4) pa_nil))))
    (pss_cons (ps_set (i := 6) sc_law.nd rfl (Or.inl rfl) (pe_call G_sweeps_of (hr.mono (by omega)) (by rfl) T.m_sweeps_of T.F_sweeps_of.kp T.b_sweeps_of .nil pass0 (pa_cons (pv 3) pa_nil)))
    (pss_cons (ps_if ((pw_or (pt_not (pt_val (pe_callB call_isi (by rfl) T.z_isinstance bt_isinstance (pa_cons (pv 6) (pa_cons (pe_bltn (v := .ty "list") (by rfl) T.z_list bt_list rfl) pa_nil))))) (pw_or1 (pt_not (pt_val (pe_call G_l_same (hr.mono (by omega)) (by rfl) T.m_l_same T.F_l_same.kp T.b_l_same .nil pass0 (pa_cons (pe_callTy call_tuple_of (by rfl) T.z_tuple bt_tuple (pa_cons (pv 6) pa_nil)) (pa_cons (pe_callTy call_tuple_of (by rfl) T.z_tuple bt_tuple (pa_cons (pv 5) pa_nil)) pa_nil)))))))).pt
    (pss_one (ps_ret pe_bl))
    pss_nil)
    (pss_cons (ps_for PassesOwn.never rfl (pi_zip2 (by rfl) T.z_zip (pa_cons (pv 2) (pa_cons (pv 4) pa_nil))) (pg_tup rfl (pgs_cons (pg_name (i := 7) sc_law.nd rfl (Or.inl rfl)) (pgs_cons (pg_name (i := 8) sc_law.nd rfl (Or.inl rfl)) pgs_nil)))
    (pss_one (ps_if (pt_not (pt_val (pe_call G_l_same (hr.mono (by omega)) (by rfl) T.m_l_same T.F_l_same.kp T.b_l_same .nil pass0 (pa_cons (pe_call G_stand (hr.mono (by omega)) (by rfl) T.m_stand T.F_stand.kp T.b_stand .nil pass0 (pa_cons (pv 3) (pa_cons (pe_ix ix_tup (pv 7) pe_int (fun _ _ => rfl)) pa_nil))) (pa_cons (pe_tup (pa_cons (pv 8) (pa_cons (pe_ix ix_tup (pv 7) pe_int (fun _ _ => rfl)) pa_nil))) pa_nil)))))
    (pss_one (ps_ret pe_bl))
    pss_nil)))
    (pss_cons (ps_expr (pe_bm PySem.F.plainAttrs_list PySem.F.slot_list_append PySem.F.type_list_append mt_append (pv 6) (pa_cons (pe_tup (pa_cons (pe_tup (pa_cons pe_int pa_nil)) (pa_cons pe_bl (pa_cons pe_str pa_nil)))) pa_nil)))
    (pss_cons (ps_if (pt_cmpR (op_neS (hu64 hr)) (pe_call G_sweeps_of (hr.mono (by omega)) (by rfl) T.m_sweeps_of T.F_sweeps_of.kp T.b_sweeps_of .nil pass0 (pa_cons (pe_tup (pa_cons (pe_tup (pa_cons pe_str (pa_cons pe_int (pa_cons (pe_tup pa_nil) pa_nil)))) pa_nil)) pa_nil)) (pe_lst pa_nil) (nomark _))
    (pss_one (ps_ret pe_bl))
    pss_nil)
    (pss_one (ps_ret (pe_and (pe_cmpR (op_eqS (hu64 hr)) (pe_call G_sweeps_of (hr.mono (by omega)) (by rfl) T.m_sweeps_of T.F_sweeps_of.kp T.b_sweeps_of .nil pass0 (pa_cons (pv 3) pa_nil)) (pv 5) (nomark _)) (pe_one (pe_cmpR (op_eqS (hu64 hr)) (pe_call G_stand (hr.mono (by omega)) (by rfl) T.m_stand T.F_stand.kp T.b_stand .nil pass0 (pa_cons (pv 3) (pa_cons (pe_ix ix_tup (pe_ix ix_list (pv 2) pe_int (fun _ _ => rfl)) pe_int (fun _ _ => rfl)) pa_nil))) (pe_tup (pa_cons (pe_ix ix_list (pv 4) pe_int (fun _ _ => rfl)) (pa_cons (pe_ix ix_tup (pe_ix ix_list (pv 2) pe_int (fun _ _ => rfl)) pe_int (fun _ _ => rfl)) pa_nil))) (nomark _)))))))))))))))), ?_⟩
  refine ⟨_, rfl, p, ns, 0, rfl, hp, by decide, by decide, fun c0 _ _ => ⟨_, _, rfl, rfl, (by show (0 : Int) < 6; decide), _, _, rfl, rfl, ?_⟩⟩
  have m0 := Int.emod_nonneg c0 (show (6 : Int) ≠ 0 by decide)
  have m1 := Int.emod_lt_of_pos c0 (show (0 : Int) < 6 by decide)
  obtain ⟨m, em⟩ : ∃ m : Nat, 1 + c0 % 6 = (m : Int) := ⟨(1 + c0 % 6).toNat, by omega⟩
  refine ⟨1 + c0 % 6, rfl, by omega, by omega, ?_⟩
  rw [show (1 + c0 % 6).toNat = m by omega]
  refine comp_range (lo := 0) (n := m) (fun i ys H' => Same H H' ∧ ∃ D : List Int, ys = D.map V.int ∧ D.length = i ∧ ∀ d ∈ D, 0 ≤ d ∧ d ≤ 3) ⟨Same.refl _, [], rfl, rfl, fun d hd => by cases hd⟩ (szl (by omega)) (fun i ys H' hi pp => by obtain ⟨_, D, rfl, h, _⟩ := pp; rw [List.length_map]; omega) (fun i ys H' hi pp => ?_) (fun ys H1 pp dl hdl => ?_)
  · obtain ⟨e, D, rfl, Dl, hD⟩ := pp
    refine ⟨szl (by show 4 ≤ 1000000; decide), fun l hl => ?_⟩
    have s1 := same_new hl (.lst [V.int 2, V.int 1, V.int 3, V.int 0])
    refine ⟨_, rfl, _, rfl, _, _, rfl, rfl, p, ns, _, rfl, (e.trans s1).seq hp, (by show (0 : Int) ≤ 1 + (0 + (i : Int)); omega), (by show 1 + (0 + (i : Int)) ≤ 1000000; omega), fun mm _ _ => ?_⟩
    obtain ⟨z, hz, ez⟩ := pickN (L := [2, 1, 3, 0]) (i := mm % 4) 4 rfl (Int.emod_nonneg _ (by decide)) (Int.emod_lt_of_pos _ (by decide))
    refine ⟨_, _, rfl, rfl, (by show (0 : Int) < 4; decide), l, _, _, _, rfl, rfl, SqL.of upd_same, ez, e.trans s1, D ++ [z], by rw [List.map_append]; rfl, by rw [List.length_append, Dl]; rfl, fun d hd => ?_⟩
    rcases List.mem_append.mp hd with hd | hd
    · exact hD d hd
    · rw [List.mem_singleton] at hd
      subst hd
      simp only [List.mem_cons, List.not_mem_nil, or_false] at hz
      omega
  obtain ⟨e0, D, rfl, Dl, hD⟩ := pp
  have s1 := e0.trans (same_new hdl (.lst (D.map V.int)))
  have hdl1 : (upd H1 dl (.lst (D.map V.int))) dl = some (.lst (D.map V.int)) := upd_same
  dsimp only [gName]
  generalize upd H1 dl (.lst (D.map V.int)) = H2 at s1 hdl1
  refine ⟨_, rfl, _, rfl, szl (by show 3 ≤ 1000000; decide), fun wl hwl => ?_⟩
  have s2 := same_new hwl (.lst [V.str "up", V.str "down", V.str "any"])
  refine ⟨p, dl, wl, ns, D, rfl, (s1.trans s2).seq hp, s2 _ _ hdl1, upd_same, hD, by omega, by omega, fun lv H3 B e3 hB ok Bl nd => ?_⟩
  dsimp only [gName]
  have Bpos : 0 < B.length := by omega
  refine ⟨_, rfl, lv, 0, 6, B, rfl, hB, ok.from, by decide, by decide, fun pt H4 f e4 hf hI => ?_⟩
  dsimp only [gName]
  have dep7 : dep f ≤ 7 := dep_of f B 0 6 hI fun b hb => by have := ok.way b hb; omega
  have dlen : (Fo.deedsF f [] 0).length ≤ 1000 := by rw [Fo.deeds_len [] 0 hI]; have := ok.len; omega
  have swe := plan_sweeps hI Bpos
  have swl := allS_len ok
  have hB4 := hB.over e4
  refine ⟨_, rfl, lv, B, rfl, hB4, ok, fun pl px H5 e5 hpl aP => ?_⟩
  dsimp only [gName]
  refine ⟨_, rfl, _, rfl, lv, pl, B, px, rfl, hB4.over e5, ok, hpl, aP, fun du dx H6 e6 hdu aD => ?_⟩
  dsimp only [gName]
  have e46 := e5.trans e6
  refine ⟨_, rfl, pt, f, rfl, hf.over e46, dep7, by rw [swe]; omega, fun fo fx H7 e7 hfn hfo aF => ?_⟩
  dsimp only [gName]
  rw [swe] at aF
  have e47 := e46.trans e7
  have hf7 := hf.over e47
  have hdu7 := e7 _ _ hdu
  have aD7 := aD.mono fun x s z => z.over e7
  have hpl7 := e7 _ _ (e6 _ _ hpl)
  have aP7 := aP.mono fun x s z => z.over (e6.trans e7)
  have hB7 := hB4.over e47
  have ndu : du ≠ fo := ne_of_none hdu hfn
  have nlv : lv ≠ fo := by
    obtain ⟨ys6, hlv6, _⟩ := hB4.over e46
    exact ne_of_none hlv6 hfn
  have npl : pl ≠ fo := ne_of_none (e6 _ _ hpl) hfn
  have dxl := aD.1
  have fxl := aF.1
  have pxl := aP.1
  rw [allP_len] at pxl
  clear hB hB4 aP aD hdl1 hdl hwl s1 s2 e0
  refine if_any (fun _ => False) (fun _ z => z.elim) (fun _ => ?_)
  refine ⟨_, rfl, _, _, _, _, _, rfl, rfl, .lst hfo, rfl, _, rfl, iteF ?_⟩
  refine ⟨_, rfl, fo, fx, rfl, .inl ⟨SqL.of hfo, fun t1 ht1 => ?_⟩⟩
  have s1 := same_new ht1 (.tup fx)
  refine ⟨_, rfl, du, dx, rfl, .inl ⟨SqL.of (s1 _ _ hdu7), fun t2 ht2 => ?_⟩⟩
  have s2 := same_new ht2 (.tup dx)
  have s12 := s1.trans s2
  refine ⟨.ref t1, .ref t2, .tup ((allS B).map swT), rfl, swsT_nt (s2 _ _ upd_same) (aF.mono fun _ _ z => z.over s12), swsT_nt upd_same (aD7.mono fun _ _ z => z.over s12), by rw [depT]; have := sws_dep (allS B); omega, sws_br (by omega) (allS_short ok), fun H8 e8 => ⟨_, rfl, iteF ?_⟩⟩
  have e78 := s12.trans e8
  have hf8 := hf7.over e78
  have hdu8 := e78 _ _ hdu7
  have aD8 := aD7.mono fun x s z => z.over e78
  have hpl8 := e78 _ _ hpl7
  have aP8 := aP7.mono fun x s z => z.over e78
  obtain ⟨xs0, hlv8, hB8⟩ := hB7.over e78
  have hfo8 := e78 _ _ hfo
  have xl := hB8.1
  clear s1 s2 s12 e8 e78 hf7 hdu7 aD7 hpl7 aP7 hB7 hfo aF ht1 ht2
  refine ⟨_, rfl, _, rfl, lv, pl, rfl, ⟨_, SqL.of hlv8⟩, ⟨_, SqL.of hpl8⟩, ?_⟩
  refine for_zip (xs := xs0) (ys := px) (by omega) (fun i σ' H' => Same H8 H' ∧ ∃ o7 o8, σ' = [some (.ref p), some (.ref dl), some (.ref lv), some (.ref pt), some (.ref pl), some (.ref du), some (.ref fo), o7, o8]) ⟨Same.refl _, _, _, rfl⟩ (fun i σ' H' _ pp => ⟨SqL.of (pp.1 _ _ hlv8), SqL.of (pp.1 _ _ hpl8)⟩) (fun i x y Tt σ' H' hx hy pp hT => ?_) (fun σ' H9 pp => ?_)
  · obtain ⟨e, o7, o8, rfl⟩ := pp
    have sT := same_new hT (.tup [x, y])
    have eT := e.trans sT
    obtain ⟨b, hb, t, w0, p0, rfl, ht, _, hp0⟩ := hB8.get' hx
    obtain ⟨pi, hpi, tp, rfl, htp⟩ := aP8.get' hy
    obtain ⟨en, hen, enk, enp⟩ := en_at hI hb
    have epa := plan_path hI Bpos hen hpi
    have pish := allP_short ok pi (List.mem_of_getElem? hpi)
    have plsh := ok.pll b (List.mem_of_getElem? hb)
    have wysh := ok.way b (List.mem_of_getElem? hb)
    refine ⟨Tt, _, rfl, SqT.of upd_same, rfl, _, _, rfl, _, _, rfl, rfl, ?_⟩
    dsimp only [gName]
    generalize upd H' Tt (.tup [V.ref t, V.ref tp]) = H2 at eT
    refine ⟨_, rfl, _, rfl, t, _, 0, _, rfl, rfl, SqT.of (eT _ _ ht), rfl, pt, b.k, f, i, en, rfl, hf8.over eT, dep7, dlen, hen, enk, en_first hI nd hb, fun r1 pt1 pl1 H3 e3 hr1 hpt1 hpl1 => ?_⟩
    have eH3 := eT.trans e3
    refine ⟨_, rfl, _, rfl, t, _, 3, _, rfl, rfl, SqT.of (eH3 _ _ ht), rfl, szl (by show 2 ≤ 1000000; decide), fun r2 hr2 => ?_⟩
    have s4 := same_new hr2 (.tup [V.ref tp, V.ref p0])
    rw [epa] at hpt1
    rw [enp] at hpl1
    refine ⟨.ref r1, .ref r2, stT pi b.pl, rfl, (stT_nt hr1 hpt1 hpl1).over s4, stT_nt upd_same ((eH3.trans s4) _ _ htp) (hp0.over (eH3.trans s4)), by have := stT_dep pi b.pl; omega, stT_br (by omega) (by omega), fun H10 e10 => ⟨_, rfl, iteF ⟨(eH3.trans s4).trans e10, _, _, rfl⟩⟩⟩
  obtain ⟨e9, o7, o8, rfl⟩ := pp
  have hfo9 := e9 _ _ hfo8
  refine ⟨_, rfl, .inl ⟨rfl, _, SqL.of hfo9⟩, szl (by show 1 ≤ 1000000; decide), fun t1 ht1 => ⟨szl (by show 3 ≤ 1000000; decide), fun t2 ht2 => ?_⟩⟩
  have s1 := same_new ht1 (.tup [V.int 9])
  have s2 := same_new ht2 (.tup [V.ref t1, V.bl true, V.str "up"])
  have s9 := (e9.trans s1).trans s2
  have hfo10 := s9 _ _ hfo8
  generalize upd (upd H9 t1 (.tup [V.int 9])) t2 (.tup [V.ref t1, V.bl true, V.str "up"]) = H10 at s9 hfo10
  refine ⟨fo, _, _, rfl, rfl, hfo10, szlt (by omega), ?_⟩
  have tk := (Same.tk s9).trans (TK.upd (o := .lst (fx ++ [V.ref t2])) hfo10)
  have hlv11 : (upd H10 fo (.lst (fx ++ [V.ref t2]))) lv = some (.lst xs0) := by rw [upd_ne nlv]; exact s9 _ _ hlv8
  have hpl11 : (upd H10 fo (.lst (fx ++ [V.ref t2]))) pl = some (.lst px) := by rw [upd_ne npl]; exact s9 _ _ hpl8
  have hdu11 : (upd H10 fo (.lst (fx ++ [V.ref t2]))) du = some (.lst dx) := by rw [upd_ne ndu]; exact s9 _ _ hdu8
  have aD11 := aD8.mono fun x s z => z.tk tk
  have aP11 := aP8.mono fun x s z => z.tk tk
  have hf11 := hf8.tk tk
  obtain ⟨x0, hx0, t0, w0, p0, rfl, ht0, _, hp0⟩ := hB8.get (i := 0) (List.getElem?_eq_getElem Bpos)
  have ht11 := tk _ _ ht0
  have hp11 := hp0.tk tk
  generalize upd H10 fo (.lst (fx ++ [V.ref t2])) = H11 at tk hlv11 hpl11 hdu11 aD11 aP11 hf11 ht11 hp11
  refine ⟨szl (by show 0 ≤ 1000000; decide), fun u1 hu1 => ⟨szl (by show 3 ≤ 1000000; decide), fun u2 hu2 => ⟨szl (by show 1 ≤ 1000000; decide), fun u3 hu3 => ?_⟩⟩⟩
  have v1 := same_new hu1 (.tup [])
  have v2 := same_new hu2 (.tup [V.str "deed", V.int 0, V.ref u1])
  have v3 := same_new hu3 (.tup [V.ref u2])
  have a1 := (v2.trans v3) _ _ (show (upd H11 u1 (HO.tup [])) u1 = some (HO.tup []) from upd_same)
  have a2 := v3 _ _ (show (upd (upd H11 u1 (.tup [])) u2 (.tup [V.str "deed", V.int 0, V.ref u1])) u2 = some (.tup [V.str "deed", V.int 0, V.ref u1]) from upd_same)
  refine ⟨u3, .leaf 0 [] .nil, rfl, ⟨_, upd_same, u2, u1, [], rfl, a2, ⟨[], a1, .nil⟩, rfl⟩, by decide, by decide, fun r ys H12 e12 _ hr12 ay => ?_⟩
  have ys0 : ys = [] := List.eq_nil_of_length_eq_zero ay.1
  subst ys0
  refine ⟨szl (by show 0 ≤ 1000000; decide), fun z hz => ?_⟩
  have v4 := same_new hz (.lst [])
  refine left_eq (neg := true) (L := []) (v4 _ _ hr12) upd_same ⟨_, rfl, iteE (v := false) rfl (iteF ?_)⟩
  have eE := ((v1.trans (v2.trans v3)).trans e12).trans v4
  generalize upd H12 z (.lst []) = H13 at eE
  refine ⟨_, rfl, pt, f, rfl, hf11.over eE, dep7, by rw [swe]; omega, fun r3 ys3 H14 e14 _ hr14 ay14 => ?_⟩
  rw [swe] at ay14
  have eF := eE.trans e14
  have tr1 : TrIs K H14 (.ref r3) (.lst ((allS B).map swT)) := .lst (SqL.of hr14) (sws_nt ay14).tr
  have tr2 : TrIs K H14 (.ref du) (.lst ((allS B).map swT)) := .lst (SqL.of (eF _ _ hdu11)) (sws_nt (aD11.mono fun x s z => z.over eF)).tr
  refine ⟨_, rfl, eq_same tr1 tr2 (by rw [depT]; have := sws_dep (allS B); omega) ⟨_, rfl, iteE (v := true) rfl (iteT ?_)⟩⟩
  obtain ⟨en, hen, enk, enp⟩ := en_at hI (List.getElem?_eq_getElem Bpos)
  have hpi : (allP B)[0]? = some ((allP B)[0]'(by rw [allP_len]; exact Bpos)) := List.getElem?_eq_getElem _
  generalize (allP B)[0]'(by rw [allP_len]; exact Bpos) = pi at hpi
  have epa := plan_path hI Bpos hen hpi
  obtain ⟨y0, hy0, tp, rfl, htp⟩ := aP11.get hpi
  have al : atI xs0 0 = some (.ref t0) := atI_nat (j := 0) hx0
  have ap : atI px 0 = some (.ref tp) := atI_nat (j := 0) hy0
  refine ⟨_, rfl, _, rfl, lv, _, _, _, rfl, rfl, SqL.of (eF _ _ hlv11), al, t0, _, 0, _, rfl, rfl, SqT.of (eF _ _ ht11), rfl, pt, B[0].k, f, 0, en, rfl, hf11.over eF, dep7, dlen, hen, enk, en_first hI nd (List.getElem?_eq_getElem Bpos), fun r4 pt4 pl4 H15 e15 hr15 hpt15 hpl15 => ?_⟩
  have eG := eF.trans e15
  refine ⟨_, rfl, pl, _, _, _, rfl, rfl, SqL.of (eG _ _ hpl11), ap, _, rfl, lv, _, _, _, rfl, rfl, SqL.of (eG _ _ hlv11), al, t0, _, 3, _, rfl, rfl, SqT.of (eG _ _ ht11), rfl, szl (by show 2 ≤ 1000000; decide), fun r5 hr5 => ?_⟩
  have s5 := same_new hr5 (.tup [V.ref tp, V.ref p0])
  rw [epa] at hpt15
  rw [enp] at hpl15
  exact eq_same ((stT_nt hr15 hpt15 hpl15).over s5).tr (stT_nt upd_same ((eG.trans s5) _ _ htp) (hp11.over (eG.trans s5))).tr (by have := stT_dep pi B[0].pl; omega) (q _)

end
theorem len_1 {us : List Value} (h : us.length = 1) : ∃ x0, us = [x0] := by
  rcases us with _ | ⟨x0, us⟩
  · cases h
  rcases us with _ | ⟨y, us⟩
  · exact ⟨x0, rfl⟩
  · simp only [List.length_cons] at h; omega
theorem len_2 {us : List Value} (h : us.length = 2) : ∃ x0 x1, us = [x0, x1] := by
  rcases us with _ | ⟨x0, us⟩
  · cases h
  rcases us with _ | ⟨x1, us⟩
  · cases h
  rcases us with _ | ⟨y, us⟩
  · exact ⟨x0, x1, rfl⟩
  · simp only [List.length_cons] at h; omega
theorem len_3 {us : List Value} (h : us.length = 3) : ∃ x0 x1 x2, us = [x0, x1, x2] := by
  rcases us with _ | ⟨x0, us⟩
  · cases h
  rcases us with _ | ⟨x1, us⟩
  · cases h
  rcases us with _ | ⟨x2, us⟩
  · cases h
  rcases us with _ | ⟨y, us⟩
  · exact ⟨x0, x1, x2, rfl⟩
  · simp only [List.length_cons] at h; omega
theorem len_5 {us : List Value} (h : us.length = 5) : ∃ x0 x1 x2 x3 x4, us = [x0, x1, x2, x3, x4] := by
  rcases us with _ | ⟨x0, us⟩
  · cases h
  rcases us with _ | ⟨x1, us⟩
  · cases h
  rcases us with _ | ⟨x2, us⟩
  · cases h
  rcases us with _ | ⟨x3, us⟩
  · cases h
  rcases us with _ | ⟨x4, us⟩
  · cases h
  rcases us with _ | ⟨y, us⟩
  · exact ⟨x0, x1, x2, x3, x4, rfl⟩
  · simp only [List.length_cons] at h; omega
theorem bd_l_at {kV doc pm : Value} {an : Option Addr} {cdv ct : Value} {us : List Value} (h : us.length = 2) : bindArgs (PySem.W.fnOf "_law_at" "_law_at" (defArgs s_l_at) (defBody s_l_at) (defScope s_l_at) .none kV doc pm an cdv ct) ⟨us, []⟩ = pure ((["_law_script", "_law_k"] : List Str).zip us) := by
  obtain ⟨_, _, rfl⟩ := len_2 h
  rfl
theorem bd_l_digits {kV doc pm : Value} {an : Option Addr} {cdv ct : Value} {us : List Value} (h : us.length = 2) : bindArgs (PySem.W.fnOf "_law_digits" "_law_digits" (defArgs s_l_digits) (defBody s_l_digits) (defScope s_l_digits) .none kV doc pm an cdv ct) ⟨us, []⟩ = pure ((["_law_cell", "_law_sizes"] : List Str).zip us) := by
  obtain ⟨_, _, rfl⟩ := len_2 h
  rfl
theorem bd_l_sweeps {kV doc pm : Value} {an : Option Addr} {cdv ct : Value} {us : List Value} (h : us.length = 5) : bindArgs (PySem.W.fnOf "_law_sweeps" "_law_sweeps" (defArgs s_l_sweeps) (defBody s_l_sweeps) (defScope s_l_sweeps) .none kV doc pm an cdv ct) ⟨us, []⟩ = pure ((["_law_script", "_law_first", "_law_depth", "_law_old", "_law_ways"] : List Str).zip us) := by
  obtain ⟨_, _, _, _, _, rfl⟩ := len_5 h
  rfl
theorem bd_l_places {kV doc pm : Value} {an : Option Addr} {cdv ct : Value} {us : List Value} (h : us.length = 5) : bindArgs (PySem.W.fnOf "_law_places" "_law_places" (defArgs s_l_places) (defBody s_l_places) (defScope s_l_places) .none kV doc pm an cdv ct) ⟨us, []⟩ = pure ((["_law_script", "_law_first", "_law_sweeps_here", "_law_loops", "_law_far"] : List Str).zip us) := by
  obtain ⟨_, _, _, _, _, rfl⟩ := len_5 h
  rfl
theorem bd_l_leaves {kV doc pm : Value} {an : Option Addr} {cdv ct : Value} {us : List Value} (h : us.length = 5) : bindArgs (PySem.W.fnOf "_law_leaves" "_law_leaves" (defArgs s_l_leaves) (defBody s_l_leaves) (defScope s_l_leaves) .none kV doc pm an cdv ct) ⟨us, []⟩ = pure ((["_law_script", "_law_first", "_law_depths", "_law_ways", "_law_far"] : List Str).zip us) := by
  obtain ⟨_, _, _, _, _, rfl⟩ := len_5 h
  rfl
theorem bd_l_items {kV doc pm : Value} {an : Option Addr} {cdv ct : Value} {us : List Value} (h : us.length = 2) : bindArgs (PySem.W.fnOf "_law_items" "_law_items" (defArgs s_l_items) (defBody s_l_items) (defScope s_l_items) .none kV doc pm an cdv ct) ⟨us, []⟩ = pure ((["_law_leaves_here", "_law_level"] : List Str).zip us) := by
  obtain ⟨_, _, rfl⟩ := len_2 h
  rfl
theorem bd_l_same {kV doc pm : Value} {an : Option Addr} {cdv ct : Value} {us : List Value} (h : us.length = 2) : bindArgs (PySem.W.fnOf "_law_same" "_law_same" (defArgs s_l_same) (defBody s_l_same) (defScope s_l_same) .none kV doc pm an cdv ct) ⟨us, []⟩ = pure ((["_law_found", "_law_due_here"] : List Str).zip us) := by
  obtain ⟨_, _, rfl⟩ := len_2 h
  rfl
theorem bd_l_paths {kV doc pm : Value} {an : Option Addr} {cdv ct : Value} {us : List Value} (h : us.length = 1) : bindArgs (PySem.W.fnOf "_law_paths" "_law_paths" (defArgs s_l_paths) (defBody s_l_paths) (defScope s_l_paths) .none kV doc pm an cdv ct) ⟨us, []⟩ = pure ((["_law_leaves_here"] : List Str).zip us) := by
  obtain ⟨_, rfl⟩ := len_1 h
  rfl
theorem bd_l_due {kV doc pm : Value} {an : Option Addr} {cdv ct : Value} {us : List Value} (h : us.length = 2) : bindArgs (PySem.W.fnOf "_law_due" "_law_due" (defArgs s_l_due) (defBody s_l_due) (defScope s_l_due) .none kV doc pm an cdv ct) ⟨us, []⟩ = pure ((["_law_leaves_here", "_law_paths_here"] : List Str).zip us) := by
  obtain ⟨_, _, rfl⟩ := len_2 h
  rfl
theorem bd_deeds_within {kV doc pm : Value} {an : Option Addr} {cdv ct : Value} {us : List Value} (h : us.length = 3) : bindArgs (PySem.W.fnOf "deeds_within" "deeds_within" (defArgs s_deeds_within) (defBody s_deeds_within) (defScope s_deeds_within) .none kV doc pm an cdv ct) ⟨us, []⟩ = pure ((["items", "path", "cuts"] : List Str).zip us) := by
  obtain ⟨_, _, _, rfl⟩ := len_3 h
  rfl
theorem bd_stand {kV doc pm : Value} {an : Option Addr} {cdv ct : Value} {us : List Value} (h : us.length = 2) : bindArgs (PySem.W.fnOf "stand" "stand" (defArgs s_stand) (defBody s_stand) (defScope s_stand) .none kV doc pm an cdv ct) ⟨us, []⟩ = pure ((["plan", "k"] : List Str).zip us) := by
  obtain ⟨_, _, rfl⟩ := len_2 h
  rfl
theorem bd_sweeps_within {kV doc pm : Value} {an : Option Addr} {cdv ct : Value} {us : List Value} (h : us.length = 2) : bindArgs (PySem.W.fnOf "sweeps_within" "sweeps_within" (defArgs s_sweeps_within) (defBody s_sweeps_within) (defScope s_sweeps_within) .none kV doc pm an cdv ct) ⟨us, []⟩ = pure ((["items", "path"] : List Str).zip us) := by
  obtain ⟨_, _, rfl⟩ := len_2 h
  rfl
theorem bd_sweeps_of {kV doc pm : Value} {an : Option Addr} {cdv ct : Value} {us : List Value} (h : us.length = 1) : bindArgs (PySem.W.fnOf "sweeps_of" "sweeps_of" (defArgs s_sweeps_of) (defBody s_sweeps_of) (defScope s_sweeps_of) .none kV doc pm an cdv ct) ⟨us, []⟩ = pure ((["plan"] : List Str).zip us) := by
  obtain ⟨_, rfl⟩ := len_1 h
  rfl
theorem bd_law {kV doc pm : Value} {an : Option Addr} {cdv ct : Value} {us : List Value} (h : us.length = 1) : bindArgs (PySem.W.fnOf "law" "law" (defArgs s_law) (defBody s_law) (defScope s_law) .none kV doc pm an cdv ct) ⟨us, []⟩ = pure ((["_law_script"] : List Str).zip us) := by
  obtain ⟨_, rfl⟩ := len_1 h
  rfl
theorem txt_mk {K : PySem.W.Frag} {h : Heap} {mg : Str → Option Value} {fa : Addr} (X : K.In h) (G : h.Ns mainGlobals mg) (hfa : mg "law" = some (.ref fa))
    {f1 : Addr} {od1 an1 : Option Addr} {sl1 : Array (Option Value)} {oc1 kV1 dc1 pm1 cd1 ct1 : Value} {f2 : Addr} {od2 an2 : Option Addr} {sl2 : Array (Option Value)} {oc2 kV2 dc2 pm2 cd2 ct2 : Value} {f3 : Addr} {od3 an3 : Option Addr} {sl3 : Array (Option Value)} {oc3 kV3 dc3 pm3 cd3 ct3 : Value} {f4 : Addr} {od4 an4 : Option Addr} {sl4 : Array (Option Value)} {oc4 kV4 dc4 pm4 cd4 ct4 : Value} {f5 : Addr} {od5 an5 : Option Addr} {sl5 : Array (Option Value)} {oc5 kV5 dc5 pm5 cd5 ct5 : Value} {f6 : Addr} {od6 an6 : Option Addr} {sl6 : Array (Option Value)} {oc6 kV6 dc6 pm6 cd6 ct6 : Value} {f7 : Addr} {od7 an7 : Option Addr} {sl7 : Array (Option Value)} {oc7 kV7 dc7 pm7 cd7 ct7 : Value} {f8 : Addr} {od8 an8 : Option Addr} {sl8 : Array (Option Value)} {oc8 kV8 dc8 pm8 cd8 ct8 : Value} {f9 : Addr} {od9 an9 : Option Addr} {sl9 : Array (Option Value)} {oc9 kV9 dc9 pm9 cd9 ct9 : Value} {f10 : Addr} {od10 an10 : Option Addr} {sl10 : Array (Option Value)} {oc10 kV10 dc10 pm10 cd10 ct10 : Value} {f11 : Addr} {od11 an11 : Option Addr} {sl11 : Array (Option Value)} {oc11 kV11 dc11 pm11 cd11 ct11 : Value} {f12 : Addr} {od12 an12 : Option Addr} {sl12 : Array (Option Value)} {oc12 kV12 dc12 pm12 cd12 ct12 : Value} {f13 : Addr} {od13 an13 : Option Addr} {sl13 : Array (Option Value)} {oc13 kV13 dc13 pm13 cd13 ct13 : Value} {f14 : Addr} {od14 an14 : Option Addr} {sl14 : Array (Option Value)} {oc14 kV14 dc14 pm14 cd14 ct14 : Value}
    (a1 : PySem.W.nsIn K mainGlobals "_law_at" = some (some (.ref f1)))
    (l1 : K.lookup f1 = some ⟨oc1, od1, .func (PySem.W.fnOf "_law_at" "_law_at" (defArgs s_l_at) (defBody s_l_at) (defScope s_l_at) .none kV1 dc1 pm1 an1 cd1 ct1), sl1⟩) (c1 : PySem.W.codeIn K cd1 "_law_at" = true) (k1 : PySem.W.keepIn K (.ref f1) = true)
    (a2 : PySem.W.nsIn K mainGlobals "_law_digits" = some (some (.ref f2)))
    (l2 : K.lookup f2 = some ⟨oc2, od2, .func (PySem.W.fnOf "_law_digits" "_law_digits" (defArgs s_l_digits) (defBody s_l_digits) (defScope s_l_digits) .none kV2 dc2 pm2 an2 cd2 ct2), sl2⟩) (c2 : PySem.W.codeIn K cd2 "_law_digits" = true) (k2 : PySem.W.keepIn K (.ref f2) = true)
    (a3 : PySem.W.nsIn K mainGlobals "_law_sweeps" = some (some (.ref f3)))
    (l3 : K.lookup f3 = some ⟨oc3, od3, .func (PySem.W.fnOf "_law_sweeps" "_law_sweeps" (defArgs s_l_sweeps) (defBody s_l_sweeps) (defScope s_l_sweeps) .none kV3 dc3 pm3 an3 cd3 ct3), sl3⟩) (c3 : PySem.W.codeIn K cd3 "_law_sweeps" = true) (k3 : PySem.W.keepIn K (.ref f3) = true)
    (a4 : PySem.W.nsIn K mainGlobals "_law_places" = some (some (.ref f4)))
    (l4 : K.lookup f4 = some ⟨oc4, od4, .func (PySem.W.fnOf "_law_places" "_law_places" (defArgs s_l_places) (defBody s_l_places) (defScope s_l_places) .none kV4 dc4 pm4 an4 cd4 ct4), sl4⟩) (c4 : PySem.W.codeIn K cd4 "_law_places" = true) (k4 : PySem.W.keepIn K (.ref f4) = true)
    (a5 : PySem.W.nsIn K mainGlobals "_law_leaves" = some (some (.ref f5)))
    (l5 : K.lookup f5 = some ⟨oc5, od5, .func (PySem.W.fnOf "_law_leaves" "_law_leaves" (defArgs s_l_leaves) (defBody s_l_leaves) (defScope s_l_leaves) .none kV5 dc5 pm5 an5 cd5 ct5), sl5⟩) (c5 : PySem.W.codeIn K cd5 "_law_leaves" = true) (k5 : PySem.W.keepIn K (.ref f5) = true)
    (a6 : PySem.W.nsIn K mainGlobals "_law_items" = some (some (.ref f6)))
    (l6 : K.lookup f6 = some ⟨oc6, od6, .func (PySem.W.fnOf "_law_items" "_law_items" (defArgs s_l_items) (defBody s_l_items) (defScope s_l_items) .none kV6 dc6 pm6 an6 cd6 ct6), sl6⟩) (c6 : PySem.W.codeIn K cd6 "_law_items" = true) (k6 : PySem.W.keepIn K (.ref f6) = true)
    (a7 : PySem.W.nsIn K mainGlobals "_law_same" = some (some (.ref f7)))
    (l7 : K.lookup f7 = some ⟨oc7, od7, .func (PySem.W.fnOf "_law_same" "_law_same" (defArgs s_l_same) (defBody s_l_same) (defScope s_l_same) .none kV7 dc7 pm7 an7 cd7 ct7), sl7⟩) (c7 : PySem.W.codeIn K cd7 "_law_same" = true) (k7 : PySem.W.keepIn K (.ref f7) = true)
    (a8 : PySem.W.nsIn K mainGlobals "_law_paths" = some (some (.ref f8)))
    (l8 : K.lookup f8 = some ⟨oc8, od8, .func (PySem.W.fnOf "_law_paths" "_law_paths" (defArgs s_l_paths) (defBody s_l_paths) (defScope s_l_paths) .none kV8 dc8 pm8 an8 cd8 ct8), sl8⟩) (c8 : PySem.W.codeIn K cd8 "_law_paths" = true) (k8 : PySem.W.keepIn K (.ref f8) = true)
    (a9 : PySem.W.nsIn K mainGlobals "_law_due" = some (some (.ref f9)))
    (l9 : K.lookup f9 = some ⟨oc9, od9, .func (PySem.W.fnOf "_law_due" "_law_due" (defArgs s_l_due) (defBody s_l_due) (defScope s_l_due) .none kV9 dc9 pm9 an9 cd9 ct9), sl9⟩) (c9 : PySem.W.codeIn K cd9 "_law_due" = true) (k9 : PySem.W.keepIn K (.ref f9) = true)
    (a10 : PySem.W.nsIn K mainGlobals "deeds_within" = some (some (.ref f10)))
    (l10 : K.lookup f10 = some ⟨oc10, od10, .func (PySem.W.fnOf "deeds_within" "deeds_within" (defArgs s_deeds_within) (defBody s_deeds_within) (defScope s_deeds_within) .none kV10 dc10 pm10 an10 cd10 ct10), sl10⟩) (c10 : PySem.W.codeIn K cd10 "deeds_within" = true) (k10 : PySem.W.keepIn K (.ref f10) = true)
    (a11 : PySem.W.nsIn K mainGlobals "stand" = some (some (.ref f11)))
    (l11 : K.lookup f11 = some ⟨oc11, od11, .func (PySem.W.fnOf "stand" "stand" (defArgs s_stand) (defBody s_stand) (defScope s_stand) .none kV11 dc11 pm11 an11 cd11 ct11), sl11⟩) (c11 : PySem.W.codeIn K cd11 "stand" = true) (k11 : PySem.W.keepIn K (.ref f11) = true)
    (a12 : PySem.W.nsIn K mainGlobals "sweeps_within" = some (some (.ref f12)))
    (l12 : K.lookup f12 = some ⟨oc12, od12, .func (PySem.W.fnOf "sweeps_within" "sweeps_within" (defArgs s_sweeps_within) (defBody s_sweeps_within) (defScope s_sweeps_within) .none kV12 dc12 pm12 an12 cd12 ct12), sl12⟩) (c12 : PySem.W.codeIn K cd12 "sweeps_within" = true) (k12 : PySem.W.keepIn K (.ref f12) = true)
    (a13 : PySem.W.nsIn K mainGlobals "sweeps_of" = some (some (.ref f13)))
    (l13 : K.lookup f13 = some ⟨oc13, od13, .func (PySem.W.fnOf "sweeps_of" "sweeps_of" (defArgs s_sweeps_of) (defBody s_sweeps_of) (defScope s_sweeps_of) .none kV13 dc13 pm13 an13 cd13 ct13), sl13⟩) (c13 : PySem.W.codeIn K cd13 "sweeps_of" = true) (k13 : PySem.W.keepIn K (.ref f13) = true)
    (a14 : PySem.W.nsIn K mainGlobals "law" = some (some (.ref f14)))
    (l14 : K.lookup f14 = some ⟨oc14, od14, .func (PySem.W.fnOf "law" "law" (defArgs s_law) (defBody s_law) (defScope s_law) .none kV14 dc14 pm14 an14 cd14 ct14), sl14⟩) (c14 : PySem.W.codeIn K cd14 "law" = true) (k14 : PySem.W.keepIn K (.ref f14) = true)
    (z_all : PySem.W.nsIn K mainGlobals "all" = some none)
    (z_bool : PySem.W.nsIn K mainGlobals "bool" = some none)
    (z_enumerate : PySem.W.nsIn K mainGlobals "enumerate" = some none)
    (z_int : PySem.W.nsIn K mainGlobals "int" = some none)
    (z_isinstance : PySem.W.nsIn K mainGlobals "isinstance" = some none)
    (z_len : PySem.W.nsIn K mainGlobals "len" = some none)
    (z_list : PySem.W.nsIn K mainGlobals "list" = some none)
    (z_range : PySem.W.nsIn K mainGlobals "range" = some none)
    (z_str : PySem.W.nsIn K mainGlobals "str" = some none)
    (z_tuple : PySem.W.nsIn K mainGlobals "tuple" = some none)
    (z_zip : PySem.W.nsIn K mainGlobals "zip" = some none) :
    ∃ a : Ad, Tx K mg a ∧ fa = a.f_law ∧ (∀ (s : Shared) (v : Value), BindsTo s a.d_law ⟨[v], []⟩ [("_law_script", v)]) := by
  have e := hfa.symm.trans (PySem.W.mg_of X G a14)
  cases e
  exact ⟨⟨f1, PySem.W.fnOf "_law_at" "_law_at" (defArgs s_l_at) (defBody s_l_at) (defScope s_l_at) .none kV1 dc1 pm1 an1 cd1 ct1, f2, PySem.W.fnOf "_law_digits" "_law_digits" (defArgs s_l_digits) (defBody s_l_digits) (defScope s_l_digits) .none kV2 dc2 pm2 an2 cd2 ct2, f3, PySem.W.fnOf "_law_sweeps" "_law_sweeps" (defArgs s_l_sweeps) (defBody s_l_sweeps) (defScope s_l_sweeps) .none kV3 dc3 pm3 an3 cd3 ct3, f4, PySem.W.fnOf "_law_places" "_law_places" (defArgs s_l_places) (defBody s_l_places) (defScope s_l_places) .none kV4 dc4 pm4 an4 cd4 ct4, f5, PySem.W.fnOf "_law_leaves" "_law_leaves" (defArgs s_l_leaves) (defBody s_l_leaves) (defScope s_l_leaves) .none kV5 dc5 pm5 an5 cd5 ct5, f6, PySem.W.fnOf "_law_items" "_law_items" (defArgs s_l_items) (defBody s_l_items) (defScope s_l_items) .none kV6 dc6 pm6 an6 cd6 ct6, f7, PySem.W.fnOf "_law_same" "_law_same" (defArgs s_l_same) (defBody s_l_same) (defScope s_l_same) .none kV7 dc7 pm7 an7 cd7 ct7, f8, PySem.W.fnOf "_law_paths" "_law_paths" (defArgs s_l_paths) (defBody s_l_paths) (defScope s_l_paths) .none kV8 dc8 pm8 an8 cd8 ct8, f9, PySem.W.fnOf "_law_due" "_law_due" (defArgs s_l_due) (defBody s_l_due) (defScope s_l_due) .none kV9 dc9 pm9 an9 cd9 ct9, f10, PySem.W.fnOf "deeds_within" "deeds_within" (defArgs s_deeds_within) (defBody s_deeds_within) (defScope s_deeds_within) .none kV10 dc10 pm10 an10 cd10 ct10, f11, PySem.W.fnOf "stand" "stand" (defArgs s_stand) (defBody s_stand) (defScope s_stand) .none kV11 dc11 pm11 an11 cd11 ct11, f12, PySem.W.fnOf "sweeps_within" "sweeps_within" (defArgs s_sweeps_within) (defBody s_sweeps_within) (defScope s_sweeps_within) .none kV12 dc12 pm12 an12 cd12 ct12, f13, PySem.W.fnOf "sweeps_of" "sweeps_of" (defArgs s_sweeps_of) (defBody s_sweeps_of) (defScope s_sweeps_of) .none kV13 dc13 pm13 an13 cd13 ct13, fa, PySem.W.fnOf "law" "law" (defArgs s_law) (defBody s_law) (defScope s_law) .none kV14 dc14 pm14 an14 cd14 ct14⟩, ⟨fun_mk (st := s_l_at) l1 c1 k1, 
    (fun_mk (st := s_l_at) l1 c1 k1).binds (ps := ["_law_script", "_law_k"]) (fun _ _ _ _ _ _ us hl => bd_l_at hl), 
    PySem.W.mg_of X G a1, 
    fun_mk (st := s_l_digits) l2 c2 k2, 
    (fun_mk (st := s_l_digits) l2 c2 k2).binds (ps := ["_law_cell", "_law_sizes"]) (fun _ _ _ _ _ _ us hl => bd_l_digits hl), 
    PySem.W.mg_of X G a2, 
    fun_mk (st := s_l_sweeps) l3 c3 k3, 
    (fun_mk (st := s_l_sweeps) l3 c3 k3).binds (ps := ["_law_script", "_law_first", "_law_depth", "_law_old", "_law_ways"]) (fun _ _ _ _ _ _ us hl => bd_l_sweeps hl), 
    PySem.W.mg_of X G a3, 
    fun_mk (st := s_l_places) l4 c4 k4, 
    (fun_mk (st := s_l_places) l4 c4 k4).binds (ps := ["_law_script", "_law_first", "_law_sweeps_here", "_law_loops", "_law_far"]) (fun _ _ _ _ _ _ us hl => bd_l_places hl), 
    PySem.W.mg_of X G a4, 
    fun_mk (st := s_l_leaves) l5 c5 k5, 
    (fun_mk (st := s_l_leaves) l5 c5 k5).binds (ps := ["_law_script", "_law_first", "_law_depths", "_law_ways", "_law_far"]) (fun _ _ _ _ _ _ us hl => bd_l_leaves hl), 
    PySem.W.mg_of X G a5, 
    fun_mk (st := s_l_items) l6 c6 k6, 
    (fun_mk (st := s_l_items) l6 c6 k6).binds (ps := ["_law_leaves_here", "_law_level"]) (fun _ _ _ _ _ _ us hl => bd_l_items hl), 
    PySem.W.mg_of X G a6, 
    fun_mk (st := s_l_same) l7 c7 k7, 
    (fun_mk (st := s_l_same) l7 c7 k7).binds (ps := ["_law_found", "_law_due_here"]) (fun _ _ _ _ _ _ us hl => bd_l_same hl), 
    PySem.W.mg_of X G a7, 
    fun_mk (st := s_l_paths) l8 c8 k8, 
    (fun_mk (st := s_l_paths) l8 c8 k8).binds (ps := ["_law_leaves_here"]) (fun _ _ _ _ _ _ us hl => bd_l_paths hl), 
    PySem.W.mg_of X G a8, 
    fun_mk (st := s_l_due) l9 c9 k9, 
    (fun_mk (st := s_l_due) l9 c9 k9).binds (ps := ["_law_leaves_here", "_law_paths_here"]) (fun _ _ _ _ _ _ us hl => bd_l_due hl), 
    PySem.W.mg_of X G a9, 
    fun_mk (st := s_deeds_within) l10 c10 k10, 
    (fun_mk (st := s_deeds_within) l10 c10 k10).binds (ps := ["items", "path", "cuts"]) (fun _ _ _ _ _ _ us hl => bd_deeds_within hl), 
    PySem.W.mg_of X G a10, 
    fun_mk (st := s_stand) l11 c11 k11, 
    (fun_mk (st := s_stand) l11 c11 k11).binds (ps := ["plan", "k"]) (fun _ _ _ _ _ _ us hl => bd_stand hl), 
    PySem.W.mg_of X G a11, 
    fun_mk (st := s_sweeps_within) l12 c12 k12, 
    (fun_mk (st := s_sweeps_within) l12 c12 k12).binds (ps := ["items", "path"]) (fun _ _ _ _ _ _ us hl => bd_sweeps_within hl), 
    PySem.W.mg_of X G a12, 
    fun_mk (st := s_sweeps_of) l13 c13 k13, 
    (fun_mk (st := s_sweeps_of) l13 c13 k13).binds (ps := ["plan"]) (fun _ _ _ _ _ _ us hl => bd_sweeps_of hl), 
    PySem.W.mg_of X G a13, 
    fun_mk (st := s_law) l14 c14 k14, 
    (fun_mk (st := s_law) l14 c14 k14).binds (ps := ["_law_script"]) (fun _ _ _ _ _ _ us hl => bd_law hl), 
    PySem.W.mg_of X G a14, 
    PySem.W.mg_none_of X G z_all, 
    PySem.W.mg_none_of X G z_bool, 
    PySem.W.mg_none_of X G z_enumerate, 
    PySem.W.mg_none_of X G z_int, 
    PySem.W.mg_none_of X G z_isinstance, 
    PySem.W.mg_none_of X G z_len, 
    PySem.W.mg_none_of X G z_list, 
    PySem.W.mg_none_of X G z_range, 
    PySem.W.mg_none_of X G z_str, 
    PySem.W.mg_none_of X G z_tuple, 
    PySem.W.mg_none_of X G z_zip⟩, rfl, fun s v => .of_eq rfl⟩
end Fw
open PySem PySem.W PyProof.Rows
set_option maxRecDepth 100000 in
set_option maxHeartbeats 0 in
theorem PySem.Challenge.cw_furrow_k63_sweeps_and_stands_holds : PySem.Challenge.rw_furrow_k63_sweeps_and_stands.Holds := by
  w_on; o_law; k_head; (case hw => w_witness2)
  k_fill
  refine L2.law_walk (l := PySem.Challenge.rw_furrow_k63_sweeps_and_stands) (x := "_law_script") 12 (by decide) rfl rfl (fun w h Y => PySem.W.kIn_of Y) ?F
  case F =>
    intro w mg fa h KX G hmg
    suffices hh : ∃ a : Fw.Ad, Fw.Tx _ mg a ∧ fa = a.f_law ∧ (∀ (s : Shared) (v : Value), BindsTo s a.d_law ⟨[v], []⟩ [("_law_script", v)]) by
      obtain ⟨a, T, e, b⟩ := hh
      subst e
      exact ⟨a.d_law, b, fun base _ _ => Fw.ok_law T⟩
    refine' Fw.txt_mk KX G hmg ?a1 ?l1 ?c1 ?k1 ?a2 ?l2 ?c2 ?k2 ?a3 ?l3 ?c3 ?k3 ?a4 ?l4 ?c4 ?k4 ?a5 ?l5 ?c5 ?k5 ?a6 ?l6 ?c6 ?k6 ?a7 ?l7 ?c7 ?k7 ?a8 ?l8 ?c8 ?k8 ?a9 ?l9 ?c9 ?k9 ?a10 ?l10 ?c10 ?k10 ?a11 ?l11 ?c11 ?k11 ?a12 ?l12 ?c12 ?k12 ?a13 ?l13 ?c13 ?k13 ?a14 ?l14 ?c14 ?k14 ?z_all ?z_bool ?z_enumerate ?z_int ?z_isinstance ?z_len ?z_list ?z_range ?z_str ?z_tuple ?z_zip
    (case a1 => k_is)
    (case l1 => k_is)
    (case c1 => k_is)
    (case k1 => k_is)
    (case a2 => k_is)
    (case l2 => k_is)
    (case c2 => k_is)
    (case k2 => k_is)
    (case a3 => k_is)
    (case l3 => k_is)
    (case c3 => k_is)
    (case k3 => k_is)
    (case a4 => k_is)
    (case l4 => k_is)
    (case c4 => k_is)
    (case k4 => k_is)
    (case a5 => k_is)
    (case l5 => k_is)
    (case c5 => k_is)
    (case k5 => k_is)
    (case a6 => k_is)
    (case l6 => k_is)
    (case c6 => k_is)
    (case k6 => k_is)
    (case a7 => k_is)
    (case l7 => k_is)
    (case c7 => k_is)
    (case k7 => k_is)
    (case a8 => k_is)
    (case l8 => k_is)
    (case c8 => k_is)
    (case k8 => k_is)
    (case a9 => k_is)
    (case l9 => k_is)
    (case c9 => k_is)
    (case k9 => k_is)
    (case a10 => k_is)
    (case l10 => k_is)
    (case c10 => k_is)
    (case k10 => k_is)
    (case a11 => k_is)
    (case l11 => k_is)
    (case c11 => k_is)
    (case k11 => k_is)
    (case a12 => k_is)
    (case l12 => k_is)
    (case c12 => k_is)
    (case k12 => k_is)
    (case a13 => k_is)
    (case l13 => k_is)
    (case c13 => k_is)
    (case k13 => k_is)
    (case a14 => k_is)
    (case l14 => k_is)
    (case c14 => k_is)
    (case k14 => k_is)
    (case z_all => k_is)
    (case z_bool => k_is)
    (case z_enumerate => k_is)
    (case z_int => k_is)
    (case z_isinstance => k_is)
    (case z_len => k_is)
    (case z_list => k_is)
    (case z_range => k_is)
    (case z_str => k_is)
    (case z_tuple => k_is)
    (case z_zip => k_is)
#print axioms PySem.Challenge.cw_furrow_k63_sweeps_and_stands_holds
