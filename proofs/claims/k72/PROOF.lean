import PyProof.Rows.All
import Wide.All
import OpenK.AllK
import Wide.FinOn
import Lean
import PyProof.EqAt
import PyProof.EqKinds
import PyProof.TupleCall
import PyProof.ListMulRoad
import PySem.Challenge.RW_furrow_k72_bonds_of_sides
set_option Elab.async false
set_option linter.all false
set_option maxRecDepth 100000
namespace L2
open PySem PySem.Spec PyProof.Rows

noncomputable abbrev Key := Sum Int Str
noncomputable def keyIs : Key → Value → Bool
  | .inl k, v => Value.isInt k v
  | .inr x, v => Value.isStrOf x v
noncomputable def keyH (w : World) : Key → Int
  | .inl k => hashInt k
  | .inr x => hashStr w x
theorem keyIs_shape : ∀ {k : Key} {v : Value}, keyIs k v = true → (∃ i t, k = Sum.inl i ∧ v = Value.int i t) ∨ (∃ x t, k = Sum.inr x ∧ v = Value.str x t)
  | .inl i, v, h => by
    obtain ⟨t, e⟩ := Value.isInt_shape (k := i) (v := v) h
    exact .inl ⟨i, t, rfl, e⟩
  | .inr x, v, h => by
    obtain ⟨t, e⟩ := Value.isStrOf_shape (x := x) (v := v) h
    exact .inr ⟨x, t, rfl, e⟩
theorem key_ll (a b : Int) : decide ((Sum.inl a : Key) = Sum.inl b) = (a == b) := by
  by_cases e : a = b
  · subst e; simp
  · have h : ¬ (Sum.inl a : Key) = Sum.inl b := fun q => e (Sum.inl.inj q)
    rw [decide_eq_false h]
    exact (beq_eq_false_iff_ne.mpr e).symm
theorem key_rr (a b : Str) : decide ((Sum.inr a : Key) = Sum.inr b) = decide (a = b) := by
  by_cases e : a = b
  · subst e; simp
  · have h : ¬ (Sum.inr a : Key) = Sum.inr b := fun q => e (Sum.inr.inj q)
    rw [decide_eq_false h, decide_eq_false e]
theorem key_lr (a : Int) (b : Str) : decide ((Sum.inl a : Key) = Sum.inr b) = false := decide_eq_false (fun q => nomatch q)
theorem key_rl (a : Str) (b : Int) : decide ((Sum.inr a : Key) = Sum.inl b) = false := decide_eq_false (fun q => nomatch q)

noncomputable def mixKind (prog : Program) (w : World) : PySem.KeyKind prog w Key where
  is := keyIs
  hash := keyH w
  inj := fun v a b ha hb => by
    rcases keyIs_shape ha with ⟨i, t, rfl, rfl⟩ | ⟨x, t, rfl, rfl⟩
    · rcases keyIs_shape hb with ⟨j, u, rfl, e⟩ | ⟨y, u, rfl, e⟩
      · injection e with e1 _; rw [e1]
      · exact nomatch e
    · rcases keyIs_shape hb with ⟨j, u, rfl, e⟩ | ⟨y, u, rfl, e⟩
      · exact nomatch e
      · injection e with e1 _; rw [e1]
  byValue := fun k v h => by
    rcases keyIs_shape h with ⟨i, t, rfl, rfl⟩ | ⟨x, t, rfl, rfl⟩ <;> rfl
  pyHash := fun hv h => by
    rcases keyIs_shape hv with ⟨i, t, rfl, rfl⟩ | ⟨x, t, rfl, rfl⟩
    · exact wpAny_pyHash_int h
    · exact wpAny_pyHash_str h
  eqBool := fun hu hv h => by
    rcases keyIs_shape hu with ⟨i, t, rfl, rfl⟩ | ⟨x, t, rfl, rfl⟩
    · rcases keyIs_shape hv with ⟨j, u, rfl, rfl⟩ | ⟨y, u, rfl, rfl⟩
      · rw [key_ll] at h; exact wpAny_eqBool_int h
      · rw [key_lr] at h; exact SeqAt.EqAt.int_str i t y u _ _ _ _ h
    · rcases keyIs_shape hv with ⟨j, u, rfl, rfl⟩ | ⟨y, u, rfl, rfl⟩
      · rw [key_rl] at h; exact SeqAt.EqAt.str_int x t j u _ _ _ _ h
      · rw [key_rr] at h; exact wpAny_eqBool_str h
  «strs» := fun k x t v h => by
    rcases keyIs_shape h with ⟨i, u, rfl, e⟩ | ⟨y, u, rfl, e⟩
    · exact nomatch e
    · injection e with e1 _
      subst e1
      cases v <;> rfl

end L2

namespace L2
open PySem PySem.Spec PyProof.Rows

inductive V where
  | non | bl (b : Bool) | int (i : Int) | str (x : Str) | byt (b : Array UInt8) | flt (b : UInt64) | ref (a : Addr) | ty (n : String)
  deriving DecidableEq

noncomputable def RelV : V → Value → Prop
  | .non, u => u = Value.none
  | .bl b, u => u = Value.bool b
  | .int i, u => ∃ t, u = Value.int i t
  | .str x, u => ∃ t, u = Value.str x t
  | .byt b, u => ∃ t, u = Value.bytes b t
  | .flt b, u => ∃ t, u = Value.float b t
  | .ref a, u => u = Value.ref a
  | .ty n, u => u = Value.type n

noncomputable abbrev Vals : List V → List Value → Prop := Paired RelV
theorem Vals.length {xs : List V} {us : List Value} (r : Vals xs us) : xs.length = us.length := Paired.length r
theorem Vals.get : ∀ {xs : List V} {us : List Value} {i : Nat} {x : V}, Vals xs us → xs[i]? = some x → ∃ u, us[i]? = some u ∧ RelV x u
  | _, _, _, _, .nil, e => by simp at e
  | _, _, 0, _, .cons r _, e => by simp at e; subst e; exact ⟨_, rfl, r⟩
  | _, _, i + 1, x, .cons _ t, e => by
    obtain ⟨u, h1, h2⟩ := Vals.get (i := i) (x := x) t (by simpa using e)
    exact ⟨u, by simpa using h1, h2⟩
theorem Vals.set {x : V} {u : Value} (r : RelV x u) : ∀ {xs : List V} {us : List Value} (i : Nat), Vals xs us → Vals (xs.set i x) (us.set i u)
  | _, _, _, .nil => .nil
  | _, _, 0, .cons _ t => .cons r t
  | _, _, i + 1, .cons q t => .cons q (Vals.set r i t)
theorem Vals.append : ∀ {xs ys : List V} {us ws : List Value}, Vals xs us → Vals ys ws → Vals (xs ++ ys) (us ++ ws)
  | _, _, _, _, .nil, s => s
  | _, _, _, _, .cons r t, s => .cons r (Vals.append t s)
theorem Vals.take : ∀ {xs : List V} {us : List Value} (n : Nat), Vals xs us → Vals (xs.take n) (us.take n)
  | _, _, 0, _ => .nil
  | _, _, _ + 1, .nil => .nil
  | _, _, n + 1, .cons r t => .cons r (Vals.take n t)
theorem Vals.drop : ∀ {xs : List V} {us : List Value} (n : Nat), Vals xs us → Vals (xs.drop n) (us.drop n)
  | _, _, 0, r => r
  | _, _, _ + 1, .nil => .nil
  | _, _, n + 1, .cons _ t => Vals.drop n t
theorem Vals.none_of : ∀ {xs : List V} {us : List Value} {i : Nat}, Vals xs us → xs[i]? = none → us[i]? = none := fun {xs us i} r e => by
  have h1 := r.length
  have h2 : xs.length ≤ i := List.getElem?_eq_none_iff.mp e
  exact List.getElem?_eq_none_iff.mpr (by omega)

noncomputable def RelO : Option V → Option Value → Prop
  | some v, some u => RelV v u
  | none, none => True
  | _, _ => False
noncomputable def KV {κ : Type} : List (κ × V) → List (κ × Value) → Prop := Paired fun (p : κ × V) (q : κ × Value) => p.1 = q.1 ∧ RelV p.2 q.2

noncomputable def kV : Key → V
  | .inl i => .int i
  | .inr x => .str x

inductive HO where
  /-- a list -/
  | lst (xs : List V)
  /-- a tuple (never changes) -/
  | tup (xs : List V)
  /-- a dict whose keys are ints and texts; one whose keys are tuples of ints and texts (the empty one is both) -/
  | dK (kvs : List (Key × V)) | dT (kvs : List (List Key × V))
  /-- a set of ints: its members, its size -/
  | set (S : Int → Bool) (n : Nat)
  /-- an instance of the class at C, its dict at dx, its attributes -/
  | ins (C dx : Addr) (fs : List (Str × V))
  /-- the dict of the instance at x -/
  | own (x : Addr)
  /-- the dict of an exception -/
  | xd (fs : List (Str × V))
  /-- a bound method, f of x -/
  | met (f x : Addr)
  /-- a range object lo, lo + 1, .. below hi -/
  | rng (lo hi : Int)
  /-- a thing that is known to the object (the script; a dict while a loop walks it): read, never written while it is so -/
  | frz (o : Obj) (u : HO)
  /-- a code object's table -/
  | tbl (ps : Array Value)
  /-- any other thing, by what is true of its one object (a def of one's own: SetO a S n := HO.ext fun h => ..) -/
  | ext (φ : Heap → Prop)

noncomputable abbrev Hp := Addr → Option HO
noncomputable def upd (H : Hp) (a : Addr) (o : HO) : Hp := fun b => if b = a then some o else H b
theorem upd_same {H : Hp} {a : Addr} {o : HO} : upd H a o a = some o := by unfold upd; rw [if_pos rfl]
theorem upd_ne {H : Hp} {a b : Addr} {o : HO} (h : b ≠ a) : upd H a o b = H b := by unfold upd; rw [if_neg h]
theorem ne_of {H : Hp} {a b : Addr} {o u : HO} (h : H a = some o) (h' : H b = some u) (d : o ≠ u) : a ≠ b := by
  intro e; subst e; rw [h] at h'; exact d (Option.some.inj h')
theorem ne_of_none {H : Hp} {a b : Addr} {o : HO} (h : H a = some o) (h' : H b = none) : a ≠ b := by
  intro e; subst e; rw [h] at h'; cases h'

section
variable (P : Program) (w : World)
noncomputable def IsTupN (h : Heap) (a : Addr) (its : Array Value) : Prop := ∃ o, h.get? a = some o ∧ o.cls = .type "tuple" ∧ (∃ n, o.data = .seq its n) ∧ o.dict = none
theorem IsTupN.tup {h : Heap} {a : Addr} {its : Array Value} (x : IsTupN h a its) : IsTup h a its := let ⟨o, e, c, d, _⟩ := x; ⟨o, e, c, d⟩
theorem IsTupN.new (h : Heap) (its : Array Value) : IsTupN (h.push { cls := .type "tuple", data := .seq its }) h.objs.size its := ⟨_, Heap.get?_push_size _ rfl, rfl, ⟨_, rfl⟩, rfl⟩
noncomputable def ObjOk (H : Hp) (h : Heap) (a : Addr) : HO → Prop
  | .lst xs => xs.length ≤ sizeLine ∧ ∃ (its : List Value) (n : Nat), Vals xs its ∧ h.get? a = some { cls := .type "list", data := .seq its.toArray n }
  | .tup xs => xs.length ≤ sizeLine ∧ ∃ its : List Value, Vals xs its ∧ IsTupN h a its.toArray
  | .dK kvs => kvs.length ≤ sizeLine ∧ (a == sysModules) = false ∧ ∃ vs, KV kvs vs ∧ h.DictOf (mixKind P w) a vs
  | .dT kvs => kvs.length ≤ sizeLine ∧ (a == sysModules) = false ∧ ∃ xs : List (List Key × Addr × Value),
      Paired (fun (p : List Key × V) (q : List Key × Addr × Value) => p.1 = q.1 ∧ H q.2.1 = some (.tup (p.1.map kV)) ∧ RelV p.2 q.2.2) kvs xs ∧
      ∃ o es ep, h.get? a = some o ∧ o.ExactDict ∧ o.data = .dict es ep ∧ es.toList = xs.map (entryOfKey (tupleKind (mixKind P w))) ∧ (xs.map (·.1)).Nodup
  | .set S n => h.SetOf (intKind P w) a S n
  | .ins C dx fs => H dx = some (.own a) ∧ fs.length ≤ 1000 ∧ dx ≠ a ∧ h.get? a = some (PySem.W.instObj C dx) ∧
      ∃ mA, h.Ns1 dx mA ∧ (∀ f, RelO (fs.lookup f) (mA f)) ∧ PySem.Within mA (fs.map (·.1))
  | .own _ => ∃ o, h.get? a = some o
  | .xd fs => ∃ mA, h.Ns1 a mA ∧ ∀ f, RelO (fs.lookup f) (mA f)
  | .rng lo hi => ∃ t u v, h.get? a = some { cls := .type "range", data := .fields #[.int lo t, .int hi u, .int 1 v] }
  | .frz o u => h.get? a = some o ∧ ObjOk H h a u
  | .tbl ps => h.get? a = some { cls := .none, data := .fields ps }
  | .met f x => h.get? a = some (PySem.W.methodObj (.ref f) (.ref x))
  | .ext φ => φ h ∧ (∃ o, h.get? a = some o) ∧ ∀ h1 h2 : Heap, φ h1 → (∀ o, h1.get? a = some o → h2.get? a = some o) → φ h2
noncomputable def HOk (H : Hp) (h : Heap) : Prop := ∀ a o, H a = some o → ObjOk P w H h a o
end

section
variable {P : Program} {w : World} {H H' : Hp} {h h' : Heap} {a : Addr} {o : HO}
theorem ObjOk.lt (x : ObjOk P w H h a o) : a < h.objs.size := by
  cases o with
  | lst xs => obtain ⟨_, _, _, _, e⟩ := x; exact Heap.lt_size e
  | tup xs => obtain ⟨_, _, _, p⟩ := x; exact p.tup.lt
  | dK kvs => obtain ⟨_, _, _, _, o, _, _, e, _⟩ := x; exact Heap.lt_size e
  | dT kvs => obtain ⟨_, _, _, _, o, _, _, e, _⟩ := x; exact Heap.lt_size e
  | set S n => obtain ⟨o, _, _, _, e, _⟩ := x; exact Heap.lt_size e
  | ins C dx fs => obtain ⟨_, _, _, e, _⟩ := x; exact Heap.lt_size e
  | own y => obtain ⟨_, e⟩ := x; exact Heap.lt_size e
  | xd fs => obtain ⟨_, ⟨_, _, _, e, _⟩, _⟩ := x; exact Heap.lt_size e
  | rng lo hi => obtain ⟨_, _, _, e⟩ := x; exact Heap.lt_size e
  | frz ob u => obtain ⟨e, _⟩ := x; exact Heap.lt_size e
  | tbl ps => exact Heap.lt_size (show h.get? a = some _ from x)
  | met f y => exact Heap.lt_size (show h.get? a = some _ from x)
  | ext φ => obtain ⟨_, ⟨_, e⟩, _⟩ := x; exact Heap.lt_size e
theorem Paired.mapP {α β : Type} {F G : α → β → Prop} : ∀ {l₁ : List α} {l₂ : List β}, Paired F l₁ l₂ → (∀ a b, F a b → G a b) → Paired G l₁ l₂
  | _, _, .nil, _ => .nil
  | _, _, .cons r t, f => .cons (f _ _ r) (Paired.mapP t f)
theorem ObjOk.stay (x : ObjOk P w H h a o) (k : ∀ b u, (b = a ∨ H b = some (.own a)) → h.get? b = some u → h'.get? b = some u)
    (ho : ∀ b, H b = some (.own a) → H' b = some (.own a)) (ht : ∀ b xs, H b = some (.tup xs) → H' b = some (.tup xs)) : ObjOk P w H' h' a o := by
  induction o with
  | lst xs => obtain ⟨z, its, n, r, e⟩ := x; exact ⟨z, its, n, r, k _ _ (.inl rfl) e⟩
  | tup xs => obtain ⟨z, its, r, ob, e, c⟩ := x; exact ⟨z, its, r, ob, k _ _ (.inl rfl) e, c⟩
  | dK kvs => obtain ⟨z, y, vs, r, ob, es, ep, e, c⟩ := x; exact ⟨z, y, vs, r, ob, es, ep, k _ _ (.inl rfl) e, c⟩
  | dT kvs =>
    obtain ⟨z, y, xs, r, ob, es, ep, e, c⟩ := x
    exact ⟨z, y, xs, Paired.mapP r fun p q z => ⟨z.1, ht _ _ z.2.1, z.2.2⟩, ob, es, ep, k _ _ (.inl rfl) e, c⟩
  | set S n => obtain ⟨ob, es, ep, t, e, c⟩ := x; exact ⟨ob, es, ep, t, k _ _ (.inl rfl) e, c⟩
  | ins C dx fs =>
    obtain ⟨d, z, ne, e, mA, ⟨od, es, ep, e2, c⟩, r⟩ := x
    exact ⟨ho _ d, z, ne, k _ _ (.inl rfl) e, mA, ⟨od, es, ep, k _ _ (.inr d) e2, c⟩, r⟩
  | own y => obtain ⟨ob, e⟩ := x; exact ⟨ob, k _ _ (.inl rfl) e⟩
  | xd fs => obtain ⟨mA, ⟨od, es, ep, e, c⟩, r⟩ := x; exact ⟨mA, ⟨od, es, ep, k _ _ (.inl rfl) e, c⟩, r⟩
  | rng lo hi => obtain ⟨t, u, v, e⟩ := x; exact ⟨t, u, v, k _ _ (.inl rfl) e⟩
  | frz ob u ih => obtain ⟨e, q⟩ := x; exact ⟨k _ _ (.inl rfl) e, ih q⟩
  | tbl ps =>
    have e : h.get? a = some { cls := .none, data := .fields ps } := x
    show h'.get? a = some { cls := .none, data := .fields ps }
    exact k a _ (.inl rfl) e
  | met f y =>
    have e : h.get? a = some (PySem.W.methodObj (.ref f) (.ref y)) := x
    show h'.get? a = some (PySem.W.methodObj (.ref f) (.ref y))
    exact k a _ (.inl rfl) e
  | ext φ => obtain ⟨p, ⟨o, e⟩, st⟩ := x; exact ⟨st _ _ p fun o q => k _ _ (.inl rfl) q, ⟨o, k _ _ (.inl rfl) e⟩, st⟩
theorem HOk.lt (x : HOk P w H h) (e : H a = some o) : a < h.objs.size := (x a o e).lt
theorem HOk.fresh (x : HOk P w H h) (e : h.objs.size ≤ a) : H a = none := by
  cases q : H a with
  | none => rfl
  | some u => exact absurd (Nat.lt_of_lt_of_le (x.lt q) e) (Nat.lt_irrefl _)
theorem HOk.kept (x : HOk P w H h) (k : ∀ b u, h.get? b = some u → h'.get? b = some u) : HOk P w H h' := fun a o e =>
  (x a o e).stay (fun b u _ q => k b u q) (fun _ q => q) fun _ _ q => q
theorem HOk.laid (x : HOk P w H h) (k : ∀ b u, h.get? b = some u → h'.get? b = some u) (hp : h.objs.size ≤ a) (new : ObjOk P w (upd H a o) h' a o) : HOk P w (upd H a o) h' := fun b u e => by
  have hn := x.fresh hp
  by_cases hb : b = a
  · subst hb; rw [upd_same] at e; cases e; exact new
  · rw [upd_ne hb] at e
    exact (x b u e).stay (fun c v _ q => k c v q) (fun c q => by rw [upd_ne (ne_of_none q hn)]; exact q) fun c xs q => by rw [upd_ne (ne_of_none q hn)]; exact q
end

noncomputable def Rd (H : Hp) (a : Addr) (u : HO) : Prop := H a = some u ∨ ∃ o, H a = some (.frz o u)
theorem Rd.ok {P : Program} {w : World} {H : Hp} {h : Heap} {a : Addr} {u : HO} (r : Rd H a u) (x : HOk P w H h) : ObjOk P w H h a u := by
  rcases r with r | ⟨o, r⟩
  · exact x a u r
  · obtain ⟨_, q⟩ := x a _ r
    exact q
noncomputable def Mut : Option HO → Prop
  | some (.lst _) => True
  | some (.dK _) => True
  | some (.dT _) => True
  | some (.set _ _) => True
  | some (.ins _ _ _) => True
  | some (.ext _) => True
  | _ => False
section
variable {P : Program} {w : World} {H : Hp} {h h' : Heap} {x e : Addr} {o' : HO}
theorem HOk.write (ok : HOk P w H h) (mu : Mut (H x)) (he : e = x ∨ H e = some (.own x)) (k : ∀ b u, b ≠ e → h.get? b = some u → h'.get? b = some u) (heo : ∃ u, h'.get? e = some u)
    (new : ObjOk P w (upd H x o') h' x o') : HOk P w (upd H x o') h' := fun b u q => by
  have nown : ∀ c y, H c = some (.own y) → c ≠ x := fun c y r z => by subst z; rw [r] at mu; exact mu
  have ntup : ∀ c xs, H c = some (.tup xs) → c ≠ x := fun c xs r z => by subst z; rw [r] at mu; exact mu
  by_cases hb : b = x
  · subst hb; rw [upd_same] at q; cases q; exact new
  · rw [upd_ne hb] at q
    by_cases hbe : b = e
    · have q' : H b = some (.own x) := by
        rcases he with z | z
        · exact absurd (hbe.trans z) hb
        · rw [hbe]; exact z
      rw [q] at q'; cases q'
      obtain ⟨v, hv⟩ := heo
      exact ⟨v, by rw [hbe]; exact hv⟩
    · refine (ok b u q).stay (fun c v hc r => k c v ?_ r) (fun c r => by rw [upd_ne (nown c b r)]; exact r) fun c xs r => by rw [upd_ne (ntup c xs r)]; exact r
      rcases hc with rfl | hc
      · exact hbe
      · rintro rfl
        rcases he with z | z
        · exact nown c b hc z
        · rw [hc] at z; cases z; exact hb rfl
end

structure Un (fs ex : List Addr) (H H' : Hp) (h h' : Heap) : Prop where
  keep : ∀ b o, h.get? b = some o → H b = none → b ∉ fs → b ∉ ex → h'.get? b = some o
  slot : ∀ b o, h.get? b = some o → H b = none → b ∈ fs → b ∉ ex → ∃ sl, h'.get? b = some { o with slots := sl }
  free : ∀ b o, h.get? b = some o → H b = none → b ∉ ex → H' b = none
  there : ∀ b o, h.get? b = some o → b ∉ ex → ∃ o', h'.get? b = some o'
  tups : ∀ b xs, H b = some (.tup xs) → H' b = some (.tup xs)
  frzs : ∀ b o u, H b = some (.frz o u) → H' b = some (.frz o u)
  tbls : ∀ b ps, H b = some (.tbl ps) → ∃ more, H' b = some (.tbl (ps ++ more))
section
variable {fs fs' ex ex' : List Addr} {H H1 H2 : Hp} {h h1 h2 h' : Heap} {a x e : Addr} {o : HO}
theorem Un.any (u : Un fs ex H H1 h h1) {b : Addr} {ob : Obj} (q : h.get? b = some ob) (n : H b = none) (hx : b ∉ ex) : ∃ sl, h1.get? b = some { ob with slots := sl } := by
  by_cases hb : b ∈ fs
  · exact u.slot b ob q n hb hx
  · exact ⟨ob.slots, u.keep b ob q n hb hx⟩
theorem Un.kept (k : ∀ b u, h.get? b = some u → h'.get? b = some u) : Un fs ex H H h h' :=
  ⟨fun b ob q _ _ _ => k b ob q, fun b ob q _ _ _ => ⟨ob.slots, k b ob q⟩, fun _ _ _ n _ => n, fun b ob q _ => ⟨ob, k b ob q⟩, fun _ _ q => q, fun _ _ _ q => q, fun _ ps q => ⟨#[], by rw [q]; simp⟩⟩
theorem Un.refl : Un fs ex H H h h := Un.kept fun _ _ q => q
theorem Un.laid (k : ∀ b u, h.get? b = some u → h'.get? b = some u) (hp : h.objs.size ≤ a) (hn : H a = none) : Un fs ex H (upd H a o) h h' where
  keep := fun b u q _ _ _ => k b u q
  slot := fun b u q _ _ _ => ⟨u.slots, k b u q⟩
  free := fun b u q n _ => by rw [upd_ne (Nat.ne_of_lt (Nat.lt_of_lt_of_le (Heap.lt_size q) hp))]; exact n
  there := fun b u q _ => ⟨u, k b u q⟩
  tups := fun b xs q => by rw [upd_ne (ne_of_none q hn)]; exact q
  frzs := fun b u xs q => by rw [upd_ne (ne_of_none q hn)]; exact q
  tbls := fun b ps q => ⟨#[], by rw [upd_ne (ne_of_none q hn), q]; simp⟩
theorem Un.write (mu : Mut (H x)) (he : e = x ∨ H e = some (.own x)) (k : ∀ b u, b ≠ e → h.get? b = some u → h'.get? b = some u) (heo : ∃ u, h'.get? e = some u) : Un fs ex H (upd H x o) h h' := by
  have hx : ∀ b, H b = none → b ≠ x := fun b n z => by subst z; rw [n] at mu; exact mu
  have hb : ∀ b, H b = none → b ≠ e := fun b n z => by
    subst z
    rcases he with r | r
    · exact hx b n r
    · rw [n] at r; cases r
  have hm : ∀ b u, H b = some u → ¬ Mut (some u) → b ≠ x := fun b u q nm z => by subst z; rw [q] at mu; exact nm mu
  refine ⟨fun b u q n _ _ => k b u (hb b n) q, fun b u q n _ _ => ⟨u.slots, k b u (hb b n) q⟩, fun b u q n _ => by rw [upd_ne (hx b n)]; exact n, fun b u q _ => ?_,
    fun b xs q => by rw [upd_ne (hm b _ q fun z => z)]; exact q, fun b u xs q => by rw [upd_ne (hm b _ q fun z => z)]; exact q, fun b ps q => ⟨#[], by rw [upd_ne (hm b _ q fun z => z), q]; simp⟩⟩
  by_cases hbe : b = e
  · subst hbe; exact heo
  · exact ⟨u, k b u hbe q⟩
end

noncomputable def trk (h : Heap) (H : Hp) : List Addr := (List.range h.objs.size).filter fun a => (H a).isSome
noncomputable def hidT (h : Heap) (H : Hp) : Heap := PySem.W.hideAll h (trk h H)
theorem hidT_size (h : Heap) (H : Hp) : (hidT h H).objs.size = h.objs.size := PySem.W.hideAll_size _ _
theorem hidT_get {h : Heap} {H : Hp} {b : Addr} {o : Obj} (e : h.get? b = some o) (n : H b = none) : (hidT h H).get? b = some o :=
  PySem.W.hideAll_get _ e fun hm => by
    have q : (H b).isSome = true := (List.mem_filter.mp hm).2
    rw [n] at q; simp at q
theorem of_hidT {h : Heap} {H : Hp} {b : Addr} {o : Obj} (e : (hidT h H).get? b = some o) : h.get? b = some o ∧ H b = none := by
  have e' : h.get? b = some o := PySem.W.of_hideAll (trk h H) e
  refine ⟨e', ?_⟩
  cases q : H b with
  | none => rfl
  | some x =>
    have hm : b ∈ trk h H := List.mem_filter.mpr ⟨List.mem_range.mpr (Heap.lt_size e'), by simp [q]⟩
    have z : (hidT h H).get? b = none := PySem.W.hideAll_none (trk h H) hm
    rw [z] at e; cases e

end L2

namespace L2
open PySem PySem.Spec PyProof.Rows

structure Mod (K : PySem.W.Frag) (mg : Str → Option Value) (base : Heap) : Prop where
  kin : K.In base
  glob : base.Ns mainGlobals mg
  blt : ∃ mb, base.Ns builtinsNs mb ∧ ∀ x : Str, x ≠ "__name__" → mb x = bootBuiltins x
  nolimit : base.NoLimit

structure Cx where
  prog : Program
  w : World
  K : PySem.W.Frag
  mg : Str → Option Value
  base : Heap
  A : Around
  N : List Str
  s₀ : Shared
  H₀ : Hp
  env : Env
  outer : List Env
  stack : List Env
  ex : List Addr
  fn : Str → Bool
  calm : Bool
  pn : List (Addr × Obj)
  xe : Value → Shared → Prop
noncomputable def frs (l : List Env) : List Addr := l.filterMap (·.frame)
noncomputable abbrev Cx.fs (X : Cx) : List Addr := frs X.outer

noncomputable def Vis (sc : Scope) (x : Str) : Prop := sc.names.lookup x = some .local ∨ sc.names.lookup x = some .cell ∨ sc.names.lookup x = some .free
noncomputable def Loc (sc : Scope) (x : Str) : Prop := sc.names.lookup x = some .local ∨ sc.names.lookup x = some .cell
noncomputable def Look (env : Env) (h : Heap) (m : Str → Option Value) (x : Str) (u : Value) : Prop :=
  (env.kindOf x = some .local ∧ m x = some u) ∨ ((env.kindOf x = some .cell ∨ env.kindOf x = some .free) ∧ ∃ c, env.cells.lookup x = some c ∧ h.IsCell c (some u))

structure Cx.Ok (X : Cx) : Prop where
  mod : Mod X.K X.mg X.base
  kind : X.env.scope.kind = .function
  glob : X.env.globals = mainGlobals
  blt : X.env.builtins = builtinsNs
  above : X.s₀.heap.objs.size ≤ X.env.locals
  inj : ∀ x y c, X.env.cells.lookup x = some c → X.env.cells.lookup y = some c → x = y
  has : ∀ x, (X.env.kindOf x = some .cell ∨ X.env.kindOf x = some .free) → ∃ c, X.env.cells.lookup x = some c
  cab : ∀ x c, X.fn x = true → X.env.cells.lookup x = some c → X.s₀.heap.objs.size ≤ c
  hd : X.calm = true → X.A.handled = none
  frames : X.A.frames = some X.stack
  stk : X.stack = X.outer ∨ (X.stack = X.env :: X.outer ∧ X.env.frame = some X.env.locals)
  exf : ∀ b ∈ X.ex, b ≠ X.env.locals ∧ ∀ x c, X.env.cells.lookup x = some c → c ≠ b
  bs : ∀ b o, X.base.get? b = some o → X.s₀.heap.get? b = some o ∧ X.H₀ b = none
  bsz : X.base.objs.size ≤ X.s₀.heap.objs.size
  noex : ∀ b o, X.base.get? b = some o → b ∉ X.ex
  exfs : ∀ b ∈ X.ex, b ∉ X.fs
  funs : X.s₀.heap.FunFrames X.base X.outer
  frf : ∀ b ∈ X.fs, X.H₀ b = none

structure Inv (X : Cx) (pins : List (Addr × Obj)) (σ : List (Option V)) (H : Hp) (s : Shared) : Prop where
  ok : X.Ok
  os : s.os = X.s₀.os
  bare : AllBare s.gens
  base : Un X.fs X.ex X.H₀ H X.s₀.heap s.heap
  loc : ∃ m, s.heap.Ns X.env.locals m ∧ ∀ (i : Nat) (x : Str) (v : V), X.N[i]? = some x → σ[i]? = some (some v) → Vis X.env.scope x → ∃ u, RelV v u ∧ Look X.env s.heap m x u
  cell : ∀ x c, X.env.cells.lookup x = some c → ∃ v, s.heap.IsCell c v
  free : H X.env.locals = none
  freeC : ∀ x c, X.env.cells.lookup x = some c → H c = none
  pin : ∀ p ∈ X.pn ++ pins, s.heap.get? p.1 = some p.2 ∧ H p.1 = none ∧ p.1 ≠ X.env.locals ∧ p.1 ∉ X.fs ∧ ∀ v, p.2.data ≠ .cell v
  hok : HOk X.prog X.w H s.heap
  len : σ.length = X.N.length

section
variable {X : Cx} {pins : List (Addr × Obj)} {σ : List (Option V)} {H H' : Hp} {s : Shared} {h' : Heap}

theorem Cx.Ok.nofr (ok : X.Ok) {b : Addr} {o : Obj} (e : X.base.get? b = some o) : b ∉ X.fs := fun hb => by
  have := (ok.funs.mem hb).1
  rw [e] at this; cases this
theorem Inv.bs (I : Inv X pins σ H s) : ∀ b o, X.base.get? b = some o → s.heap.get? b = some o ∧ H b = none := fun b o e =>
  ⟨I.base.keep b o (I.ok.bs b o e).1 (I.ok.bs b o e).2 (I.ok.nofr e) (I.ok.noex b o e), I.base.free b o (I.ok.bs b o e).1 (I.ok.bs b o e).2 (I.ok.noex b o e)⟩
theorem Inv.bk (I : Inv X pins σ H s) : ∀ b o, X.base.get? b = some o → s.heap.get? b = some o := fun b o e => (I.bs b o e).1
theorem Inv.mod (I : Inv X pins σ H s) : Mod X.K X.mg X.base := I.ok.mod
theorem Inv.kIn (I : Inv X pins σ H s) : X.K.In s.heap := I.ok.mod.kin.keeps I.bk
theorem Inv.lt (I : Inv X pins σ H s) : X.env.locals < s.heap.objs.size := let ⟨_, hn, _⟩ := I.loc; hn.lt
theorem Inv.sz (I : Inv X pins σ H s) : X.s₀.heap.objs.size ≤ s.heap.objs.size := Nat.le_trans I.ok.above (Nat.le_of_lt I.lt)
theorem Inv.nofs (I : Inv X pins σ H s) {a : Addr} (h : s.heap.objs.size ≤ a) : a ∉ X.fs := fun hb => by
  obtain ⟨_, o, ho, _⟩ := I.ok.funs.mem hb
  exact absurd (Nat.lt_of_lt_of_le (Heap.lt_size ho) (Nat.le_trans I.sz h)) (Nat.lt_irrefl _)
theorem Inv.cne (I : Inv X pins σ H s) : ∀ x c, X.env.cells.lookup x = some c → c ≠ X.env.locals := fun x c e z => by
  obtain ⟨v, o, ho, hd⟩ := I.cell x c e
  obtain ⟨m, ⟨o', es, ep, ho', hd', _⟩, _⟩ := I.loc
  rw [z, ho'] at ho; cases ho; rw [hd'] at hd; cases hd
theorem Inv.funs (I : Inv X pins σ H s) : s.heap.FunFrames X.base X.outer := by
  have all : ∀ (l : List Env), (∀ b ∈ frs l, b ∈ X.fs) → X.s₀.heap.FunFrames X.base l → s.heap.FunFrames X.base l := by
    intro l
    induction l with
    | nil => intro _ _; trivial
    | cons env r ih =>
      intro hs hl
      obtain ⟨hk, ⟨L, o, hf, hn, ho, hd⟩, hr⟩ := hl
      have hL : L ∈ X.fs := hs L (by unfold frs; rw [List.filterMap_cons, hf]; exact List.mem_cons_self)
      obtain ⟨sl, e⟩ := I.base.slot L o ho (I.ok.frf L hL) hL fun z => I.ok.exfs L z hL
      exact ⟨hk, ⟨L, _, hf, hn, e, hd⟩, ih (fun b hb => hs b (by unfold frs; rw [List.filterMap_cons, hf]; exact List.mem_cons_of_mem _ hb)) hr⟩
  exact all X.outer (fun _ hb => hb) I.ok.funs

theorem Inv.stack (I : Inv X pins σ H s) : s.heap.FunFrames X.base X.stack := by
  rcases I.ok.stk with e | ⟨e, hf⟩
  · rw [e]; exact I.funs
  · rw [e]
    obtain ⟨m, hn, _⟩ := I.loc
    refine .cons (by rw [I.ok.kind]; decide) hf hn ?_ I.funs
    exact Heap.get?_none_of_le (Nat.le_trans I.ok.bsz I.ok.above)
theorem Inv.stkSub (I : Inv X pins σ H s) : ∀ b ∈ frs X.stack, b ∈ X.env.locals :: X.fs := fun b hb => by
  rcases I.ok.stk with e | ⟨e, hf⟩
  · rw [e] at hb; exact List.mem_cons_of_mem _ hb
  · rw [e] at hb
    unfold frs at hb
    rw [List.filterMap_cons, hf] at hb
    exact hb
theorem Inv.stkFree (I : Inv X pins σ H s) : ∀ b ∈ frs X.stack, H b = none := fun b hb => by
  rcases List.mem_cons.mp (I.stkSub b hb) with e | hb
  · rw [e]; exact I.free
  · obtain ⟨_, o, ho, _⟩ := I.ok.funs.mem hb
    exact I.base.free b o ho (I.ok.frf b hb) fun z => I.ok.exfs b z hb

theorem Inv.step {g' : Array GenState} {t' : Nat} {d' : Drawn} {ch : List Addr} (I : Inv X pins σ H s)
    (hch : ∀ b ∈ ch, (b ∈ X.ex ∨ X.s₀.heap.objs.size ≤ b) ∧ b ≠ X.env.locals ∧ (∀ x c, X.env.cells.lookup x = some c → c ≠ b) ∧ ∀ p ∈ X.pn ++ pins, p.1 ≠ b)
    (keep : ∀ b o, b ≠ X.env.locals → b ∉ X.fs → b ∉ ch → s.heap.get? b = some o → H b = none → h'.get? b = some o)
    (slot : ∀ b o, b ≠ X.env.locals → b ∈ X.fs → b ∉ ch → s.heap.get? b = some o → H b = none → ∃ sl, h'.get? b = some { o with slots := sl }) (free : ∀ b o, b ∉ ch → s.heap.get? b = some o → H b = none → H' b = none)
    (there : ∀ b o, b ∉ ch → s.heap.get? b = some o → ∃ o', h'.get? b = some o')
    (tups : ∀ b xs, H b = some (.tup xs) → H' b = some (.tup xs)) (frzs : ∀ b o u, H b = some (.frz o u) → H' b = some (.frz o u)) (tbls : ∀ b ps, H b = some (.tbl ps) → ∃ more, H' b = some (.tbl (ps ++ more)))
    (ns : ∀ m, s.heap.Ns X.env.locals m → h'.Ns X.env.locals m) (hok : HOk X.prog X.w H' h') (hg : AllBare g') :
    Inv X pins σ H' { s with heap := h', gens := g', drawn := d', toks := t' } := by
  have neL : ∀ b o, X.s₀.heap.get? b = some o → b ≠ X.env.locals := fun b o e => Nat.ne_of_lt (Nat.lt_of_lt_of_le (Heap.lt_size e) I.ok.above)
  have neC : ∀ b o, X.s₀.heap.get? b = some o → b ∉ X.ex → b ∉ ch := fun b o e hx hb => by
    rcases (hch b hb).1 with z | z
    · exact hx z
    · exact absurd (Nat.lt_of_lt_of_le (Heap.lt_size e) z) (Nat.lt_irrefl _)
  have cellK : ∀ x c, X.env.cells.lookup x = some c → ∀ v, s.heap.IsCell c v → h'.IsCell c v := fun x c e v ⟨o, ho, hd⟩ => by
    have nch : c ∉ ch := fun z => (hch c z).2.2.1 x c e rfl
    by_cases hc : c ∈ X.fs
    · obtain ⟨sl, q⟩ := slot c o (I.cne x c e) hc nch ho (I.freeC x c e)
      exact ⟨_, q, hd⟩
    · exact ⟨o, keep c o (I.cne x c e) hc nch ho (I.freeC x c e), hd⟩
  refine ⟨I.ok, I.os, hg, ⟨fun b o e n hb hx => ?_, fun b o e n hb hx => ?_, fun b o e n hx => ?_, fun b o e hx => ?_, fun b xs e => tups b xs (I.base.tups b xs e), fun b o xs e => frzs b o xs (I.base.frzs b o xs e), fun b ps e => ?_⟩, ?_, fun x c e => ?_, ?_, fun x c e => ?_, fun p hp => ?_, hok, I.len⟩
  · exact keep b o (neL b o e) hb (neC b o e hx) (I.base.keep b o e n hb hx) (I.base.free b o e n hx)
  · obtain ⟨sl, e1⟩ := I.base.slot b o e n hb hx
    obtain ⟨sl', e2⟩ := slot b _ (neL b o e) hb (neC b o e hx) e1 (I.base.free b o e n hx)
    exact ⟨sl', e2⟩
  · obtain ⟨o', e1⟩ := I.base.there b o e hx
    exact free b o' (neC b o e hx) e1 (I.base.free b o e n hx)
  · obtain ⟨o', e1⟩ := I.base.there b o e hx
    exact there b o' (neC b o e hx) e1
  · obtain ⟨m1, e1⟩ := I.base.tbls b ps e
    obtain ⟨m2, e2⟩ := tbls b _ e1
    exact ⟨m1 ++ m2, by rw [e2, Array.append_assoc]⟩
  · obtain ⟨m, hn, hl⟩ := I.loc
    refine ⟨m, ns m hn, fun i x v e1 e2 e3 => ?_⟩
    obtain ⟨u, r, l⟩ := hl i x v e1 e2 e3
    refine ⟨u, r, ?_⟩
    rcases l with l | ⟨k, c, e, z⟩
    · exact .inl l
    · exact .inr ⟨k, c, e, cellK x c e _ z⟩
  · obtain ⟨v, z⟩ := I.cell x c e
    exact ⟨v, cellK x c e v z⟩
  · obtain ⟨m, ⟨o, _, _, ho, _⟩, _⟩ := I.loc
    exact free _ o (fun z => (hch _ z).2.1 rfl) ho I.free
  · obtain ⟨v, o, ho, hd⟩ := I.cell x c e
    exact free c o (fun z => (hch c z).2.2.1 x c e rfl) ho (I.freeC x c e)
  · obtain ⟨e, n, ne, nf, d⟩ := I.pin p hp
    have nch : p.1 ∉ ch := fun z => (hch p.1 z).2.2.2 p hp rfl
    exact ⟨keep p.1 p.2 ne nf nch e n, free p.1 p.2 nch e n, ne, nf, d⟩
theorem Inv.un {t' : Nat} (I : Inv X pins σ H s) (u : Un X.fs [] H H' s.heap h') (hok : HOk X.prog X.w H' h') : Inv X pins σ H' { s with heap := h', toks := t' } := by
  obtain ⟨m, ⟨o, es, ep, ho, r⟩, _⟩ := id I.loc
  obtain ⟨sl, hL⟩ := u.any ho I.free (by simp)
  exact I.step (g' := s.gens) (d' := s.drawn) (ch := []) (fun _ z => nomatch z) (fun b o _ hb _ e n => u.keep b o e n hb (by simp)) (fun b o _ hb _ e n => u.slot b o e n hb (by simp)) (fun b o _ e n => u.free b o e n (by simp)) (fun b o _ e => u.there b o e (by simp)) u.tups u.frzs u.tbls (fun m' hm => by
    obtain ⟨o', es', ep', ho', r'⟩ := hm
    rw [ho] at ho'; cases ho'
    exact ⟨_, es', ep', hL, r'⟩) hok I.bare
theorem Inv.call {g' : Array GenState} {t' : Nat} {d' : Drawn} {ch : List Addr} (I : Inv X pins σ H s) (u : Un (frs X.stack) ch H H' s.heap h') (hok : HOk X.prog X.w H' h') (hg : AllBare g')
    (hch : ∀ b ∈ ch, (b ∈ X.ex ∨ X.s₀.heap.objs.size ≤ b) ∧ b ≠ X.env.locals ∧ (∀ x c, X.env.cells.lookup x = some c → c ≠ b) ∧ ∀ p ∈ X.pn ++ pins, p.1 ≠ b) :
    Inv X pins σ H' { s with heap := h', gens := g', drawn := d', toks := t' } := by
  obtain ⟨m, ⟨o, es, ep, ho, r⟩, _⟩ := id I.loc
  obtain ⟨sl, hL⟩ := u.any ho I.free fun z => (hch _ z).2.1 rfl
  exact I.step (ch := ch) hch (fun b o hL hb hc e n => u.keep b o e n (fun z => (List.mem_cons.mp (I.stkSub b z)).elim hL hb) hc) (fun b o _ _ hc e n => u.any e n hc) (fun b o hc e n => u.free b o e n hc) (fun b o hc e => u.there b o e hc) u.tups u.frzs u.tbls (fun m' hm => by
    obtain ⟨o', es', ep', ho', r'⟩ := hm
    rw [ho] at ho'; cases ho'
    exact ⟨_, es', ep', hL, r'⟩) hok hg
theorem Inv.turned {t' : Nat} {it : Addr} (I : Inv X pins σ H s) (k : ∀ b o, b ≠ it → s.heap.get? b = some o → h'.get? b = some o) (hn : H it = none) (hL : it ≠ X.env.locals)
    (h1 : it ∈ X.ex ∨ X.s₀.heap.objs.size ≤ it) (h2 : ∀ x c, X.env.cells.lookup x = some c → c ≠ it) (h3 : ∀ p ∈ X.pn ++ pins, p.1 ≠ it) : Inv X pins σ H { s with heap := h', toks := t' } := by
  have nit : ∀ b u, H b = some u → b ≠ it := fun b u e z => by rw [z, hn] at e; cases e
  refine I.step (g' := s.gens) (d' := s.drawn) (ch := [it]) (fun b hb => ?_) (fun b o _ _ hc e _ => k b o (fun z => hc (by simp [z])) e) (fun b o _ _ hc e _ => ⟨o.slots, k b o (fun z => hc (by simp [z])) e⟩) (fun _ _ _ _ n => n)
    (fun b o hc e => ⟨o, k b o (fun z => hc (by simp [z])) e⟩) (fun _ _ e => e) (fun _ _ _ e => e) (fun b ps e => ⟨#[], by rw [e]; simp⟩) (fun m hm => ?_) (fun b u e => ?_) I.bare
  · have e : b = it := by simpa using hb
    subst e
    exact ⟨h1, hL, h2, h3⟩
  · obtain ⟨o, es, ep, ho, r⟩ := hm
    exact ⟨o, es, ep, k _ o (Ne.symm hL) ho, r⟩
  · refine (I.hok b u e).stay (fun c v hc q => k c v ?_ q) (fun _ q => q) fun _ _ q => q
    rcases hc with z | z
    · rw [z]; exact nit b u e
    · exact nit c _ z
theorem Inv.tok (I : Inv X pins σ H s) (t : Nat) : Inv X pins σ H { s with toks := t } := I.un (h' := s.heap) (t' := t) Un.refl I.hok
theorem Inv.kept {t' : Nat} (I : Inv X pins σ H s) (k : ∀ b u, s.heap.get? b = some u → h'.get? b = some u) : Inv X pins σ H { s with heap := h', toks := t' } := I.un (Un.kept k) (I.hok.kept k)
theorem Inv.laid {a : Addr} {o : HO} {t' : Nat} (I : Inv X pins σ H s) (k : ∀ b u, s.heap.get? b = some u → h'.get? b = some u) (hp : s.heap.objs.size ≤ a) (new : ObjOk X.prog X.w (upd H a o) h' a o) :
    Inv X pins σ (upd H a o) { s with heap := h', toks := t' } := I.un (Un.laid k hp (I.hok.fresh hp)) (I.hok.laid k hp new)
theorem Inv.write {x e : Addr} {o : HO} {t' : Nat} (I : Inv X pins σ H s) (mu : Mut (H x)) (he : e = x ∨ H e = some (.own x)) (k : ∀ b u, b ≠ e → s.heap.get? b = some u → h'.get? b = some u) (heo : ∃ u, h'.get? e = some u)
    (new : ObjOk X.prog X.w (upd H x o) h' x o) : Inv X pins σ (upd H x o) { s with heap := h', toks := t' } := I.un (Un.write mu he k heo) (I.hok.write mu he k heo new)
theorem Inv.weak {σ' : List (Option V)} (I : Inv X pins σ H s) (hl : σ'.length = σ.length) (w : ∀ (i : Nat) v, σ'[i]? = some (some v) → σ[i]? = some (some v)) : Inv X pins σ' H s :=
  ⟨I.ok, I.os, I.bare, I.base, let ⟨m, hn, hl'⟩ := I.loc; ⟨m, hn, fun i x v e1 e2 e3 => hl' i x v e1 (w i v e2) e3⟩, I.cell, I.free, I.freeC, I.pin, I.hok, hl.trans I.len⟩
theorem Inv.pins_of {pins' : List (Addr × Obj)} (I : Inv X pins σ H s) (h : ∀ p ∈ pins', s.heap.get? p.1 = some p.2 ∧ H p.1 = none ∧ p.1 ≠ X.env.locals ∧ p.1 ∉ X.fs ∧ ∀ v, p.2.data ≠ .cell v) : Inv X pins' σ H s :=
  ⟨I.ok, I.os, I.bare, I.base, I.loc, I.cell, I.free, I.freeC, fun p hp => (List.mem_append.mp hp).elim (fun z => I.pin p (List.mem_append_left _ z)) (h p), I.hok, I.len⟩

theorem nodup_ix {N : List Str} (hN : N.Nodup) {i j : Nat} {x : Str} (a : N[i]? = some x) (b : N[j]? = some x) : i = j := by
  obtain ⟨h1, e1⟩ := List.getElem?_eq_some_iff.mp a
  obtain ⟨h2, e2⟩ := List.getElem?_eq_some_iff.mp b
  exact (List.getElem_inj hN).mp (e1.trans e2.symm)

theorem store_ok2 {M : Model} {A : Around} {E : Value → Shared → Prop} {i : Nat} {x : Str} {v : V} {u : Value} {Q : Unit → Shared → Prop} (I : Inv X pins σ H s) (hN : X.N.Nodup) (hi : X.N[i]? = some x) (hx : Loc X.env.scope x) (r : RelV v u)
    (h : ∀ s', Inv X pins (σ.set i (some v)) H s' → (∃ a, Heap.SameBut a s.heap s'.heap ∧ (a = X.env.locals ∨ X.env.cells.lookup x = some a)) → Q () s') (hf : X.fn x = true ∨ X.env.scope.names.lookup x = some .local := by first | exact .inl rfl | exact .inr rfl | assumption) : wpAny M A (storeName X.env x u) Q E s := by
  obtain ⟨m, hn, hl⟩ := id I.loc
  have hcls : (X.env.scope.kind == .class || (X.env.scope.kind == .module && X.env.locals != X.env.globals)) = false := by rw [I.ok.kind]; rfl
  have hiσ : i < σ.length := by rw [I.len]; exact (List.getElem?_eq_some_iff.mp hi).1
  have cne := I.cne
  have tracked : ∀ {a : Addr} {h' : Heap}, (∃ o, s.heap.get? a = some o ∧ H a = none) → Heap.SameBut a s.heap h' → HOk X.prog X.w H h' := fun {a h'} ha hs b ob e => by
    obtain ⟨_, _, hfree⟩ := ha
    refine (I.hok b ob e).stay (fun c w' hc q => (hs.2 c ?_).trans q) (fun _ q => q) fun _ _ q => q
    rintro rfl
    rcases hc with rfl | hc
    · rw [hfree] at e; cases e
    · rw [hfree] at hc; cases hc
  rcases hx with hk | hk
  · refine wpAny_storeName_local hk hn (fun h' hn' hs => ?_) hcls
    obtain ⟨oL, _, _, hoL, _⟩ := id hn
    refine h _ ⟨I.ok, I.os, I.bare, ⟨fun b o e n hb hx => ?_, fun b o e n hb hx => ?_, I.base.free, fun b o e hx => ?_, I.base.tups, I.base.frzs, I.base.tbls⟩, ⟨_, hn', fun j y v' e1 e2 e3 => ?_⟩, fun y c e => ?_, I.free, I.freeC, fun p hp => ?_, tracked ⟨oL, hoL, I.free⟩ hs, by simpa using I.len⟩ ⟨_, hs, .inl rfl⟩
    · exact (hs.2 b (Nat.ne_of_lt (Nat.lt_of_lt_of_le (Heap.lt_size e) I.ok.above))).trans (I.base.keep b o e n hb hx)
    · obtain ⟨sl, e1⟩ := I.base.slot b o e n hb hx
      exact ⟨sl, (hs.2 b (Nat.ne_of_lt (Nat.lt_of_lt_of_le (Heap.lt_size e) I.ok.above))).trans e1⟩
    · obtain ⟨o', e1⟩ := I.base.there b o e hx
      exact ⟨o', (hs.2 b (Nat.ne_of_lt (Nat.lt_of_lt_of_le (Heap.lt_size e) I.ok.above))).trans e1⟩
    · by_cases hj : j = i
      · subst hj
        rw [hi] at e1; cases e1
        rw [List.getElem?_set_self hiσ] at e2
        cases e2
        exact ⟨u, r, .inl ⟨hk, by simp⟩⟩
      · rw [List.getElem?_set_ne (Ne.symm hj)] at e2
        obtain ⟨u', r', q⟩ := hl j y v' e1 e2 e3
        refine ⟨u', r', ?_⟩
        rcases q with ⟨k, e⟩ | ⟨k, c, e, z⟩
        · refine .inl ⟨k, ?_⟩
          have : y ≠ x := fun e => hj (nodup_ix hN e1 (e ▸ hi))
          simp [this, e]
        · exact .inr ⟨k, c, e, z.sameBut hs (cne y c e)⟩
    · obtain ⟨w', z⟩ := I.cell y c e
      exact ⟨w', z.sameBut hs (cne y c e)⟩
    · obtain ⟨e, n, ne, nf, d⟩ := I.pin p hp
      exact ⟨(hs.2 p.1 ne).trans e, n, ne, nf, d⟩
  · have hfn : X.fn x = true := by
      rcases hf with z | z
      · exact z
      · rw [z] at hk; cases hk
    obtain ⟨c, hc⟩ := I.ok.has x (.inl hk)
    obtain ⟨w', z⟩ := I.cell x c hc
    refine wpAny_storeName_cell I.ok.kind hk hc z (fun h' hc' hs => ?_)
    obtain ⟨oc, hoc, hocd⟩ := id z
    refine h { s with heap := h' } ⟨I.ok, I.os, I.bare, ⟨fun b o e n hb hx => ?_, fun b o e n hb hx => ?_, I.base.free, fun b o e hx => ?_, I.base.tups, I.base.frzs, I.base.tbls⟩, ⟨m, hn.sameBut hs (Ne.symm (cne x c hc)), fun j y v' e1 e2 e3 => ?_⟩, fun y c' e => ?_, I.free, I.freeC, fun p hp => ?_, tracked ⟨oc, hoc, I.freeC x c hc⟩ hs, by simpa using I.len⟩ ⟨c, hs, .inr hc⟩
    · exact (hs.2 b (Nat.ne_of_lt (Nat.lt_of_lt_of_le (Heap.lt_size e) (I.ok.cab x c hfn hc)))).trans (I.base.keep b o e n hb hx)
    · obtain ⟨sl, e1⟩ := I.base.slot b o e n hb hx
      exact ⟨sl, (hs.2 b (Nat.ne_of_lt (Nat.lt_of_lt_of_le (Heap.lt_size e) (I.ok.cab x c hfn hc)))).trans e1⟩
    · obtain ⟨o', e1⟩ := I.base.there b o e hx
      exact ⟨o', (hs.2 b (Nat.ne_of_lt (Nat.lt_of_lt_of_le (Heap.lt_size e) (I.ok.cab x c hfn hc)))).trans e1⟩
    · by_cases hj : j = i
      · subst hj
        rw [hi] at e1; cases e1
        rw [List.getElem?_set_self hiσ] at e2
        cases e2
        exact ⟨u, r, .inr ⟨.inl hk, c, hc, hc'⟩⟩
      · rw [List.getElem?_set_ne (Ne.symm hj)] at e2
        obtain ⟨u', r', q⟩ := hl j y v' e1 e2 e3
        refine ⟨u', r', ?_⟩
        rcases q with q | ⟨k, c', e, z'⟩
        · exact .inl q
        · refine .inr ⟨k, c', e, z'.sameBut hs ?_⟩
          rintro rfl
          exact hj (nodup_ix hN e1 (I.ok.inj _ _ _ e hc ▸ hi))
    · by_cases hcc : c' = c
      · subst hcc; exact ⟨_, hc'⟩
      · obtain ⟨w2, z2⟩ := I.cell y c' e
        exact ⟨w2, z2.sameBut hs hcc⟩
    · obtain ⟨e, n, ne, nf, d⟩ := I.pin p hp
      refine ⟨(hs.2 p.1 ?_).trans e, n, ne, nf, d⟩
      intro q
      rw [q, hoc] at e
      have q' : oc = p.2 := Option.some.inj e
      exact d w' (by rw [← q']; exact hocd)
theorem store_ok {M : Model} {A : Around} {E : Value → Shared → Prop} {i : Nat} {x : Str} {v : V} {u : Value} {Q : Unit → Shared → Prop} (I : Inv X pins σ H s) (hN : X.N.Nodup) (hi : X.N[i]? = some x) (hx : Loc X.env.scope x) (r : RelV v u)
    (h : ∀ s', Inv X pins (σ.set i (some v)) H s' → Q () s') (hf : X.fn x = true ∨ X.env.scope.names.lookup x = some .local := by first | exact .inl rfl | exact .inr rfl | assumption) : wpAny M A (storeName X.env x u) Q E s :=
  store_ok2 I hN hi hx r (fun s' I' _ => h s' I') hf
theorem Inv.call' {s' : Shared} {ch : List Addr} (I : Inv X pins σ H s) (ho : s'.os = s.os) (u : Un (frs X.stack) ch H H' s.heap s'.heap) (hok : HOk X.prog X.w H' s'.heap) (hg : AllBare s'.gens)
    (hch : ∀ b ∈ ch, (b ∈ X.ex ∨ X.s₀.heap.objs.size ≤ b) ∧ b ≠ X.env.locals ∧ (∀ x c, X.env.cells.lookup x = some c → c ≠ b) ∧ ∀ p ∈ X.pn ++ pins, p.1 ≠ b) : Inv X pins σ H' s' := by
  obtain ⟨h', g', d', t', o'⟩ := s'
  have e : o' = s.os := ho
  subst e
  exact I.call (g' := g') (t' := t') (d' := d') u hok hg hch
end

noncomputable abbrev XK := Value → Option Addr → Hp → Prop
noncomputable abbrev St := List (Option V)
noncomputable abbrev VK := V → Hp → Prop
noncomputable abbrev TE := St → Hp → VK → Prop
noncomputable abbrev TT := St → Hp → (Bool → Hp → Prop) → Prop
noncomputable abbrev TA := St → Hp → (List V → Hp → Prop) → Prop
structure Ends where
  nx : St → Hp → Prop
  rt : VK
  bk : St → Hp → Prop := fun _ _ => False
  ct : St → Hp → Prop := fun _ _ => False
noncomputable abbrev TS := Ends → St → Hp → Prop

noncomputable def EP (X : Cx) (pins : List (Addr × Obj)) (σ : St) (Q : VK) (u : Value) (s' : Shared) : Prop := ∃ v H', Inv X pins σ H' s' ∧ RelV v u ∧ Q v H'
noncomputable def TP (X : Cx) (pins : List (Addr × Obj)) (σ : St) (Q : Bool → Hp → Prop) (b : Bool) (s' : Shared) : Prop := ∃ H', Inv X pins σ H' s' ∧ Q b H'
noncomputable def AP (X : Cx) (pins : List (Addr × Obj)) (σ : St) (Q : List V → Hp → Prop) (us : List Value) (s' : Shared) : Prop := ∃ vs H', Inv X pins σ H' s' ∧ Vals vs us ∧ Q vs H'
noncomputable def SP (X : Cx) (pins : List (Addr × Obj)) (D : Ends) (f : Flow) (s' : Shared) : Prop :=
  match f with
  | .next => ∃ σ' H', Inv X pins σ' H' s' ∧ D.nx σ' H'
  | .brk => ∃ σ' H', Inv X pins σ' H' s' ∧ D.bk σ' H'
  | .cont => ∃ σ' H', Inv X pins σ' H' s' ∧ D.ct σ' H'
  | .ret u => ∃ v σ' H', Inv X pins σ' H' s' ∧ RelV v u ∧ D.rt v H'

noncomputable def PE (X : Cx) (e : Expr) (t : TE) : Prop :=
  ∀ (pins : List (Addr × Obj)) (s : Shared) (σ : St) (H : Hp) (Q : VK), Inv X pins σ H s → t σ H Q → wpAny (model X.prog X.w) X.A (eval e X.env) (EP X pins σ Q) X.xe s
noncomputable def PT (X : Cx) (e : Expr) (t : TT) : Prop :=
  ∀ (pins : List (Addr × Obj)) (s : Shared) (σ : St) (H : Hp) (Q : Bool → Hp → Prop), Inv X pins σ H s → t σ H Q → wpAny (model X.prog X.w) X.A (isTrue e X.env (eval e X.env)) (TP X pins σ Q) X.xe s
noncomputable def PW (X : Cx) (e : Expr) (t : TT) : Prop :=
  ∀ (whole : Sem Value) (pins : List (Addr × Obj)) (s : Shared) (σ : St) (H : Hp) (Q : Bool → Hp → Prop), Inv X pins σ H s → t σ H Q → wpAny (model X.prog X.w) X.A (isTrue e X.env whole) (TP X pins σ Q) X.xe s
theorem PW.pt {X : Cx} {e : Expr} {t : TT} (h : PW X e t) : PT X e t := h _
noncomputable def PA (X : Cx) (es : List Expr) (t : TA) : Prop :=
  ∀ (pos : Pos) (pins : List (Addr × Obj)) (s : Shared) (σ : St) (H : Hp) (Q : List V → Hp → Prop), Inv X pins σ H s → t σ H Q → wpAny (model X.prog X.w) X.A (spliced (backTo pos (starEach es X.env))) (AP X pins σ Q) X.xe s
noncomputable def PS (X : Cx) (st : Stmt) (t : TS) : Prop :=
  ∀ (pins : List (Addr × Obj)) (s : Shared) (σ : St) (H : Hp) (D : Ends), Inv X pins σ H s → t D σ H → wpAny (model X.prog X.w) X.A (exec st X.env) (SP X pins D) X.xe s
noncomputable def PSs (X : Cx) (st : List Stmt) (t : TS) : Prop :=
  ∀ (pins : List (Addr × Obj)) (s : Shared) (σ : St) (H : Hp) (D : Ends), Inv X pins σ H s → t D σ H → wpAny (model X.prog X.w) X.A (execs st X.env) (SP X pins D) X.xe s
theorem thn {α : Type} {t : Sem α} {Q Q' : α → Shared → Prop} {M : Model} {A : Around} {E : Value → Shared → Prop} {s : Shared} (h : wpAny M A t Q E s) (hQ : ∀ a s, Q a s → Q' a s) : wpAny M A t Q' E s := wpAny_mono h hQ fun _ _ x => x
end L2

namespace L2
open PySem PySem.Spec PyProof.Rows
section
variable {X : Cx}

noncomputable def tVar (i : Nat) : TE := fun σ H Q => ∃ v, σ[i]? = some (some v) ∧ Q v H
noncomputable def tC (v : V) : TE := fun _ H Q => Q v H
theorem pe_var {i : Nat} {x : Str} {pos : Pos} (hN : X.N[i]? = some x) (hv : Vis X.env.scope x) (hd : (x == ("__debug__" : Str)) = false := by decide) (hcd : (x == ("__classdict__" : Str)) = false := by decide) : PE X (.Name x pos) (tVar i) := by
  intro pins s σ H Q I h
  obtain ⟨v, e, h⟩ := h
  obtain ⟨m, hn, hl⟩ := I.loc
  obtain ⟨u, r, l⟩ := hl i x v hN e hv
  have fin : EP X pins σ Q u s := ⟨v, H, I, r, h⟩
  rcases l with ⟨hk, hm⟩ | ⟨hk, c, hc, hcell⟩
  · exact wpAny_Name (wpAny_loadName_local I.ok.kind hk hn hm fin) hd
  · rcases hk with hk | hk
    · exact wpAny_Name (wpAny_loadName_cell I.ok.kind hk hc hcell fin) hd
    · exact wpAny_Name (wpAny_loadName_free I.ok.kind hk hc hcell fin hcd) hd
theorem pe_int {i j pos} : PE X (.Constant (.int i) j pos) (tC (.int i)) := fun _ _ _ H _ I h => wpAny_Constant_int ⟨.int i, H, I.tok _, ⟨_, rfl⟩, h⟩
theorem pe_bl {b j pos} : PE X (.Constant (.bool b) j pos) (tC (.bl b)) := fun _ _ _ H _ I h => Constant_bool ⟨.bl b, H, I, rfl, h⟩
theorem pe_non {j pos} : PE X (.Constant .none j pos) (tC .non) := fun _ _ _ H _ I h => Constant_none ⟨.non, H, I, rfl, h⟩
theorem pe_str {x j pos} : PE X (.Constant (.str x) j pos) (tC (.str x)) := fun _ _ _ H _ I h => Calls.Constant_str ⟨.str x, H, I.tok _, ⟨_, rfl⟩, h⟩

noncomputable def Gl (X : Cx) (x : Str) : Prop := X.env.kindOf x = some .globalImplicit
theorem ld_glob {E : Value → Shared → Prop} {pins : List (Addr × Obj)} {s : Shared} {σ : St} {H : Hp} {x : Str} {u : Value} {pos : Pos} {Q : Value → Shared → Prop} (I : Inv X pins σ H s) (hg : Gl X x) (hm : X.mg x = some u) (h : Q u s)
    (hd : (x == ("__debug__" : Str)) = false := by decide) : wpAny (model X.prog X.w) X.A (eval (.Name x pos) X.env) Q E s :=
  Calls.Name_function_global I.ok.kind hg (Calls.loadGlobal_global (by rw [I.ok.glob]; exact I.mod.glob.keeps I.bk) hm h) hd
theorem ld_blt {E : Value → Shared → Prop} {pins : List (Addr × Obj)} {s : Shared} {σ : St} {H : Hp} {x : Str} {u : Value} {pos : Pos} {Q : Value → Shared → Prop} (I : Inv X pins σ H s) (hg : Gl X x) (hm : X.mg x = none) (hv : bootBuiltins x = some u) (h : Q u s)
    (hn : x ≠ "__name__" := by decide) (hd : (x == ("__debug__" : Str)) = false := by decide) : wpAny (model X.prog X.w) X.A (eval (.Name x pos) X.env) Q E s := by
  obtain ⟨mb, h1, h2⟩ := I.mod.blt
  exact Calls.Name_function_global I.ok.kind hg (Calls.loadGlobal_builtin (by rw [I.ok.glob]; exact I.mod.glob.keeps I.bk) hm (by rw [I.ok.blt]; exact h1.keeps I.bk) ((h2 x hn).trans hv) h) hd
theorem pe_bltn {x : Str} {v : V} {u : Value} {pos : Pos} (hg : Gl X x) (hm : X.mg x = none) (hv : bootBuiltins x = some u) (r : RelV v u) (hn : x ≠ "__name__" := by decide) (hd : (x == ("__debug__" : Str)) = false := by decide) : PE X (.Name x pos) (tC v) :=
  fun _ _ _ H _ I h => ld_blt I hg hm hv ⟨v, H, I, r, h⟩ hn hd

variable {a b : Expr} {ta tb : TE} {pos : Pos}
noncomputable def tB (t : TE) : TT := fun σ H Q => t σ H fun x H1 => ∃ c, x = .bl c ∧ Q c H1
theorem pt_val {e : Expr} {t : TE} (h : PE X e t) (he : ∀ whole, isTrue e X.env whole = (do let v ← whole; standAt e.pos; holding [v] (truthy v)) := by intro _; rfl) : PT X e (tB t) := by
  intro pins s σ H Q I hw
  refine isTrue_plain (thn (h pins s σ H _ I hw) fun v s1 ⟨x, H1, I1, r1, q1⟩ => ?_) (he _)
  obtain ⟨d, rfl, q⟩ := q1
  cases r1
  exact wpAny_truthy_bool ⟨H1, I1, q⟩

variable {tA tB' : TT} {rest : List Expr}
noncomputable def tAnd (t u : TT) : TT := fun σ H Q => t σ H fun c H1 => if c = true then u σ H1 Q else Q false H1
noncomputable def tOr (t u : TT) : TT := fun σ H Q => t σ H fun c H1 => if c = true then Q true H1 else u σ H1 Q
noncomputable def tNot (t : TT) : TT := fun σ H Q => t σ H fun c H1 => Q (!c) H1
theorem pw_and1 (ha : PT X a tA) : PW X (.BoolOp .And [a] pos) tA := by
  intro wh pins s σ H Q I h
  refine isTrue_and (thn (ha pins s σ H Q I h) fun c s1 e => ?_)
  cases c with
  | true => exact isTrue_and_nil e
  | false => exact e
theorem pw_or1 (ha : PT X a tA) : PW X (.BoolOp .Or [a] pos) tA := by
  intro wh pins s σ H Q I h
  refine isTrue_or (thn (ha pins s σ H Q I h) fun c s1 e => ?_)
  cases c with
  | false => exact isTrue_or_nil e
  | true => exact e
theorem pw_and (ha : PT X a tA) (hb : PW X (.BoolOp .And (b :: rest) pos) tB') : PW X (.BoolOp .And (a :: b :: rest) pos) (tAnd tA tB') := by
  intro wh pins s σ H Q I h
  refine isTrue_and (thn (ha pins s σ H _ I h) fun c s1 ⟨H1, I1, q1⟩ => ?_)
  cases c with
  | true => exact hb wh pins s1 σ H1 Q I1 q1
  | false => exact ⟨H1, I1, q1⟩
theorem pw_or (ha : PT X a tA) (hb : PW X (.BoolOp .Or (b :: rest) pos) tB') : PW X (.BoolOp .Or (a :: b :: rest) pos) (tOr tA tB') := by
  intro wh pins s σ H Q I h
  refine isTrue_or (thn (ha pins s σ H _ I h) fun c s1 ⟨H1, I1, q1⟩ => ?_)
  cases c with
  | true => exact ⟨H1, I1, q1⟩
  | false => exact hb wh pins s1 σ H1 Q I1 q1
theorem pt_not (ha : PT X a tA) : PT X (.UnaryOp .Not a pos) (tNot tA) := by
  intro pins s σ H Q I h
  exact isTrue_not (ha pins s σ H (fun c H1 => Q (!c) H1) I h)
noncomputable def tAndV (ta tb : TE) : TE := fun σ H Q => ta σ H fun x H1 => ∃ c, x = .bl c ∧ if c = true then tb σ H1 Q else Q (.bl false) H1
noncomputable def tOrV (ta tb : TE) : TE := fun σ H Q => ta σ H fun x H1 => ∃ c, x = .bl c ∧ if c = true then Q (.bl true) H1 else tb σ H1 Q
noncomputable def tNotV (ta : TE) : TE := fun σ H Q => ta σ H fun x H1 => ∃ c, x = .bl c ∧ Q (.bl (!c)) H1
theorem pe_one {op} {t : TE} (h : PE X a t) : PE X (.BoolOp op [a] pos) t := fun pins s σ H Q I hw => BoolOp_one (h pins s σ H Q I hw)
theorem pe_and (ha : PE X a ta) (hb : PE X (.BoolOp .And (b :: rest) pos) tb) : PE X (.BoolOp .And (a :: b :: rest) pos) (tAndV ta tb) := by
  intro pins s σ H Q I h
  refine BoolOp_and (thn (ha pins s σ H _ I h) fun v s1 ⟨x, H1, I1, r1, q1⟩ => ?_)
  obtain ⟨c, rfl, q1⟩ := q1
  cases r1
  refine wpAny_truthy_bool ?_
  cases c with
  | true => exact hb pins s1 σ H1 Q I1 q1
  | false => exact ⟨.bl false, H1, I1, rfl, q1⟩
theorem pe_or (ha : PE X a ta) (hb : PE X (.BoolOp .Or (b :: rest) pos) tb) : PE X (.BoolOp .Or (a :: b :: rest) pos) (tOrV ta tb) := by
  intro pins s σ H Q I h
  refine BoolOp_or (thn (ha pins s σ H _ I h) fun v s1 ⟨x, H1, I1, r1, q1⟩ => ?_)
  obtain ⟨c, rfl, q1⟩ := q1
  cases r1
  refine wpAny_truthy_bool ?_
  cases c with
  | false => exact hb pins s1 σ H1 Q I1 q1
  | true => exact ⟨.bl true, H1, I1, rfl, q1⟩
theorem pe_not (ha : PE X a ta) : PE X (.UnaryOp .Not a pos) (tNotV ta) := by
  intro pins s σ H Q I h
  refine UnaryOp_ (thn (ha pins s σ H _ I h) fun v s1 ⟨x, H1, I1, r1, q1⟩ => ?_)
  obtain ⟨c, rfl, q1⟩ := q1
  cases r1
  exact not_of (wpAny_truthy_bool ⟨.bl (!c), H1, I1, rfl, q1⟩)
end
end L2

namespace L2
open PySem PySem.Spec PyProof.Rows

noncomputable def SqL (K : PySem.W.Frag) (H : Hp) (a : Addr) (xs : List V) : Prop :=
  Rd H a (.lst xs) ∨
    ∃ (o : Obj) (its : Array Value) (n : Nat), K.lookup a = some o ∧ o.cls = .type "list" ∧ o.dict = none ∧ o.data = .seq its n ∧ its.size ≤ sizeLine ∧ Vals xs its.toList
noncomputable def SqT (K : PySem.W.Frag) (H : Hp) (a : Addr) (xs : List V) : Prop :=
  Rd H a (.tup xs) ∨
    ∃ (o : Obj) (its : Array Value) (n : Nat), K.lookup a = some o ∧ o.cls = .type "tuple" ∧ o.data = .seq its n ∧ its.size ≤ sizeLine ∧ Vals xs its.toList
noncomputable def absV : Value → Option V
  | .none => some .non
  | .bool b => some (.bl b)
  | .int i _ => some (.int i)
  | .str x _ => some (.str x)
  | .bytes b _ => some (.byt b)
  | .float b _ => some (.flt b)
  | .ref a => some (.ref a)
  | .type n => some (.ty n)
  | _ => none
theorem RelV.abs {x : V} {u : Value} (r : RelV x u) : absV u = some x := by
  cases x with
  | non => cases r; rfl
  | bl _ => cases r; rfl
  | int _ => obtain ⟨t, rfl⟩ := r; rfl
  | str _ => obtain ⟨t, rfl⟩ := r; rfl
  | byt _ => obtain ⟨t, rfl⟩ := r; rfl
  | flt _ => obtain ⟨t, rfl⟩ := r; rfl
  | ref _ => cases r; rfl
  | ty _ => cases r; rfl
theorem RelV.inj {x y : V} {u : Value} (r : RelV x u) (q : RelV y u) : x = y := Option.some.inj (r.abs.symm.trans q.abs)
theorem Vals.inj : ∀ {xs ys : List V} {us : List Value}, Vals xs us → Vals ys us → xs = ys
  | _, _, _, .nil, .nil => rfl
  | _, _, _, .cons r t, .cons r' t' => by rw [r.inj r', Vals.inj t t']
section
variable {X : Cx} {pins : List (Addr × Obj)} {σ : St} {H : Hp} {s : Shared} {a : Addr} {xs ys : List V}
theorem SqL.of {K : PySem.W.Frag} (h : H a = some (.lst xs)) : SqL K H a xs := .inl (.inl h)
theorem SqT.of {K : PySem.W.Frag} (h : H a = some (.tup xs)) : SqT K H a xs := .inl (.inl h)
theorem Inv.list (I : Inv X pins σ H s) (h : SqL X.K H a xs) : ∃ its : List Value, Vals xs its ∧ PlainL s.heap a its.toArray ∧ xs.length ≤ sizeLine := by
  rcases h with h | ⟨o, its, n, hk, hc, hd, hs, hz, r⟩
  · obtain ⟨z, its, n, r, e⟩ := h.ok I.hok
    exact ⟨its, r, ⟨_, n, e, rfl, rfl, rfl⟩, z⟩
  · refine ⟨its.toList, r, ⟨o, n, I.kIn a o hk, hc, hd, by simpa using hs⟩, ?_⟩
    have e := r.length
    simp only [Array.length_toList] at e
    omega
theorem Inv.tuple (I : Inv X pins σ H s) (h : SqT X.K H a xs) : ∃ its : List Value, Vals xs its ∧ IsTup s.heap a its.toArray ∧ xs.length ≤ sizeLine := by
  rcases h with h | ⟨o, its, n, hk, hc, hs, hz, r⟩
  · obtain ⟨z, its, r, p⟩ := h.ok I.hok
    exact ⟨its, r, p.tup, z⟩
  · refine ⟨its.toList, r, ⟨o, I.kIn a o hk, hc, n, by simpa using hs⟩, ?_⟩
    have e := r.length
    simp only [Array.length_toList] at e
    omega
theorem Inv.list_inj (I : Inv X pins σ H s) (h : SqL X.K H a xs) (h' : SqL X.K H a ys) : xs = ys := by
  obtain ⟨its, r, ⟨o, n, e, _, _, d⟩, _⟩ := I.list h
  obtain ⟨its', r', ⟨o', n', e', _, _, d'⟩, _⟩ := I.list h'
  rw [e] at e'; cases e'
  rw [d] at d'
  injection d' with d1 _
  have : its = its' := by simpa using congrArg Array.toList d1
  subst this
  exact r.inj r'
theorem Inv.tuple_inj (I : Inv X pins σ H s) (h : SqT X.K H a xs) (h' : SqT X.K H a ys) : xs = ys := by
  obtain ⟨its, r, ⟨o, e, _, n, d⟩, _⟩ := I.tuple h
  obtain ⟨its', r', ⟨o', e', _, n', d'⟩, _⟩ := I.tuple h'
  rw [e] at e'; cases e'
  rw [d] at d'
  injection d' with d1 _
  have : its = its' := by simpa using congrArg Array.toList d1
  subst this
  exact r.inj r'
end

noncomputable abbrev Cx.wish (X : Cx) (E : Value → Shared → Prop) : Cx := { X with xe := E }
noncomputable abbrev Cx.nox (X : Cx) : Cx := X.wish fun _ _ => False
theorem Cx.Ok.wish {X : Cx} (ok : X.Ok) (E : Value → Shared → Prop) : (X.wish E).Ok :=
  ⟨ok.mod, ok.kind, ok.glob, ok.blt, ok.above, ok.inj, ok.has, ok.cab, ok.hd, ok.frames, ok.stk, ok.exf, ok.bs, ok.bsz, ok.noex, ok.exfs, ok.funs, ok.frf⟩
theorem Cx.Ok.unwish {X : Cx} {E : Value → Shared → Prop} (ok : (X.wish E).Ok) : X.Ok :=
  ⟨ok.mod, ok.kind, ok.glob, ok.blt, ok.above, ok.inj, ok.has, ok.cab, ok.hd, ok.frames, ok.stk, ok.exf, ok.bs, ok.bsz, ok.noex, ok.exfs, ok.funs, ok.frf⟩
section
variable {X : Cx} {pins : List (Addr × Obj)} {σ : St} {H : Hp} {s : Shared} {E : Value → Shared → Prop}
theorem Inv.wish (I : Inv X pins σ H s) (E : Value → Shared → Prop) : Inv (X.wish E) pins σ H s := ⟨I.ok.wish E, I.os, I.bare, I.base, I.loc, I.cell, I.free, I.freeC, I.pin, I.hok, I.len⟩
theorem Inv.unwish (I : Inv (X.wish E) pins σ H s) : Inv X pins σ H s := ⟨I.ok.unwish, I.os, I.bare, I.base, I.loc, I.cell, I.free, I.freeC, I.pin, I.hok, I.len⟩
theorem SP.unwish {D : Ends} {f : Flow} {s' : Shared} (h : SP (X.wish E) pins D f s') : SP X pins D f s' := by
  cases f with
  | next => obtain ⟨σ', H', I, q⟩ := h; exact ⟨σ', H', I.unwish, q⟩
  | brk => obtain ⟨σ', H', I, q⟩ := h; exact ⟨σ', H', I.unwish, q⟩
  | cont => obtain ⟨σ', H', I, q⟩ := h; exact ⟨σ', H', I.unwish, q⟩
  | ret u => obtain ⟨v, σ', H', I, r, q⟩ := h; exact ⟨v, σ', H', I.unwish, r, q⟩
theorem PSs.nox {st : List Stmt} {t : TS} (h : PSs X.nox st t) : PSs X st t := fun pins s σ H D I hw =>
  wpAny_mono (h pins s σ H D (I.wish _) hw) (fun _ _ q => q.unwish) fun _ _ z => False.elim z
end

section
variable {X : Cx} {st : Stmt} {rest : List Stmt} {t u : TS} {e : Expr} {te : TE} {pos : Pos}
noncomputable def tNext : TS := fun D σ H => D.nx σ H
noncomputable def tSeq (t u : TS) : TS := fun D σ H => t { D with nx := u D } σ H
theorem pss_nil : PSs X [] tNext := fun _ _ σ H _ I h => wpAny_execs_nil ⟨σ, H, I, h⟩
theorem pss_cons (h1 : PS X st t) (h2 : PSs X rest u) : PSs X (st :: rest) (tSeq t u) := by
  intro pins s σ H D I h
  refine wpAny_execs_cons (thn (h1 pins s σ H { D with nx := u D } I h) fun f s1 q => ?_)
  cases f with
  | next =>
    obtain ⟨σ', H', I', q⟩ := q
    exact h2 pins s1 σ' H' D I' q
  | ret v => exact q
  | brk => exact q
  | cont => exact q
theorem pss_one (h1 : PS X st t) : PSs X [st] t := by
  intro pins s σ H D I h
  refine wpAny_execs_cons (thn (h1 pins s σ H D I h) fun f s1 q => ?_)
  cases f with
  | next => exact wpAny_execs_nil q
  | ret v => exact q
  | brk => exact q
  | cont => exact q
noncomputable def tBreak : TS := fun D σ H => D.bk σ H
theorem ps_break : PS X (.Break pos) tBreak := fun _ _ σ H _ I h => wpAny_Break ⟨σ, H, I, h⟩
theorem Inv.quiet {pins : List (Addr × Obj)} {σ : St} {H : Hp} {s : Shared} (I : Inv X pins σ H s) : interactive X.env = false := by simp [interactive, I.ok.kind]
noncomputable def tDrop (te : TE) : TS := fun D σ H => te σ H fun _ H1 => D.nx σ H1
theorem ps_expr (he : PE X e te) (hs : swapsWith e none pos.line X.env = pure false := by rfl) : PS X (.Expr e pos) (tDrop te) := by
  intro pins s σ H D I h
  exact wpAny_Expr_any (thn (he pins s σ H _ I h) fun v s1 ⟨x, H1, I1, r1, q1⟩ => ⟨σ, H1, I1, q1⟩) I.quiet hs
noncomputable def tRet (te : TE) : TS := fun D σ H => te σ H D.rt
theorem ps_ret (he : PE X e te) : PS X (.Return (some e) pos) (tRet te) := by
  intro pins s σ H D I h
  exact wpAny_Return_some (thn (he pins s σ H _ I h) fun v s1 ⟨x, H1, I1, r1, q1⟩ => ⟨x, σ, H1, I1, r1, q1⟩)
noncomputable def tIfS (c : TT) (t u : TS) : TS := fun D σ H => c σ H fun b H1 => if b = true then t D σ H1 else u D σ H1
theorem ps_if {c : Expr} {a b : List Stmt} {tc : TT} (hc : PT X c tc) (ha : PSs X a t) (hb : PSs X b u) : PS X (.If c a b pos) (tIfS tc t u) := by
  intro pins s σ H D I h
  refine wpAny_If (thn (hc pins s σ H _ I h) fun d s1 ⟨H1, I1, q1⟩ => ?_)
  cases d with
  | true => exact ha pins s1 σ H1 D I1 q1
  | false => exact hb pins s1 σ H1 D I1 q1
end

noncomputable abbrev TG := V → St → Hp → (St → Hp → Prop) → Prop
noncomputable abbrev TGs := List V → St → Hp → (St → Hp → Prop) → Prop
noncomputable def PG (X : Cx) (target : Expr) (t : TG) : Prop :=
  ∀ (pins : List (Addr × Obj)) (s : Shared) (σ : St) (H : Hp) (v : V) (u : Value) (Q : St → Hp → Prop), Inv X pins σ H s → RelV v u → t v σ H Q →
    wpAny (model X.prog X.w) X.A (assign target X.env u) (fun _ s' => ∃ σ' H', Inv X pins σ' H' s' ∧ Q σ' H') X.xe s
noncomputable def PGs (X : Cx) (ts : List Expr) (t : TGs) : Prop :=
  ∀ (pins : List (Addr × Obj)) (s : Shared) (σ : St) (H : Hp) (vs : List V) (us : List Value) (Q : St → Hp → Prop), Inv X pins σ H s → Vals vs us → t vs σ H Q →
    wpAny (model X.prog X.w) X.A (assignInOrder ((assignEach ts X.env).map (·.2)) us) (fun _ s' => ∃ σ' H', Inv X pins σ' H' s' ∧ Q σ' H') X.xe s
noncomputable abbrev TSet := V → V → V → Hp → (Hp → Prop) → Prop
noncomputable def PSet (X : Cx) (t : TSet) : Prop :=
  ∀ (pins : List (Addr × Obj)) (s : Shared) (σ : St) (H : Hp) (o i v : V) (ov iv u : Value) (Q : Hp → Prop), Inv X pins σ H s → RelV o ov → RelV i iv → RelV v u → t o i v H Q →
    wpAny (model X.prog X.w) X.A (setItem ov iv u) (fun _ s' => ∃ H', Inv X pins σ H' s' ∧ Q H') X.xe s
section
variable {X : Cx} {pos : Pos}
noncomputable def gName (i : Nat) : TG := fun v σ H Q => Q (σ.set i (some v)) H
theorem pg_name {i : Nat} {x : Str} (hN : X.N.Nodup) (hi : X.N[i]? = some x) (hx : Loc X.env.scope x) (hf : X.fn x = true ∨ X.env.scope.names.lookup x = some .local := by first | exact .inl rfl | exact .inr rfl | assumption) : PG X (.Name x pos) (gName i) := by
  intro pins s σ H v u Q I r h
  exact wpAny_assign_Name (store_ok I hN hi hx r (fun s' I' => ⟨_, H, I', h⟩) hf)
noncomputable def gNil : TGs := fun vs σ H Q => vs = [] ∧ Q σ H
noncomputable def gCons (t : TG) (u : TGs) : TGs := fun vs σ H Q => ∃ v r, vs = v :: r ∧ t v σ H fun σ' H' => u r σ' H' Q
theorem pgs_nil : PGs X [] gNil := by
  intro pins s σ H vs us Q I r h
  obtain ⟨e, h⟩ := h
  subst e
  cases r
  exact assignInOrder_nil ⟨σ, H, I, h⟩
theorem pgs_cons {e : Expr} {es : List Expr} {t : TG} {u : TGs} (h1 : PG X e t) (h2 : PGs X es u)
    (hs : (assignEach (e :: es) X.env).map (·.2) = assign e X.env :: (assignEach es X.env).map (·.2) := by rfl) : PGs X (e :: es) (gCons t u) := by
  intro pins s σ H vs us Q I r h
  obtain ⟨v, vr, e1, h⟩ := h
  subst e1
  cases r with
  | cons r rr =>
    rw [hs]
    refine assignInOrder_cons (thn (h1 pins s σ H _ _ _ I r h) fun _ s1 ⟨σ1, H1, I1, q1⟩ => ?_)
    exact h2 pins s1 σ1 H1 _ _ Q I1 rr q1
noncomputable def gTup (K : PySem.W.Frag) (n : Nat) (t : TGs) : TG := fun v σ H Q => ∃ a xs, v = .ref a ∧ SqT K H a xs ∧ xs.length = n ∧ t xs σ H Q
theorem pg_tup {es : List Expr} {k : Nat} {t : TGs} {n : Nat} (hc : X.calm = true) (h : PGs X es t)
    (hn : (assignEach es X.env).length = n := by rfl) (hst : (assignEach es X.env).findIdx? (·.1) = none := by rfl) : PG X (.Tuple es k pos) (gTup X.K n t) := by
  intro pins s σ H v u Q I r hw
  obtain ⟨a, xs, e1, hq, hl, hw⟩ := hw
  subst e1
  cases r
  obtain ⟨its, rv, ht, hz⟩ := I.tuple hq
  refine assign_Tuple_tuple (I.ok.hd hc) ht (by simp [hn, ← hl, rv.length]) hst fun h' hx => ?_
  have I1 : Inv X pins σ H { s with heap := h' } := I.kept (t' := s.toks) fun b o e => hx b o (Nat.ne_of_lt (Heap.lt_size e)) e
  exact h pins _ σ H xs _ Q I1 (by simpa using rv) hw
noncomputable def gSub (to ti : TE) (t : TSet) : TG := fun v σ H Q => to σ H fun o H1 => ti σ H1 fun i H2 => t o i v H2 fun H3 => Q σ H3
theorem pg_sub {o i : Expr} {to ti : TE} {t : TSet} (ho : PE X o to) (hi : PE X i ti) (hs : PSet X t)
    (ha : ∀ v, assign (.Subscript o i pos) X.env v = (do
      let ov ← holding [v] (eval o X.env)
      let iv ← holding [v, ov] (eval i X.env)
      standAt pos
      holding [v, ov, iv] (setItem ov iv v)
      release [v, ov, iv] []) := by intro _; rfl) : PG X (.Subscript o i pos) (gSub to ti t) := by
  intro pins s σ H v u Q I r h
  rw [ha]
  refine wpAny_bind (wpAny_holding (thn (ho pins s σ H _ I h) fun ov s1 ⟨x, H1, I1, r1, q1⟩ => ?_))
  refine wpAny_bind (wpAny_holding (thn (hi pins s1 σ H1 _ I1 q1) fun iv s2 ⟨y, H2, I2, r2, q2⟩ => ?_))
  refine wpAny_bind (wpAny_standAt (wpAny_bind (wpAny_holding (thn (hs pins s2 σ H2 x y v ov iv u _ I2 r1 r2 r q2) fun _ s3 ⟨H3, I3, q3⟩ => ?_))))
  exact wpAny_release ⟨σ, H3, I3, q3⟩
noncomputable def tAsg (te : TE) (g : TG) : TS := fun D σ H => te σ H fun x H1 => g x σ H1 D.nx
theorem ps_asg {tg e : Expr} {te : TE} {g : TG} (he : PE X e te) (hg : PG X tg g) (hs : swapsWithSole [tg] e pos.line X.env = pure false := by rfl) (hw : swappedStores [tg] e X.env = pure none := by rfl)
    (h1 : (assignEach [tg] X.env).map (·.2) = [assign tg X.env] := by rfl) : PS X (.Assign [tg] e pos) (tAsg te g) := by
  intro pins s σ H D I h
  refine wpAny_Assign_stores (thn (he pins s σ H _ I h) fun v s1 ⟨x, H1, I1, r1, q1⟩ => ?_) hs hw
  rw [h1]
  exact thn (hg pins s1 σ H1 x v _ I1 r1 q1) fun _ s2 q => q
theorem ps_set {i : Nat} {x : Str} {e : Expr} {te : TE} {pos' : Pos} (hN : X.N.Nodup) (hi : X.N[i]? = some x) (hx : Loc X.env.scope x) (he : PE X e te) (hs : swapsWith e (some (.Name x pos')) pos.line X.env = pure false := by rfl) (hf : X.fn x = true ∨ X.env.scope.names.lookup x = some .local := by first | exact .inl rfl | exact .inr rfl | assumption) :
    PS X (.Assign [.Name x pos'] e pos) (tAsg te (gName i)) := by
  intro pins s σ H D I h
  refine wpAny_Assign_Name (thn (he pins s σ H _ I h) fun v s1 ⟨y, H1, I1, r1, q1⟩ => ?_) hs
  exact store_ok I1 hN hi hx r1 (fun s2 I2 => ⟨_, H1, I2, q1⟩) hf
end

section
variable {X : Cx} {pos : Pos}
noncomputable def tWhile (c : TT) (tb : TS) : TS := fun D σ H => ∃ W : Nat → St → Hp → Prop, (∃ m, W m σ H) ∧ ∀ m σ H, W m σ H →
  c σ H fun b H1 => if b = true then ∃ N : St → Hp → Prop, (∀ σ' H', N σ' H' → ∃ m', m' < m ∧ W m' σ' H') ∧ tb { D with nx := N, ct := N, bk := D.nx } σ H1 else D.nx σ H1
theorem ps_while {c : Expr} {body : List Stmt} {tc : TT} {tb : TS} (hp : PassesOwn (model X.prog X.w) X.A X.env X.xe) (hc : PT X c tc) (hb : PSs X body tb) : PS X (.While c body [] pos) (tWhile tc tb) := by
  intro pins s σ H D I h
  obtain ⟨W, ⟨m0, w0⟩, turn⟩ := h
  refine wpAny_While (codeAny_whileLoop (fun n s' => ∃ σ' H', Inv X pins σ' H' s' ∧ W n σ' H') ?_ m0 ⟨σ, H, I, w0⟩)
  rintro n s1 ⟨σ1, H1, I1, w1⟩
  refine wpAny_passesOwn hp (thn (hc pins s1 σ1 H1 _ I1 (turn n σ1 H1 w1)) fun b s2 ⟨H2, I2, q2⟩ => ?_)
  cases b with
  | true =>
    obtain ⟨N, hN, q2⟩ := q2
    rw [if_pos rfl]
    refine wpAny_passesOwn hp (thn (hb pins s2 σ1 H2 _ I2 q2) fun f s3 q3 => ?_)
    cases f with
    | next =>
      obtain ⟨σ3, H3, I3, n3⟩ := q3
      obtain ⟨m', hm, w3⟩ := hN σ3 H3 n3
      exact ⟨m', hm, σ3, H3, I3, w3⟩
    | cont =>
      obtain ⟨σ3, H3, I3, n3⟩ := q3
      obtain ⟨m', hm, w3⟩ := hN σ3 H3 n3
      exact ⟨m', hm, σ3, H3, I3, w3⟩
    | brk => exact q3
    | ret v => exact q3
  | false =>
    rw [if_neg Bool.false_ne_true]
    exact wpAny_execs_nil ⟨σ1, H2, I2, q2⟩
end

structure It where
  go : Nat → Hp → Prop
  yld : Nat → Hp → V → Hp → Prop
  stop : Nat → Hp → Prop
noncomputable def FpOk (X : Cx) (pins : List (Addr × Obj)) (H : Hp) (b : Addr) : Prop :=
  H b = none ∧ b ≠ X.env.locals ∧ b ∉ X.fs ∧ (b ∈ X.ex ∨ X.s₀.heap.objs.size ≤ b) ∧ (∀ x c, X.env.cells.lookup x = some c → c ≠ b) ∧ ∀ p ∈ X.pn ++ pins, p.1 ≠ b
theorem Inv.fpOk {X : Cx} {pins : List (Addr × Obj)} {σ : St} {H H' : Hp} {s : Shared} {b : Addr} (I : Inv X pins σ H s) (hb : s.heap.objs.size ≤ b) (hn : H' b = none) : FpOk X pins H' b := by
  refine ⟨hn, Nat.ne_of_gt (Nat.lt_of_lt_of_le I.lt hb), I.nofs hb, .inr (Nat.le_trans I.sz hb), fun x c e z => ?_, fun p hp z => ?_⟩
  · obtain ⟨v, q⟩ := I.cell x c e
    exact absurd (Nat.lt_of_lt_of_le q.lt (by rw [z]; exact hb)) (Nat.lt_irrefl _)
  · exact absurd (Nat.lt_of_lt_of_le (Heap.lt_size (I.pin p hp).1) (by rw [z]; exact hb)) (Nat.lt_irrefl _)
structure Turn (P : Program) (w : World) (K : PySem.W.Frag) (tg : Expr) (J : It) (fp : List Addr) (it : Addr) (tn : Nat → Heap → Prop) : Prop where
  mem : it ∈ fp
  obj : ∀ i h, tn i h → ∀ b ∈ fp, ∃ o, h.get? b = some o ∧ ∀ v, o.data ≠ .cell v
  keep : ∀ i h h', tn i h → (∀ b ∈ fp, ∀ o, h.get? b = some o → h'.get? b = some o) → tn i h'
  item : ∀ (X : Cx), X.prog = P → X.w = w → X.K = K → X.calm = true → ∀ (i : Nat) (pins : List (Addr × Obj)) (s : Shared) (σ : St) (H : Hp) (E : Value → Shared → Prop), Inv X pins σ H s → (∀ b ∈ fp, FpOk X pins H b) → tn i s.heap → J.go i H →
    wpAny (model P w) X.A (pyNext (.ref it)) (fun r s1 => ∃ u, r = some u ∧
      wpAny (model P w) X.A (letOwnedTupleGo tg (.ref it) u) (fun _ s2 => ∃ x H', Inv X pins σ H' s2 ∧ RelV x u ∧ J.yld i H x H' ∧ tn (i + 1) s2.heap ∧ ∀ b ∈ fp, H' b = none) E s1) E s
  done : ∀ (X : Cx), X.prog = P → X.w = w → X.K = K → X.calm = true → ∀ (i : Nat) (pins : List (Addr × Obj)) (s : Shared) (σ : St) (H : Hp) (E : Value → Shared → Prop), Inv X pins σ H s → (∀ b ∈ fp, FpOk X pins H b) → tn i s.heap → J.stop i H →
    wpAny (model P w) X.A (pyNext (.ref it)) (fun r s1 => r = none ∧ Inv X pins σ H s1) E s
  self : ∀ (A : Around) (i : Nat) (s : Shared) (Q : Value → Shared → Prop) (E : Value → Shared → Prop), tn i s.heap → Q (.ref it) s → wpAny (model P w) A (pyIter (.ref it)) Q E s
noncomputable abbrev TI := St → Hp → (It → Hp → Prop) → Prop
noncomputable def PIE (X : Cx) (pins : List (Addr × Obj)) (σ : St) (tg : Expr) (R : It → Hp → Prop) (itv : Value) (s2 : Shared) : Prop :=
  ∃ (it : Addr) (fp : List Addr) (tn : Nat → Heap → Prop) (J : It) (H' : Hp), itv = .ref it ∧ Inv X pins σ H' s2 ∧ Turn X.prog X.w X.K tg J fp it tn ∧ tn 0 s2.heap ∧ (∀ b ∈ fp, FpOk X pins H' b) ∧ R J H'
noncomputable def PI (X : Cx) (tg iter : Expr) (wi : TI) : Prop :=
  ∀ (pins : List (Addr × Obj)) (s : Shared) (σ : St) (H : Hp) (R : It → Hp → Prop), Inv X pins σ H s → wi σ H R →
    wpAny (model X.prog X.w) X.A (eval iter X.env) (fun v s1 => wpAny (model X.prog X.w) X.A (pyIter v) (PIE X pins σ tg R) X.xe s1) X.xe s

theorem go_of {M : Model} {A : Around} {E : Value → Shared → Prop} {s : Shared} {tg : Expr} {it : Addr} {u : Value} {o : Obj} {n : String} {vs : Array Value} {Q : Unit → Shared → Prop} (ho : s.heap.get? it = some o) (hc : o.cls = .type n) (hd : o.data = .fields vs)
    (hn : ["enumerate", "zip", "dict_itemiterator", "dict_reverseitemiterator", "odict_iterator", "itertools.zip_longest", "itertools.pairwise"].contains n = false) (hQ : Q () s) : wpAny M A (letOwnedTupleGo tg (.ref it) u) Q E s := by
  unfold letOwnedTupleGo
  cases tg <;> first
    | exact wpAny_pure hQ
    | (cases u <;> first
        | exact wpAny_pure hQ
        | (refine wpAny_bind (wpAny_load ho ?_)
           rw [hc, hd]
           show wpAny M A (if (["enumerate", "zip", "dict_itemiterator", "dict_reverseitemiterator", "odict_iterator", "itertools.zip_longest", "itertools.pairwise"].contains n && vs[0]? == some (rawInt _)) = true then _ else _) Q E s
           rw [if_neg (by intro h; rw [hn, Bool.false_and] at h; cases h)]
           exact wpAny_pure hQ))

noncomputable def Itl (K : PySem.W.Frag) (a : Addr) : It :=
  ⟨fun i H => ∃ xs x, SqL K H a xs ∧ xs[i]? = some x, fun i H x H' => H' = H ∧ ∀ xs, SqL K H a xs → xs[i]? = some x, fun i H => ∃ xs, SqL K H a xs ∧ xs.length ≤ i⟩
noncomputable def Itr (lo : Int) (n : Nat) : It := ⟨fun i _ => i < n, fun i H x H' => H' = H ∧ x = .int (lo + i), fun i _ => n ≤ i⟩
theorem turn_list {P : Program} {w : World} {K : PySem.W.Frag} {tg : Expr} (a it : Addr) : Turn P w K tg (Itl K a) [it] it (fun i h => h.IsListIter it a i) where
  mem := by simp
  obj := fun i h st b hb => by
    have e : b = it := by simpa using hb
    subst e
    obtain ⟨o, e, c, d⟩ := st
    exact ⟨o, e, fun v z => by rw [d] at z; cases z⟩
  keep := fun i h h' st k => st.at fun o e => k it (by simp) o e
  item := by
    intro X hP hw hK hc i pins s σ H E I hf st hg
    subst hP hw hK
    obtain ⟨xs, x, hq, hx⟩ := hg
    obtain ⟨its, rv, p, hz⟩ := I.list hq
    obtain ⟨u, hu, ru⟩ := rv.get hx
    obtain ⟨f0, f1, f2, f3, f4, f5⟩ := hf it (by simp)
    refine wpAny_pyNext_list_item st p.isList (x := u) (by simpa using hu) fun h' st' sb => ?_
    have I1 : Inv X pins σ H { s with heap := h' } := I.turned (t' := s.toks) (fun b o hb e => (sb.2 b hb).trans e) f0 f1 f3 f4 f5
    obtain ⟨o, e, c, d⟩ := id st'
    exact ⟨u, rfl, go_of (s := { s with heap := h' }) e c d (by decide) ⟨x, H, I1, ru, ⟨rfl, fun ys hy => by rw [I.list_inj hy hq]; exact hx⟩, st', fun b hb => (hf b hb).1⟩⟩
  done := by
    intro X hP hw hK hc i pins s σ H E I hf st hg
    subst hP hw hK
    obtain ⟨xs, hq, hx⟩ := hg
    obtain ⟨its, rv, p, hz⟩ := I.list hq
    obtain ⟨f0, f1, f2, f3, f4, f5⟩ := hf it (by simp)
    have hl := rv.length
    exact wpAny_pyNext_list_end (I.ok.hd hc) st p.isList (by simp; omega) fun h' eb => ⟨rfl, I.turned (t' := s.toks) (fun b o hb e => eb b o hb e) f0 f1 f3 f4 f5⟩
  self := fun _ _ _ _ _ st h => wpAny_pyIter_listiter st h
theorem turn_range {P : Program} {w : World} {K : PySem.W.Frag} {tg : Expr} (it : Addr) (lo : Int) (n : Nat) : Turn P w K tg (Itr lo n) [it] it (fun i h => IsRangeIter h it (lo + (i : Nat) * 1) ((n : Int) - (i : Nat)) 1) where
  mem := by simp
  obj := fun i h st b hb => by
    have e : b = it := by simpa using hb
    subst e
    exact ⟨_, st, fun v z => by
      have z' : Data.fields _ = Data.cell v := z
      cases z'⟩
  keep := fun i h h' st k => k it (by simp) _ st
  item := by
    intro X hP hw hK hc i pins s σ H E I hf st hg
    subst hP hw hK
    obtain ⟨f0, f1, f2, f3, f4, f5⟩ := hf it (by simp)
    have W := Walks.range (prog := X.prog) (w := X.w) (I.ok.hd hc) it lo 1 n
    refine W.item i s _ _ hg st fun v h' tk hv st' kk => ?_
    obtain ⟨t, rfl⟩ := hv
    have I1 : Inv X pins σ H { s with heap := h', toks := tk } := I.turned (fun b o hb e => kk b o (by simpa using hb) e) f0 f1 f3 f4 f5
    refine ⟨_, rfl, go_of (s := { s with heap := h', toks := tk }) (n := "range_iterator") st' rfl rfl (by decide) ⟨.int (lo + i), H, I1, ⟨t, ?_⟩, ⟨rfl, rfl⟩, st', fun b hb => (hf b hb).1⟩⟩
    rw [Int.mul_one]
  done := by
    intro X hP hw hK hc i pins s σ H E I hf st hg
    subst hP hw hK
    obtain ⟨f0, f1, f2, f3, f4, f5⟩ := hf it (by simp)
    exact wpAny_pyNext_range_end (I.ok.hd hc) st (by have : n ≤ i := hg; omega) fun h' eb => ⟨rfl, I.turned (t' := s.toks) (fun b o hb e => eb b o hb e) f0 f1 f3 f4 f5⟩
  self := fun _ _ _ _ _ st h => wpAny_pyIter_rangeiter st h
end L2

namespace L2
open PySem PySem.Spec PyProof.Rows
section
variable {X : Cx} {tg : Expr}
noncomputable def iList (K : PySem.W.Frag) (tl : TE) : TI := fun σ H R => tl σ H fun x H1 => ∃ a, x = .ref a ∧ (∃ xs, SqL K H1 a xs) ∧ R (Itl K a) H1
theorem pi_list {l : Expr} {tl : TE} (hl : PE X l tl) : PI X tg l (iList X.K tl) := by
  intro pins s σ H R I h
  refine thn (hl pins s σ H _ I h) fun v s1 ⟨x, H1, I1, r1, q1⟩ => ?_
  obtain ⟨a, e, ⟨xs, hq⟩, q⟩ := q1
  subst e
  cases r1
  obtain ⟨its, rv, p, hz⟩ := I1.list hq
  refine wpAny_pyIter_list p.isList ?_
  refine ⟨s1.heap.objs.size, [s1.heap.objs.size], _, _, H1, rfl, I1.kept (t' := s1.toks) fun b o e => Heap.get?_push_of_some _ e, turn_list a _, ⟨_, Heap.get?_push_size _ rfl, rfl, rfl⟩, fun b hb => ?_, q⟩
  have e : b = s1.heap.objs.size := by simpa using hb
  subst e
  exact I1.fpOk (Nat.le_refl _) (I1.hok.fresh (Nat.le_refl _))
theorem range_it {pins : List (Addr × Obj)} {σ : St} {H : Hp} {s : Shared} {R : It → Hp → Prop} {E : Value → Shared → Prop} {lo hi : Int} {t u v : Tok} {tk : Nat} (I : Inv X pins σ H s) (h1 : -(2 ^ 62) ≤ lo) (h2 : lo < 2 ^ 62) (h3 : -(2 ^ 62) ≤ hi) (h4 : hi < 2 ^ 62)
    (q : R (Itr lo (hi - lo).toNat) H) : wpAny (model X.prog X.w) X.A (pyIter (.ref s.heap.objs.size)) (PIE X pins σ tg R) E { s with heap := s.heap.push { cls := .type "range", data := .fields #[.int lo t, .int hi u, .int 1 v] }, toks := tk } := by
  refine wpAny_pyIter_range (IsRange.new ..) (small_one h1 h2 h3 h4) ?_
  have I1 : Inv X pins σ H { s with heap := s.heap.push { cls := .type "range", data := .fields #[.int lo t, .int hi u, .int 1 v] }, toks := tk } := I.kept fun b o e => Heap.get?_push_of_some _ e
  refine ⟨(s.heap.push { cls := .type "range", data := .fields #[.int lo t, .int hi u, .int 1 v] }).objs.size, [(s.heap.push { cls := .type "range", data := .fields #[.int lo t, .int hi u, .int 1 v] }).objs.size], _, _, H, rfl,
    I1.kept (t' := tk) fun b o e => Heap.get?_push_of_some _ e, turn_range _ lo (hi - lo).toNat, ?_, fun b hb => ?_, q⟩
  · have e1 : lo + ((0 : Nat) : Int) * 1 = lo := by simp
    have e2 : (((hi - lo).toNat : Nat) : Int) - ((0 : Nat) : Int) = Builtin.Range.rangeSize lo hi 1 := by rw [rangeSize_one]; split <;> omega
    show IsRangeIter _ _ (lo + ((0 : Nat) : Int) * 1) ((((hi - lo).toNat : Nat) : Int) - ((0 : Nat) : Int)) 1
    rw [e1, e2]
    exact Heap.get?_push_size _ rfl
  · have e : b = (s.heap.push { cls := .type "range", data := .fields #[.int lo t, .int hi u, .int 1 v] }).objs.size := by simpa using hb
    subst e
    exact I1.fpOk (Nat.le_refl _) (I1.hok.fresh (Nat.le_refl _))
noncomputable def iRng1 (ta : TA) : TI := fun σ H R => ta σ H fun vs H1 => ∃ j : Int, vs = [.int j] ∧ -(2 ^ 62) ≤ j ∧ j < 2 ^ 62 ∧ R (Itr 0 j.toNat) H1
theorem pi_range1 {a : Expr} {ta : TA} {p pos : Pos} (hg : Gl X "range") (hm : X.mg "range" = none) (ha : PA X [a] ta) (hs : starEach [a] X.env = [(false, eval a X.env)] := by rfl) : PI X tg (.Call (.Name "range" p) [a] [] pos) (iRng1 ta) := by
  intro pins s σ H R I h
  refine Call_ (ld_blt I hg hm boot_range (PyProof.Rows.callWith_type1 (thn (ha pos pins s σ H _ I h) fun us s1 ⟨vs, H1, I1, r1, q1⟩ => ?_) hs rfl))
  obtain ⟨j, e, q1, q2, q⟩ := q1
  subst e
  cases r1 with
  | cons r rr =>
    cases rr
    obtain ⟨t, rfl⟩ := r
    exact call_range_1 (range_it I1 (by omega) (by omega) q1 q2 (by simpa using q))
noncomputable def tFor (wi : TI) (g : TG) (tb : TS) : TS := fun D σ H => wi σ H fun J H1 => ∃ W : Nat → Nat → St → Hp → Prop, (∃ m, W 0 m σ H1) ∧ ∀ i m σ H, W i m σ H →
  (J.stop i H ∧ D.nx σ H) ∨ (J.go i H ∧ ∃ N : St → Hp → Prop, (∀ σ' H', N σ' H' → ∃ m', m' < m ∧ W (i + 1) m' σ' H') ∧ ∀ x H', J.yld i H x H' → g x σ H' fun σ2 H2 => tb { D with nx := N, ct := N, bk := D.nx } σ2 H2)
noncomputable def pinsAt (fp : List Addr) (h : Heap) : List (Addr × Obj) := fp.filterMap fun b => (h.get? b).map fun o => (b, o)
theorem mem_pinsAt {fp : List Addr} {h : Heap} {b : Addr} {o : Obj} (hb : b ∈ fp) (e : h.get? b = some o) : (b, o) ∈ pinsAt fp h := List.mem_filterMap.mpr ⟨b, hb, by rw [e]; rfl⟩
theorem of_pinsAt {fp : List Addr} {h : Heap} {p : Addr × Obj} (hp : p ∈ pinsAt fp h) : p.1 ∈ fp ∧ h.get? p.1 = some p.2 := by
  obtain ⟨b, hb, e⟩ := List.mem_filterMap.mp hp
  cases q : h.get? b with
  | none => rw [q] at e; cases e
  | some o =>
    rw [q] at e
    have e' : (b, o) = p := Option.some.inj e
    subst e'
    exact ⟨hb, q⟩
theorem Inv.pinned {pins : List (Addr × Obj)} {σ : St} {H : Hp} {s : Shared} {fp : List Addr} (I : Inv X pins σ H s) (hf : ∀ b ∈ fp, FpOk X pins H b) (ho : ∀ b ∈ fp, ∃ o, s.heap.get? b = some o ∧ ∀ v, o.data ≠ .cell v) : Inv X (pins ++ pinsAt fp s.heap) σ H s :=
  I.pins_of fun p hp => (List.mem_append.mp hp).elim (fun z => I.pin p (List.mem_append_right _ z)) fun z => by
    obtain ⟨hb, e⟩ := of_pinsAt z
    obtain ⟨f0, f1, f2, _⟩ := hf p.1 hb
    obtain ⟨o, e', d⟩ := ho p.1 hb
    rw [e] at e'; cases e'
    exact ⟨e, f0, f1, f2, d⟩
theorem Inv.unpinned {pins pl : List (Addr × Obj)} {σ : St} {H : Hp} {s : Shared} (I : Inv X (pins ++ pl) σ H s) : Inv X pins σ H s := I.pins_of fun p hp => I.pin p (List.mem_append_right _ (List.mem_append_left _ hp))
theorem ps_for {iter : Expr} {body : List Stmt} {wi : TI} {g : TG} {tb : TS} {pos : Pos} (hp : PassesOwn (model X.prog X.w) X.A X.env X.xe) (hc : X.calm = true) (hi : PI X tg iter wi) (hg : PG X tg g) (hb : PSs X body tb)
    (hs : ∀ x, foldedSetIterable iter X.env x = pure x := by intro _; rfl) : PS X (.For tg iter body [] pos) (tFor wi g tb) := by
  intro pins s σ H D I h
  refine wpAny_For (thn (hi pins s σ H _ I h) fun v s1 h1 => thn h1 fun itv s2 h2 => ?_) hs
  obtain ⟨it, fp, tn, J, H2, e, I2, T, st2, f2, W, ⟨m0, w0⟩, turn⟩ := h2
  subst e
  -- what stays true of the iterator's objects through the loop
  have stat : ∀ {H' : Hp}, (∀ b ∈ fp, H' b = none) → ∀ b ∈ fp, FpOk X pins H' b := fun hn b hb => ⟨hn b hb, (f2 b hb).2⟩
  refine codeAny_forLoop_any (fun n s' => ∃ i σ' H', Inv X pins σ' H' s' ∧ tn i s'.heap ∧ (∀ b ∈ fp, H' b = none) ∧ W i n σ' H') ?_ m0 ⟨0, σ, H2, I2, st2, fun b hb => (f2 b hb).1, w0⟩
  rintro n s3 ⟨i, σ3, H3, I3, st3, fr3, w3⟩
  rcases turn i n σ3 H3 w3 with ⟨stop, qn⟩ | ⟨go, N, hN, step⟩
  · refine wpAny_passesOwn hp (thn (T.done X rfl rfl rfl hc i pins s3 σ3 H3 X.xe I3 (stat fr3) st3 stop) fun r s4 ⟨hr, I4⟩ => ?_)
    subst hr
    exact wpAny_execs_nil ⟨σ3, H3, I4, qn⟩
  · refine wpAny_passesOwn hp (thn (T.item X rfl rfl rfl hc i pins s3 σ3 H3 X.xe I3 (stat fr3) st3 go) fun r s4 ⟨u, hr, h4⟩ => ?_)
    subst hr
    refine wpAny_passesOwn hp (thn h4 fun _ s5 ⟨x, H5, I5, r5, y5, st5, fr5⟩ => ?_)
    have I5' := I5.pinned (stat fr5) (T.obj _ _ st5)
    refine wpAny_passesOwn hp (thn (hg _ s5 σ3 H5 x u _ I5' r5 (step x H5 y5)) fun _ s6 ⟨σ6, H6, I6, q6⟩ => ?_)
    refine wpAny_passesOwn hp (thn (hb _ s6 σ6 H6 _ I6 q6) fun f s7 q7 => ?_)
    have again : ∀ {σ7 : St} {H7 : Hp}, Inv X (pins ++ pinsAt fp s5.heap) σ7 H7 s7 → N σ7 H7 → ∃ m, m < n ∧ ∃ i σ' H', Inv X pins σ' H' s7 ∧ tn i s7.heap ∧ (∀ b ∈ fp, H' b = none) ∧ W i m σ' H' := fun {σ7 H7} I7 n7 => by
      obtain ⟨m', hm, w7⟩ := hN σ7 H7 n7
      refine ⟨m', hm, i + 1, σ7, H7, I7.unpinned, T.keep _ _ _ st5 fun b hb o e => (I7.pin (b, o) (List.mem_append_right _ (List.mem_append_right _ (mem_pinsAt hb e)))).1, fun b hb => ?_, w7⟩
      obtain ⟨o, e, d⟩ := T.obj _ _ st5 b hb
      exact (I7.pin (b, o) (List.mem_append_right _ (List.mem_append_right _ (mem_pinsAt hb e)))).2.1
    cases f with
    | next => obtain ⟨σ7, H7, I7, n7⟩ := q7; exact again I7 n7
    | cont => obtain ⟨σ7, H7, I7, n7⟩ := q7; exact again I7 n7
    | brk => obtain ⟨σ7, H7, I7, q7⟩ := q7; exact ⟨σ7, H7, I7.unpinned, q7⟩
    | ret v => obtain ⟨x7, σ7, H7, I7, r7, q7⟩ := q7; exact ⟨x7, σ7, H7, I7.unpinned, r7, q7⟩
end

theorem for_list {K : PySem.W.Frag} {a : Addr} {xs : List V} {g : TG} {tb : TS} {D : Ends} {σ : St} {H : Hp} (Pv : Nat → St → Hp → Prop) (h0 : Pv 0 σ H) (hl : ∀ i σ H, i ≤ xs.length → Pv i σ H → SqL K H a xs)
    (hs : ∀ i x σ H, xs[i]? = some x → Pv i σ H → g x σ H fun σ2 H2 => tb { D with nx := Pv (i + 1), ct := Pv (i + 1), bk := D.nx } σ2 H2) (hd : ∀ σ H, Pv xs.length σ H → D.nx σ H) :
    ∃ W : Nat → Nat → St → Hp → Prop, (∃ m, W 0 m σ H) ∧ ∀ i m σ H, W i m σ H →
      ((Itl K a).stop i H ∧ D.nx σ H) ∨ ((Itl K a).go i H ∧ ∃ N : St → Hp → Prop, (∀ σ' H', N σ' H' → ∃ m', m' < m ∧ W (i + 1) m' σ' H') ∧ ∀ x H', (Itl K a).yld i H x H' → g x σ H' fun σ2 H2 => tb { D with nx := N, ct := N, bk := D.nx } σ2 H2) := by
  refine ⟨fun i m σ H => m = xs.length - i ∧ i ≤ xs.length ∧ Pv i σ H, ⟨xs.length, by simp, Nat.zero_le _, h0⟩, ?_⟩
  rintro i m σ H ⟨rfl, hi, p⟩
  have q := hl i σ H hi p
  by_cases hlt : i < xs.length
  · refine .inr ⟨⟨xs, xs[i], q, by simp [hlt]⟩, Pv (i + 1), fun σ' H' p' => ⟨xs.length - (i + 1), by omega, rfl, hlt, p'⟩, fun x H' y => ?_⟩
    obtain ⟨e, y⟩ := y
    subst e
    exact hs i x σ _ (y xs q) p
  · have e : i = xs.length := by omega
    subst e
    exact .inl ⟨⟨xs, q, Nat.le_refl _⟩, hd σ H p⟩
theorem for_range {lo : Int} {n : Nat} {g : TG} {tb : TS} {D : Ends} {σ : St} {H : Hp} (Pv : Nat → St → Hp → Prop) (h0 : Pv 0 σ H)
    (hs : ∀ i σ H, i < n → Pv i σ H → g (.int (lo + i)) σ H fun σ2 H2 => tb { D with nx := Pv (i + 1), ct := Pv (i + 1), bk := D.nx } σ2 H2) (hd : ∀ σ H, Pv n σ H → D.nx σ H) :
    ∃ W : Nat → Nat → St → Hp → Prop, (∃ m, W 0 m σ H) ∧ ∀ i m σ H, W i m σ H →
      ((Itr lo n).stop i H ∧ D.nx σ H) ∨ ((Itr lo n).go i H ∧ ∃ N : St → Hp → Prop, (∀ σ' H', N σ' H' → ∃ m', m' < m ∧ W (i + 1) m' σ' H') ∧ ∀ x H', (Itr lo n).yld i H x H' → g x σ H' fun σ2 H2 => tb { D with nx := N, ct := N, bk := D.nx } σ2 H2) := by
  refine ⟨fun i m σ H => m = n - i ∧ i ≤ n ∧ Pv i σ H, ⟨n, by simp, Nat.zero_le _, h0⟩, ?_⟩
  rintro i m σ H ⟨rfl, hi, p⟩
  by_cases hlt : i < n
  · refine .inr ⟨hlt, Pv (i + 1), fun σ' H' p' => ⟨n - (i + 1), by omega, rfl, hlt, p'⟩, fun x H' y => ?_⟩
    obtain ⟨e, y⟩ := y
    subst e y
    exact hs i σ _ hlt p
  · have e : i = n := by omega
    subst e
    exact .inl ⟨Nat.le_refl _, hd σ H p⟩
end L2

namespace L2
open PySem PySem.Spec PyProof.Rows

noncomputable abbrev R2 := V → V → Hp → VK → Prop
noncomputable def OpR (X : Cx) (f : Value → Value → Sem Value) (r : R2) : Prop :=
  ∀ (pins : List (Addr × Obj)) (s : Shared) (σ : St) (H : Hp) (x y : V) (v u : Value) (Q : VK), Inv X pins σ H s → RelV x v → RelV y u → r x y H Q →
    wpAny (model X.prog X.w) X.A (f v u) (EP X pins σ Q) X.xe s
noncomputable def UnR (X : Cx) (f : Value → Sem Value) (r : V → Hp → VK → Prop) : Prop :=
  ∀ (pins : List (Addr × Obj)) (s : Shared) (σ : St) (H : Hp) (x : V) (v : Value) (Q : VK), Inv X pins σ H s → RelV x v → r x H Q →
    wpAny (model X.prog X.w) X.A (f v) (EP X pins σ Q) X.xe s
noncomputable def CallR (X : Cx) (f : Value) (r : List V → Hp → VK → Prop) : Prop :=
  ∀ (pins : List (Addr × Obj)) (s : Shared) (σ : St) (H : Hp) (xs : List V) (us : List Value) (Q : VK), Inv X pins σ H s → Vals xs us → r xs H Q →
    wpAny (model X.prog X.w) X.A (call f us) (EP X pins σ Q) X.xe s
noncomputable def tOp (r : R2) (ta tb : TE) : TE := fun σ H Q => ta σ H fun x H1 => tb σ H1 fun y H2 => r x y H2 Q
noncomputable def tUn (r : V → Hp → VK → Prop) (ta : TE) : TE := fun σ H Q => ta σ H fun x H1 => r x H1 Q
noncomputable def rI (C : Int → Int → Prop) (g : Int → Int → V) : R2 := fun x y H Q => ∃ i j, x = .int i ∧ y = .int j ∧ C i j ∧ Q (g i j) H
noncomputable def rI0 (g : Int → Int → V) : R2 := fun x y H Q => ∃ i j, x = .int i ∧ y = .int j ∧ Q (g i j) H
noncomputable def rU (g : Int → V) : V → Hp → VK → Prop := fun x H Q => ∃ i, x = .int i ∧ Q (g i) H

section
variable {X : Cx} {a b c : Expr} {ta tb tc : TE} {pos : Pos}

theorem binT (ha : PE X a ta) (hb : PE X b tb) {pins : List (Addr × Obj)} {s : Shared} {σ : St} {H : Hp} {R : V → V → Hp → Prop} (I : Inv X pins σ H s)
    (h : ta σ H fun x H1 => tb σ H1 fun y H2 => R x y H2) {Q : Value → Shared → Prop} {f : Value → Value → Sem Value}
    (hf : ∀ v u s2 x y H2, Inv X pins σ H2 s2 → RelV x v → RelV y u → R x y H2 → wpAny (model X.prog X.w) X.A (f v u) Q X.xe s2) :
    wpAny (model X.prog X.w) X.A (eval a X.env) (fun v s₁ => wpAny (model X.prog X.w) X.A (eval b X.env) (fun u s₂ => wpAny (model X.prog X.w) X.A (f v u) Q X.xe s₂) X.xe s₁) X.xe s := by
  refine thn (ha pins s σ H _ I h) fun v s1 ⟨x, H1, I1, r1, q1⟩ => ?_
  refine thn (hb pins s1 σ H1 _ I1 q1) fun u s2 ⟨y, H2, I2, r2, q2⟩ => ?_
  exact hf v u s2 x y H2 I2 r1 r2 q2

theorem pe_op {op : Operator} {r : R2} (ho : OpR X (binaryOp op) r) (ha : PE X a ta) (hb : PE X b tb) : PE X (.BinOp a op b pos) (tOp r ta tb) := by
  intro pins s σ H Q I h
  exact wpAny_BinOp (binT ha hb I h fun v u s2 x y H2 I2 rx ry q => ho pins s2 σ H2 x y v u Q I2 rx ry q)
theorem pe_un {op : UnaryOp} {r : V → Hp → VK → Prop} (ho : UnR X (unaryOp op) r) (ha : PE X a ta) : PE X (.UnaryOp op a pos) (tUn r ta) := by
  intro pins s σ H Q I h
  exact UnaryOp_ (thn (ha pins s σ H _ I h) fun v s1 ⟨x, H1, I1, r1, q1⟩ => ho pins s1 σ H1 x v Q I1 r1 q1)
theorem opI {f : Value → Value → Sem Value} {C : Int → Int → Prop} {g : Int → Int → Int}
    (rule : ∀ (i j : Int) (t u : Tok) (s : Shared) (Q : Value → Shared → Prop) (E : Value → Shared → Prop), C i j → Q (.int (g i j) s.toks) { s with toks := s.toks + 1 } → wpAny (model X.prog X.w) X.A (f (.int i t) (.int j u)) Q E s) :
    OpR X f (rI C fun i j => .int (g i j)) := by
  intro pins s σ H x y v u Q I rx ry h
  obtain ⟨i, j, rfl, rfl, hc, q⟩ := h
  obtain ⟨t, rfl⟩ := rx
  obtain ⟨t', rfl⟩ := ry
  exact rule i j t t' s _ _ hc ⟨.int (g i j), H, I.tok _, ⟨_, rfl⟩, q⟩
theorem opI0 {f : Value → Value → Sem Value} {g : Int → Int → Int}
    (rule : ∀ (i j : Int) (t u : Tok) (s : Shared) (Q : Value → Shared → Prop) (E : Value → Shared → Prop), Q (.int (g i j) s.toks) { s with toks := s.toks + 1 } → wpAny (model X.prog X.w) X.A (f (.int i t) (.int j u)) Q E s) :
    OpR X f (rI0 fun i j => .int (g i j)) := by
  intro pins s σ H x y v u Q I rx ry h
  obtain ⟨i, j, rfl, rfl, q⟩ := h
  obtain ⟨t, rfl⟩ := rx
  obtain ⟨t', rfl⟩ := ry
  exact rule i j t t' s _ _ ⟨.int (g i j), H, I.tok _, ⟨_, rfl⟩, q⟩
theorem opB0 {f : Value → Value → Sem Value} {g : Int → Int → Bool}
    (rule : ∀ (i j : Int) (t u : Tok) (s : Shared) (Q : Value → Shared → Prop) (E : Value → Shared → Prop), Q (.bool (g i j)) s → wpAny (model X.prog X.w) X.A (f (.int i t) (.int j u)) Q E s) :
    OpR X f (rI0 fun i j => .bl (g i j)) := by
  intro pins s σ H x y v u Q I rx ry h
  obtain ⟨i, j, rfl, rfl, q⟩ := h
  obtain ⟨t, rfl⟩ := rx
  obtain ⟨t', rfl⟩ := ry
  exact rule i j t t' s _ _ ⟨.bl (g i j), H, I, rfl, q⟩

noncomputable def CDiv (i j : Int) : Prop := 0 < j ∧ j < 1073741824
noncomputable def CPow (i j : Int) : Prop := 0 ≤ j ∧ j ≤ 1000000 ∧ i.natAbs < 2 ^ 64
noncomputable def CMul (i j : Int) : Prop := (-(2 ^ 64) < i ∧ i < 2 ^ 64) ∨ (-(2 ^ 64) < j ∧ j < 2 ^ 64)
theorem CMul.ok {i j : Int} (h : CMul i j) : IntMulOk i j := by
  rcases h with ⟨h1, h2⟩ | ⟨h1, h2⟩
  · exact .of_left (intBits_le_64 h1 h2)
  · exact .of_right (intBits_le_64 h1 h2)
theorem op_add : OpR X (binaryOp .Add) (rI0 fun i j => .int (i + j)) := opI0 fun _ _ _ _ _ _ _ q => add_int q
theorem op_sub : OpR X (binaryOp .Sub) (rI0 fun i j => .int (i - j)) := opI0 fun _ _ _ _ _ _ _ q => sub_int q
theorem op_mul : OpR X (binaryOp .Mult) (rI CMul fun i j => .int (i * j)) := opI fun _ _ _ _ _ _ _ hc q => mul_int q hc.ok
theorem op_fdiv : OpR X (binaryOp .FloorDiv) (rI CDiv fun i j => .int (i / j)) := opI fun i j _ _ _ _ _ hc q => by
  have h1 : (0 : Int) < j := hc.1
  have h2 : j < 1073741824 := hc.2
  exact floordiv_int (by omega) (by rw [Int.fdiv_eq_ediv_of_nonneg i (by omega)]; exact q) (.inl (PyProof.noPylong_small (by omega)))
theorem op_mod : OpR X (binaryOp .Mod) (rI (fun _ j => 0 < j) fun i j => .int (i % j)) := opI fun i j _ _ _ _ _ hc q => by
  have h1 : (0 : Int) < j := hc
  exact mod_int' (by omega) (by rw [Int.fmod_eq_emod_of_nonneg i (by omega)]; exact q)
theorem op_pow : OpR X (binaryOp .Pow) (rI CPow fun i j => .int (i ^ j.toNat)) := opI fun _ _ _ _ _ _ _ hc q => pow_int_small hc.1 hc.2.1 hc.2.2 q
theorem unI {f : Value → Sem Value} {g : Int → Int}
    (rule : ∀ (i : Int) (t : Tok) (s : Shared) (Q : Value → Shared → Prop) (E : Value → Shared → Prop), Q (.int (g i) s.toks) { s with toks := s.toks + 1 } → wpAny (model X.prog X.w) X.A (f (.int i t)) Q E s) :
    UnR X f (rU fun i => .int (g i)) := by
  intro pins s σ H x v Q I rx h
  obtain ⟨i, rfl, q⟩ := h
  obtain ⟨t, rfl⟩ := rx
  exact rule i t s _ _ ⟨.int (g i), H, I.tok _, ⟨_, rfl⟩, q⟩
theorem un_neg : UnR X (unaryOp .USub) (rU fun i => .int (-i)) := unI fun _ _ _ _ _ q => neg_int q
end

noncomputable def scal : V → V → Bool
  | .non, .non => true | .non, .int _ => true | .int _, .non => true | .non, .bl _ => true | .bl _, .non => true | .non, .str _ => true | .str _, .non => true
  | .int _, .int _ => true | .bl _, .bl _ => true | .str _, .str _ => true | .byt _, .byt _ => true
  | .int _, .str _ => true | .str _, .int _ => true | .bl _, .str _ => true | .str _, .bl _ => true
  | _, _ => false
noncomputable def rEq : R2 := fun x y H Q => scal x y = true ∧ Q (.bl (decide (x = y))) H
noncomputable def rNe : R2 := fun x y H Q => scal x y = true ∧ Q (.bl (!decide (x = y))) H

theorem dec_int {i j : Int} : decide (V.int i = V.int j) = (i == j) := by
  rw [Bool.eq_iff_iff]
  simp
theorem dec_bl {i j : Bool} : decide (V.bl i = V.bl j) = (i == j) := by
  rw [Bool.eq_iff_iff]
  simp
theorem dec_str {i j : Str} : decide (V.str i = V.str j) = (i == j) := by
  rw [Bool.eq_iff_iff]
  simp
theorem dec_byt {i j : Array UInt8} : decide (V.byt i = V.byt j) = (i.toList == j.toList) := by
  rw [Bool.eq_iff_iff]
  cases i
  cases j
  simp

section
variable {X : Cx} {a b c : Expr} {ta tb tc : TE} {pos : Pos}
theorem fin_bl {pins : List (Addr × Obj)} {σ : St} {H : Hp} {s : Shared} {Q : VK} {k k' : Bool} (I : Inv X pins σ H s) (q : Q (.bl k) H) (e : k = k') : EP X pins σ Q (.bool k') s := by
  subst e
  exact ⟨.bl k, H, I, rfl, q⟩
theorem op_eq : OpR X (compareOp .Eq) rEq := by
  intro pins s σ H x y v u Q I rx ry h
  obtain ⟨hs, q⟩ := h
  cases x with
  | non =>
    cases rx
    cases y with
    | non => cases ry; exact PySem.EqNone.eq_none_none (fin_bl I q (by simp))
    | bl j => cases ry; exact PySem.EqNone.eq_none_bool (fin_bl I q (by simp))
    | int j => obtain ⟨t', rfl⟩ := ry; exact PySem.EqNone.eq_none_int (fin_bl I q (by simp))
    | str j => obtain ⟨t', rfl⟩ := ry; exact PySem.EqNone.eq_none_str (fin_bl I q (by simp))
    | _ => exact absurd (show false = true from hs) Bool.false_ne_true
  | bl i =>
    cases rx
    cases y with
    | non => cases ry; exact PySem.EqNone.eq_bool_none (fin_bl I q (by simp))
    | bl j => cases ry; exact eq_bool (fin_bl I q dec_bl)
    | str j => obtain ⟨t', rfl⟩ := ry; exact PySem.EqMixed.eq_bool_str (fin_bl I q (by simp))
    | _ => exact absurd (show false = true from hs) Bool.false_ne_true
  | int i =>
    obtain ⟨t, rfl⟩ := rx
    cases y with
    | non => cases ry; exact PySem.EqNone.eq_int_none (fin_bl I q (by simp))
    | int j => obtain ⟨t', rfl⟩ := ry; exact eq_int (fin_bl I q dec_int)
    | str j => obtain ⟨t', rfl⟩ := ry; exact PySem.EqMixed.eq_int_str (fin_bl I q (by simp))
    | _ => exact absurd (show false = true from hs) Bool.false_ne_true
  | str i =>
    obtain ⟨t, rfl⟩ := rx
    cases y with
    | non => cases ry; exact PySem.EqNone.eq_str_none (fin_bl I q (by simp))
    | bl j => cases ry; exact PySem.EqMixed.eq_str_bool (fin_bl I q (by simp))
    | int j => obtain ⟨t', rfl⟩ := ry; exact PySem.EqMixed.eq_str_int (fin_bl I q (by simp))
    | str j => obtain ⟨t', rfl⟩ := ry; exact eq_str (fin_bl I q dec_str)
    | _ => exact absurd (show false = true from hs) Bool.false_ne_true
  | byt i =>
    obtain ⟨t, rfl⟩ := rx
    cases y with
    | byt j => obtain ⟨t', rfl⟩ := ry; exact PySem.W.eq_bytes (fin_bl I q dec_byt)
    | _ => exact absurd (show false = true from hs) Bool.false_ne_true
  | _ => cases y <;> exact absurd (show false = true from hs) Bool.false_ne_true
theorem op_ne : OpR X (compareOp .NotEq) rNe := by
  intro pins s σ H x y v u Q I rx ry h
  obtain ⟨hs, q⟩ := h
  cases x with
  | non =>
    cases rx
    cases y with
    | non => cases ry; exact PySem.EqNone.ne_none_none (fin_bl I q (by simp))
    | bl j => cases ry; exact PySem.EqNone.ne_none_bool (fin_bl I q (by simp))
    | int j => obtain ⟨t', rfl⟩ := ry; exact PySem.EqNone.ne_none_int (fin_bl I q (by simp))
    | str j => obtain ⟨t', rfl⟩ := ry; exact PySem.EqNone.ne_none_str (fin_bl I q (by simp))
    | _ => exact absurd (show false = true from hs) Bool.false_ne_true
  | bl i =>
    cases rx
    cases y with
    | non => cases ry; exact PySem.EqNone.ne_bool_none (fin_bl I q (by simp))
    | bl j => cases ry; exact ne_bool (fin_bl I q (congrArg not dec_bl))
    | str j => obtain ⟨t', rfl⟩ := ry; exact PySem.EqMixed.ne_bool_str (fin_bl I q (by simp))
    | _ => exact absurd (show false = true from hs) Bool.false_ne_true
  | int i =>
    obtain ⟨t, rfl⟩ := rx
    cases y with
    | non => cases ry; exact PySem.EqNone.ne_int_none (fin_bl I q (by simp))
    | int j => obtain ⟨t', rfl⟩ := ry; exact ne_int (fin_bl I q (congrArg not dec_int))
    | str j => obtain ⟨t', rfl⟩ := ry; exact PySem.EqMixed.ne_int_str (fin_bl I q (by simp))
    | _ => exact absurd (show false = true from hs) Bool.false_ne_true
  | str i =>
    obtain ⟨t, rfl⟩ := rx
    cases y with
    | non => cases ry; exact PySem.EqNone.ne_str_none (fin_bl I q (by simp))
    | bl j => cases ry; exact PySem.EqMixed.ne_str_bool (fin_bl I q (by simp))
    | int j => obtain ⟨t', rfl⟩ := ry; exact PySem.EqMixed.ne_str_int (fin_bl I q (by simp))
    | str j => obtain ⟨t', rfl⟩ := ry; exact ne_str (fin_bl I q (congrArg not dec_str))
    | _ => exact absurd (show false = true from hs) Bool.false_ne_true
  | byt i =>
    obtain ⟨t, rfl⟩ := rx
    cases y with
    | byt j => obtain ⟨t', rfl⟩ := ry; exact PySem.W.ne_bytes (fin_bl I q (congrArg not dec_byt))
    | _ => exact absurd (show false = true from hs) Bool.false_ne_true
  | _ => cases y <;> exact absurd (show false = true from hs) Bool.false_ne_true

theorem op_lt : OpR X (compareOp .Lt) (rI0 fun i j => .bl (decide (i < j))) := opB0 fun _ _ _ _ _ _ _ q => lt_int q
theorem op_gt : OpR X (compareOp .Gt) (rI0 fun i j => .bl (decide (j < i))) := opB0 fun _ _ _ _ _ _ _ q => gt_int q
theorem nomark (b : Expr) {op : CmpOp} (h : op ≠ .In := by decide) (h2 : op ≠ .NotIn := by decide) : behindInMarks op b = false := by
  have e1 : (op == CmpOp.In) = false := by cases op <;> first | rfl | exact absurd rfl h
  have e2 : (op == CmpOp.NotIn) = false := by cases op <;> first | rfl | exact absurd rfl h2
  cases b <;> simp [behindInMarks, e1, e2]
theorem pe_cmpR {op : CmpOp} {r : R2} (ho : OpR X (compareOp op) r) (ha : PE X a ta) (hb : PE X b tb) (hm : behindInMarks op b = false) : PE X (.Compare a [op] [b] pos) (tOp r ta tb) := by
  intro pins s σ H Q I h
  exact wpAny_Compare1 (binT ha hb I h fun v u s2 x y H2 I2 rx ry q => ho pins s2 σ H2 x y v u Q I2 rx ry q) hm
noncomputable def tTest (t : TE) : TT := fun σ H Q => t σ H fun x H' => ∃ k, x = .bl k ∧ Q k H'
theorem pt_cmpR {op : CmpOp} {r : R2} (ho : OpR X (compareOp op) r) (ha : PE X a ta) (hb : PE X b tb) (hm : behindInMarks op b = false) : PT X (.Compare a [op] [b] pos) (tTest (tOp r ta tb)) := by
  intro pins s σ H Q I h
  refine wpAny_isTrue_Compare1 (thn (ha pins s σ H _ I h) fun v s1 ⟨x, H1, I1, r1, q1⟩ => thn (hb pins s1 σ H1 _ I1 q1) fun u s2 ⟨y, H2, I2, r2, q2⟩ =>
    thn (ho pins s2 σ H2 x y v u _ I2 r1 r2 q2) fun c s3 ⟨z, H3, I3, r3, k, e, q3⟩ => ?_) hm
  subst e
  cases r3
  exact wpAny_truthy_bool ⟨H3, I3, q3⟩
theorem line63 : (sizeLine : Nat) < 2 ^ 63 := by rw [sizeLine_eq]; decide
theorem vals1 {x : V} {us : List Value} (r : Vals [x] us) : ∃ u, us = [u] ∧ RelV x u := by
  cases r with
  | cons r1 r2 => cases r2; exact ⟨_, rfl, r1⟩
theorem vals2 {x y : V} {us : List Value} (r : Vals [x, y] us) : ∃ u w', us = [u, w'] ∧ RelV x u ∧ RelV y w' := by
  cases r with
  | cons r1 r2 =>
    cases r2 with
    | cons r3 r4 => cases r4; exact ⟨_, _, rfl, r1, r3⟩
theorem call_max2 (hc : X.calm = true) : CallR X (.builtin "max") (fun xs H Q => ∃ i j, xs = [.int i, .int j] ∧ Q (.int (if j > i then j else i)) H) := by
  intro pins s σ H xs us Q I r h
  obtain ⟨i, j, rfl, q⟩ := h
  obtain ⟨u, w', rfl, ⟨t, rfl⟩, ⟨t', rfl⟩⟩ := vals2 r
  refine max_two_ints (I.ok.hd hc) fun h' tk k => ⟨_, H, I.kept k, ?_, q⟩
  by_cases hj : j > i
  · rw [if_pos hj, if_pos hj]; exact ⟨_, rfl⟩
  · rw [if_neg hj, if_neg hj]; exact ⟨_, rfl⟩
theorem call_min2 (hc : X.calm = true) : CallR X (.builtin "min") (fun xs H Q => ∃ i j, xs = [.int i, .int j] ∧ Q (.int (if j < i then j else i)) H) := by
  intro pins s σ H xs us Q I r h
  obtain ⟨i, j, rfl, q⟩ := h
  obtain ⟨u, w', rfl, ⟨t, rfl⟩, ⟨t', rfl⟩⟩ := vals2 r
  refine min_two_ints (I.ok.hd hc) fun h' tk k => ⟨_, H, I.kept k, ?_, q⟩
  by_cases hj : j < i
  · rw [if_pos hj, if_pos hj]; exact ⟨_, rfl⟩
  · rw [if_neg hj, if_neg hj]; exact ⟨_, rfl⟩
end
end L2

namespace L2
open PySem PySem.Spec PyProof.Rows

structure ObjM (h : Heap) (x dx C : Addr) (mA : Str → Option Value) : Prop where
  obj : h.get? x = some (PySem.W.instObj C dx)
  ns : h.Ns1 dx mA
  ne : dx ≠ x

theorem lookIn_ns {h : Heap} {dx : Addr} {mA : Str → Option Value} (n : h.Ns1 dx mA) : ∃ od, h.get? dx = some od ∧ ∀ name, PySem.W.lookIn name od = some (mA name) := by
  obtain ⟨o, es, ep, ho, hd, hk, _, hm⟩ := n
  refine ⟨o, ho, fun name => ?_⟩
  have e := hm name
  unfold nsFind findBy at e
  rw [← Array.find?_toList] at e
  unfold PySem.W.lookIn
  rw [hd]
  dsimp only
  split
  · rename_i y q
    rw [q] at e
    exact congrArg some e
  · rename_i q
    rw [q] at e
    have a : es.toList.any (·.refKey) = false := by
      rw [List.any_eq_false]
      intro y hy
      obtain ⟨z, t, hkey⟩ := hk y (Array.mem_toList_iff.mp hy)
      simp [DictEntry.refKey, hkey]
    have a' : ¬ es.toList.any (·.refKey) = true := by rw [a]; exact Bool.false_ne_true
    rw [if_neg a']
    exact congrArg some e

theorem ObjM.look {h : Heap} {x dx C : Addr} {mA : Str → Option Value} (I : ObjM h x dx C mA) : ∃ od, PySem.W.InstAt h x (PySem.W.instObj C dx) C (some od) ∧ ∀ name, PySem.W.lookIn name od = some (mA name) :=
  let ⟨od, ho, hl⟩ := lookIn_ns I.ns
  ⟨od, ⟨I.obj, rfl, rfl, ho⟩, hl⟩

section
variable {prog : Program} {w : World} {A : Around} {E : Value → Shared → Prop} {s : Shared} {K : PySem.W.Frag} {x dx C f : Addr} {mA : Str → Option Value} {name : Str} {v : Value}

theorem get_map {expr : Bool} {Q : Value → Shared → Prop} (X : K.In s.heap) (I : ObjM s.heap x dx C mA) (hg : PySem.W.plainGet K C name = true) (hh : PySem.W.hasDictIn K C = true)
    (ha : PySem.W.findIn K (.ref C) name = some none) (hv : mA name = some v) (hv' : PySem.W.handedIn v = true) (h : Q v { s with toks := s.toks + 1 }) :
    wpAny (model prog w) A (getAttr (.ref x) name expr) Q E s := by
  obtain ⟨od, J, hl⟩ := I.look
  exact PySem.W.get_value X J (PySem.W.plainGet_of hg).1 (PySem.W.findObj_own hh ha rfl (by rw [hl, hv])) hv' h

theorem set_map {ns : List Str} {Q : Unit → Shared → Prop} (X : K.In s.heap) (I : ObjM s.heap x dx C mA)
    (hs : PySem.W.findIn K (.ref C) "__setattr__" = some (some (.builtin "object.__setattr__"))) (hp : PySem.W.plainOver K C = true) (ht : PySem.W.takerIn K C name = some none) (hh : PySem.W.hasDictIn K C = true)
    (hw : PySem.Within mA ns) (hsz : ns.length ≤ sizeLine)
    (h : ∀ h', ObjM h' x dx C (fun y => if y = name then some v else mA y) → Heap.SameBut dx s.heap h' → Q () { s with heap := h', toks := s.toks + 2 }) :
    wpAny (model prog w) A (setAttr (.ref x) name v) Q E s := by
  obtain ⟨od, J, hl⟩ := I.look
  refine PySem.W.set_plain X J hs (PySem.W.osa_open (s := { s with toks := s.toks + 1 }) (r := none) X J hp ht fun b => ?_)
  obtain ⟨cd, hc, hd'⟩ := PySem.W.any_some hh
  have hx : s.heap.get? x = some ⟨.ref C, some dx, .plain, #[]⟩ := I.obj
  refine wpAny_bind (wpAny_pure (wpAny_bind (wpAny_bind (wpAny_loadPart hx (wpAny_bind (PySem.W.Looks.here (s := { s with toks := s.toks + 1 }) (PySem.W.looks_clsIn X hc) ?_))))))
  rw [hd']
  refine wpAny_pure (a := some dx) (wpAny_bind (wpAny_pure (wpAny_bind ?_)))
  refine wpAny_nsSet1 (s := { s with toks := s.toks + 1 }) I.ns fun h' hn2 hs2 => ?_
  obtain ⟨oD, esD, epD, hoD, hdD, hcD⟩ := hn2.count (PySem.Within.cons name v hw)
  refine wpAny_bind (wpAny_lookBehind hoD (by rw [hdD]; exact pastItsLine_dict (Nat.le_trans hcD (by rw [List.length_cons]; omega))) ?_)
  exact wpAny_pure (h _ ⟨(hs2.2 _ (Ne.symm I.ne)).trans I.obj, hn2, I.ne⟩ hs2)

theorem make_map {R : Result → Shared → Prop} {vs : List Value} {kw : List (Str × Value)} (X : K.In s.heap) (hm : PySem.W.makesIn K C = true)
    (hi : PySem.W.findIn K (.ref C) "__init__" = some (some (.ref f))) (hf : PySem.W.typeIn K (.ref f) = some (.type "function"))
    (h : codeAny (model prog w) (A.under (.builtin "type.__call__" ⟨.ref C :: vs, kw⟩)) (.call (.ref f) ⟨.ref (s.heap.objs.size + 1) :: vs, kw⟩) (PySem.W.InitBack (s.heap.objs.size + 1) R)
      { s with heap := (s.heap.push PySem.W.emptyDict).push (PySem.W.instObj C s.heap.objs.size) }) :
    codeAny (model prog w) A (.call (.ref C) ⟨vs, kw⟩) R s := by
  obtain ⟨hh, g, d, t, os⟩ := s
  exact PySem.W.make_core (PySem.W.makes_of X hm) (PySem.W.looks_findIn X hi) (fun self => PySem.W.bind_fn X self hf) (.inl rfl) h
end

noncomputable def putF (f : Str) (v : V) : List (Str × V) → List (Str × V)
  | [] => [(f, v)]
  | (g, x) :: r => if g = f then (g, v) :: r else (g, x) :: putF f v r
theorem lookup_putF (f g : Str) (v : V) : ∀ fs : List (Str × V), (putF f v fs).lookup g = if g = f then some v else fs.lookup g
  | [] => by
    show List.lookup g [(f, v)] = _
    by_cases h : g = f
    · have hb : (g == f) = true := beq_iff_eq.mpr h
      simp only [List.lookup, hb, if_pos h]
    · have hb : (g == f) = false := beq_eq_false_iff_ne.mpr h
      simp only [List.lookup, hb, if_neg h]
  | (k, x) :: r => by
    have ih := lookup_putF f g v r
    rw [show putF f v ((k, x) :: r) = (if k = f then (k, v) :: r else (k, x) :: putF f v r) from rfl]
    by_cases hk : k = f
    · rw [if_pos hk]
      by_cases h : g = k
      · have hb : (g == k) = true := beq_iff_eq.mpr h
        simp only [List.lookup, hb, if_pos (h.trans hk)]
      · have hb : (g == k) = false := beq_eq_false_iff_ne.mpr h
        simp only [List.lookup, hb, if_neg (fun e : g = f => h (e.trans hk.symm))]
    · rw [if_neg hk]
      by_cases h : g = k
      · have hb : (g == k) = true := beq_iff_eq.mpr h
        simp only [List.lookup, hb, if_neg (fun e : g = f => hk (h.symm.trans e))]
      · have hb : (g == k) = false := beq_eq_false_iff_ne.mpr h
        simp only [List.lookup, hb]
        exact ih
theorem keys_putF (f : Str) (v : V) : ∀ fs : List (Str × V), f ∈ (putF f v fs).map (·.1) ∧ ∀ g, g ∈ fs.map (·.1) → g ∈ (putF f v fs).map (·.1)
  | [] => ⟨by simp [putF], fun g h => by simp at h⟩
  | (k, x) :: r => by
    obtain ⟨i1, i2⟩ := keys_putF f v r
    rw [show putF f v ((k, x) :: r) = (if k = f then (k, v) :: r else (k, x) :: putF f v r) from rfl]
    by_cases hk : k = f
    · rw [if_pos hk]
      subst hk
      exact ⟨by simp, fun g h => by simpa using h⟩
    · rw [if_neg hk]
      refine ⟨?_, fun g h => ?_⟩
      · rw [List.map_cons]
        exact List.mem_cons_of_mem _ i1
      · rw [List.map_cons] at h ⊢
        rcases List.mem_cons.mp h with e | e
        · exact List.mem_cons.mpr (.inl e)
        · exact List.mem_cons_of_mem _ (i2 g e)
theorem length_putF (f : Str) (v : V) : ∀ fs : List (Str × V), (putF f v fs).length ≤ fs.length + 1
  | [] => by simp [putF]
  | (k, x) :: r => by
    have ih := length_putF f v r
    rw [show putF f v ((k, x) :: r) = (if k = f then (k, v) :: r else (k, x) :: putF f v r) from rfl]
    by_cases hk : k = f
    · rw [if_pos hk, List.length_cons, List.length_cons]; omega
    · rw [if_neg hk, List.length_cons, List.length_cons]; omega

theorem RelO.some_of {v : V} {o : Option Value} (r : RelO (some v) o) : ∃ u, o = some u ∧ RelV v u := by
  cases o with
  | none => exact (show False from r).elim
  | some u => exact ⟨u, rfl, r⟩
theorem handed_of {v : V} {u : Value} (r : RelV v u) : PySem.W.handedIn u = true := by
  cases v with
  | non => cases (show u = Value.none from r); rfl
  | bl b => cases (show u = Value.bool b from r); rfl
  | int i => obtain ⟨t, e⟩ := (show ∃ t, u = Value.int i t from r); cases e; rfl
  | str x => obtain ⟨t, e⟩ := (show ∃ t, u = Value.str x t from r); cases e; rfl
  | byt b => obtain ⟨t, e⟩ := (show ∃ t, u = Value.bytes b t from r); cases e; rfl
  | flt b => obtain ⟨t, e⟩ := (show ∃ t, u = Value.float b t from r); cases e; rfl
  | ref a => cases (show u = Value.ref a from r); rfl
  | ty n => cases (show u = Value.type n from r); rfl

section
variable {P : Program} {w : World} {H H' : Hp} {h h' : Heap} {a C dx : Addr} {fs fs' : List (Str × V)}
theorem ins_get (hok : HOk P w H h) (e : H a = some (.ins C dx fs)) : ∃ mA, ObjM h a dx C mA ∧ (∀ f, RelO (fs.lookup f) (mA f)) ∧ PySem.Within mA (fs.map (·.1)) ∧ fs.length ≤ 1000 ∧ H dx = some (.own a) := by
  obtain ⟨d, z, ne, ob, mA, n, r, q⟩ := (show ObjOk P w H h a (.ins C dx fs) from hok a _ e)
  exact ⟨mA, ⟨ob, n, ne⟩, r, q, z, d⟩
end

structure Cls (K : PySem.W.Frag) (C : Addr) : Prop where
  pg : PySem.W.plainGet K C Str.empty = true
  hd : PySem.W.hasDictIn K C = true
  po : PySem.W.plainOver K C = true
  sa : PySem.W.findIn K (.ref C) "__setattr__" = some (some (.builtin "object.__setattr__"))
theorem Cls.get {K : PySem.W.Frag} {C : Addr} (c : Cls K C) (f : Str) : PySem.W.plainGet K C f = true := c.pg
noncomputable def NoAttr (K : PySem.W.Frag) (C : Addr) (f : Str) : Prop := PySem.W.findIn K (.ref C) f = some none
theorem NoAttr.taker {K : PySem.W.Frag} {C : Addr} {f : Str} (n : NoAttr K C f) : PySem.W.takerIn K C f = some none := by
  unfold PySem.W.takerIn
  rw [show PySem.W.findIn K (.ref C) f = some none from n]
  rfl
section
variable {X : Cx} {pins : List (Addr × Obj)} {σ : St} {H : Hp} {s : Shared} {a C dx : Addr} {fs : List (Str × V)} {f : Str} {v : V} {A : Around} {E : Value → Shared → Prop}

theorem getattr_ok {b : Bool} {Q : Value → Shared → Prop} (I : Inv X pins σ H s) (e : H a = some (.ins C dx fs)) (c : Cls X.K C) (n : NoAttr X.K C f) (l : fs.lookup f = some v)
    (h : ∀ u s', Inv X pins σ H s' → RelV v u → Q u s') : wpAny (model X.prog X.w) A (getAttr (.ref a) f b) Q E s := by
  obtain ⟨mA, O, r, _, _, _⟩ := ins_get I.hok e
  obtain ⟨u, hu, ru⟩ := RelO.some_of (v := v) (o := mA f) (by rw [← l]; exact r f)
  exact get_map I.kIn O (c.get f) c.hd n hu (handed_of ru) (h u _ (I.tok _) ru)

theorem setattr_ok {y : V} {u : Value} {Q : Unit → Shared → Prop} (I : Inv X pins σ H s) (e : H a = some (.ins C dx fs)) (c : Cls X.K C) (n : NoAttr X.K C f) (hl : fs.length < 1000) (ry : RelV y u)
    (h : ∀ s', Inv X pins σ (upd H a (.ins C dx (putF f y fs))) s' → Q () s') : wpAny (model X.prog X.w) A (setAttr (.ref a) f u) Q E s := by
  obtain ⟨mA, O, r, wi, _, ho⟩ := ins_get I.hok e
  have hz : (fs.map (·.1)).length ≤ sizeLine := by rw [List.length_map, sizeLine_eq]; omega
  refine set_map I.kIn O c.sa c.po n.taker c.hd wi hz fun h' O' sb => h _ ?_
  have hd : ∃ o, h'.get? dx = some o := let ⟨o, _, _, e', _⟩ := O'.ns; ⟨o, e'⟩
  refine I.write (x := a) (e := dx) (by rw [e]; exact True.intro) (.inr ho) (fun b q hb z => (sb.2 b hb).trans z) hd ?_
  refine ⟨by rw [upd_ne O.ne]; exact ho, ?_, O.ne, O'.obj, _, O'.ns, fun g => ?_, fun g hg => ?_⟩
  · have := length_putF f y fs; omega
  · show RelO ((putF f y fs).lookup g) (if g = f then some u else mA g)
    rw [lookup_putF]
    by_cases q : g = f
    · rw [if_pos q, if_pos q]; exact ry
    · rw [if_neg q, if_neg q]; exact r g
  · by_cases q : g = f
    · rw [q]; exact (keys_putF f y fs).1
    · refine (keys_putF f y fs).2 g (wi g fun z => hg ?_)
      show (if g = f then some u else mA g) = none
      rw [if_neg q]; exact z

theorem Inv.made (I : Inv X pins σ H s) : Inv X pins σ (upd (upd H s.heap.objs.size (.own (s.heap.objs.size + 1))) (s.heap.objs.size + 1) (.ins C s.heap.objs.size []))
    { s with heap := (s.heap.push PySem.W.emptyDict).push (PySem.W.instObj C s.heap.objs.size) } := by
  have e1 : (s.heap.push PySem.W.emptyDict).get? s.heap.objs.size = some PySem.W.emptyDict := Heap.get?_push_size s.heap rfl
  have e2 : ((s.heap.push PySem.W.emptyDict).push (PySem.W.instObj C s.heap.objs.size)).get? (s.heap.objs.size + 1) = some (PySem.W.instObj C s.heap.objs.size) := by
    have := Heap.get?_push_size (s.heap.push PySem.W.emptyDict) (o := PySem.W.instObj C s.heap.objs.size) rfl
    rwa [Heap.size_push] at this
  have e3 : (s.heap.push PySem.W.emptyDict).Ns s.heap.objs.size (fun _ => none) := ⟨PySem.W.emptyDict, #[], _, e1, rfl, (fun e he => absurd he (by simp)), fun _ => rfl⟩
  have I1 := I.laid (a := s.heap.objs.size) (o := .own (s.heap.objs.size + 1)) (h' := s.heap.push PySem.W.emptyDict) (t' := s.toks) (fun b u q => Heap.get?_push_of_some _ q) (Nat.le_refl _) ⟨_, e1⟩
  refine I1.laid (a := s.heap.objs.size + 1) (o := .ins C s.heap.objs.size []) (t' := s.toks) (fun b u q => Heap.get?_push_of_some _ q) (Nat.le_of_eq (Heap.size_push _ _)) ?_
  have ne : s.heap.objs.size ≠ s.heap.objs.size + 1 := Nat.ne_of_lt (Nat.lt_succ_self _)
  refine ⟨by rw [upd_ne ne, upd_same], Nat.zero_le _, ne, e2, fun _ => none, (Heap.Ns1.of_empty e3).at fun o q => Heap.get?_push_of_some _ q, fun _ => True.intro, fun y hy => absurd rfl hy⟩

theorem attr_of {prog : Program} {w : World} {env : Env} {e : Expr} {f : Str} {pos : Pos} {s : Shared} {Q : Value → Shared → Prop} (hb : attributeBase e f env (eval e env) = eval e env)
    (h : wpAny (model prog w) A (eval e env) (fun o s₁ => wpAny (model prog w) A (getAttr o f true) Q E s₁) E s) : wpAny (model prog w) A (eval (.Attribute e f pos) env) Q E s :=
  Attribute_any_ h (by rw [arm_eval_Attribute, hb])
end

noncomputable def tFld (K : PySem.W.Frag) (ta : TE) (f : Str) : TE := fun σ H Q => ta σ H fun x H1 => ∃ a C dx fs v, x = .ref a ∧ H1 a = some (.ins C dx fs) ∧ Cls K C ∧ NoAttr K C f ∧ fs.lookup f = some v ∧ Q v H1
noncomputable def sFld (K : PySem.W.Frag) (ta tv : TE) (f : Str) : TS := fun D σ H => tv σ H fun y H1 => ta σ H1 fun x H2 => ∃ a C dx fs, x = .ref a ∧ H2 a = some (.ins C dx fs) ∧ Cls K C ∧ NoAttr K C f ∧ fs.length < 1000 ∧
  D.nx σ (upd H2 a (.ins C dx (putF f y fs)))
section
variable {X : Cx} {o e value : Expr} {f : Str} {pos pos' tpos : Pos} {ta tv : TE}
theorem pe_fld (he : PE X e ta) (hb : attributeBase e f X.env (eval e X.env) = eval e X.env) : PE X (.Attribute e f pos) (tFld X.K ta f) := by
  intro pins s σ H Q I h
  refine attr_of hb (thn (he pins s σ H _ I h) fun u s1 ⟨x, H1, I1, rx, a, C, dx, fs, v, ex, ea, c, n, l, q⟩ => ?_)
  subst ex
  obtain rfl : u = Value.ref a := rx
  exact getattr_ok I1 ea c n l fun u' s2 I2 ru => ⟨v, H1, I2, ru, q⟩
theorem ps_fld (ha : PE X o ta) (hv : PE X value tv) (hs : swapsWith value (some (.Attribute o f pos')) pos.line X.env = pure false) : PS X (.Assign [.Attribute o f pos'] value pos) (sFld X.K ta tv f) := by
  intro pins s σ H D I h
  refine plainObj_wpAny_Assign_Attribute (thn (hv pins s σ H _ I h) fun u s1 ⟨y, H1, I1, ry, q⟩ => thn (ha pins s1 σ H1 _ I1 q) fun ov s2 ⟨x, H2, I2, rx, a, C, dx, fs, ex, ea, c, n, l, q2⟩ => ?_) hs
  subst ex
  obtain rfl : ov = Value.ref a := rx
  exact setattr_ok I2 ea c n l ry fun s3 I3 => ⟨σ, _, I3, q2⟩
end

section
variable {X : Cx} {pins : List (Addr × Obj)} {σ : St} {H : Hp} {s : Shared} {A : Around} {E : Value → Shared → Prop} {Q : Value → Shared → Prop} {c : Value} {b : Bool}
inductive TyOf (K : PySem.W.Frag) (H : Hp) : V → Value → Prop where
  | non : TyOf K H .non (.type "NoneType")
  | bl (x : Bool) : TyOf K H (.bl x) (.type "bool")
  | int (i : Int) : TyOf K H (.int i) (.type "int")
  | str (x : Str) : TyOf K H (.str x) (.type "str")
  | flt (x : UInt64) : TyOf K H (.flt x) (.type "float")
  | lst {a : Addr} {xs : List V} (e : H a = some (.lst xs)) : TyOf K H (.ref a) (.type "list")
  | frz {a : Addr} {o : Obj} {xs : List V} (e : H a = some (.frz o (.lst xs))) : TyOf K H (.ref a) (.type "list")
  | tup {a : Addr} {xs : List V} (e : H a = some (.tup xs)) : TyOf K H (.ref a) (.type "tuple")
  | dK {a : Addr} {kvs : List (Key × V)} (e : H a = some (.dK kvs)) : TyOf K H (.ref a) (.type "dict")
  | dT {a : Addr} {kvs : List (List Key × V)} (e : H a = some (.dT kvs)) : TyOf K H (.ref a) (.type "dict")
  | ins {a C dx : Addr} {fs : List (Str × V)} (e : H a = some (.ins C dx fs)) (cl : Cls K C) (ha : PySem.W.findIn K (.ref C) "__class__" = some (some (.builtin "object.__class__")))
      (hn : PySem.W.specialIn K (.builtin "object.__class__") "__get__" = some (some (.builtin "getset_descriptor.__get__"))) (htk : PySem.W.takesIn K (.builtin "object.__class__") = some true)
      (hm : PySem.W.mroIn K C (.type "object") = some true) : TyOf K H (.ref a) (.ref C)
theorem isinst_ok {x : V} {u t : Value} (I : Inv X pins σ H s) (rx : RelV x u) (ty : TyOf X.K H x t) (e : PySem.W.kitOne X.K t c = some b) (h : ∀ tk, Q (.bool b) { s with toks := tk }) :
    wpAny (model X.prog X.w) A (call (.builtin "isinstance") [u, c]) Q E s := by
  cases ty with
  | non => cases (show u = Value.none from rx); exact PySem.W.kia_one PySem.W.kitx_none I.kIn True.intro e (fun z => nomatch z) h
  | bl y => cases (show u = Value.bool y from rx); exact PySem.W.kia_one PySem.W.kitx_bool I.kIn True.intro e (fun z => nomatch z) h
  | int i => obtain ⟨t, q⟩ := (show ∃ t, u = Value.int i t from rx); cases q; exact PySem.W.kia_one PySem.W.kitx_int I.kIn True.intro e (fun z => nomatch z) h
  | str y => obtain ⟨t, q⟩ := (show ∃ t, u = Value.str y t from rx); cases q; exact PySem.W.kia_one PySem.W.kitx_str I.kIn True.intro e (fun z => nomatch z) h
  | flt y => obtain ⟨t, q⟩ := (show ∃ t, u = Value.float y t from rx); cases q; exact PySem.W.kia_one PySem.W.kitx_float I.kIn True.intro e (fun z => nomatch z) h
  | @lst a xs ea =>
    cases (show u = Value.ref a from rx)
    obtain ⟨_, _, n, _, h1⟩ := (show ObjOk X.prog X.w H s.heap a (.lst xs) from I.hok a _ ea)
    exact PySem.W.kia_one PySem.W.kitx_list I.kIn ⟨_, h1, rfl⟩ e (fun z => nomatch z) h
  | @frz a ob xs ea =>
    cases (show u = Value.ref a from rx)
    obtain ⟨_, _, _, n, _, h1⟩ := (show ObjOk X.prog X.w H s.heap a (.frz ob (.lst xs)) from I.hok a _ ea)
    exact PySem.W.kia_one PySem.W.kitx_list I.kIn ⟨_, h1, rfl⟩ e (fun z => nomatch z) h
  | @tup a xs ea =>
    cases (show u = Value.ref a from rx)
    obtain ⟨_, _, _, p⟩ := (show ObjOk X.prog X.w H s.heap a (.tup xs) from I.hok a _ ea)
    obtain ⟨o, h1, h2, _⟩ := p
    exact PySem.W.kia_one PySem.W.kitx_tuple I.kIn ⟨o, h1, h2⟩ e (fun z => nomatch z) h
  | @dK a kvs ea =>
    cases (show u = Value.ref a from rx)
    obtain ⟨_, _, vs, _, p⟩ := (show ObjOk X.prog X.w H s.heap a (.dK kvs) from I.hok a _ ea)
    obtain ⟨o, es, ep, h1, h2, _⟩ := p
    exact PySem.W.kia_one PySem.W.kitx_dict I.kIn ⟨o, h1, h2.1⟩ e (fun z => nomatch z) h
  | @dT a kvs ea =>
    cases (show u = Value.ref a from rx)
    obtain ⟨_, _, xs, _, o, es, ep, h1, h2, _⟩ := (show ObjOk X.prog X.w H s.heap a (.dT kvs) from I.hok a _ ea)
    exact PySem.W.kia_one PySem.W.kitx_dict I.kIn ⟨o, h1, h2.1⟩ e (fun z => nomatch z) h
  | @ins a C dx fs ea cl ha hn htk hm =>
    cases (show u = Value.ref a from rx)
    obtain ⟨mA, O, _⟩ := ins_get I.hok ea
    obtain ⟨od, J, _⟩ := O.look
    exact PySem.W.kia_one (PySem.W.kitx_own (cl.get _) cl.hd ha hn htk hm) I.kIn J e (fun z => nomatch z) h
end
end L2

namespace L2
open PySem PySem.Spec PyProof.Rows

structure Room (k : Nat) (A : Around) : Prop where
  hd : A.handled = none
  dp : A.depth + 3 * k + 5 < recursionLimit
  un : A.units + 16 * k + 200 < cLine
theorem Room.mono {j k : Nat} {A : Around} (r : Room k A) (h : j ≤ k) : Room j A := ⟨r.hd, by have := r.dp; omega, by have := r.un; omega⟩
theorem Room.deeper {k : Nat} {A : Around} (r : Room (k + 1) A) (env : Env) : Room k (A.deeper env) :=
  ⟨r.hd, by have := r.dp; show A.depth + 1 + 3 * k + 5 < _; omega, by have := r.un; show A.units + 3 + 16 * k + 200 < _; omega⟩
theorem make_depth {A : Around} {C : Addr} {us : List Value} {kw : List (Str × Value)} : (A.under (.builtin "type.__call__" ⟨.ref C :: us, kw⟩)).depth = A.depth + 1 := by
  first | rfl | simp [Around.under, Code.weight, Code.isCreation, Code.isGuard, Code.isCaller, Code.frames, Code.isFrame, guardIds]
theorem make_units {A : Around} {C : Addr} {us : List Value} {kw : List (Str × Value)} : (A.under (.builtin "type.__call__" ⟨.ref C :: us, kw⟩)).units = A.units + 1 := by
  first | rfl | simp [Around.under, Code.cUnits, Code.frames, Code.isFrame]
theorem Room.make {k : Nat} {A : Around} (r : Room (k + 1) A) (C : Addr) (us : List Value) (kw : List (Str × Value)) : Room k (A.under (.builtin "type.__call__" ⟨.ref C :: us, kw⟩)) :=
  ⟨r.hd, by have := r.dp; rw [make_depth]; omega, by have := r.un; rw [make_units]; omega⟩
theorem Room.depth {k : Nat} {A : Around} (r : Room k A) : A.depth < recursionLimit := by have := r.dp; omega
noncomputable def tNil : TA := fun _ H Q => Q [] H
noncomputable def tCons (ta : TE) (tr : TA) : TA := fun σ H Q => ta σ H fun x H1 => tr σ H1 fun xs H2 => Q (x :: xs) H2
section
variable {X : Cx} {e : Expr} {es : List Expr} {te : TE} {t : TA} {pos : Pos}
theorem pa_nil : PA X [] tNil := fun _ _ _ _ H Q I h => Calls.spliced_nil ⟨[], H, I, .nil, h⟩
theorem pa_cons (ha : PE X e te) (hr : PA X es t) (hs : starEach (e :: es) X.env = (false, eval e X.env) :: starEach es X.env := by rfl) : PA X (e :: es) (tCons te t) := by
  intro pos pins s σ H Q I h
  rw [hs]
  show wpAny _ _ (spliced ((false, eval e X.env) :: backTo pos (starEach es X.env))) _ _ s
  refine Calls.spliced_cons (thn (ha pins s σ H _ I h) fun u s1 ⟨x, H1, I1, r1, q1⟩ => ?_)
  exact thn (hr pos pins s1 σ H1 _ I1 q1) fun us s2 ⟨xs, H2, I2, r2, q2⟩ => ⟨x :: xs, H2, I2, .cons r1 r2, q2⟩

noncomputable def tTup (t : TA) : TE := fun σ H Q => t σ H fun xs H1 => xs.length ≤ sizeLine ∧ ∀ p, H1 p = none → Q (.ref p) (upd H1 p (.tup xs))
noncomputable def tLst (t : TA) : TE := fun σ H Q => t σ H fun xs H1 => xs.length ≤ sizeLine ∧ ∀ p, H1 p = none → Q (.ref p) (upd H1 p (.lst xs))
theorem pe_tup {x1} (h : PA X es t) : PE X (.Tuple es x1 pos) (tTup t) := by
  intro pins s σ H Q I hq
  refine wpAny_Tuple_spliced (thn (h pos pins s σ H _ I hq) fun us s1 ⟨xs, H1, I1, r, z, q⟩ => ⟨by rw [← r.length]; exact z, ?_⟩)
  have hf : H1 s1.heap.objs.size = none := I1.hok.fresh (Nat.le_refl _)
  refine ⟨.ref s1.heap.objs.size, upd H1 s1.heap.objs.size (.tup xs), I1.laid (t' := s1.toks) (fun b u e => Heap.get?_push_of_some _ e) (Nat.le_refl _) ?_, rfl, q _ hf⟩
  exact ⟨z, us, r, ⟨_, Heap.get?_push_size _ rfl, rfl, ⟨_, rfl⟩, rfl⟩⟩
theorem pe_lst (h : PA X es t) : PE X (.List es pos) (tLst t) := by
  intro pins s σ H Q I hq
  refine wpAny_List_spliced (thn (h pos pins s σ H _ I hq) fun us s1 ⟨xs, H1, I1, r, z, q⟩ => ⟨by rw [← r.length]; exact z, ?_⟩)
  have hf : H1 s1.heap.objs.size = none := I1.hok.fresh (Nat.le_refl _)
  refine ⟨.ref s1.heap.objs.size, upd H1 s1.heap.objs.size (.lst xs), I1.laid (t' := s1.toks) (fun b u e => Heap.get?_push_of_some _ e) (Nat.le_refl _) ?_, rfl, q _ hf⟩
  exact ⟨z, us, 0, r, Heap.get?_push_size _ rfl⟩
end

noncomputable abbrev Sp := List V → Hp → VK → XK → Prop
noncomputable abbrev CXT := List Env → Hp → Shared → XK → Value → Shared → Prop

structure Env0 (P : Program) (w : World) (K : PySem.W.Frag) (mg : Str → Option Value) (base : Heap) (A : Around) (outer : List Env) (s : Shared) (H : Hp) : Prop where
  frames : A.frames = some outer
  mod : Mod K mg base
  bs : ∀ b o, base.get? b = some o → s.heap.get? b = some o ∧ H b = none
  bsz : base.objs.size ≤ s.heap.objs.size
  funs : s.heap.FunFrames base outer
  frf : ∀ b ∈ frs outer, H b = none
  hok : HOk P w H s.heap
  bare : AllBare s.gens
noncomputable def CE (outer : List Env) (P : Program) (w : World) (H : Hp) (s : Shared) (Q : VK) (u : Value) (s' : Shared) : Prop :=
  ∃ v H', s'.os = s.os ∧ AllBare s'.gens ∧ Un (frs outer) [] H H' s.heap s'.heap ∧ HOk P w H' s'.heap ∧ RelV v u ∧ Q v H'
noncomputable def CR (CX : CXT) (outer : List Env) (P : Program) (w : World) (H : Hp) (s : Shared) (Q : VK) (E : XK) (r : Result) (s' : Shared) : Prop :=
  match r with
  | .ok (.ret u) => CE outer P w H s Q u s'
  | .ok _ => False
  | .error e => CX outer H s E e s'
structure FnOk (P : Program) (w : World) (K : PySem.W.Frag) (mg : Str → Option Value) (base : Heap) (CX : CXT) (k : Nat) (f : Addr) (fd : FuncData) (ps : List Str) (sp : Sp) : Prop where
  len : ∀ vs H Q E, sp vs H Q E → vs.length = ps.length
  run : ∀ (A : Around) (outer : List Env) (s : Shared) (H : Hp) (args : Args) (us : List Value) (vs : List V) (Q : VK) (E : XK), Room k A → Env0 P w K mg base A outer s H → BindsTo s fd args (ps.zip us) → Vals vs us → sp vs H Q E →
    codeAny (model P w) A (.call (.ref f) args) (CR CX outer P w H s Q E) s
theorem Env0.make {P : Program} {w : World} {K : PySem.W.Frag} {mg : Str → Option Value} {base : Heap} {A : Around} {outer : List Env} {s : Shared} {H : Hp} (e : Env0 P w K mg base A outer s H) (C : Addr) (us : List Value) (kw : List (Str × Value)) :
    Env0 P w K mg base (A.under (.builtin "type.__call__" ⟨.ref C :: us, kw⟩)) outer s H := ⟨by first | exact e.frames | (simpa [Around.under, Code.envs, Code.isFrame, pushEnvs] using e.frames), e.mod, e.bs, e.bsz, e.funs, e.frf, e.hok, e.bare⟩
section
variable {X : Cx} {pins : List (Addr × Obj)} {σ : St} {H : Hp} {s s' : Shared}
theorem Inv.env0 (I : Inv X pins σ H s) : Env0 X.prog X.w X.K X.mg X.base X.A X.stack s H :=
  ⟨I.ok.frames, I.ok.mod, I.bs, Nat.le_trans I.ok.bsz I.sz, I.stack, I.stkFree, I.hok, I.bare⟩
theorem Inv.after {Q : VK} {u : Value} (I : Inv X pins σ H s) (h : CE X.stack X.prog X.w H s Q u s') : EP X pins σ Q u s' := by
  obtain ⟨v, H', os, bare, un, hok, r, q⟩ := h
  obtain ⟨hh, g, d, t, os'⟩ := s'
  obtain rfl : os' = s.os := os
  exact ⟨v, H', I.call (h' := hh) (g' := g) (d' := d) (t' := t) (ch := []) un hok bare (fun b z => absurd z (by simp)), r, q⟩
end

noncomputable def tCall (sp : Sp) (dvs : List V) (E : XK) (t : TA) : TE := fun σ H Q => t σ H fun vs H1 => sp (vs ++ dvs) H1 Q E
noncomputable def tMake (C : Addr) (sp : Sp) (dvs : List V) (E : XK) (t : TA) : TE := fun σ H Q => t σ H fun vs H1 => ∀ x dx, H1 x = none → H1 dx = none → dx ≠ x →
  sp (.ref x :: (vs ++ dvs)) (upd (upd H1 dx (.own x)) x (.ins C dx [])) (fun v H2 => v = .non ∧ Q (.ref x) H2) E

noncomputable def Binds (K : PySem.W.Frag) (fd : FuncData) (ps : List Str) (ds : List Value) : Prop :=
  ∀ (s : Shared) (us : List Value), K.In s.heap → (us ++ ds).length = ps.length → BindsTo s fd ⟨us, []⟩ (ps.zip (us ++ ds))
theorem Binds.all {K : PySem.W.Frag} {fd : FuncData} {ps : List Str} (h : ∀ us : List Value, us.length = ps.length → bindArgs fd ⟨us, []⟩ = pure (ps.zip us)) : Binds K fd ps [] := fun s us _ hl => by
  rw [List.append_nil] at hl ⊢
  exact .of_eq (h us hl)

noncomputable def Passes (CX : CXT) (X : Cx) (E : XK) : Prop := ∀ (pins : List (Addr × Obj)) (σ : St) (H : Hp) (s : Shared) (e : Value) (s' : Shared), Inv X pins σ H s → CX X.stack H s E e s' → X.xe e s'

section
variable {X : Cx} {CX : CXT} {k : Nat} {f C : Addr} {fd : FuncData} {ps : List Str} {sp : Sp} {dvs : List V} {ds : List Value} {E : XK} {x m : Str} {p pos apos : Pos} {e o : Expr} {es : List Expr} {ta : TE} {t : TA}

theorem run_fn {pins : List (Addr × Obj)} {σ : St} {H : Hp} {s : Shared} {Q : VK} {us : List Value} {vs : List V} (F : FnOk X.prog X.w X.K X.mg X.base CX k f fd ps sp) (hr : Room k X.A) (hb : Binds X.K fd ps ds) (hd : Vals dvs ds) (hx : Passes CX X E)
    (I : Inv X pins σ H s) (r : Vals vs us) (h : sp (vs ++ dvs) H Q E) : wpAny (model X.prog X.w) X.A (call (.ref f) us) (EP X pins σ Q) X.xe s := by
  have r2 : Vals (vs ++ dvs) (us ++ ds) := r.append hd
  have hl : (us ++ ds).length = ps.length := by rw [← r2.length]; exact F.len _ _ _ _ h
  refine wpAny_call (codeAny_mono (F.run X.A X.stack s H ⟨us, []⟩ (us ++ ds) (vs ++ dvs) Q E hr I.env0 (hb s us I.kIn hl) r2 h) fun r s' hq => ?_)
  cases r with
  | error e => exact hx pins σ H s e s' I hq
  | ok fl =>
    cases fl with
    | ret u => exact I.after hq
    | next => exact False.elim hq
    | brk => exact False.elim hq
    | cont => exact False.elim hq

theorem pe_call (F : FnOk X.prog X.w X.K X.mg X.base CX k f fd ps sp) (hr : Room k X.A) (hg : Gl X x) (hm : X.mg x = some (.ref f)) (hk : PySem.W.keepIn X.K (.ref f) = true) (hb : Binds X.K fd ps ds) (hd : Vals dvs ds) (hx : Passes CX X E)
    (ha : PA X (e :: es) t) (hdb : (x == ("__debug__" : Str)) = false := by decide) (he : starEach (e :: es) X.env = (false, eval e X.env) :: starEach es X.env := by rfl) (hpl : (backTo pos (starEach es X.env)).any (·.1) = false := by rfl) :
    PE X (.Call (.Name x p) (e :: es) [] pos) (tCall sp dvs E t) := by
  intro pins s σ H Q I h
  refine wpAny_Call_Name_kw (ld_glob I hg hm ?_ hdb)
  refine PySem.W.callWith_K (h₀ := X.base) I.ok.mod.kin hk (thn (ha pos pins s σ H _ I h) fun us s1 ⟨vs, H1, I1, r, q⟩ => ⟨I1.kIn, ?_⟩) he hpl
  exact run_fn F hr hb hd hx I1 r q
structure Mk (K : PySem.W.Frag) (C f : Addr) : Prop where
  makes : PySem.W.makesIn K C = true
  init : PySem.W.findIn K (.ref C) "__init__" = some (some (.ref f))
  fn : PySem.W.isFn K (.ref f) = true
  kp : PySem.W.keepIn K (.ref C) = true

theorem run_make {pins : List (Addr × Obj)} {σ : St} {H : Hp} {s : Shared} {Q : VK} {us : List Value} {vs : List V} (M : Mk X.K C f) (F : FnOk X.prog X.w X.K X.mg X.base CX k f fd ps sp) (hr : Room (k + 1) X.A) (hb : Binds X.K fd ps ds) (hd : Vals dvs ds)
    (hx : Passes CX X E) (I : Inv X pins σ H s) (r : Vals vs us)
    (h : ∀ x dx, H x = none → H dx = none → dx ≠ x → sp (.ref x :: (vs ++ dvs)) (upd (upd H dx (.own x)) x (.ins C dx [])) (fun v H2 => v = .non ∧ Q (.ref x) H2) E) :
    wpAny (model X.prog X.w) X.A (call (.ref C) us) (EP X pins σ Q) X.xe s := by
  have hq := h (s.heap.objs.size + 1) s.heap.objs.size (I.hok.fresh (Nat.le_succ _)) (I.hok.fresh (Nat.le_refl _)) (Nat.ne_of_lt (Nat.lt_succ_self _))
  have I2 := Inv.made (C := C) I
  have r2 : Vals (V.ref (s.heap.objs.size + 1) :: (vs ++ dvs)) (Value.ref (s.heap.objs.size + 1) :: (us ++ ds)) := .cons rfl (r.append hd)
  have hl : (Value.ref (s.heap.objs.size + 1) :: us ++ ds).length = ps.length := by
    have e := r2.length
    rw [F.len _ _ _ _ hq] at e
    exact e.symm
  refine wpAny_call (make_map (f := f) I.kIn M.makes M.init (beq_iff_eq.mp M.fn) (codeAny_mono (F.run _ X.stack _ _ ⟨Value.ref (s.heap.objs.size + 1) :: us, []⟩ (Value.ref (s.heap.objs.size + 1) :: (us ++ ds)) _ _ E (hr.make C us [])
    (I2.env0.make C us []) (hb _ (Value.ref (s.heap.objs.size + 1) :: us) I2.kIn hl) r2 hq) fun r s' hq' => ?_))
  cases r with
  | error e => exact hx pins σ _ _ e s' I2 hq'
  | ok fl =>
    cases fl with
    | ret u =>
      obtain ⟨v, H', I3, rv, ev, q3⟩ := I2.after hq'
      subst ev
      exact ⟨rv, ⟨V.ref (s.heap.objs.size + 1), H', I3, rfl, q3⟩⟩
    | next => exact False.elim hq'
    | brk => exact False.elim hq'
    | cont => exact False.elim hq'
theorem pe_make (M : Mk X.K C f) (F : FnOk X.prog X.w X.K X.mg X.base CX k f fd ps sp) (hr : Room (k + 1) X.A) (hg : Gl X x) (hm : X.mg x = some (.ref C)) (hb : Binds X.K fd ps ds) (hd : Vals dvs ds) (hx : Passes CX X E)
    (ha : PA X (e :: es) t) (hdb : (x == ("__debug__" : Str)) = false := by decide) (he : starEach (e :: es) X.env = (false, eval e X.env) :: starEach es X.env := by rfl) (hpl : (backTo pos (starEach es X.env)).any (·.1) = false := by rfl) :
    PE X (.Call (.Name x p) (e :: es) [] pos) (tMake C sp dvs E t) := by
  intro pins s σ H Q I h
  refine wpAny_Call_Name_kw (ld_glob I hg hm ?_ hdb)
  refine PySem.W.callWith_K (h₀ := X.base) I.ok.mod.kin M.kp (thn (ha pos pins s σ H _ I h) fun us s1 ⟨vs, H1, I1, r, q⟩ => ⟨I1.kIn, ?_⟩) he hpl
  exact run_make M F hr hb hd hx I1 r q
end

section
variable {X : Cx} {CX : CXT} {k : Nat} {f C : Addr} {fd : FuncData} {ps ks : List Str} {sp : Sp} {E : XK} {x m : Str} {p pos apos kpos : Pos} {e o : Expr} {es : List Expr} {kws : List Keyword} {te ta : TE} {t tk : TA} {nm : Option Str}
variable {g : List Value → List Value → List Value} {gV : List V → List V → List V}
end

structure FnScope (N P : List Str) (sc : Scope) : Prop where
  kind : sc.kind = .function
  co : sc.isCoroutine = false
  gen : sc.isGenerator = false
  nd : N.Nodup
  pre : N.take P.length = P
  par : ∀ x ∈ P, sc.names.lookup x = some .local ∨ sc.names.lookup x = some .cell
  nofree : ∀ y ∈ sc.names, y.2 ≠ .free

theorem bindL_out {kindOf : Str → Option NameKind} {x : Str} : ∀ {binds : List (Str × Value)} {m : Str → Option Value}, (∀ v, (x, v) ∉ binds) → bindL kindOf binds m x = m x
  | [], _, _ => rfl
  | (n, v) :: r, m, h => by
    unfold bindL
    rw [bindL_out fun w hw => h w (List.mem_cons_of_mem _ hw)]
    split
    · have : x ≠ n := by rintro rfl; exact h v List.mem_cons_self
      simp [this]
    · rfl
theorem bindC_out {kindOf : Str → Option NameKind} {x : Str} : ∀ {binds : List (Str × Value)} {m : Str → Option Value}, (∀ v, (x, v) ∉ binds) → bindC kindOf binds m x = m x
  | [], _, _ => rfl
  | (n, v) :: r, m, h => by
    unfold bindC
    rw [bindC_out fun w hw => h w (List.mem_cons_of_mem _ hw)]
    split
    · rfl
    · have : x ≠ n := by rintro rfl; exact h v List.mem_cons_self
      simp [this]
theorem bindL_get {kindOf : Str → Option NameKind} {x : Str} {v : Value} : ∀ {P : List Str} {vs : List Value} {i : Nat} {m : Str → Option Value}, P.Nodup → P[i]? = some x → vs[i]? = some v → kindOf x = some .local →
    bindL kindOf (P.zip vs) m x = some v
  | [], _, _, _, _, h, _, _ => by simp at h
  | _ :: _, [], _, _, _, _, h, _ => by simp at h
  | p :: P, w :: vs, 0, m, nd, h1, h2, hk => by
    simp at h1 h2; subst h1; subst h2
    show bindL kindOf ((p, w) :: P.zip vs) m p = _
    unfold bindL
    rw [bindL_out fun v hv => (List.nodup_cons.mp nd).1 (List.of_mem_zip hv).1, if_pos hk]
    simp
  | p :: P, w :: vs, i + 1, m, nd, h1, h2, hk => by
    show bindL kindOf ((p, w) :: P.zip vs) m x = _
    unfold bindL
    exact bindL_get (i := i) (List.nodup_cons.mp nd).2 (by simpa using h1) (by simpa using h2) hk
theorem bindC_get {kindOf : Str → Option NameKind} {x : Str} {v : Value} : ∀ {P : List Str} {vs : List Value} {i : Nat} {m : Str → Option Value}, P.Nodup → P[i]? = some x → vs[i]? = some v → kindOf x ≠ some .local →
    bindC kindOf (P.zip vs) m x = some v
  | [], _, _, _, _, h, _, _ => by simp at h
  | _ :: _, [], _, _, _, _, h, _ => by simp at h
  | p :: P, w :: vs, 0, m, nd, h1, h2, hk => by
    simp at h1 h2; subst h1; subst h2
    show bindC kindOf ((p, w) :: P.zip vs) m p = _
    unfold bindC
    rw [bindC_out fun v hv => (List.nodup_cons.mp nd).1 (List.of_mem_zip hv).1, if_neg hk]
    simp
  | p :: P, w :: vs, i + 1, m, nd, h1, h2, hk => by
    show bindC kindOf ((p, w) :: P.zip vs) m x = _
    unfold bindC
    exact bindC_get (i := i) (List.nodup_cons.mp nd).2 (by simpa using h1) (by simpa using h2) hk

noncomputable def start (N : List Str) (vs : List V) : St := vs.map some ++ List.replicate (N.length - vs.length) none

noncomputable def cxOf (CX : CXT) (P : Program) (w : World) (K : PySem.W.Frag) (mg : Str → Option Value) (base : Heap) (N : List Str) (qual : Str) (scope : Scope) (f : Addr) (cd : Value) (A : Around) (outer : List Env) (s : Shared) (H : Hp) (E : XK) : Cx where
  prog := P
  w := w
  K := K
  mg := mg
  base := base
  A := A.deeper (envOfC qual scope s.heap.objs.size f cd)
  N := N
  s₀ := s
  H₀ := H
  env := envOfC qual scope s.heap.objs.size f cd
  outer := outer
  stack := envOfC qual scope s.heap.objs.size f cd :: outer
  ex := []
  calm := true
  fn := fun _ => true
  pn := []
  xe := fun e s' => wpAny (model P w) (A.deeper (envOfC qual scope s.heap.objs.size f cd)) (leaving (envOfC qual scope s.heap.objs.size f cd) e) (fun _ s'' => CX outer H s E e s'') (fun e' s'' => CX outer H s E e' s'') s'

theorem cell_has {sc : Scope} {n : Nat} {x : Str} (h : sc.names.lookup x = some .cell) : ∃ c, (cellsFrom n sc.names []).lookup x = some c := by
  have q := PySem.W.cellsFrom_some sc.names n [] (.inl h)
  exact Option.isSome_iff_exists.mp q

theorem inv_start {CX : CXT} {P : Program} {w : World} {K : PySem.W.Frag} {mg : Str → Option Value} {base : Heap} {N ps : List Str} {qual : Str} {scope : Scope} {f : Addr} {cd : Value} {A : Around} {outer : List Env} {s s1 : Shared} {H : Hp} {E : XK} {us : List Value} {vs : List V}
    (S : FnScope N ps scope) (hd : A.handled = none) (e0 : Env0 P w K mg base A outer s H) (hl : vs.length = ps.length) (r : Vals vs us)
    (x : InCallC s s.heap.objs.size (bindL (envOfC qual scope s.heap.objs.size f cd).kindOf (ps.zip us) fun _ => none) (cellsFrom (s.heap.objs.size + 1) scope.names []) (bindC (envOfC qual scope s.heap.objs.size f cd).kindOf (ps.zip us) fun _ => none) s1) :
    Inv (cxOf CX P w K mg base N qual scope f cd A outer s H E) [] (start N vs) H s1 := by
  have hpl : ps.length ≤ N.length := by have := congrArg List.length S.pre; rw [List.length_take] at this; omega
  obtain ⟨h1, tk, rfl, hk⟩ := x.done
  have noA : ∀ b : Addr, b ∉ (cxOf CX P w K mg base N qual scope f cd A outer s H E).ex := fun b z => absurd (show b ∈ ([] : List Addr) from z) (by simp)
  refine ⟨⟨e0.mod, S.kind, rfl, rfl, Nat.le_refl _, fun y z c h1 h2 => ?_, fun y hy => ?_, fun y c _ h => ?_, fun _ => hd, Around.frames_deeper e0.frames, .inr ⟨rfl, rfl⟩, fun b z => absurd z (noA b), e0.bs, e0.bsz, fun b _ _ => noA b, fun b z => absurd z (noA b), e0.funs, e0.frf⟩,
    rfl, e0.bare, Un.kept hk, ⟨_, x.toInCall.ns, fun i y v h1 h2 h3 => ?_⟩, fun y c h => ⟨_, x.cell y c h⟩, e0.hok.fresh (Nat.le_refl _), fun y c h => ?_, fun p hp => absurd (show p ∈ ([] : List (Addr × Obj)) from hp) (by simp), e0.hok.kept hk, ?_⟩
  · exact name_of_addr x.apart (PySem.mem_of_lookup h1) (PySem.mem_of_lookup h2)
  · have hy : scope.names.lookup y = some .cell ∨ scope.names.lookup y = some .free := hy
    rcases hy with hy | hy
    · exact cell_has hy
    · exact absurd rfl (S.nofree _ (PySem.mem_of_lookup hy))
  · exact Nat.le_of_lt (x.above y c (PySem.mem_of_lookup h))
  · have hi : i < vs.length := by
      unfold start at h2
      by_cases hi : i < vs.length
      · exact hi
      · rw [List.getElem?_append_right (by simpa using hi)] at h2
        rw [List.getElem?_replicate] at h2
        split at h2 <;> cases h2
    have ha : vs[i]? = some v := by
      unfold start at h2
      rw [List.getElem?_append_left (by simpa using hi), List.getElem?_map] at h2
      cases e : vs[i]? with
      | none => rw [e] at h2; cases h2
      | some a => rw [e] at h2; cases h2; rfl
    obtain ⟨u, hu, rv⟩ := r.get ha
    have hp : ps[i]? = some y := by
      rw [← S.pre, List.getElem?_take_of_lt (by omega)]; exact h1
    have ndP : ps.Nodup := by rw [← S.pre]; exact S.nd.sublist (List.take_sublist _ _)
    refine ⟨u, rv, ?_⟩
    rcases S.par y (List.mem_of_getElem? hp) with k | k
    · exact .inl ⟨k, bindL_get ndP hp hu k⟩
    · obtain ⟨c, e⟩ := cell_has (n := s.heap.objs.size + 1) k
      refine .inr ⟨.inl k, c, e, ?_⟩
      have q := x.cell y c e
      rw [bindC_get ndP hp hu (by show scope.names.lookup y ≠ _; rw [k]; decide)] at q
      exact q
  · exact e0.hok.fresh (Nat.le_of_lt (x.above y c (PySem.mem_of_lookup h)))
  · unfold start
    show _ = N.length
    rw [List.length_append, List.length_map, List.length_replicate]
    omega

theorem fn_of {CX : CXT} {P : Program} {w : World} {K : PySem.W.Frag} {mg : Str → Option Value} {base : Heap} {k : Nat} {f : Addr} {name qual : Str} {params : Arguments} {body : List Stmt} {scope : Scope} {dV kV doc pm cdv ct oc : Value} {an od : Option Addr}
    {osl : Array (Option Value)} {N ps : List Str} {sp : Sp} (lk : K.lookup f = some ⟨oc, od, .func (PySem.W.fnOf name qual params body scope dV kV doc pm an cdv ct), osl⟩) (hcd : PySem.W.codeIn K cdv qual = true) (S : FnScope N ps scope)
    (len : ∀ vs H Q E, sp vs H Q E → vs.length = ps.length)
    (hbody : ∀ (A : Around) (outer : List Env) (s : Shared) (H : Hp) (vs : List V) (Q : VK) (E : XK), Room k (A.deeper (envOfC qual scope s.heap.objs.size f cdv)) → sp vs H Q E →
      ∃ t, PSs (cxOf CX P w K mg base N qual scope f cdv A outer s H E) body t ∧ t { nx := fun _ H' => Q .non H', rt := Q } (start N vs) H) :
    FnOk P w K mg base CX (k + 1) f (PySem.W.fnOf name qual params body scope dV kV doc pm an cdv ct) ps sp := by
  refine ⟨len, fun A outer s H args us vs Q E hr e0 hb r hsp => ?_⟩
  have hl := len _ _ _ _ hsp
  have KX : K.In s.heap := e0.mod.kin.keeps fun b o e => (e0.bs b o e).1
  have lim : s.heap.NoLimit := e0.mod.nolimit.keeps fun b o e => (e0.bs b o e).1
  have hkind : ∀ y ∈ ps.zip us, scope.names.lookup y.1 = some .local ∨ (scope.names.lookup y.1 = some .cell ∧ ((cellsFrom (s.heap.objs.size + 1) scope.names []).lookup y.1).isSome = true) := fun ⟨n, v⟩ hy => by
    rcases S.par n (List.of_mem_zip hy).1 with q | q
    · exact .inl q
    · exact .inr ⟨q, PySem.W.cellsFrom_some _ _ _ (.inl q)⟩
  refine codeAny_call_function hr.depth (KX _ _ lk) rfl S.co S.gen rfl (PySem.W.codeRec_of KX hcd) (hb _ _ _ _ ?_)
  refine wpAny_newFunctionEnv_cells S.kind hkind fun env he s1 x => ?_
  subst he
  refine ⟨lim.keeps x.toInCall.keep, codeAny_func ?_⟩
  obtain ⟨t, ht, hq⟩ := hbody A outer s H vs Q E (hr.deeper _) hsp
  have I : Inv (cxOf CX P w K mg base N qual scope f cdv A outer s H E) [] (start N vs) H s1 := inv_start S hr.hd e0 hl r x
  refine wpAny_mono (ht [] s1 (start N vs) H _ I hq) (fun fl s' hs => ?_) fun e s' hs => hs
  have fin : ∀ {σ' : St} {H' : Hp} {v : V} {u : Value}, Inv (cxOf CX P w K mg base N qual scope f cdv A outer s H E) [] σ' H' s' → RelV v u → Q v H' → CE outer P w H s Q u s' :=
    fun {σ' H' v u} J rv q => ⟨v, H', J.os, J.bare, J.base, J.hok, rv, q⟩
  cases fl with
  | ret u =>
    obtain ⟨v, σ', H', J, rv, q⟩ := hs
    exact fin J rv q
  | next =>
    obtain ⟨σ', H', J, q⟩ := hs
    exact fin (v := V.non) (u := Value.none) J rfl q
  | brk =>
    obtain ⟨_, _, _, q⟩ := hs
    exact False.elim q
  | cont =>
    obtain ⟨_, _, _, q⟩ := hs
    exact False.elim q
end L2

namespace L2
open PySem PySem.Spec PyProof.Rows
section
variable {X : Cx} {x : Str} {p pos : Pos} {e : Expr} {es : List Expr} {t : TA} {id T : String} {r : List V → Hp → VK → Prop}

noncomputable def tCB (r : List V → Hp → VK → Prop) (t : TA) : TE := fun σ H Q => t σ H fun vs H1 => r vs H1 Q
theorem pe_callB (hc : CallR X (.builtin id) r) (hg : Gl X x) (hm : X.mg x = none) (hv : bootBuiltins x = some (.builtin id)) (ha : PA X (e :: es) t) (hn : x ≠ "__name__" := by decide) (hdb : (x == ("__debug__" : Str)) = false := by decide)
    (he : starEach (e :: es) X.env = (false, eval e X.env) :: starEach es X.env := by rfl) (hpl : (backTo pos (starEach es X.env)).any (·.1) = false := by rfl) : PE X (.Call (.Name x p) (e :: es) [] pos) (tCB r t) := by
  intro pins s σ H Q I h
  refine wpAny_Call_Name_kw (ld_blt I hg hm hv ?_ hn hdb)
  exact PyProof.Rows.callWith_builtin1 (thn (ha pos pins s σ H _ I h) fun us s1 ⟨vs, H1, I1, r1, q1⟩ => hc pins s1 σ H1 vs us Q I1 r1 q1) he hpl
theorem pe_callTy (hc : CallR X (.type T) r) (hg : Gl X x) (hm : X.mg x = none) (hv : bootBuiltins x = some (.type T)) (ha : PA X (e :: es) t) (hn : x ≠ "__name__" := by decide) (hdb : (x == ("__debug__" : Str)) = false := by decide)
    (he : starEach (e :: es) X.env = (false, eval e X.env) :: starEach es X.env := by rfl) (hpl : (backTo pos (starEach es X.env)).any (·.1) = false := by rfl) : PE X (.Call (.Name x p) (e :: es) [] pos) (tCB r t) := by
  intro pins s σ H Q I h
  refine wpAny_Call_Name_kw (ld_blt I hg hm hv ?_ hn hdb)
  exact PyProof.Rows.callWith_type1 (thn (ha pos pins s σ H _ I h) fun us s1 ⟨vs, H1, I1, r1, q1⟩ => hc pins s1 σ H1 vs us Q I1 r1 q1) he hpl
end
end L2

namespace HT
open PySem PyProof.Rows

section
open PySem.SeqAt
open PySem.AutoSeq1 (wpAny_loadPart')
open PySem.MeetsSeq PySem.MeetsSeq2 PySem.MeetsSeq3

end

section
variable {prog : Program} {w : World} {A : Around} {E : Value → Shared → Prop} {s : Shared}

theorem cat_tup {t b : Addr} {vs ws : List Value} {Q : Value → Shared → Prop} (ht : IsTup s.heap t vs.toArray) (hb : IsTup s.heap b ws.toArray) (hv : vs ≠ [])
    (h1 : ws = [] → Q (.ref t) s) (h2 : ws ≠ [] → Q (.ref s.heap.objs.size) { s with heap := s.heap.push { cls := .type "tuple", data := .seq (vs ++ ws).toArray } })
    (hsz : vs.length + ws.length ≤ sizeLine) : wpAny (model prog w) A (binaryOp .Add (.ref t) (.ref b)) Q E s := by
  obtain ⟨⟨cls, dd, data, sl⟩, ho, hc, n, hd⟩ := id ht
  obtain ⟨⟨cls2, dd2, data2, sl2⟩, ho2, hc2, n2, hd2⟩ := id hb
  simp only at hc hd hc2 hd2
  subst hc hd hc2 hd2
  have e : vs.toArray ++ ws.toArray = (vs ++ ws).toArray := by simp
  by_cases hw : ws = []
  · exact concat_meets ⟨_, ho, rfl⟩ ⟨_, ho2, rfl⟩ noFill_tuple_add seq_tuple_add PySem.F.slot_tuple_add PySem.F.entry_tuple_add (PySem.F.args_tuple_add_2 _ _)
      (tuple_addW1 t b vs.toArray ws.toArray n n2 dd dd2 sl sl2 (by simpa using hv) (by simp [hw])) ⟨ho, ho2, h1 hw⟩
  · refine concat_meets ⟨_, ho, rfl⟩ ⟨_, ho2, rfl⟩ noFill_tuple_add seq_tuple_add PySem.F.slot_tuple_add PySem.F.entry_tuple_add (PySem.F.args_tuple_add_2 _ _)
      (tuple_addW2 t b vs.toArray ws.toArray n n2 dd dd2 sl sl2 (by simpa using hv) (by simpa using hw) (by rw [List.size_toArray, List.size_toArray]; exact hsz)) ⟨ho, ho2, ?_⟩
    rw [e]
    exact h2 hw

noncomputable def sIx (n d : Nat) : Option Int → Nat
  | none => d
  | some v => if v < 0 then (v + (n : Int)).toNat else min v.toNat n
theorem sIx_none (n d : Nat) : sIx n d none = d := rfl
theorem sIx_nat (n d k : Nat) : sIx n d (some (k : Int)) = min k n := by
  show (if (k : Int) < 0 then ((k : Int) + (n : Int)).toNat else min (k : Int).toNat n) = min k n
  rw [if_neg (by omega), Int.toNat_natCast]
theorem sIx_le (n d : Nat) (hd : d ≤ n) (o : Option Int) : sIx n d o ≤ n := by
  cases o with
  | none => exact hd
  | some v =>
    show (if v < 0 then (v + (n : Int)).toNat else min v.toNat n) ≤ n
    by_cases hv : v < 0
    · rw [if_pos hv]; omega
    · rw [if_neg hv]; exact Nat.min_le_right _ _
theorem clip_eq (v : Int) (n d : Nat) : (if v < 0 then max (v + (n : Int)) 0 else min v (n : Int)) = ((sIx n d (some v) : Nat) : Int) := by
  show (if v < 0 then max (v + (n : Int)) 0 else min v (n : Int)) = (((if v < 0 then (v + (n : Int)).toNat else min v.toNat n) : Nat) : Int)
  by_cases hv : v < 0
  · simp only [if_pos hv]; omega
  · simp only [if_neg hv]; omega
theorem adjust_gen (lo hi : Option Int) (n : Nat) : Builtin.Slice.sliceAdjust lo hi 1 (n : Int) = (((sIx n 0 lo : Nat) : Int), ((sIx n n hi : Nat) : Int)) := by
  have h1 : ¬ ((1 : Int) < 0) := by omega
  unfold Builtin.Slice.sliceAdjust
  simp only [h1, if_false]
  refine Prod.ext ?_ ?_
  · cases lo with
    | none => rfl
    | some v => exact clip_eq v n 0
  · cases hi with
    | none => rfl
    | some v => exact clip_eq v n n
theorem places_gen (i j : Nat) : Builtin.Slice.slicePlaces (i : Int) (j : Int) 1 = j - i := by
  unfold Builtin.Slice.slicePlaces
  have h1 : (1 : Int) > 0 := by omega
  simp only [h1, if_true, Int.ediv_one]
  split <;> omega
theorem slicePart_ {v : Value} {o : Option Int} {Q : Option Int → Shared → Prop} (p : IsPart v o) (h : Q o s) : wpAny (model prog w) A (Builtin.Slice.slicePartIndex v) Q E s := by
  cases p with
  | none => exact slicePart_none h
  | int i t => exact slicePart_int h
theorem sliceApplied_gen {sl : Addr} {vl vu : Value} {lo hi : Option Int} {n : Nat} {Q : Int × Int × Nat → Shared → Prop} (hs : s.heap.IsSliceOf sl vl vu .none) (pl : IsPart vl lo) (pu : IsPart vu hi)
    (h : Q (((sIx n 0 lo : Nat) : Int), 1, sIx n n hi - sIx n 0 lo) s) : wpAny (model prog w) A (Builtin.Slice.sliceApplied (.ref sl) (pure (n : Int))) Q E s := by
  obtain ⟨os, hos, hcs, hds⟩ := id hs
  unfold Builtin.Slice.sliceApplied Builtin.Slice.sliceFields
  refine wpAny_bind (wpAny_bind (wpAny_field hos hds (x := vl) rfl (wpAny_bind (wpAny_field hos hds (x := vu) rfl (wpAny_bind (wpAny_field hos hds (x := .none) rfl (wpAny_pure ?_)))))))
  refine wpAny_bind (slicePart_none ?_)
  show wpAny _ _ (if ((1 : Int) == 0) = true then _ else _) _ _ s
  rw [if_neg (by decide)]
  refine wpAny_bind (slicePart_ pl (wpAny_bind (slicePart_ pu (wpAny_bind (wpAny_pure ?_)))))
  show wpAny _ _ (match Builtin.Slice.sliceAdjust lo hi 1 (n : Int) with | (lo, hi) => pure (lo, (1 : Int), Builtin.Slice.slicePlaces lo hi 1)) _ _ s
  rw [adjust_gen lo hi n]
  show wpAny _ _ (pure (((sIx n 0 lo : Nat) : Int), (1 : Int), Builtin.Slice.slicePlaces ((sIx n 0 lo : Nat) : Int) ((sIx n n hi : Nat) : Int) 1)) _ _ s
  rw [places_gen]
  exact wpAny_pure h
theorem pick_gen (xs : Array Value) (i k : Nat) : ((List.range k).filterMap fun (m : Nat) => xs[((i : Int) + (m : Int) * 1).toNat]?).toArray = ((xs.toList.drop i).take k).toArray := by
  have e : (fun (m : Nat) => xs[((i : Int) + (m : Int) * 1).toNat]?) = fun m => xs[i + m]? := by
    funext m
    have : ((i : Int) + (m : Int) * 1).toNat = i + m := by omega
    rw [this]
  rw [e]
  have := pick_run xs i k
  rw [List.filterMap_map] at this
  have e2 : ((fun x => xs[x]?) ∘ fun x => i + x) = fun m => xs[i + m]? := rfl
  rw [e2] at this
  rw [this]

theorem getItem_tuple_cut {t sl : Addr} {items : Array Value} {vl vu : Value} {lo hi : Option Int} {Q : Value → Shared → Prop} (ht : IsTup s.heap t items) (hs : s.heap.IsSliceOf sl vl vu .none) (pl : IsPart vl lo) (pu : IsPart vu hi)
    (hw : ¬ (sIx items.size 0 lo = 0 ∧ sIx items.size items.size hi = items.size))
    (h : Q (.ref s.heap.objs.size) { s with heap := s.heap.push { cls := .type "tuple", data := .seq ((items.toList.drop (sIx items.size 0 lo)).take (sIx items.size items.size hi - sIx items.size 0 lo)).toArray } })
    (hsz : items.size ≤ sizeLine) : wpAny (model prog w) A (getItem (.ref t) (.ref sl)) Q E s := by
  have htake : sizeOk (.seq ((items.toList.drop (sIx items.size 0 lo)).take (sIx items.size items.size hi - sIx items.size 0 lo)).toArray) := by
    show ((items.toList.drop (sIx items.size 0 lo)).take (sIx items.size items.size hi - sIx items.size 0 lo)).toArray.size ≤ sizeLine
    rw [List.size_toArray, List.length_take, List.length_drop, Array.length_toList]
    omega
  have hj : sIx items.size items.size hi ≤ items.size := sIx_le _ _ (Nat.le_refl _) hi
  obtain ⟨os, hos, hcs, hds⟩ := id hs
  have hTs : s.TypeIs (.ref sl) "slice" := ⟨os, hos, hcs⟩
  unfold getItem
  try with_reducible refine wpAny_holding ?_
  first | refine wpAny_bind (wpAny_pure ?_) | skip
  refine wpAny_bind (wpAny_sequenceKey ht.typeIs (by decide) ?_)
  refine wpAny_bind (wpAny_callSpecial?_slot (name := Str.ofString "__getitem__") ht.typeIs PyProof.Rows.slot_tuple_getitem
    (wpAny_call_entry PyProof.Rows.slot_tuple_getitem ht.typeIs entry_tuple_getitem ?_ (args_tuple_getitem _ _)))
  show wpAny _ _ (Builtin.Tuple.tupleItemsOf (.ref t) >>= _) _ _ s
  refine wpAny_bind (tupleItemsOf_ ht ?_)
  refine wpAny_bind (wpAny_typeOf hTs ?_)
  rw [if_pos (by decide)]
  refine wpAny_bind (sliceApplied_gen hs pl pu ?_)
  have hno : ¬ ((((sIx items.size 0 lo : Nat) : Int) == 0 && (1 : Int) == 1 && (sIx items.size items.size hi - sIx items.size 0 lo) == items.size) = true) := by
    intro q
    rw [Bool.and_eq_true, Bool.and_eq_true] at q
    have q1 : ((sIx items.size 0 lo : Nat) : Int) = 0 := eq_of_beq q.1.1
    have q2 : sIx items.size items.size hi - sIx items.size 0 lo = items.size := eq_of_beq q.2
    exact hw ⟨by omega, by omega⟩
  show wpAny _ _ (if (((sIx items.size 0 lo : Nat) : Int) == 0 && (1 : Int) == 1 && (sIx items.size items.size hi - sIx items.size 0 lo) == items.size) = true then _ else _) _ _ s
  rw [if_neg hno, pick_gen]
  first
    | exact wpAny_bind (m := Builtin.Tuple.tupleExact _) (wpAny_newObj_type (wpAny_pure ⟨_, rfl, wpAny_pure h⟩) htake)
    | exact wpAny_bind (m := Builtin.Tuple.tupleExact _) (wpAny_newObj_type (wpAny_bind (wpAny_pure (wpAny_pure ⟨_, rfl, wpAny_pure h⟩))) htake)
    | exact wpAny_bind (wpAny_bind (m := Builtin.Tuple.tupleExact _) (wpAny_newObj_type (wpAny_pure (wpAny_pure ⟨_, rfl, wpAny_pure h⟩)) htake))
    | exact wpAny_bind (wpAny_bind (m := Builtin.Tuple.tupleExact _) (wpAny_newObj_type (wpAny_pure ⟨_, rfl, wpAny_pure h⟩) htake))
end
end HT

namespace L2
open PySem PySem.Spec PyProof.Rows

noncomputable abbrev TO := St → Hp → (Option Int → Hp → Prop) → Prop
noncomputable def PO (X : Cx) (e : Option Expr) (t : TO) : Prop :=
  ∀ (pins : List (Addr × Obj)) (s : Shared) (σ : St) (H : Hp) (Q : Option Int → Hp → Prop), Inv X pins σ H s → t σ H Q →
    wpAny (model X.prog X.w) X.A (evalPart e X.env) (fun u s' => ∃ o H', Inv X pins σ H' s' ∧ IsPart u o ∧ Q o H') X.xe s
noncomputable def tNoPart : TO := fun _ H Q => Q none H
noncomputable def tPart (t : TE) : TO := fun σ H Q => t σ H fun x H1 => ∃ i, x = .int i ∧ Q (some i) H1

section
variable {X : Cx} {e : Expr} {te : TE} {lo hi : Option Expr} {tl th : TO} {pos p2 : Pos}

theorem po_none : PO X none tNoPart := by
  intro pins s σ H Q I h
  rw [evalPart_none]
  exact wpAny_pure ⟨none, H, I, .none, h⟩
theorem po_some (h : PE X e te) : PO X (some e) (tPart te) := by
  intro pins s σ H Q I hw
  rw [evalPart_some]
  refine thn (h pins s σ H _ I hw) fun u s1 ⟨x, H1, I1, r1, q1⟩ => ?_
  obtain ⟨i, rfl, q⟩ := q1
  obtain ⟨t, rfl⟩ := r1
  exact ⟨some i, H1, I1, .int i t, q⟩

noncomputable def SlR (X : Cx) (r : V → Option Int → Option Int → Hp → VK → Prop) : Prop :=
  ∀ (pins : List (Addr × Obj)) (s : Shared) (σ : St) (H : Hp) (x : V) (v vl vu : Value) (lo hi : Option Int) (sl : Addr) (Q : VK), Inv X pins σ H s → RelV x v → s.heap.IsSliceOf sl vl vu .none → IsPart vl lo → IsPart vu hi → r x lo hi H Q →
    ∃ T id, typeLookup (.type T) "__getitem__" = pure (some (.builtin id)) ∧ s.TypeIs v T ∧ wpAny (model X.prog X.w) X.A (getItem v (.ref sl)) (EP X pins σ Q) X.xe s
noncomputable def tSl (r : V → Option Int → Option Int → Hp → VK → Prop) (te : TE) (tl th : TO) : TE := fun σ H Q => te σ H fun x H1 => tl σ H1 fun l H2 => th σ H2 fun u H3 => r x l u H3 Q
theorem pe_slice {r : V → Option Int → Option Int → Hp → VK → Prop} (hr : SlR X r) (he : PE X e te) (hl : PO X lo tl) (hu : PO X hi th) : PE X (.Subscript e (.Slice lo hi none p2) pos) (tSl r te tl th) := by
  intro pins s σ H Q I h
  refine Subscript_ (thn (he pins s σ H _ I h) fun v s1 ⟨x, H1, I1, r1, q1⟩ => ?_)
  refine wpAny_Slice (thn (hl pins s1 σ H1 _ I1 q1) fun vl s2 ⟨l, H2, I2, pl, q2⟩ => thn (hu pins s2 σ H2 _ I2 q2) fun vu s3 ⟨u, H3, I3, pu, q3⟩ => ?_)
  rw [evalPart_none]
  refine wpAny_pure ?_
  have I4 : Inv X pins σ H3 { s3 with heap := s3.heap.push { cls := .type "slice", data := .fields #[vl, vu, .none] } } := I3.kept (t' := s3.toks) fun b ob q => Heap.get?_push_of_some _ q
  obtain ⟨T, id, hT, ht, hg⟩ := hr pins { s3 with heap := s3.heap.push { cls := .type "slice", data := .fields #[vl, vu, .none] } } σ H3 x v vl vu l u s3.heap.objs.size Q I4 r1 (Heap.IsSliceOf.new ..) pl pu q3
  show wpAny (model X.prog X.w) X.A (subscriptTail e (.Slice lo hi none p2) v (.ref s3.heap.objs.size)) (EP X pins σ Q) X.xe { s3 with heap := s3.heap.push { cls := .type "slice", data := .fields #[vl, vu, .none] } }
  exact tail_any (ops := [.ref s3.heap.objs.size, v]) ht hT hg (by with_unfolding_all rfl)

noncomputable def cutV (xs : List V) (lo hi : Option Int) : List V := (xs.drop (HT.sIx xs.length 0 lo)).take (HT.sIx xs.length xs.length hi - HT.sIx xs.length 0 lo)
theorem cutV_length (xs : List V) (lo hi : Option Int) : (cutV xs lo hi).length ≤ xs.length := by
  unfold cutV
  rw [List.length_take, List.length_drop]
  omega
noncomputable def rSlT (K : PySem.W.Frag) : V → Option Int → Option Int → Hp → VK → Prop := fun x lo hi H Q => ∃ a xs, x = .ref a ∧ SqT K H a xs ∧
  ¬ (HT.sIx xs.length 0 lo = 0 ∧ HT.sIx xs.length xs.length hi = xs.length) ∧ ∀ p, H p = none → Q (.ref p) (upd H p (.tup (cutV xs lo hi)))
theorem sl_tup : SlR X (rSlT X.K) := by
  intro pins s σ H x v vl vu lo hi sl Q I rx hs pl pu h
  obtain ⟨a, xs, rfl, hx, hw, q⟩ := h
  cases rx
  obtain ⟨its, r, ht, hz⟩ := I.tuple hx
  have hlen : its.toArray.size = xs.length := by rw [List.size_toArray]; exact r.length.symm
  refine ⟨"tuple", _, PyProof.Rows.slot_tuple_getitem.lookup, ht.typeIs, ?_⟩
  refine HT.getItem_tuple_cut ht hs pl pu (by rw [hlen]; exact hw) ?_ (by rw [hlen]; exact hz)
  rw [hlen]
  refine ⟨.ref s.heap.objs.size, _, I.laid (t' := s.toks) (o := .tup (cutV xs lo hi)) (fun b ob q => Heap.get?_push_of_some _ q) (Nat.le_refl _) ?_, rfl, q _ (I.hok.fresh (Nat.le_refl _))⟩
  exact ⟨Nat.le_trans (cutV_length xs lo hi) hz, _, (r.drop (HT.sIx xs.length 0 lo)).take (HT.sIx xs.length xs.length hi - HT.sIx xs.length 0 lo), IsTupN.new _ _⟩

noncomputable def rCatT (K : PySem.W.Frag) : R2 := fun x y H Q => ∃ a b xs ys, x = .ref a ∧ y = .ref b ∧ SqT K H a xs ∧ SqT K H b ys ∧ xs ≠ [] ∧ xs.length + ys.length ≤ sizeLine ∧
  (ys = [] → Q (.ref a) H) ∧ (ys ≠ [] → ∀ p, H p = none → Q (.ref p) (upd H p (.tup (xs ++ ys))))
theorem Vals.nil_iff {xs : List V} {us : List Value} (r : Vals xs us) : us = [] ↔ xs = [] := by
  cases r with
  | nil => simp
  | cons _ _ => simp
theorem op_catT : OpR X (binaryOp .Add) (rCatT X.K) := by
  intro pins s σ H x y v u Q I rx ry h
  obtain ⟨a, b, xs, ys, rfl, rfl, ha, hb, hx, hz, q1, q2⟩ := h
  cases rx
  cases ry
  obtain ⟨its, r1, p1, _⟩ := I.tuple ha
  obtain ⟨its2, r2, p2, _⟩ := I.tuple hb
  refine HT.cat_tup p1 p2 (fun z => hx (r1.nil_iff.mp z)) (fun z => ⟨.ref a, H, I, rfl, q1 (r2.nil_iff.mp z)⟩) (fun z => ?_) (by rw [← r1.length, ← r2.length]; exact hz)
  refine ⟨.ref s.heap.objs.size, _, I.laid (t' := s.toks) (o := .tup (xs ++ ys)) (fun b ob q => Heap.get?_push_of_some _ q) (Nat.le_refl _) ?_, rfl, q2 (fun w => z (r2.nil_iff.mpr w)) _ (I.hok.fresh (Nat.le_refl _))⟩
  exact ⟨by rw [List.length_append]; exact hz, _, r1.append r2, IsTupN.new _ _⟩
end
end L2

namespace L2
open PySem PySem.Spec PyProof.Rows

noncomputable def ixN (n : Nat) (i : Int) : Option Nat := if 0 ≤ i then (if i < n then some i.toNat else none) else if -(n : Int) ≤ i then some (i + n).toNat else none
noncomputable def atI {α : Type} (xs : List α) (i : Int) : Option α := (ixN xs.length i).bind fun j => xs[j]?
theorem ixN_seq {n : Nat} {i : Int} {j : Nat} (h : ixN n i = some j) : seqIndex? i n = some j ∧ j < n ∧ -(n : Int) ≤ i ∧ i < n := by
  unfold ixN at h
  by_cases h0 : 0 ≤ i
  · rw [if_pos h0] at h
    by_cases h1 : i < n
    · rw [if_pos h1] at h
      have e : i.toNat = j := Option.some.inj h
      exact ⟨by rw [seqIndex_of h0 h1, e], by omega, by omega, h1⟩
    · rw [if_neg h1] at h; cases h
  · rw [if_neg h0] at h
    by_cases h1 : -(n : Int) ≤ i
    · rw [if_pos h1] at h
      have e : (i + n).toNat = j := Option.some.inj h
      exact ⟨by rw [seqIndex_neg (by omega) h1, e], by omega, h1, by omega⟩
    · rw [if_neg h1] at h; cases h
theorem atI_get {α : Type} {xs : List α} {i : Int} {v : α} (h : atI xs i = some v) : ∃ j, seqIndex? i xs.length = some j ∧ xs[j]? = some v ∧ j < xs.length ∧ -(xs.length : Int) ≤ i ∧ i < xs.length := by
  unfold atI at h
  cases e : ixN xs.length i with
  | none => rw [e] at h; cases h
  | some j =>
    rw [e] at h
    obtain ⟨h1, h2, h3, h4⟩ := ixN_seq e
    exact ⟨j, h1, h, h2, h3, h4⟩
theorem atI_nat {α : Type} {xs : List α} {j : Nat} {v : α} (h : xs[j]? = some v) : atI xs (j : Int) = some v := by
  have hj : j < xs.length := (List.getElem?_eq_some_iff.mp h).1
  have e : ixN xs.length (j : Int) = some j := by
    unfold ixN
    rw [if_pos (by omega), if_pos (by omega)]; simp
  unfold atI; rw [e]; exact h
theorem atI_last {α : Type} (xs : List α) (v : α) : atI (xs ++ [v]) (-1) = some v := by
  have hl : (xs ++ [v]).length = xs.length + 1 := by simp
  have e : ixN (xs ++ [v]).length (-1) = some xs.length := by
    unfold ixN
    rw [hl, if_neg (by decide), if_pos (by omega)]
    congr 1
    omega
  unfold atI
  rw [e]
  show (xs ++ [v])[xs.length]? = some v
  simp

noncomputable def PlainIx (b : Expr) : Prop := ∀ o i, subscripted b false o i = operate [o, i] (getItem o i)
noncomputable def IxR (X : Cx) (r : R2) : Prop :=
  ∀ (value slice : Expr) (pins : List (Addr × Obj)) (s : Shared) (σ : St) (H : Hp) (x y : V) (v u : Value) (Q : VK), Inv X pins σ H s → RelV x v → RelV y u → r x y H Q →
    subscripted slice false v u = operate [v, u] (getItem v u) → wpAny (model X.prog X.w) X.A (subscriptTail value slice v u) (EP X pins σ Q) X.xe s
noncomputable def MtR (X : Cx) (id : String) (r : V → List V → Hp → VK → Prop) : Prop :=
  ∀ (pins : List (Addr × Obj)) (s : Shared) (σ : St) (H : Hp) (x : V) (xs : List V) (v : Value) (us : List Value) (Q : VK), Inv X pins σ H s → RelV x v → Vals xs us → r x xs H Q →
    wpAny (model X.prog X.w) X.A (call (.builtin id) (v :: us)) (EP X pins σ Q) X.xe s
section
variable {X : Cx} {a b : Expr} {ta tb : TE} {pos : Pos}
theorem pe_ix {r : R2} (hr : IxR X r) (ha : PE X a ta) (hb : PE X b tb) (hs : PlainIx b) : PE X (.Subscript a b pos) (tOp r ta tb) := by
  intro pins s σ H Q I h
  exact Subscript_ (binT ha hb I h fun v u s2 x y H2 I2 rx ry q => hr a b pins s2 σ H2 x y v u Q I2 rx ry q (hs _ _))

noncomputable def rIxL (K : PySem.W.Frag) : R2 := fun x y H Q => ∃ p xs i v, x = .ref p ∧ y = .int i ∧ SqL K H p xs ∧ atI xs i = some v ∧ Q v H
noncomputable def rIxT (K : PySem.W.Frag) : R2 := fun x y H Q => ∃ p xs i v, x = .ref p ∧ y = .int i ∧ SqT K H p xs ∧ atI xs i = some v ∧ Q v H
theorem ix_list : IxR X (rIxL X.K) := by
  intro value slice pins s σ H x y v u Q I rx ry h hs
  obtain ⟨p, xs, i, z, rfl, rfl, hq, he, q⟩ := h
  cases rx
  obtain ⟨t, rfl⟩ := ry
  obtain ⟨its, r, pl, hz⟩ := I.list hq
  obtain ⟨j, h1, h2, h3, h4, h5⟩ := atI_get he
  obtain ⟨w, ew, rw'⟩ := r.get h2
  have hl := r.length
  have hn := line63
  have fin : EP X pins σ Q w s := ⟨z, H, I, rw', q⟩
  by_cases h0 : 0 ≤ i
  · have hj : i.toNat = j := by
      rw [seqIndex_of h0 h5] at h1
      exact Option.some.inj h1
    exact item_listR pl.isList h0 (by omega) (by rw [hj]; simpa using ew) fin hs
  · have hj : (i + (its.toArray.size : Int)).toNat = j := by
      rw [seqIndex_neg (by omega) h4] at h1
      rw [List.size_toArray, ← hl]
      exact Option.some.inj h1
    exact subscriptTail_builtinR (x := w) pl.isList.typeIs slot_list_getitem.lookup
      (wpAny_getItem_list_neg (Q := fun r s' => r = w ∧ EP X pins σ Q r s') pl.isList (by omega) (by rw [List.size_toArray] <;> omega) (by omega) (by rw [hj]; simpa using ew) ⟨rfl, fin⟩) hs
theorem ix_tup : IxR X (rIxT X.K) := by
  intro value slice pins s σ H x y v u Q I rx ry h hs
  obtain ⟨p, xs, i, z, rfl, rfl, hq, he, q⟩ := h
  cases rx
  obtain ⟨t, rfl⟩ := ry
  obtain ⟨its, r, pl, hz⟩ := I.tuple hq
  obtain ⟨j, h1, h2, h3, h4, h5⟩ := atI_get he
  obtain ⟨w, ew, rw'⟩ := r.get h2
  have hl := r.length
  have hn := line63
  have fin : EP X pins σ Q w s := ⟨z, H, I, rw', q⟩
  exact subscriptTail_builtinR (x := w) pl.typeIs slot_tuple_getitem.lookup
    (getItem_tuple (j := j) (Q := fun r s' => r = w ∧ EP X pins σ Q r s') pl (by omega) (by omega) (by rw [List.size_toArray, ← hl]; exact h1) (by simpa using ew) ⟨rfl, fin⟩) hs
theorem mapSeq_set (its : List Value) (n j : Nat) (u : Value) : Obj.mapSeq (·.setIfInBounds j u) { cls := .type "list", data := .seq its.toArray n } = { cls := .type "list", data := .seq (its.set j u).toArray n } := by
  simp [Obj.mapSeq]
theorem Inv.lst {pins : List (Addr × Obj)} {σ : St} {H : Hp} {s : Shared} {p : Addr} {xs : List V} (I : Inv X pins σ H s) (h : H p = some (.lst xs)) :
    ∃ (its : List Value) (n : Nat), Vals xs its ∧ s.heap.get? p = some { cls := .type "list", data := .seq its.toArray n } ∧ xs.length ≤ sizeLine := by
  obtain ⟨z, its, n, r, e⟩ := I.hok p _ h
  exact ⟨its, n, r, e, z⟩
theorem Inv.lstUpd {pins : List (Addr × Obj)} {σ : St} {H : Hp} {s : Shared} {p : Addr} {xs ys : List V} {its its' : List Value} {n n' : Nat} {f : Obj → Obj} (I : Inv X pins σ H s) (h : H p = some (.lst xs))
    (ho : s.heap.get? p = some { cls := .type "list", data := .seq its.toArray n }) (hf : f { cls := .type "list", data := .seq its.toArray n } = { cls := .type "list", data := .seq its'.toArray n' }) (r : Vals ys its') (hz : ys.length ≤ sizeLine) (t : Nat) :
    Inv X pins σ (upd H p (.lst ys)) { s with heap := s.heap.update p f, toks := t } := by
  have e : (s.heap.update p f).get? p = some { cls := .type "list", data := .seq its'.toArray n' } := by
    rw [Heap.get?_update_self f ho (by rw [hf] <;> rfl), hf]
  refine I.write (x := p) (e := p) (by rw [h]; trivial) (.inl rfl) (fun b u hb q => (Heap.get?_update_other _ _ (Ne.symm hb)).trans q) ⟨_, e⟩ ?_
  exact ⟨hz, its', n', r, e⟩
noncomputable def rSetL : V → V → V → Hp → (Hp → Prop) → Prop := fun o i v H Q => ∃ p xs k j, o = .ref p ∧ i = .int k ∧ H p = some (.lst xs) ∧ ixN xs.length k = some j ∧ Q (upd H p (.lst (xs.set j v)))
theorem set_list : PSet X rSetL := by
  intro pins s σ H o i v ov iv u Q I ro ri rv h
  obtain ⟨p, xs, k, j, rfl, rfl, hp, hj, q⟩ := h
  cases ro
  obtain ⟨t, rfl⟩ := ri
  obtain ⟨its, n, r, ho, hz⟩ := I.lst hp
  obtain ⟨h1, h2, h3, h4⟩ := ixN_seq hj
  have hl := r.length
  have hn := line63
  have I' : Inv X pins σ (upd H p (.lst (xs.set j v))) { s with heap := s.heap.update p (Obj.mapSeq (·.setIfInBounds j u)) } :=
    I.lstUpd hp ho (mapSeq_set its n j u) (r.set rv j) (by rw [List.length_set]; exact hz) s.toks
  by_cases h0 : 0 ≤ k
  · have hk : k.toNat = j := by
      rw [seqIndex_of h0 h4] at h1
      exact Option.some.inj h1
    exact PySem.W.ki_setAt ho h0 (by omega) (by rw [List.size_toArray, ← hl]; exact h4) (by rw [hk]; exact ⟨_, I', q⟩)
  · have hk : (k + (its.toArray.size : Int)).toNat = j := by
      rw [seqIndex_neg (by omega) h3] at h1
      rw [List.size_toArray, ← hl]
      exact Option.some.inj h1
    exact PySem.W.ki_setBack ho (by omega) (by rw [List.size_toArray, ← hl]; exact h3) (by omega) (by rw [hk]; exact ⟨_, I', q⟩)

theorem slice_bounds (lo hi : Option Int) (n : Nat) : (sliceBounds lo hi none n).1 = ((HT.sIx n 0 lo : Nat) : Int) ∧ (sliceBounds lo hi none n).2.1 = ((HT.sIx n n hi : Nat) : Int) ∧ (sliceBounds lo hi none n).2.2 = 1 := by
  refine ⟨?_, ?_, rfl⟩
  · cases lo with
    | none => simp [sliceBounds, HT.sIx]
    | some i =>
      simp only [sliceBounds, HT.sIx, Option.getD_none, show (1 : Int) > 0 by decide, if_true]
      by_cases h : i < 0
      · simp only [h, if_true] <;> omega
      · simp only [h, if_false] <;> omega
  · cases hi with
    | none => simp [sliceBounds, HT.sIx]
    | some i =>
      simp only [sliceBounds, HT.sIx, Option.getD_none, show (1 : Int) > 0 by decide, if_true]
      by_cases h : i < 0
      · simp only [h, if_true] <;> omega
      · simp only [h, if_false] <;> omega
theorem slicePick_cut (its : List Value) (lo hi : Option Int) : slicePick its.toArray lo hi none = ((its.drop (HT.sIx its.length 0 lo)).take (HT.sIx its.length its.length hi - HT.sIx its.length 0 lo)).toArray := by
  obtain ⟨h1, h2, h3⟩ := slice_bounds lo hi its.toArray.size
  unfold slicePick
  rw [h1, h2, h3]
  simp only [sliceRange_one, pick_run, List.size_toArray] <;> rfl
noncomputable def rSlL (K : PySem.W.Frag) : V → Option Int → Option Int → Hp → VK → Prop := fun x lo hi H Q => ∃ a xs, x = .ref a ∧ SqL K H a xs ∧ ∀ p, H p = none → Q (.ref p) (upd H p (.lst (cutV xs lo hi)))
theorem sl_list : SlR X (rSlL X.K) := by
  intro pins s σ H x v vl vu lo hi sl Q I rx hs pl pu h
  obtain ⟨a, xs, rfl, hx, q⟩ := h
  cases rx
  obtain ⟨its, r, ht, hz⟩ := I.list hx
  have hlen := r.length
  refine ⟨"list", _, slot_list_getitem.lookup, ht.isList.typeIs, ?_⟩
  refine wpAny_getItem_list_slice ht.isList hs pl pu .none (by simp) ?_ (by rw [List.size_toArray] <;> omega)
  rw [slicePick_cut, ← hlen]
  refine ⟨.ref s.heap.objs.size, _, I.laid (t' := s.toks) (o := .lst (cutV xs lo hi)) (fun b ob q => Heap.get?_push_of_some _ q) (Nat.le_refl _) ?_, rfl, q _ (I.hok.fresh (Nat.le_refl _))⟩
  exact ⟨Nat.le_trans (cutV_length xs lo hi) hz, _, 0, (r.drop (HT.sIx xs.length 0 lo)).take (HT.sIx xs.length xs.length hi - HT.sIx xs.length 0 lo), Heap.get?_push_size _ rfl⟩

noncomputable def flatV : V → Bool
  | .non => true
  | .bl _ => true
  | .int _ => true
  | .str _ => true
  | _ => false
noncomputable def eqV : V → V → Bool
  | .non, .non => true
  | .bl a, .bl b => a == b
  | .bl a, .int b => (if a then 1 else 0) == b
  | .int a, .bl b => a == (if b then 1 else 0)
  | .int a, .int b => a == b
  | .str a, .str b => a == b
  | _, _ => false
theorem eqAt_V {A : Around} {s : Shared} {y x : V} {u v : Value} (ry : RelV y u) (rx : RelV x v) (fy : flatV y = true) (fx : flatV x = true) : SeqAt.EqAt A s u v (eqV y x) := by
  cases y with
  | non =>
    cases ry
    cases x with
    | non => cases rx; exact SeqAt.EqAt.same _
    | bl b => cases rx; exact SeqAt.EqAt.none_bool b
    | int b => obtain ⟨t, rfl⟩ := rx; exact SeqAt.EqAt.none_int b t
    | str b => obtain ⟨t, rfl⟩ := rx; exact SeqAt.EqAt.none_str b t
    | _ => exact absurd (show false = true from fx) Bool.false_ne_true
  | bl a =>
    cases ry
    cases x with
    | non => cases rx; exact SeqAt.EqAt.bool_none a
    | bl b => cases rx; exact SeqAt.EqAt.bool_bool a b
    | int b => obtain ⟨t, rfl⟩ := rx; exact SeqAt.EqAt.bool_int a b t
    | str b => obtain ⟨t, rfl⟩ := rx; exact SeqAt.EqAt.bool_str a b t
    | _ => exact absurd (show false = true from fx) Bool.false_ne_true
  | int a =>
    obtain ⟨t', rfl⟩ := ry
    cases x with
    | non => cases rx; exact SeqAt.EqAt.int_none a t'
    | bl b => cases rx; exact SeqAt.EqAt.int_bool a t' b
    | int b => obtain ⟨t, rfl⟩ := rx; exact SeqAt.EqAt.int_int a t' b t
    | str b => obtain ⟨t, rfl⟩ := rx; exact SeqAt.EqAt.int_str a t' b t
    | _ => exact absurd (show false = true from fx) Bool.false_ne_true
  | str a =>
    obtain ⟨t', rfl⟩ := ry
    cases x with
    | non => cases rx; exact SeqAt.EqAt.str_none a t'
    | bl b => cases rx; exact SeqAt.EqAt.str_bool a t' b
    | int b => obtain ⟨t, rfl⟩ := rx; exact SeqAt.EqAt.str_int a t' b t
    | str b => obtain ⟨t, rfl⟩ := rx; exact SeqAt.EqAt.str_str a t' b t
    | _ => exact absurd (show false = true from fx) Bool.false_ne_true
  | _ => exact absurd (show false = true from fy) Bool.false_ne_true
theorem call_len_seq : CallR X (.builtin "len") (fun xs H Q => ∃ p ys, xs = [.ref p] ∧ (SqL X.K H p ys ∨ SqT X.K H p ys) ∧ Q (.int ys.length) H) := by
  intro pins s σ H xs us Q I r h
  obtain ⟨p, ys, rfl, hq, q⟩ := h
  obtain ⟨u, rfl, rx⟩ := vals1 r
  cases rx
  have hn := line63
  rcases hq with hq | hq
  · obtain ⟨its, r', pl, hz⟩ := I.list hq
    have hlen := r'.length
    exact Calls.call_len_list pl.isList (by simp only [List.size_toArray] <;> omega) ⟨.int ys.length, H, I.tok _, ⟨s.toks + 1, by rw [List.size_toArray, hlen]⟩, q⟩
  · obtain ⟨its, r', pl, hz⟩ := I.tuple hq
    have hlen := r'.length
    exact len_tuple pl (by simp only [List.size_toArray] <;> omega) ⟨.int ys.length, H, I.tok _, ⟨s.toks + 1, by rw [List.size_toArray, hlen]⟩, q⟩
theorem call_list_of : CallR X (.type "list") (fun xs H Q => ∃ p ys, xs = [.ref p] ∧ (SqL X.K H p ys ∨ SqT X.K H p ys) ∧ ∀ l, H l = none → Q (.ref l) (upd H l (.lst ys))) := by
  intro pins s σ H xs us Q I r h
  obtain ⟨p, ys, rfl, hq, q⟩ := h
  obtain ⟨u, rfl, rx⟩ := vals1 r
  cases rx
  have fin : ∀ (its : List Value), Vals ys its → ys.length ≤ sizeLine → ∀ (h' : Heap) (c' : Nat), (∀ b o', s.heap.get? b = some o' → h'.get? b = some o') →
      h'.get? s.heap.objs.size = some { cls := .type "list", dict := none, data := .seq its.toArray c', slots := #[] } → EP X pins σ Q (.ref s.heap.objs.size) { s with heap := h' } := fun its r' hz h' c' kp e =>
    ⟨.ref s.heap.objs.size, _, I.laid (t' := s.toks) kp (Nat.le_refl _) (show ObjOk X.prog X.w _ h' _ (.lst ys) from ⟨hz, its, c', r', e⟩), rfl, q _ (I.hok.fresh (Nat.le_refl _))⟩
  rcases hq with hq | hq
  · obtain ⟨its, r', pl, hz⟩ := I.list hq
    have hlen := r'.length
    obtain ⟨o, ho, hc, n, hd⟩ := pl.isList
    exact call_list_seq p (.inl rfl) ho hc hd (fun h' c' kp e => fin its r' hz h' c' kp e) (by simp only [List.size_toArray] <;> omega)
  · obtain ⟨its, r', pl, hz⟩ := I.tuple hq
    have hlen := r'.length
    obtain ⟨o, ho, hc, n, hd⟩ := pl
    exact call_list_seq p (.inr rfl) ho hc hd (fun h' c' kp e => fin its r' hz h' c' kp e) (by simp only [List.size_toArray] <;> omega)
theorem call_tuple_of : CallR X (.type "tuple") (fun xs H Q => ∃ p ys, xs = [.ref p] ∧ ((SqL X.K H p ys ∧ ∀ l, H l = none → Q (.ref l) (upd H l (.tup ys))) ∨ (SqT X.K H p ys ∧ Q (.ref p) H))) := by
  intro pins s σ H xs us Q I r h
  obtain ⟨p, ys, rfl, h⟩ := h
  obtain ⟨u, rfl, rx⟩ := vals1 r
  cases rx
  rcases h with ⟨hq, q⟩ | ⟨hq, q⟩
  · obtain ⟨its, r', pl, hz⟩ := I.list hq
    have hlen := r'.length
    refine call_tuple_list pl.isList (fun h' kp => ?_) (by simp only [List.size_toArray] <;> omega)
    have I1 : Inv X pins σ H { s with heap := h' } := I.kept (t' := s.toks) kp
    have I2 : Inv X pins σ (upd H h'.objs.size (.tup ys)) { s with heap := h'.push { cls := .type "tuple", data := .seq its.toArray } } :=
      I1.laid (t' := s.toks) (fun b o e => Heap.get?_push_of_some _ e) (Nat.le_refl _) (show ObjOk X.prog X.w _ _ _ (.tup ys) from ⟨hz, its, r', IsTupN.new _ _⟩)
    exact ⟨.ref h'.objs.size, _, I2, rfl, q _ (I1.hok.fresh (Nat.le_refl _))⟩
  · obtain ⟨its, r', pl, hz⟩ := I.tuple hq
    exact call_tuple_same pl ⟨.ref p, H, I, rfl, q⟩

noncomputable def tyV (K : PySem.W.Frag) (T : String) (x : V) (H : Hp) : Prop := match x with
  | .str _ => T = "str"
  | .int _ => T = "int"
  | .ref p => (T = "list" ∧ ∃ xs, SqL K H p xs) ∨ (T = "tuple" ∧ ∃ o, K.lookup p = some o ∧ o.cls = .type "tuple" ∧ o.dict = none) ∨
      (T = "dict" ∧ ((∃ kvs, H p = some (.dK kvs)) ∨ ∃ kvs, H p = some (.dT kvs))) ∨ (T = "set" ∧ ∃ S n, H p = some (.set S n))
  | _ => False
theorem tyV_is {pins : List (Addr × Obj)} {σ : St} {H : Hp} {s : Shared} {T : String} {x : V} {v : Value} (I : Inv X pins σ H s) (r : RelV x v) (ty : tyV X.K T x H) :
    s.TypeIs v T ∧ ∀ a, v = .ref a → ∃ ob, s.heap.get? a = some ob ∧ ob.dict = none := by
  cases x with
  | str z =>
    obtain ⟨t, rfl⟩ := r
    cases (show T = "str" from ty)
    exact ⟨typeIs_str s z t, fun _ e => nomatch e⟩
  | int i =>
    obtain ⟨t, rfl⟩ := r
    cases (show T = "int" from ty)
    exact ⟨typeIs_int s i t, fun _ e => nomatch e⟩
  | ref p =>
    cases r
    rcases ty with ⟨rfl, xs, hq⟩ | ⟨rfl, o, hk, hc, hd⟩ | ⟨rfl, hk⟩ | ⟨rfl, S, n, hk⟩
    · obtain ⟨its, _, pl, _⟩ := I.list hq
      refine ⟨pl.isList.typeIs, fun a e => ?_⟩
      cases e
      obtain ⟨o, n, e, c, hd, _⟩ := pl
      exact ⟨o, e, hd⟩
    · refine ⟨⟨o, I.kIn p o hk, hc⟩, fun a e => ?_⟩
      cases e
      exact ⟨o, I.kIn _ o hk, hd⟩
    · have z : ∃ o, s.heap.get? p = some o ∧ o.ExactDict := by
        rcases hk with ⟨kvs, hk⟩ | ⟨kvs, hk⟩
        · obtain ⟨_, _, _, _, o, _, _, e, ex, _⟩ := I.hok p _ hk
          exact ⟨o, e, ex⟩
        · obtain ⟨_, _, _, _, o, _, _, e, ex, _⟩ := I.hok p _ hk
          exact ⟨o, e, ex⟩
      obtain ⟨o, e, ex⟩ := z
      refine ⟨⟨o, e, ex.1⟩, fun a e2 => ?_⟩
      cases e2
      exact ⟨o, e, ex.2.1⟩
    · obtain ⟨o, _, _, _, e, ex, _⟩ := I.hok p _ hk
      refine ⟨⟨o, e, ex.1⟩, fun a e2 => ?_⟩
      cases e2
      exact ⟨o, e, ex.2.1⟩
  | _ => exact False.elim ty
noncomputable def tBM0 (K : PySem.W.Frag) (T : String) (r : V → List V → Hp → VK → Prop) (to : TE) : TE := fun σ H Q => to σ H fun x H1 => tyV K T x H1 ∧ r x [] H1 Q
noncomputable def tBM (K : PySem.W.Frag) (T : String) (r : V → List V → Hp → VK → Prop) (to : TE) (t : TA) : TE := fun σ H Q => to σ H fun x H1 => tyV K T x H1 ∧ t σ H1 fun xs H2 => r x xs H2 Q
variable {o e : Expr} {es : List Expr} {to : TE} {t : TA} {name : Str} {apos cpos : Pos} {T id : String} {r : V → List V → Hp → VK → Prop}
theorem pe_bm0 (pa : PlainAttrs T) (slot : Slot T name id) (hty : typeOf (.builtin id) = pure (.type "method_descriptor")) (hm : MtR X id r) (ho : PE X o to)
    (hbase : attributeBase o name X.env (eval o X.env) = eval o X.env := by rfl) (hline : (apos.endLine == cpos.line) = true := by rfl) : PE X (.Call (.Attribute o name apos) [] [] cpos) (tBM0 X.K T r to) := by
  intro pins s σ H Q I h
  refine wpAny_Call_method0_late hbase hline (thn (ho pins s σ H _ I h) fun v s1 ⟨x, H1, I1, r1, ty, q1⟩ => ?_)
  obtain ⟨h1, h2⟩ := tyV_is I1 r1 ty
  exact ⟨T, id, pa, slot, hty, h1, h2, Calls.callWith_builtin rfl (PySem.evalArgs_none (hm pins s1 σ H1 x [] v [] Q I1 r1 .nil q1))⟩
theorem pe_bm (pa : PlainAttrs T) (slot : Slot T name id) (hty : typeOf (.builtin id) = pure (.type "method_descriptor")) (hm : MtR X id r) (ho : PE X o to) (ha : PA X (e :: es) t)
    (hbase : attributeBase o name X.env (eval o X.env) = eval o X.env := by rfl)
    (hfew : ((backTo cpos (starEach (e :: es) X.env)).all (fun x => !x.1) && (backToKw cpos (keywordEach [] X.env)).all (fun x => x.1.isSome)
      && decide ((e :: es).length + ([] : List Keyword).length + (if ([] : List Keyword).isEmpty then 0 else 1) < 30)) = true := by rfl)
    (hline : (apos.endLine == cpos.line) = true := by rfl) (hs : starEach (e :: es) X.env = (false, eval e X.env) :: starEach es X.env := by rfl) (hplain : (backTo cpos (starEach es X.env)).any (·.1) = false := by rfl) :
    PE X (.Call (.Attribute o name apos) (e :: es) [] cpos) (tBM X.K T r to t) := by
  intro pins s σ H Q I h
  refine wpAny_Call_method_late hbase hfew hline rfl (thn (ho pins s σ H _ I h) fun v s1 ⟨x, H1, I1, r1, ty, q1⟩ => ?_)
  obtain ⟨h1, h2⟩ := tyV_is I1 r1 ty
  refine ⟨T, id, pa, slot, hty, h1, h2, ?_⟩
  have hA := ha cpos pins s1 σ H1 _ I1 q1
  rw [hs] at hA ⊢
  refine Calls.callWith_builtin (by show (false || (backTo cpos (starEach es X.env)).any (·.1)) = false; rw [hplain] <;> rfl) (Calls.evalArgs_plain ?_)
  exact thn hA fun us s2 ⟨vs, H2, I2, r2, q2⟩ => hm pins s2 σ H2 x vs v us Q I2 r1 r2 q2
end
end L2

namespace L2
open PySem PySem.Spec PyProof.Rows

noncomputable def MtM (X : Cx) (id : String) (r : V → List V → Hp → VK → Prop) : Prop :=
  ∀ (pins : List (Addr × Obj)) (s : Shared) (σ : St) (H : Hp) (x : V) (xs : List V) (v : Value) (us : List Value) (Q : VK), Inv X pins σ H s → RelV x v → Vals xs us → r x xs H Q →
    wpAny (model X.prog X.w) X.A (call (.builtin id) (v :: us)) (EP X pins σ Q) X.xe s

theorem Vals.one : ∀ {x : V} {us : List Value}, Vals [x] us → ∃ u, us = [u] ∧ RelV x u
  | _, _, .cons r .nil => ⟨_, rfl, r⟩
theorem Vals.two : ∀ {x y : V} {us : List Value}, Vals [x, y] us → ∃ u v, us = [u, v] ∧ RelV x u ∧ RelV y v
  | _, _, _, .cons r (.cons q .nil) => ⟨_, _, rfl, r, q⟩
theorem Vals.zero : ∀ {us : List Value}, Vals [] us → us = []
  | _, .nil => rfl
theorem Vals.eraseIdx : ∀ {xs : List V} {us : List Value} (i : Nat), Vals xs us → Vals (xs.eraseIdx i) (us.eraseIdx i)
  | _, _, _, .nil => .nil
  | _, _, 0, .cons _ t => t
  | _, _, i + 1, .cons r t => .cons r (Vals.eraseIdx i t)
theorem Vals.reverse {xs : List V} {us : List Value} (h : Vals xs us) : Vals xs.reverse us.reverse := by
  induction h with
  | nil => exact .nil
  | cons r t ih => rw [List.reverse_cons, List.reverse_cons]; exact Vals.append ih (.cons r .nil)
theorem len_erase {α : Type} : ∀ (l : List α) (i : Nat), (l.eraseIdx i).length ≤ l.length
  | [], _ => Nat.le_refl _
  | _ :: _, 0 => Nat.le_succ _
  | _ :: r, i + 1 => Nat.succ_le_succ (len_erase r i)
section
variable {X : Cx} {pins : List (Addr × Obj)} {σ : St} {H : Hp} {s : Shared} {l b : Addr} {xs ys zs : List V}

theorem Inv.lset {its its' : List Value} {n : Nat} {f : Array Value → Array Value} {t' : Nat} (I : Inv X pins σ H s) (hH : H l = some (.lst xs))
    (e : s.heap.get? l = some { cls := .type "list", data := .seq its.toArray n }) (hf : f its.toArray = its'.toArray) (hv : Vals ys its') (hz : ys.length ≤ sizeLine) :
    Inv X pins σ (upd H l (.lst ys)) { s with heap := s.heap.update l (Obj.mapSeq f), toks := t' } := by
  have q := PySem.IsL.update e f
  rw [hf] at q
  refine I.write (x := l) (e := l) (by rw [hH]; exact trivial) (.inl rfl) (fun b' u hb hu => (Heap.get?_update_other s.heap (Obj.mapSeq f) (Ne.symm hb)).trans hu) ⟨_, q⟩ ?_
  exact ⟨hz, its', _, hv, q⟩
theorem Inv.lnew {its : List Value} {t' : Nat} (I : Inv X pins σ H s) (hv : Vals ys its) (hz : ys.length ≤ sizeLine) :
    Inv X pins σ (upd H s.heap.objs.size (.lst ys)) { s with heap := s.heap.push { cls := .type "list", data := .seq its.toArray }, toks := t' } :=
  I.laid (fun _ _ q => Heap.get?_push_of_some _ q) (Nat.le_refl _) ⟨hz, its, 0, hv, Heap.get?_push_size _ rfl⟩
theorem Inv.fresh (I : Inv X pins σ H s) : H s.heap.objs.size = none := I.hok.fresh (Nat.le_refl _)
theorem Inv.lstM (I : Inv X pins σ H s) (hH : H l = some (.lst xs)) : xs.length ≤ sizeLine ∧ ∃ (its : List Value) (n : Nat), Vals xs its ∧ xs.length = its.length ∧ s.heap.get? l = some { cls := .type "list", data := .seq its.toArray n } := by
  obtain ⟨z, its, n, r, e⟩ := I.hok l _ hH
  exact ⟨z, its, n, r, r.length, e⟩

theorem notLongL {n : Nat} (h : n ≤ sizeLine) : Builtin.List.listTooLong n = false := by
  unfold Builtin.List.listTooLong
  exact decide_eq_false (by omega)
end

section
variable {X : Cx}

noncomputable def rAppend : V → List V → Hp → VK → Prop := fun x vs H Q => ∃ l xs y, x = .ref l ∧ vs = [y] ∧ H l = some (.lst xs) ∧ xs.length < sizeLine ∧ Q .non (upd H l (.lst (xs ++ [y])))
theorem mt_append : MtM X "list.append" rAppend := by
  intro pins s σ H x vs v us Q I rx rv h
  obtain ⟨l, xs, y, rfl, rfl, hH, hz, q⟩ := h
  cases rx
  obtain ⟨u, rfl, ru⟩ := rv.one
  obtain ⟨z, its, n, r, hl, e⟩ := I.lstM hH
  refine call_meets F.slot_list_append ⟨_, e, rfl⟩ F.entry_list_append (F.args_list_append_2 _ _) (PySem.list_append l its.toArray n u (by rw [List.size_toArray]; omega)) ⟨e, ?_⟩
  refine ⟨.non, _, I.lset (its' := its ++ [u]) hH e (by simp) (r.append (.cons ru .nil)) ?_, rfl, q⟩
  rw [List.length_append, List.length_singleton]
  omega

noncomputable def rExtend : V → List V → Hp → VK → Prop := fun x vs H Q => ∃ l b xs zs, x = .ref l ∧ vs = [.ref b] ∧ H l = some (.lst xs) ∧ H b = some (.lst zs) ∧ xs.length + zs.length ≤ sizeLine ∧ Q .non (upd H l (.lst (xs ++ zs)))
theorem mt_extend : MtM X "list.extend" rExtend := by
  intro pins s σ H x vs v us Q I rx rv h
  obtain ⟨l, b, xs, zs, rfl, rfl, hH, hB, hz, q⟩ := h
  cases rx
  obtain ⟨u, rfl, ru⟩ := rv.one
  cases ru
  obtain ⟨z, its, n, r, hl, e⟩ := I.lstM hH
  obtain ⟨z2, its2, n2, r2, hl2, e2⟩ := I.lstM hB
  have hsz : its.toArray.size + its2.toArray.size ≤ sizeLine := by rw [List.size_toArray, List.size_toArray]; omega
  have hlong : ¬ (!its.toArray.isEmpty && Builtin.List.listTooLong (its.toArray.size + its2.toArray.size)) = true := by
    rw [notLongL hsz, Bool.and_false]
    exact Bool.false_ne_true
  refine call_meets F.slot_list_extend ⟨_, e, rfl⟩ F.entry_list_extend (F.args_list_extend_2 _ _)
    (AutoSeq1.list_extend_list_list_0 l its.toArray n b its2.toArray n2 hlong (by rw [List.size_toArray]; omega) (by omega)) ⟨e, e2, ?_⟩
  refine ⟨.non, _, I.lset (its' := its ++ its2) hH e (by simp) (r.append r2) ?_, rfl, q⟩
  rw [List.length_append]
  omega

noncomputable def rPopAt : V → List V → Hp → VK → Prop := fun x vs H Q => ∃ l xs i k y, x = .ref l ∧ vs = [.int i] ∧ H l = some (.lst xs) ∧ -(2 ^ 63) ≤ i ∧ i < 2 ^ 63 ∧ seqIndex? i xs.length = some k ∧ xs[k]? = some y ∧ Q y (upd H l (.lst (xs.eraseIdx k)))
theorem mt_popAt : MtM X "list.pop" rPopAt := by
  intro pins s σ H x vs v us Q I rx rv h
  obtain ⟨l, xs, i, k, y, rfl, rfl, hH, h1, h2, hk, hy, q⟩ := h
  cases rx
  obtain ⟨u, rfl, ru⟩ := rv.one
  obtain ⟨t, rfl⟩ := ru
  obtain ⟨z, its, n, r, hl, e⟩ := I.lstM hH
  obtain ⟨w, hw, rw'⟩ := r.get hy
  refine call_meets F.slot_list_pop ⟨_, e, rfl⟩ F.entry_list_pop (F.args_list_pop_2 _ _)
    (MeetsSeq.list_pop_at l its.toArray n i t k w (fitsIndex_both h1 h2) (by rw [List.size_toArray, ← hl]; exact hk) (by rw [← Array.getElem?_toList]; exact hw) (by rw [List.size_toArray]; omega)) ⟨e, ?_⟩
  refine ⟨y, _, I.lset (its' := its.eraseIdx k) hH e ?_ (r.eraseIdx k) ?_, rw', q⟩
  · show its.toArray.eraseIdxIfInBounds k = (its.eraseIdx k).toArray
    rw [List.eraseIdxIfInBounds_toArray]
  · have := len_erase xs k
    omega

noncomputable def rReverse : V → List V → Hp → VK → Prop := fun x vs H Q => ∃ l xs, x = .ref l ∧ vs = [] ∧ H l = some (.lst xs) ∧ Q .non (upd H l (.lst xs.reverse))
theorem mt_reverse : MtM X "list.reverse" rReverse := by
  intro pins s σ H x vs v us Q I rx rv h
  obtain ⟨l, xs, rfl, rfl, hH, q⟩ := h
  cases rx
  have hus := rv.zero
  subst hus
  obtain ⟨z, its, n, r, hl, e⟩ := I.lstM hH
  refine call_meets F.slot_list_reverse ⟨_, e, rfl⟩ F.entry_list_reverse (F.args_list_reverse_1 _) (AutoSeq1.list_reverse_list_0 l its.toArray n (by rw [List.size_toArray]; omega)) ⟨e, ?_⟩
  refine ⟨.non, _, I.lset (its' := its.reverse) hH e (by simp) r.reverse ?_, rfl, q⟩
  rw [List.length_reverse]
  omega

noncomputable def rCat : R2 := fun x y H Q => ∃ l b xs zs, x = .ref l ∧ y = .ref b ∧ H l = some (.lst xs) ∧ H b = some (.lst zs) ∧ xs.length + zs.length ≤ sizeLine ∧ ∀ p, H p = none → Q (.ref p) (upd H p (.lst (xs ++ zs)))
theorem op_cat : OpR X (binaryOp .Add) rCat := by
  intro pins s σ H x y v u Q I rx ry h
  obtain ⟨l, b, xs, zs, rfl, rfl, hH, hB, hz, q⟩ := h
  cases rx
  cases ry
  obtain ⟨z, its, n, r, hl, e⟩ := I.lstM hH
  obtain ⟨z2, its2, n2, r2, hl2, e2⟩ := I.lstM hB
  refine PySem.P.add_list e e2 ?_ (by rw [List.size_toArray, List.size_toArray]; omega)
  have ea : its.toArray ++ its2.toArray = (its ++ its2).toArray := by simp
  rw [ea]
  exact ⟨.ref _, _, I.lnew (t' := s.toks) (r.append r2) (by rw [List.length_append]; omega), rfl, q _ I.fresh⟩
end

section
variable {prog : Program} {w : World} {A : Around} {E : Value → Shared → Prop} {s : Shared}
set_option maxRecDepth 100000 in
end

section
variable {X : Cx}
end
end L2

namespace L2
open PySem PySem.Spec PyProof.Rows

section
variable {κ : Type} [DecidableEq κ]
end


section
variable {P : Program} {w : World} {H : Hp} {h : Heap} {a : Addr}
end

section
variable {X : Cx} {pins : List (Addr × Obj)} {σ : St} {H : Hp} {s : Shared} {a : Addr} {y v : V} {u r : Value} {o : Option V} {A : Around} {E : Value → Shared → Prop}

end

section
variable {X : Cx} {pins : List (Addr × Obj)} {σ : St} {H : Hp} {s : Shared} {a : Addr} {kvs : List (Key × V)} {k : Key} {u : Value} {A : Around} {E : Value → Shared → Prop}
end


section
variable {X : Cx} {o i e value : Expr} {pos pos' tpos : Pos} {td ty tv : TE}
end


section
variable {X : Cx} {pos : Pos}
end

section
variable {X : Cx} {pins : List (Addr × Obj)} {σ : St} {H : Hp} {s : Shared} {a : Addr} {y d : V} {u r : Value} {o : Option V} {A : Around} {E : Value → Shared → Prop}
end

section
variable {X : Cx} {o e f : Expr} {apos cpos : Pos} {td ty tx : TE}
end

section
variable {X : Cx} {pins : List (Addr × Obj)} {σ : St} {H : Hp} {s : Shared} {a : Addr} {kvs : List (Key × V)} {A : Around} {E : Value → Shared → Prop}
end


section
variable {X : Cx} {pins : List (Addr × Obj)} {σ : St} {H : Hp} {s : Shared} {a : Addr} {y : V} {u : Value} {A : Around} {E : Value → Shared → Prop}
end
end L2

namespace Att
open PySem PySem.W PySem.Calls PyProof.Rows

theorem ints_of_wellAll {P : Params} {h : Heap} : ∀ (ns : List Int) (vs : List Value), WellAll P h vs (ns.map WData.int) → IntsAre vs ns := by
  intro ns
  induction ns with
  | nil =>
    intro vs w
    rw [List.map_nil] at w
    cases w
    exact .nil
  | cons n ns ih =>
    intro vs w
    rw [List.map_cons] at w
    cases w with
    | cons a b =>
      cases a
      exact .cons _ _ (ih _ b)

theorem script_of {l : OpenLaw} {n : Nat} (hn : l.most = some n) {P : Params} {h : Heap} {args : List WData} {vals : List Value}
    (hpre : l.row.toRowW.claim.pre args = true) (hwl : WellAll P h vals args) :
    ∃ a vs ns, vals = [Value.ref a] ∧ args = [WData.list (ns.map WData.int)] ∧ h.get? a = some { cls := .type "list", data := .seq vs.toArray } ∧ IntsAre vs ns ∧ ns.length ≤ n := by
  have hsh : WShape.hasAll [] args [.list .int] = true := (pre_splitW hpre).1
  have hc : l.pre.holds [] { args := args } = true := (pre_splitW hpre).2
  obtain ⟨d, r, rfl, h1, h2⟩ := hasAllW_cons hsh
  obtain rfl := hasAllW_nil h2
  obtain ⟨xs, rfl, h3⟩ := hasW_list h1
  obtain ⟨ns, rfl⟩ := items_int h3
  have hlen : ns.length ≤ n := by
    unfold OpenLaw.pre at hc
    have h4 : (WTm.not (.lt (.lit (.int (n : Int))) (.len (.arg 0)))).holds [] { args := [.list (ns.map .int)] } = true := by
      have h4 := (holds_andW hc).1
      rw [hn] at h4
      exact h4
    have h5 := condW_of h4 (w_not (w_lt w_lit (w_len_list (w_arg rfl))))
    rw [List.length_map] at h5
    refine Nat.le_of_not_lt fun q => ?_
    have q' : (n : Int) < ((ns.length : Nat) : Int) := by omega
    first
      | (rw [decide_eq_true q'] at h5; exact absurd h5 (by decide))
      | (simp at h5; omega)
  cases hwl with
  | cons w1 w2 =>
    cases w2
    cases w1 with
    | list ho hall => exact ⟨_, _, ns, rfl, rfl, ho, ints_of_wellAll ns _ hall, hlen⟩

theorem post_true (l : OpenLaw) (args : List WData) : l.row.toRowW.claim.post args (.bool true) args = true :=
  postW_of (r := l.row.toRowW) (X := (true == true))
    (show WShape.has [] (.bool true) .bool = true by first | rfl | decide | simp [WShape.has, WShape.arms, WShape.armsAll])
    (show (WTm.eq .res (.lit (.bool true))).value [] { args := args, res := some (.bool true), after := args } = some (.bool (true == true)) from w_eq_bool (w_res rfl) w_lit) rfl

theorem attach_call {l : OpenLaw} {n : Nat} {q : Program} {loose : List Str} {XP : (Str → Option Value) → Heap → Prop} {YP : World → Heap → Prop} {d : DefRec}
    (hn : l.most = some n) (hdf : d.params.defaults = [])
    (call : ∀ (w : World) (s₀ s₁ : Shared) (mg mb : Str → Option Value) (fa : Addr) (o : Obj) (pm cd doc : Value) (a : Addr) (vs : List Value) (ns : List Int),
      Ground q loose [] XP w s₀ mg mb s₁.heap → YP w s₁.heap →
      s₁.heap.get? fa = some o → o.data = .func (docDef d.name d.params d.body d.scope pm cd doc) → s₁.heap.CodeRec cd d.name → mg d.name = some (.ref fa) →
      s₁.heap.get? a = some { cls := .type "list", data := .seq vs.toArray } → IntsAre vs ns → ns.length ≤ n → s₁.gens = #[] →
      codeAny (model l.prog w) callerA (.call (.ref fa) ⟨[.ref a], []⟩) (fun r s' => r = .ok (.ret (.bool true)) ∧ OldK s₁.heap s'.heap ∧ s'.os = s₁.os ∧ AllBare s'.gens) s₁) :
    WalkO q loose XP YP l.row.toRowW d [] (fun f vs => PySem.call f vs) := by
  intro w s₀ s₁ mg mb G Y fa o pm cd doc dV kV ho hd hcd hD hmg hg args vals as hpre hlay hrd hwl hlo
  obtain rfl : dV = .none := Dflts.none hD hdf
  obtain rfl : kV = .none := Dflts.noKw hD
  obtain ⟨a, vs, ns, rfl, rfl, hobj, hints, hlen⟩ := script_of hn hpre hwl
  refine enter_call (codeAny_mono (call w s₀ s₁ mg mb fa o pm cd doc a vs ns G Y ho (fd_plain hd) hcd hmg hobj hints hlen hg) fun r s' hq => ?_)
  obtain ⟨rfl, h2, h3, h4⟩ := hq
  exact ⟨.inl ⟨.bool true, .bool true, [], rfl, fun _ => rfl, .bool true, post_true l _, fun _ => ⟨List.Pairwise.nil, fun _ hm => (nomatch hm)⟩⟩, h2, h3, h4⟩

section
variable {prog : Program} {w : World} {A : Around} {E : Value → Shared → Prop} {s : Shared} {K : Frag}

end
end Att

namespace L2
open PySem PySem.Spec PyProof.Rows

theorem vals_ints : ∀ {vs : List Value} {ns : List Int}, IntsAre vs ns → Vals (ns.map V.int) vs
  | _, _, .nil => .nil
  | _, _, .cons n t h => .cons ⟨t, rfl⟩ (vals_ints h)

noncomputable def Only (H : Hp) : Prop := ∀ b, H b = none ∨ ∃ o xs, H b = some (.frz o (.lst xs))

theorem law_call {P : Program} {w : World} {K : PySem.W.Frag} {mg mb : Str → Option Value} {CX : CXT} {k : Nat} {fa a : Addr} {fd : FuncData} {x : Str} {sp : Sp} {s₁ : Shared} {vs : List Value} {ns : List Int}
    (KX : K.In s₁.heap) (hns : s₁.heap.Ns mainGlobals mg) (hb : s₁.heap.Ns builtinsNs mb) (hbb : ∀ x : Str, x ≠ "__name__" → mb x = bootBuiltins x) (hlim : s₁.heap.NoLimit) (hg : s₁.gens = #[])
    (ha : s₁.heap.get? a = some { cls := .type "list", data := .seq vs.toArray }) (hi : IntsAre vs ns) (hl : ns.length ≤ sizeLine) (hr : Room k callerA)
    (F : ∀ base : Heap, K.In base → base.Ns mainGlobals mg → FnOk P w K mg base CX k fa fd [x] sp) (hbind : ∀ (s : Shared) (u : Value), BindsTo s fd ⟨[u], []⟩ [(x, u)])
    (hsp : ∀ H : Hp, Only H → SqL K H a (ns.map V.int) → sp [.ref a] H (fun v _ => v = .bl true) fun _ _ _ => False)
    (hCX : ∀ H e s', CX [] H s₁ (fun _ _ _ => False) e s' → False) :
    codeAny (model P w) callerA (.call (.ref fa) ⟨[.ref a], []⟩) (fun r s' => r = .ok (.ret (.bool true)) ∧ OldK s₁.heap s'.heap ∧ s'.os = s₁.os ∧ AllBare s'.gens) s₁ := by
  have rv := vals_ints hi
  have lenV := hi.length
  -- from an abstract heap in which nothing but the script may be tracked
  have core : ∀ H : Hp, Only H → SqL K H a (ns.map V.int) → HOk P w H s₁.heap → (∀ b, H b ≠ none → b = a) → (H a ≠ none → K.lookup a = none) →
      codeAny (model P w) callerA (.call (.ref fa) ⟨[.ref a], []⟩) (fun r s' => r = .ok (.ret (.bool true)) ∧ OldK s₁.heap s'.heap ∧ s'.os = s₁.os ∧ AllBare s'.gens) s₁ := by
    intro H hO hS hok hA hK
    have base_of : ∀ {b : Addr} {o : Obj}, s₁.heap.get? b = some o → H b = none → (hidT s₁.heap H).get? b = some o := fun e n => hidT_get e n
    have noA : ∀ {b : Addr} {o : Obj} {es : Array DictEntry} {ep : Nat}, s₁.heap.get? b = some o → o.data = .dict es ep → H b = none := fun {b o es ep} e d => by
      cases q : H b with
      | none => rfl
      | some u =>
        have e' : b = a := hA b (by rw [q]; simp)
        subst e'
        rw [ha] at e; cases e
        have d' : Data.seq vs.toArray _ = Data.dict es ep := d
        cases d'
    have nsK : ∀ {b : Addr} {m : Str → Option Value}, s₁.heap.Ns b m → (hidT s₁.heap H).Ns b m := fun {b m} ⟨o, es, ep, e, d, r⟩ => ⟨o, es, ep, base_of e (noA e d), d, r⟩
    have hKb : K.In (hidT s₁.heap H) := fun b o e => base_of (KX b o e) (by
      cases q : H b with
      | none => rfl
      | some u =>
        have e' : b = a := hA b (by rw [q]; simp)
        subst e'
        rw [hK (by rw [q]; simp)] at e; cases e)
    have hM : Mod K mg (hidT s₁.heap H) := ⟨hKb, nsK hns, ⟨mb, nsK hb, hbb⟩, let ⟨mc, h1, h2⟩ := hlim; ⟨mc, nsK h1, h2⟩⟩
    have e0 : Env0 P w K mg (hidT s₁.heap H) callerA [] s₁ H := ⟨rfl, hM, fun b o e => of_hidT e, Nat.le_of_eq (hidT_size _ _), trivial, fun b hb => absurd (show b ∈ ([] : List Addr) from hb) (by simp), hok, .of_eq hg⟩
    refine codeAny_mono ((F _ hKb (nsK hns)).run callerA [] s₁ H ⟨[.ref a], []⟩ [.ref a] [.ref a] _ _ hr e0 (hbind s₁ (.ref a)) (.cons rfl .nil) (hsp H hO hS)) fun r s' h => ?_
    cases r with
    | error e => exact (hCX H e s' h).elim
    | ok fl =>
      cases fl with
      | next => exact False.elim h
      | brk => exact False.elim h
      | cont => exact False.elim h
      | ret u =>
        obtain ⟨v, H', os, bare, un, hok', r', q⟩ := h
        have q' : v = .bl true := q
        subst q'
        obtain rfl : u = Value.bool true := r'
        refine ⟨rfl, OldK.of_keep fun b o e => ?_, os, bare⟩
        cases q : H b with
        | none => exact un.keep b o e q (by intro z; exact absurd (show b ∈ ([] : List Addr) from z) (by simp)) (by simp)
        | some u =>
          rcases hO b with z | ⟨ob, xs, z⟩
          · rw [q] at z; cases z
          · have z2 := un.frzs b ob _ z
            obtain ⟨e1, _⟩ := hok b _ z
            obtain ⟨e2, _⟩ := hok' b _ z2
            rw [e] at e1; cases e1
            exact e2
  cases hk : K.lookup a with
  | some o =>
    -- the script is one of the module's own objects
    have e := KX a o hk
    rw [ha] at e
    cases e
    refine core (fun _ => none) (fun _ => .inl rfl) (.inr ⟨_, vs.toArray, _, hk, rfl, rfl, rfl, by rw [List.size_toArray, lenV]; exact hl, by simpa using rv⟩) (fun b u z => by have z' : (none : Option HO) = some u := z; cases z') (fun b z => absurd rfl z) fun z => absurd rfl z
  | none =>
    refine core (fun b => if b = a then some (.frz { cls := .type "list", data := .seq vs.toArray } (.lst (ns.map V.int))) else none) (fun b => ?_) (.inl (.inr ⟨{ cls := .type "list", data := .seq vs.toArray }, if_pos rfl⟩)) (fun b u z => ?_) (fun b z => ?_) fun _ => hk
    · by_cases hb : b = a
      · exact .inr ⟨_, _, if_pos hb⟩
      · exact .inl (if_neg hb)
    · by_cases hb : b = a
      · have z' := (if_pos hb).symm.trans z
        cases z'
        subst hb
        exact ⟨ha, by rw [List.length_map]; exact hl, vs, _, rv, ha⟩
      · have z' := (if_neg hb).symm.trans z
        cases z'
    · by_cases hb : b = a
      · exact hb
      · exact absurd (if_neg hb) z
end L2

namespace L2
open PySem PySem.Spec PyProof.Rows

theorem walk_of {l : PySem.W.OpenLaw} {n k : Nat} {q : Program} {loose : List Str} {XP : (Str → Option Value) → Heap → Prop} {YP : World → Heap → Prop} {d : DefRec} {K : Params → PySem.W.Frag} {CX : World → CXT} {sp : World → Sp} {x : Str}
    (hn : l.most = some n) (hn2 : n ≤ sizeLine) (hdf : d.params.defaults = []) (hr : Room k callerA)
    (hY : ∀ (w : World) (h : Heap), YP w h → (K w.params).In h)
    (F : ∀ (w : World) (mg : Str → Option Value) (fa : Addr) (h : Heap), (K w.params).In h → h.Ns mainGlobals mg → mg d.name = some (.ref fa) →
      ∃ fd : FuncData, (∀ (s : Shared) (u : Value), BindsTo s fd ⟨[u], []⟩ [(x, u)]) ∧
        ∀ base : Heap, (K w.params).In base → base.Ns mainGlobals mg → FnOk l.prog w (K w.params) mg base (CX w) k fa fd [x] (sp w))
    (hsp : ∀ (w : World) (H : Hp) (a : Addr) (ns : List Int), ns.length ≤ n → Only H → SqL (K w.params) H a (ns.map V.int) → sp w [.ref a] H (fun v _ => v = .bl true) fun _ _ _ => False)
    (hCX : ∀ (w : World) (H : Hp) (s : Shared) (e : Value) (s' : Shared), CX w [] H s (fun _ _ _ => False) e s' → False) :
    PySem.W.WalkO q loose XP YP l.row.toRowW d [] (fun f vs => PySem.call f vs) := by
  refine Att.attach_call hn hdf fun w s₀ s₁ mg mb fa o pm cd doc a vs ns G Y ho hd hcd hmg hobj hints hlen hg => ?_
  have KX := hY w _ Y
  obtain ⟨fd, hb, hF⟩ := F w mg fa _ KX G.T.g hmg
  exact law_call KX G.T.g G.T.b G.T.builtins G.T.nolimit hg hobj hints (Nat.le_trans hlen hn2) hr hF hb (fun H hO hS => hsp w H a ns hlen hO hS) fun H e s' => hCX w H s₁ e s'
end L2


namespace L2
open PySem PySem.Spec PyProof.Rows

noncomputable def inClass (s : Stmt) (j : Nat) : Stmt := match s with
  | .ClassDef _ _ _ body _ _ _ _ _ _ _ => body.getD j (.Pass ⟨0, 0, 0, 0⟩)
  | _ => .Pass ⟨0, 0, 0, 0⟩
noncomputable def defArgs (s : Stmt) : Arguments := match s with
  | .FunctionDef _ a _ _ _ _ _ _ _ _ => a
  | _ => { posonlyargs := [], args := [], vararg := none, kwonlyargs := [], kw_defaults := [], kwarg := none, defaults := [] }
noncomputable def defBody (s : Stmt) : List Stmt := match s with
  | .FunctionDef _ _ b _ _ _ _ _ _ _ => b
  | _ => []
noncomputable def defScope (s : Stmt) : Scope := match s with
  | .FunctionDef _ _ _ _ _ _ sc _ _ _ => sc
  | _ => { kind := .function, names := [], isGenerator := false, isCoroutine := false }

noncomputable abbrev CX0 : CXT := fun _ _ _ _ _ _ => False
noncomputable abbrev E0 : XK := fun _ _ _ => False
theorem pass0 {X : Cx} : Passes CX0 X E0 := fun _ _ _ _ _ _ _ h => h.elim

structure Fun (K : PySem.W.Frag) (x qual : Str) (st : Stmt) (f : Addr) (fd : FuncData) : Prop where
  ex : ∃ (oc : Value) (od : Option Addr) (kV doc pm : Value) (an : Option Addr) (cdv ct : Value) (osl : Array (Option Value)),
    fd = PySem.W.fnOf x qual (defArgs st) (defBody st) (defScope st) .none kV doc pm an cdv ct ∧ K.lookup f = some ⟨oc, od, .func fd, osl⟩ ∧ PySem.W.codeIn K cdv qual = true
  kp : PySem.W.keepIn K (.ref f) = true
section
variable {P : Program} {w : World} {K : PySem.W.Frag} {mg : Str → Option Value} {base : Heap}
theorem Fun.ok {x qual : Str} {st : Stmt} {f : Addr} {fd : FuncData} {N ps : List Str} {k : Nat} {sp : Sp} (F : Fun K x qual st f fd) (S : FnScope N ps (defScope st)) (len : ∀ vs H Q E, sp vs H Q E → vs.length = ps.length)
    (hbody : ∀ (cdv : Value) (A : Around) (outer : List Env) (s : Shared) (H : Hp) (vs : List V) (Q : VK) (E : XK), Room k (A.deeper (envOfC qual (defScope st) s.heap.objs.size f cdv)) → sp vs H Q E →
      ∃ t, PSs (cxOf CX0 P w K mg base N qual (defScope st) f cdv A outer s H E).nox (defBody st) t ∧ t { nx := fun _ H' => Q .non H', rt := Q } (start N vs) H) : FnOk P w K mg base CX0 (k + 1) f fd ps sp := by
  obtain ⟨oc, od, kV, doc, pm, an, cdv, ct, osl, rfl, lk, hcd⟩ := F.ex
  refine fn_of lk hcd S len fun A outer s H vs Q E hr hsp => ?_
  obtain ⟨t, h, q⟩ := hbody cdv A outer s H vs Q E hr hsp
  exact ⟨t, h.nox, q⟩
theorem Fun.binds {x qual : Str} {st : Stmt} {f : Addr} {fd : FuncData} {ps : List Str} (F : Fun K x qual st f fd)
    (h : ∀ (kV doc pm : Value) (an : Option Addr) (cdv ct : Value) (us : List Value), us.length = ps.length → bindArgs (PySem.W.fnOf x qual (defArgs st) (defBody st) (defScope st) .none kV doc pm an cdv ct) ⟨us, []⟩ = pure (ps.zip us)) : Binds K fd ps [] := by
  obtain ⟨oc, od, kV, doc, pm, an, cdv, ct, osl, rfl, lk, hcd⟩ := F.ex
  exact .all (h kV doc pm an cdv ct)
theorem fun_mk {x qual : Str} {st : Stmt} {f : Addr} {oc : Value} {od an : Option Addr} {osl : Array (Option Value)} {kV doc pm cdv ct : Value} (l : K.lookup f = some ⟨oc, od, .func (PySem.W.fnOf x qual (defArgs st) (defBody st) (defScope st) .none kV doc pm an cdv ct), osl⟩)
    (c : PySem.W.codeIn K cdv qual = true) (k : PySem.W.keepIn K (.ref f) = true) : Fun K x qual st f (PySem.W.fnOf x qual (defArgs st) (defBody st) (defScope st) .none kV doc pm an cdv ct) := ⟨⟨oc, od, kV, doc, pm, an, cdv, ct, osl, rfl, l, c⟩, k⟩
end
section
variable {X : Cx}
theorem pv (i : Nat) {x : Str} {pos : Pos} (hN : X.N[i]? = some x := by rfl) (hv : Vis X.env.scope x := by first | exact Or.inl rfl | exact Or.inr (Or.inl rfl) | exact Or.inr (Or.inr rfl)) (hd : (x == ("__debug__" : Str)) = false := by decide)
    (hcd : (x == ("__classdict__" : Str)) = false := by decide) : PE X (.Name x pos) (tVar i) := pe_var hN hv hd hcd
end

theorem iteF {A B : Prop} (h : B) : if false = true then A else B := by
  rw [if_neg Bool.false_ne_true]
  exact h
theorem iteT {A B : Prop} (h : A) : if true = true then A else B := by
  rw [if_pos rfl]
  exact h
theorem ite2 {c A B : Prop} [Decidable c] (h1 : c → A) (h2 : ¬ c → B) : if c then A else B := by
  by_cases h : c
  · rw [if_pos h]
    exact h1 h
  · rw [if_neg h]
    exact h2 h
noncomputable def Same (H H' : Hp) : Prop := ∀ b o, H b = some o → H' b = some o
theorem Same.refl (H : Hp) : Same H H := fun _ _ h => h
theorem Same.trans {H H1 H2 : Hp} (a : Same H H1) (b : Same H1 H2) : Same H H2 := fun c o h => b c o (a c o h)
theorem Same.free {H H' : Hp} (e : Same H H') {l : Addr} (h : H' l = Option.none) : H l = Option.none := by
  cases q : H l with
  | none => rfl
  | some o =>
    rw [e l o q] at h
    cases h
theorem Same.seq {K : PySem.W.Frag} {H H' : Hp} {a : Addr} {xs : List V} (e : Same H H') (h : SqL K H a xs) : SqL K H' a xs := by
  rcases h with (h | ⟨o, h⟩) | h
  · exact .inl (.inl (e _ _ h))
  · exact .inl (.inr ⟨o, e _ _ h⟩)
  · exact .inr h

section
variable {κ : Type} [DecidableEq κ]
end
end L2


set_option Elab.async false
set_option linter.all false
set_option maxRecDepth 100000
set_option maxHeartbeats 4000000
namespace L2
open PySem PySem.Spec PyProof.Rows

theorem clos_aux (env : Env) : ∀ (l : List (Str × NameKind)) (cs : List (Str × Addr)), (∀ n, (n, NameKind.free) ∈ l → ∃ c, env.cells.lookup n = some c) → (∀ x c, cs.lookup x = some c → env.cells.lookup x = some c) →
    ∃ cl, (forIn l cs fun x s => if (x.snd == NameKind.free) = true then do let c ← cellOf env x.fst; pure (ForInStep.yield ((x.fst, c) :: s)) else pure (ForInStep.yield s)) = (pure cl : Sem (List (Str × Addr))) ∧
      (∀ x c, cl.lookup x = some c → env.cells.lookup x = some c) ∧ (∀ n, (n, NameKind.free) ∈ l → ∃ c, cl.lookup n = some c) ∧ ∀ n c, cs.lookup n = some c → ∃ c', cl.lookup n = some c'
  | [], cs, _, h => ⟨cs, rfl, h, (fun _ z => nomatch z), (fun n c e => ⟨c, e⟩)⟩
  | (n, k) :: r, cs, hf, h => by
    by_cases hk : k = .free
    · subst hk
      obtain ⟨c, hc⟩ := hf n List.mem_cons_self
      have e : cellOf env n = pure c := by unfold cellOf; rw [hc]
      obtain ⟨cl, e1, h1, h2, h3⟩ := clos_aux env r ((n, c) :: cs) (fun m hm => hf m (List.mem_cons_of_mem _ hm)) (fun x c' q => by
        rw [List.lookup_cons] at q
        by_cases hx : x = n
        · subst hx; simp at q; subst q; exact hc
        · have : (x == n) = false := by simpa using hx
          rw [this] at q; exact h x c' q)
      refine ⟨cl, ?_, h1, fun m hm => ?_, fun m c' q => ?_⟩
      · rw [List.forIn_cons]
        show ((do let c ← cellOf env n; pure (ForInStep.yield ((n, c) :: cs))) >>= _) = _
        rw [e]
        exact e1
      · rcases List.mem_cons.mp hm with z | z
        · cases z; exact h3 n c (by simp)
        · exact h2 m z
      · by_cases hx : m = n
        · subst hx; exact h3 m c (by simp)
        · have : (m == n) = false := by simpa using hx
          exact h3 m c' (by rw [List.lookup_cons, this]; exact q)
    · have hb : (k == NameKind.free) = false := by simpa using hk
      obtain ⟨cl, e1, h1, h2, h3⟩ := clos_aux env r cs (fun m hm => hf m (List.mem_cons_of_mem _ hm)) h
      refine ⟨cl, ?_, h1, fun m hm => ?_, h3⟩
      · rw [List.forIn_cons]
        dsimp only
        rw [hb]
        exact e1
      · rcases List.mem_cons.mp hm with z | z
        · cases z; exact absurd rfl hk
        · exact h2 m z

theorem closureFor_of {scope : Scope} {env : Env} (h : ∀ n, (n, NameKind.free) ∈ scope.names → ∃ c, env.cells.lookup n = some c) :
    ∃ cl, closureFor scope env = pure cl ∧ (∀ x c, cl.lookup x = some c → env.cells.lookup x = some c) ∧ ∀ n, (n, NameKind.free) ∈ scope.names → ∃ c, cl.lookup n = some c := by
  obtain ⟨cl, e, h1, h2, _⟩ := clos_aux env scope.names [] h (fun _ _ z => by simp at z)
  refine ⟨cl, ?_, h1, h2⟩
  simp only [closureFor]
  rw [e]
  rfl

noncomputable def compCx (X : Cx) (scope : Scope) (N' : List Str) (cl : List (Str × Addr)) (C : Addr) (s : Shared) (H : Hp) (fp : List Addr) (pins : List (Addr × Obj)) : Cx where
  prog := X.prog
  w := X.w
  K := X.K
  mg := X.mg
  base := X.base
  A := X.A
  N := N'
  s₀ := s
  H₀ := H
  env := compEnvC scope cl C X.env
  outer := X.stack
  stack := X.stack
  ex := fp
  calm := X.calm
  fn := fun _ => false
  pn := X.pn ++ pins
  xe := fun _ _ => False

structure CompScope (sc : Scope) (out : Scope) : Prop where
  kind : sc.kind = .function
  cell : ∀ y ∈ sc.names, y.2 ≠ .cell
  loc : ∀ y ∈ sc.names, y.2 = .local → sc.names.lookup y.1 = some .local
  free : ∀ y ∈ sc.names, y.2 = .free → out.names.lookup y.1 = some .cell ∨ out.names.lookup y.1 = some .free

noncomputable def inSt (ρ : List (Option Nat)) (σ : St) : St := ρ.map fun o => match o with | some i => (σ[i]?).getD none | none => none
noncomputable def SlotOk (sc : Scope) (env : Env) (N N' : List Str) (ρ : List (Option Nat)) : Prop :=
  ρ.length = N'.length ∧ ∀ (j i : Nat) (x : Str), ρ[j]? = some (some i) → N'[j]? = some x → N[i]? = some x ∧ Vis env.scope x ∧ (x, NameKind.free) ∈ sc.names

theorem lookup_relabel {names : List (Str × NameKind)} {env : Env} {x : Str} {k : NameKind} (h : (names.map fun (n, k) => if (k == NameKind.free && env.scope.kind == .function && env.kindOf n == some .cell) then (n, NameKind.cell) else (n, k)).lookup x = some k)
    (hk : k = .cell ∨ k = .free) (hc : ∀ y ∈ names, y.2 ≠ .cell) : (x, NameKind.free) ∈ names := by
  induction names with
  | nil => simp at h
  | cons p r ih =>
    obtain ⟨n, k'⟩ := p
    by_cases hx : x = n
    · subst hx
      have hk' : k' = .free := by
        by_cases hc' : (k' == NameKind.free && env.scope.kind == .function && env.kindOf x == some .cell) = true
        · simp only [Bool.and_eq_true, beq_iff_eq] at hc'
          exact hc'.1.1
        · simp only [List.map_cons] at h
          rw [if_neg hc'] at h
          simp at h
          subst h
          rcases hk with z | z
          · exact absurd z (hc (x, k') List.mem_cons_self)
          · exact z
      rw [hk']; exact List.mem_cons_self
    · have hb : (x == n) = false := by simpa using hx
      refine List.mem_cons_of_mem _ (ih ?_ fun y hy => hc y (List.mem_cons_of_mem _ hy))
      simp only [List.map_cons] at h
      by_cases hc' : (k' == NameKind.free && env.scope.kind == .function && env.kindOf n == some .cell) = true
      · rw [if_pos hc', List.lookup_cons, hb] at h; exact h
      · rw [if_neg hc', List.lookup_cons, hb] at h; exact h

theorem lookup_relabel_free : ∀ {names : List (Str × NameKind)} {env : Env} {x : Str}, (x, NameKind.free) ∈ names → (names.map fun (n, k) => if (k == NameKind.free && env.scope.kind == .function && env.kindOf n == some .cell) then (n, NameKind.cell) else (n, k)).lookup x = some .cell ∨
    (names.map fun (n, k) => if (k == NameKind.free && env.scope.kind == .function && env.kindOf n == some .cell) then (n, NameKind.cell) else (n, k)).lookup x = some .free ∨ names.lookup x ≠ some .free := by
  intro names env x hm
  by_cases hl : names.lookup x = some .free
  · induction names with
    | nil => simp at hl
    | cons p r ih =>
      obtain ⟨n, k'⟩ := p
      by_cases hx : x = n
      · subst hx
        simp at hl
        subst hl
        by_cases hc' : (NameKind.free == NameKind.free && env.scope.kind == .function && env.kindOf x == some .cell) = true
        · left; simp only [List.map_cons]; rw [if_pos hc']; simp
        · right; left; simp only [List.map_cons]; rw [if_neg hc']; simp
      · have hb : (x == n) = false := by simpa using hx
        rw [List.lookup_cons, hb] at hl
        have hm' : (x, NameKind.free) ∈ r := by
          rcases List.mem_cons.mp hm with z | z
          · cases z; exact absurd rfl hx
          · exact z
        have q := ih hm' hl
        simp only [List.map_cons]
        by_cases hc' : (k' == NameKind.free && env.scope.kind == .function && env.kindOf n == some .cell) = true
        · rw [if_pos hc', List.lookup_cons, hb, List.lookup_cons, hb]; exact q
        · rw [if_neg hc', List.lookup_cons, hb, List.lookup_cons, hb]; exact q
  · exact .inr (.inr hl)

section
variable {X : Cx} {pins : List (Addr × Obj)} {σ : St} {H : Hp} {s : Shared} {scope : Scope} {N' : List Str} {ρ : List (Option Nat)} {cl : List (Str × Addr)} {fp : List Addr} {C D : Addr}

theorem comp_ok (I : Inv X pins σ H s) (S : CompScope scope X.env.scope) (hf : ∀ b ∈ fp, FpOk X pins H b) (h1 : ∀ x c, cl.lookup x = some c → X.env.cells.lookup x = some c) (h2 : ∀ n, (n, NameKind.free) ∈ scope.names → ∃ c, cl.lookup n = some c)
    (hC : s.heap.objs.size ≤ C) (hfs : ∀ b ∈ fp, b < s.heap.objs.size) : (compCx X scope N' cl C s H fp pins).Ok where
  mod := I.ok.mod
  kind := S.kind
  glob := I.ok.glob
  blt := I.ok.blt
  above := hC
  inj := fun x y c e1 e2 => I.ok.inj x y c (h1 x c e1) (h1 y c e2)
  has := fun x hk => h2 x (by
    rcases hk with hk | hk
    · exact lookup_relabel (env := X.env) hk (.inl rfl) S.cell
    · exact lookup_relabel (env := X.env) hk (.inr rfl) S.cell)
  cab := fun _ _ z => nomatch z
  hd := I.ok.hd
  frames := I.ok.frames
  stk := .inl rfl
  exf := fun b hb => ⟨Nat.ne_of_lt (Nat.lt_of_lt_of_le (hfs b hb) hC), fun x c e => (hf b hb).2.2.2.2.1 x c (h1 x c e)⟩
  bs := I.bs
  bsz := Nat.le_trans I.ok.bsz I.sz
  noex := fun b o e hb => by
    rcases (hf b hb).2.2.2.1 with z | z
    · exact I.ok.noex b o e z
    · exact absurd (Nat.lt_of_lt_of_le (Nat.lt_of_lt_of_le (Heap.lt_size e) I.ok.bsz) z) (Nat.lt_irrefl _)
  exfs := fun b hb z => by
    rcases List.mem_cons.mp (I.stkSub b z) with q | q
    · exact (hf b hb).2.1 q
    · exact (hf b hb).2.2.1 q
  funs := I.stack
  frf := I.stkFree

theorem comp_start {h₁ : Heap} {tk : Nat} (I : Inv X pins σ H s) (S : CompScope scope X.env.scope) (hρ : SlotOk scope X.env X.N N' ρ) (hf : ∀ b ∈ fp, FpOk X pins H b) (h1 : ∀ x c, cl.lookup x = some c → X.env.cells.lookup x = some c)
    (h2 : ∀ n, (n, NameKind.free) ∈ scope.names → ∃ c, cl.lookup n = some c) (hC : s.heap.objs.size ≤ C) (hfs : ∀ b ∈ fp, b < s.heap.objs.size) (hn : h₁.Ns C (fun _ => none)) (hk : ∀ b o, s.heap.get? b = some o → h₁.get? b = some o)
    (hl : ∀ x, (x, NameKind.free) ∈ scope.names → scope.names.lookup x = some .free) :
    Inv (compCx X scope N' cl C s H fp pins) [] (inSt ρ σ) H { s with heap := h₁, toks := tk } where
  ok := comp_ok I S hf h1 h2 hC hfs
  os := rfl
  bare := I.bare
  base := Un.kept hk
  loc := by
    refine ⟨_, hn, fun j x v e1 e2 hv => ?_⟩
    obtain ⟨m, hm, hl'⟩ := I.loc
    unfold inSt at e2
    rw [List.getElem?_map] at e2
    cases hr : ρ[j]? with
    | none => rw [hr] at e2; simp at e2
    | some o =>
      cases o with
      | none => rw [hr] at e2; simp at e2
      | some i =>
        rw [hr] at e2
        obtain ⟨q1, q2, q3⟩ := hρ.2 j i x hr e1
        have e3 : σ[i]? = some (some v) := by
          cases hσ : σ[i]? with
          | none => simp [hσ] at e2
          | some z => simp [hσ] at e2; rw [e2]
        obtain ⟨u, r, lk⟩ := hl' i x v q1 e3 q2
        refine ⟨u, r, ?_⟩
        obtain ⟨c, hc⟩ := h2 x q3
        have hkind : (relabel scope X.env).names.lookup x = some .cell ∨ (relabel scope X.env).names.lookup x = some .free := by
          rcases lookup_relabel_free (env := X.env) q3 with z | z | z
          · exact .inl z
          · exact .inr z
          · exact absurd (hl x q3) z
        refine .inr ⟨hkind, c, hc, ?_⟩
        rcases lk with ⟨k, _⟩ | ⟨_, c', e', z⟩
        · rcases S.free (x, .free) q3 rfl with z | z
          · have k' : X.env.scope.names.lookup x = some .local := k
            rw [z] at k'; cases k'
          · have k' : X.env.scope.names.lookup x = some .local := k
            rw [z] at k'; cases k'
        · have := h1 x c hc
          rw [e'] at this; cases this
          obtain ⟨o, ho, hd⟩ := z
          exact ⟨o, hk _ _ ho, hd⟩
  cell := fun x c e => by
    obtain ⟨v, o, ho, hd⟩ := I.cell x c (h1 x c e)
    exact ⟨v, o, hk _ _ ho, hd⟩
  free := I.hok.fresh hC
  freeC := fun x c e => I.freeC x c (h1 x c e)
  pin := fun p hp => by
    have hp' : p ∈ X.pn ++ pins := by simpa [compCx] using hp
    obtain ⟨e, n, ne, nf, d⟩ := I.pin p hp'
    refine ⟨hk _ _ e, n, Nat.ne_of_lt (Nat.lt_of_lt_of_le (Heap.lt_size e) hC), fun z => ?_, d⟩
    rcases List.mem_cons.mp (I.stkSub p.1 z) with q | q
    · exact ne q
    · exact nf q
  hok := I.hok.kept hk
  len := by
    show (inSt ρ σ).length = N'.length
    unfold inSt
    rw [List.length_map]; exact hρ.1
end

theorem HOk.track {P : Program} {w : World} {H : Hp} {h : Heap} {D : Addr} {o : HO} (x : HOk P w H h) (n : H D = none) (new : ObjOk P w (upd H D o) h D o) : HOk P w (upd H D o) h := fun b u e => by
  by_cases hb : b = D
  · subst hb; rw [upd_same] at e; cases e; exact new
  · rw [upd_ne hb] at e
    exact (x b u e).stay (fun c v _ q => q) (fun c q => by rw [upd_ne (ne_of_none q n)]; exact q) fun c xs q => by rw [upd_ne (ne_of_none q n)]; exact q

section
variable {prog : Program} {w : World} {A : Around} {R : Result → Shared → Prop} {s : Shared}
theorem compLoop_gen {elt target iter : Expr} {ifs : List Expr} {scope : Scope} {pos : Pos} {it acc : Value} {env : Env} (I : Nat → Shared → Prop)
    (turn : ∀ n s, I n s → wpAny (model prog w) A (pyNext it) (fun r s₁ => match r with
      | none => R (.ok .next) s₁
      | some v => wpAny (model prog w) A (letOwnedTupleGo target it v) (fun _ s₁' => wpAny (model prog w) A (assign target env v) (fun _ s₂ =>
          wpAny (model prog w) A (forIn ifs true fun c r => if r = true then do let ok ← isTrue c env (eval c env); pure (ForInStep.yield ok) else pure (ForInStep.yield r)) (fun ok s₃ =>
            if ok = true then wpAny (model prog w) A (eval elt env) (fun x s₄ =>
              wpAny (model prog w) A (call (.builtin "list.append") [acc, x]) (fun _ s₅ => ∃ m, m < n ∧ I m s₅) (fun _ _ => False) s₄) (fun _ _ => False) s₃
            else ∃ m, m < n ∧ I m s₃) (fun _ _ => False) s₂) (fun _ _ => False) s₁') (fun _ _ => False) s₁) (fun _ _ => False) s)
    (n : Nat) (h : I n s) :
    codeAny (model prog w) A (.compLoop (.ListComp elt [⟨target, iter, ifs, 0⟩] scope pos) 0 it acc env) R s := by
  refine codeAny_loop rfl I (fun n s hI => ?_) n h
  show wpAny _ A ((compTurn (.ListComp elt [⟨target, iter, ifs, 0⟩] scope pos) 0 it acc env).onRaise (fun x => do noteFrame x env; theTreesLotGoes x)) _ _ s
  refine wpAny_noted ?_
  rw [compTurn_list]
  refine wpAny_bind (wpAny_standAt (wpAny_bind (wpAny_mono (turn n s hI) (fun r s₁ h₁ => ?_) fun _ _ h' => h'.elim)))
  cases r with
  | none => exact wpAny_pure h₁
  | some v =>
    refine wpAny_bind (wpAny_mono h₁ (fun _ s₁' h₁ => ?_) fun _ _ h' => h'.elim)
    refine wpAny_bind (wpAny_mono h₁ (fun _ s₂ h₂ => wpAny_bind (wpAny_mono h₂ (fun ok s₃ h₃ => ?_) fun _ _ h' => h'.elim)) fun _ _ h' => h'.elim)
    cases ok with
    | false => exact wpAny_pure ⟨rfl, h₃⟩
    | true =>
      exact wpAny_bind (wpAny_bind (wpAny_mono h₃ (fun x s₄ h₄ => wpAny_bind (wpAny_mono h₄ (fun _ s₅ h₅ => wpAny_pure (wpAny_pure ⟨rfl, h₅⟩)) fun _ _ h' => h'.elim)) fun _ _ h' => h'.elim))
end

noncomputable def PTs (X : Cx) (ifs : List Expr) (t : TT) : Prop :=
  ∀ (pins : List (Addr × Obj)) (s : Shared) (σ : St) (H : Hp) (Q : Bool → Hp → Prop), Inv X pins σ H s → t σ H Q →
    wpAny (model X.prog X.w) X.A (forIn ifs true fun c r => if r = true then do let ok ← isTrue c X.env (eval c X.env); pure (ForInStep.yield ok) else pure (ForInStep.yield r)) (TP X pins σ Q) X.xe s
noncomputable def tYes : TT := fun _ H Q => Q true H
theorem pts_nil {X : Cx} : PTs X [] tYes := fun _ _ _ H _ I h => wpAny_tests_nil ⟨H, I, h⟩
noncomputable def Outs (ρ : List (Option Nat)) (σ σ2 : St) : Prop := σ2.length = ρ.length ∧ ∀ (j : Nat) v, (inSt ρ σ)[j]? = some (some v) → σ2[j]? = some (some v)
noncomputable def CompW (ρ : List (Option Nat)) (g : TG) (tt : TT) (te : TE) (σ : St) (Q : VK) (J : It) (H1 : Hp) : Prop := ∃ W : Nat → Nat → List V → Hp → Prop, (∃ m, W 0 m [] H1) ∧ ∀ i m ys H', W i m ys H' →
  (J.stop i H' ∧ ys.length ≤ sizeLine ∧ ∀ p, H' p = none → Q (.ref p) (upd H' p (.lst ys))) ∨
  (J.go i H' ∧ ys.length < sizeLine ∧ ∃ N : List V → Hp → Prop, (∀ ys' H'', N ys' H'' → ∃ m', m' < m ∧ W (i + 1) m' ys' H'') ∧ ∀ x H2, J.yld i H' x H2 → g x (inSt ρ σ) H2 fun σ2 H3 => Outs ρ σ σ2 ∧ tt σ2 H3 fun ok H4 => if ok = true then te σ2 H4 fun v H5 => N (ys ++ [v]) H5 else N ys H4)
noncomputable def tComp (ρ : List (Option Nat)) (wi : TI) (g : TG) (tt : TT) (te : TE) : TE := fun σ H Q => wi σ H fun J H1 => CompW ρ g tt te σ Q J H1

theorem comp_run {X : Cx} {elt iter tg : Expr} {ifs : List Expr} {scope : Scope} {pos : Pos} {N' : List Str} {ρ : List (Option Nat)} {wi : TI} {g : TG} {tt : TT} {te : TE} {cl : List (Str × Addr)} {RR : Value → Addr → Result → Shared → Prop} (hc : X.calm = true) (hi : PI X tg iter wi) (S : CompScope scope X.env.scope) (hρ : SlotOk scope X.env X.N N' ρ)
    (hl : ∀ x, (x, NameKind.free) ∈ scope.names → scope.names.lookup x = some .free)
    (inner : ∀ (cl : List (Str × Addr)) (C : Addr) (s : Shared) (H : Hp) (fp : List Addr) (pins : List (Addr × Obj)), PG (compCx X scope N' cl C s H fp pins) tg g ∧ PTs (compCx X scope N' cl C s H fp pins) ifs tt ∧ PE (compCx X scope N' cl C s H fp pins) elt te)
    {pins : List (Addr × Obj)} {s : Shared} {σ : St} {H : Hp} {Q : VK} (I : Inv X pins σ H s) (h : tComp ρ wi g tt te σ H Q)
    (h1 : ∀ x c, cl.lookup x = some c → X.env.cells.lookup x = some c) (h2 : ∀ n, (n, NameKind.free) ∈ scope.names → ∃ c, cl.lookup n = some c)
    (fin : ∀ D C s' H' m, Inv X pins σ H' s' → Q (.ref D) H' → s'.heap.Ns C m → FpOk X pins H' C → RR (.ref D) C (.ok .next) s') :
    wpAny (model X.prog X.w) X.A (eval iter X.env) (fun x s₁ => wpAny (model X.prog X.w) X.A (pyIter x) (fun it s₂ => wpAny (model X.prog X.w) X.A (newList []) (fun acc s₃ =>
      wpAny (model X.prog X.w) X.A (newFunctionEnv scope X.env.globals cl [] X.env.qual none .none (some X.env)) (fun cenv s₄ =>
        codeAny (model X.prog X.w) X.A (.compStart (.ListComp elt [⟨tg, iter, ifs, 0⟩] scope pos) 0 it acc { cenv with scope := relabel scope X.env }) (RR acc cenv.locals) s₄) X.xe s₃) X.xe s₂) X.xe s₁) X.xe s := by
  refine thn (hi pins s σ H _ I h) fun v s1 h1' => thn h1' fun itv s2 hx => ?_
  obtain ⟨it, fp, tn, J, H2, e, I2, T, st2, f2, W, ⟨m0, w0⟩, turn⟩ := hx
  subst e
  have hfs : ∀ b ∈ fp, b < s2.heap.objs.size := fun b hb => by
    obtain ⟨o, e, _⟩ := T.obj _ _ st2 b hb
    exact Heap.lt_size e
  refine wpAny_newObj_type (wpAny_newFunctionEnv S.cell (by intro y hy; simp at hy) (fun h₁ hns₁ hsb₁ => ?_) S.kind)
  dsimp only at hns₁ hsb₁ ⊢
  generalize hH2 : s2.heap.push { cls := .type "list", dict := none, data := .seq ([] : List Value).toArray } = G at hns₁ hsb₁ ⊢
  have hC : G.objs.size = s2.heap.objs.size + 1 := by rw [← hH2, Heap.size_push]
  have hDC : s2.heap.objs.size ≠ G.objs.size := by rw [hC]; exact Nat.ne_of_lt (Nat.lt_succ_self _)
  have hCle : s2.heap.objs.size ≤ G.objs.size := by rw [hC]; exact Nat.le_succ _
  have old : ∀ b o, s2.heap.get? b = some o → h₁.get? b = some o := fun b o e => hsb₁.extBut b o (Nat.ne_of_lt (Nat.lt_of_lt_of_le (Heap.lt_size e) hCle)) (Heap.get?_push_of_some _ (hH2 ▸ Heap.get?_push_of_some _ e))
  have hacc : h₁.get? s2.heap.objs.size = some { cls := .type "list", dict := none, data := .seq ([] : List Value).toArray } := hsb₁.extBut _ _ hDC (Heap.get?_push_of_some _ (hH2 ▸ Heap.get?_push_size _ rfl))
  have hns₂ : h₁.Ns G.objs.size (fun _ => none) := hns₁
  generalize hXX : compCx X scope N' cl G.objs.size s2 H2 fp pins = XX at *
  have IN : ∀ (tk : Nat), Inv XX [] (inSt ρ σ) H2 { s2 with heap := h₁, toks := tk } := fun tk => hXX ▸ comp_start (N' := N') I2 S hρ f2 h1 h2 hCle hfs hns₂ old hl
  obtain ⟨pg, pt, pe⟩ := inner cl G.objs.size s2 H2 fp pins
  rw [hXX] at pg pt pe
  have eP : XX.prog = X.prog := by rw [← hXX]; rfl
  have eW : XX.w = X.w := by rw [← hXX]; rfl
  have eK : XX.K = X.K := by rw [← hXX]; rfl
  have eA : XX.A = X.A := by rw [← hXX]; rfl
  have eE : XX.env = compEnvC scope cl G.objs.size X.env := by rw [← hXX]; rfl
  have eL : XX.env.locals = G.objs.size := by rw [eE]; rfl
  have ec : XX.calm = true := by rw [← hXX]; exact hc
  have ex : XX.xe = fun _ _ => False := by rw [← hXX]; rfl
  have es0 : XX.s₀ = s2 := by rw [← hXX]; rfl
  have eex : XX.ex = fp := by rw [← hXX]; rfl
  have efs : XX.fs = frs X.stack := by rw [← hXX]; rfl
  have eH0 : XX.H₀ = H2 := by rw [← hXX]; rfl
  have epn : XX.pn = X.pn ++ pins := by rw [← hXX]; rfl
  have ecl : XX.env.cells = cl := by rw [eE]; rfl
  -- what stays true of the iterator's records
  have stat : ∀ {H' : Hp} {ps : List (Addr × Obj)}, (∀ b ∈ fp, H' b = none) → (∀ p ∈ ps, p.1 = s2.heap.objs.size) → ∀ b ∈ fp, FpOk XX ps H' b := fun {H' ps} hn hp b hb => by
    refine ⟨hn b hb, ?_, ?_, ?_, ?_, ?_⟩
    · rw [eL]; exact Nat.ne_of_lt (Nat.lt_of_lt_of_le (hfs b hb) hCle)
    · rw [efs]
      intro z
      rcases List.mem_cons.mp (I2.stkSub b z) with q | q
      · exact (f2 b hb).2.1 q
      · exact (f2 b hb).2.2.1 q
    · rw [eex]; exact .inl hb
    · rw [ecl]; exact fun x c e => (f2 b hb).2.2.2.2.1 x c (h1 x c e)
    · intro p hp' z
      rw [epn] at hp'
      rcases List.mem_append.mp hp' with q | q
      · exact (f2 b hb).2.2.2.2.2 p q z
      · rw [hp p q] at z
        exact absurd (hfs b hb) (by rw [z]; exact Nat.lt_irrefl _)
  have nofsD : s2.heap.objs.size ∉ XX.fs := by
    rw [efs]; intro z
    rcases List.mem_cons.mp (I2.stkSub _ z) with q | q
    · exact absurd I2.lt (by rw [← q]; exact Nat.lt_irrefl _)
    · exact I2.nofs (Nat.le_refl _) q
  have pinD : ∀ {σ' : St} {H' : Hp} {s' : Shared} {its : List Value} {n : Nat}, Inv XX [] σ' H' s' → H' s2.heap.objs.size = none → s'.heap.get? s2.heap.objs.size = some { cls := .type "list", data := .seq its.toArray n } →
      Inv XX [(s2.heap.objs.size, { cls := .type "list", data := .seq its.toArray n })] σ' H' s' := fun {σ' H' s' its n} I' hn ho => I'.pins_of fun p hp => by
    have e : p = (s2.heap.objs.size, { cls := .type "list", data := .seq its.toArray n }) := by simpa using hp
    subst e
    refine ⟨ho, hn, by rw [eL]; exact hDC, nofsD, fun v z => ?_⟩
    have z' : Data.seq its.toArray n = Data.cell v := z
    cases z'
  have loop : ∀ s₃ : Shared, (∃ tk, s₃ = { s2 with heap := h₁, toks := tk }) →
      codeAny (model X.prog X.w) X.A (.compLoop (.ListComp elt [⟨tg, iter, ifs, 0⟩] scope pos) 0 (.ref it) (.ref s2.heap.objs.size) (compEnvC scope cl G.objs.size X.env)) (RR (.ref s2.heap.objs.size) G.objs.size) s₃ := by
    rintro s₃ ⟨tk, rfl⟩
    refine compLoop_gen (fun n s' => ∃ i ys its k H', Inv XX [] (inSt ρ σ) H' s' ∧ tn i s'.heap ∧ (∀ b ∈ fp, H' b = none) ∧ H' s2.heap.objs.size = none ∧ Vals ys its ∧
      s'.heap.get? s2.heap.objs.size = some { cls := .type "list", data := .seq its.toArray k } ∧ W i n ys H') ?_ m0
      ⟨0, [], [], 0, H2, IN tk, T.keep _ _ _ st2 fun b _ o e => old b o e, fun b hb => (f2 b hb).1, I2.hok.fresh (Nat.le_refl _), .nil, hacc, w0⟩
    rintro n s3 ⟨i, ys, its, k, H3, I3, st3, fr3, hD3, rv, ho3, w3⟩
    rcases turn i n ys H3 w3 with ⟨stop, hz, qn⟩ | ⟨go, hz, N, hN, step⟩
    · have I3p := pinD I3 hD3 ho3
      have q := T.done XX eP eW eK ec i _ s3 (inSt ρ σ) H3 (fun _ _ => False) I3p (stat fr3 (by simp)) st3 stop
      rw [eA] at q
      refine thn q fun r s4 ⟨hr, I4⟩ => ?_
      subst hr
      have ho4 := (I4.pin (s2.heap.objs.size, { cls := .type "list", data := .seq its.toArray k }) (by simp)).1
      obtain ⟨m, hm, _⟩ := I4.loc
      rw [eL] at hm
      have hun : Un (frs X.stack) fp H2 (upd H3 s2.heap.objs.size (.lst ys)) s2.heap s4.heap := by
        have u := I4.base
        rw [efs, eex, eH0, es0] at u
        refine ⟨u.keep, u.slot, fun b o e n hx => ?_, u.there, fun b xs e => ?_, fun b o xs e => ?_, fun b ps e => ?_⟩
        · rw [upd_ne (Nat.ne_of_lt (Heap.lt_size e))]; exact u.free b o e n hx
        · have q := u.tups b xs e
          rw [upd_ne (ne_of_none q hD3)]; exact q
        · have q := u.frzs b o xs e
          rw [upd_ne (ne_of_none q hD3)]; exact q
        · obtain ⟨more, q⟩ := u.tbls b ps e
          exact ⟨more, by rw [upd_ne (ne_of_none q hD3)]; exact q⟩
      have hok : HOk X.prog X.w (upd H3 s2.heap.objs.size (.lst ys)) s4.heap := by
        have q := I4.hok
        rw [eP, eW] at q
        exact q.track hD3 ⟨hz, its, k, rv, ho4⟩
      have hfr : ∀ b ∈ fp, (b ∈ X.ex ∨ X.s₀.heap.objs.size ≤ b) ∧ b ≠ X.env.locals ∧ (∀ x c, X.env.cells.lookup x = some c → c ≠ b) ∧ ∀ p ∈ X.pn ++ pins, p.1 ≠ b := fun b hb => ⟨(f2 b hb).2.2.2.1, (f2 b hb).2.1, (f2 b hb).2.2.2.2.1, (f2 b hb).2.2.2.2.2⟩
      have IO : Inv X pins σ (upd H3 s2.heap.objs.size (.lst ys)) s4 := I2.call' (by have := I4.os; rw [es0] at this; exact this) hun hok I4.bare hfr
      refine fin _ _ s4 _ m IO (qn _ hD3) hm (I2.fpOk hCle ?_)
      rw [upd_ne (Ne.symm hDC)]
      have := I4.free
      rw [eL] at this
      exact this
    · have I3p := pinD I3 hD3 ho3
      have q := T.item XX eP eW eK ec i _ s3 (inSt ρ σ) H3 (fun _ _ => False) I3p (stat fr3 (by simp)) st3 go
      rw [eA] at q
      refine thn q fun r s4 ⟨u, hr, h4⟩ => ?_
      subst hr
      refine thn h4 fun _ s5 ⟨x, H5, I5, r5, y5, st5, fr5⟩ => ?_
      have I5' := I5.pinned (stat fr5 (by simp)) (T.obj _ _ st5)
      have qa := pg _ s5 (inSt ρ σ) H5 x u _ I5' r5 (step x H5 y5)
      rw [eP, eW, eA, eE, ex] at qa
      refine thn qa fun _ s6 ⟨σ6, H6, I6, ⟨ou1, ou2⟩, q6⟩ => ?_
      have hw6 : (inSt ρ σ).length = σ6.length := by rw [ou1]; unfold inSt; rw [List.length_map]
      have qt := pt _ s6 σ6 H6 _ I6 q6
      rw [eP, eW, eA, eE, ex] at qt
      refine thn qt fun ok s7 ⟨H7, I7, q7⟩ => ?_
      have back : ∀ {s8 : Shared} {H8 : Hp}, Inv XX ([(s2.heap.objs.size, { cls := .type "list", data := .seq its.toArray k })] ++ pinsAt fp s5.heap) σ6 H8 s8 → tn (i + 1) s8.heap ∧ (∀ b ∈ fp, H8 b = none) ∧ H8 s2.heap.objs.size = none ∧
          s8.heap.get? s2.heap.objs.size = some { cls := .type "list", data := .seq its.toArray k } := fun {s8 H8} I8 => by
        refine ⟨T.keep _ _ _ st5 fun b hb o e => (I8.pin (b, o) (List.mem_append_right _ (List.mem_append_right _ (mem_pinsAt hb e)))).1, fun b hb => ?_, ?_, ?_⟩
        · obtain ⟨o, e, d⟩ := T.obj _ _ st5 b hb
          exact (I8.pin (b, o) (List.mem_append_right _ (List.mem_append_right _ (mem_pinsAt hb e)))).2.1
        · exact (I8.pin (s2.heap.objs.size, { cls := .type "list", data := .seq its.toArray k }) (by simp)).2.1
        · exact (I8.pin (s2.heap.objs.size, { cls := .type "list", data := .seq its.toArray k }) (by simp)).1
      cases ok with
      | false =>
        obtain ⟨m', hm, w7⟩ := hN _ _ q7
        obtain ⟨b1, b2, b3, b4⟩ := back I7
        exact ⟨m', hm, i + 1, ys, its, k, H7, (I7.pins_of (pins' := []) (fun _ z => nomatch z)).weak hw6 ou2, b1, b2, b3, rv, b4, w7⟩
      | true =>
        have qe := pe _ s7 σ6 H7 _ I7 q7
        rw [eP, eW, eA, eE, ex] at qe
        refine thn qe fun y s8 ⟨v8, H8, I8, r8, n8⟩ => ?_
        obtain ⟨m', hm, w8⟩ := hN _ _ n8
        obtain ⟨b1, b2, b3, b4⟩ := back I8
        have hlen := rv.length
        refine call_meets F.slot_list_append ⟨_, b4, rfl⟩ F.entry_list_append (F.args_list_append_2 _ _) (PySem.list_append s2.heap.objs.size its.toArray k y (by rw [List.size_toArray]; omega)) ⟨b4, ?_⟩
        have qL := PySem.IsL.update b4 (fun xs => xs.push y)
        have I8' : Inv XX [] σ6 H8 s8 := I8.pins_of (fun _ z => nomatch z)
        have I9 : Inv XX [] σ6 H8 { s8 with heap := s8.heap.update s2.heap.objs.size (Obj.mapSeq fun xs => xs.push y), toks := s8.toks } := I8'.turned (it := s2.heap.objs.size) (fun b o hb e => (Heap.get?_update_other s8.heap _ (Ne.symm hb)).trans e) b3
          (by rw [eL]; exact hDC) (.inr (by rw [es0]; exact Nat.le_refl _)) (by
            rw [ecl]; intro x c e z
            obtain ⟨v, qc⟩ := I2.cell x c (h1 x c e)
            exact absurd qc.lt (by rw [z]; exact Nat.lt_irrefl _)) (by
            intro p hp z
            have hp' : p ∈ X.pn ++ pins := by rw [epn] at hp; simpa using hp
            exact absurd (Heap.lt_size (I2.pin p hp').1) (by rw [z]; exact Nat.lt_irrefl _))
        have hnd : s2.heap.objs.size ∉ fp := fun z => Nat.lt_irrefl _ (hfs _ z)
        rw [show its.toArray.push y = (its ++ [y]).toArray by simp] at qL
        refine ⟨m', hm, i + 1, ys ++ [v8], its ++ [y], _, H8, I9.weak hw6 ou2, T.keep _ _ _ b1 fun b hb o e => (Heap.get?_update_other s8.heap _ (by rintro rfl; exact hnd hb)).trans e, b2, b3, rv.append (.cons r8 .nil), qL, w8⟩
  refine codeAny_compStart_list (loop _ ⟨_, rfl⟩) (T.self X.A 0 _ _ _ (T.keep _ _ _ st2 fun b _ o e => old b o e) (loop _ ⟨_, rfl⟩))
theorem pe_comp {X : Cx} {elt iter tg : Expr} {ifs : List Expr} {scope : Scope} {pos : Pos} (N' : List Str) (ρ : List (Option Nat)) {wi : TI} {g : TG} {tt : TT} {te : TE} (hc : X.calm = true) (hi : PI X tg iter wi) (S : CompScope scope X.env.scope) (hρ : SlotOk scope X.env X.N N' ρ)
    (hl : ∀ x, (x, NameKind.free) ∈ scope.names → scope.names.lookup x = some .free)
    (inner : ∀ (cl : List (Str × Addr)) (C : Addr) (s : Shared) (H : Hp) (fp : List Addr) (pins : List (Addr × Obj)), PG (compCx X scope N' cl C s H fp pins) tg g ∧ PTs (compCx X scope N' cl C s H fp pins) ifs tt ∧ PE (compCx X scope N' cl C s H fp pins) elt te)
    (hs : ∀ x, foldedSetIterable iter X.env x = pure x := by intro _; rfl) : PE X (.ListComp elt [⟨tg, iter, ifs, 0⟩] scope pos) (tComp ρ wi g tt te) := by
  intro pins s σ H Q I h
  obtain ⟨cl, hcl, h1, h2⟩ := closureFor_of (scope := scope) (env := X.env) (fun n hn => I.ok.has n (S.free (n, .free) hn rfl))
  rw [eval_ListComp]
  refine wpAny_comprehension_free (use := none) rfl hs hcl S.kind S.loc ?_
  refine comp_run (RR := fun acc C => compPost (model X.prog X.w) X.A X.xe none (EP X pins σ Q) acc C) hc hi S hρ hl inner I h h1 h2 ?_
  intro D C s' H' m I' q hm hf
  refine ⟨m, hm, fun h' sb => ⟨.ref D, H', ?_, rfl, q⟩⟩
  exact I'.turned (t' := s'.toks) (fun b o hb e => (sb.2 b hb).trans e) hf.1 hf.2.1 hf.2.2.2.1 hf.2.2.2.2.1 hf.2.2.2.2.2

theorem ps_setcomp {X : Cx} {elt iter tg : Expr} {ifs : List Expr} {scope : Scope} {pos pos' spos : Pos} {i : Nat} {x : Str} (N' : List Str) (ρ : List (Option Nat)) {wi : TI} {g : TG} {tt : TT} {te : TE} (hN : X.N.Nodup) (hix : X.N[i]? = some x) (hx : Loc X.env.scope x)
    (hc : X.calm = true) (hi : PI X tg iter wi) (S : CompScope scope X.env.scope) (hρ : SlotOk scope X.env X.N N' ρ)
    (hl : ∀ x, (x, NameKind.free) ∈ scope.names → scope.names.lookup x = some .free)
    (inner : ∀ (cl : List (Str × Addr)) (C : Addr) (s : Shared) (H : Hp) (fp : List Addr) (pins : List (Addr × Obj)), PG (compCx X scope N' cl C s H fp pins) tg g ∧ PTs (compCx X scope N' cl C s H fp pins) ifs tt ∧ PE (compCx X scope N' cl C s H fp pins) elt te)
    (hsw : swapsWith (.ListComp elt [⟨tg, iter, ifs, 0⟩] scope pos) (some (.Name x pos')) spos.line X.env = pure true := by rfl)
    (hs : ∀ x, foldedSetIterable iter X.env x = pure x := by intro _; rfl) (hf : X.fn x = true ∨ X.env.scope.names.lookup x = some .local := by first | exact .inl rfl | exact .inr rfl | assumption) :
    PS X (.Assign [.Name x pos'] (.ListComp elt [⟨tg, iter, ifs, 0⟩] scope pos) spos) (tAsg (tComp ρ wi g tt te) (gName i)) := by
  intro pins s σ H Dn I h
  obtain ⟨cl, hcl, h1, h2⟩ := closureFor_of (scope := scope) (env := X.env) (fun n hn => I.ok.has n (S.free (n, .free) hn rfl))
  rw [exec_Assign_Name_used _ _ _ _ hsw]
  refine wpAny_bind (wpAny_standAt (wpAny_bind ?_))
  show wpAny _ X.A (do let _ ← comprehension (.ListComp elt [⟨tg, iter, ifs, 0⟩] scope pos) scope X.env _ (newList []) false (eval iter X.env) (some (assign (.Name x pos') X.env))) _ _ s
  refine wpAny_bind (wpAny_mono (wpAny_comprehension_free (use := some (assign (.Name x pos') X.env)) (Q := fun _ s' => SP X pins Dn .next s') rfl hs hcl S.kind S.loc ?_) (fun _ s' hq => wpAny_pure (wpAny_pure hq)) fun _ _ e => e)
  refine comp_run (RR := fun acc C => compPost (model X.prog X.w) X.A X.xe (some (assign (.Name x pos') X.env)) (fun _ s' => SP X pins Dn .next s') acc C) hc hi S hρ hl inner I h h1 h2 ?_
  intro D C s' H' m I' q hm hfC
  obtain ⟨oC, es, ep, hoC, hr⟩ := id hm
  have pin : Inv X (pins ++ pinsAt [C] s'.heap) σ H' s' := I'.pinned (fun b hb => by
    have e : b = C := by simpa using hb
    subst e
    exact hfC) (fun b hb => by
    have e : b = C := by simpa using hb
    subst e
    exact ⟨oC, hoC, fun v z => by rw [hr.1] at z; cases z⟩)
  show wpAny _ X.A (assign (.Name x pos') X.env (.ref D)) _ _ _
  refine wpAny_assign_Name ?_
  refine store_ok (M := model X.prog X.w) (A := X.A) (E := X.xe) pin hN hix hx (v := .ref D) (u := .ref D) rfl (fun s'' I'' => ?_) hf
  have pC := (I''.pin (C, oC) (List.mem_append_right _ (List.mem_append_right _ (mem_pinsAt (by simp) hoC))))
  refine ⟨m, ⟨oC, es, ep, pC.1, hr⟩, fun h' sb => ⟨_, H', ?_, q⟩⟩
  have I2 : Inv X pins (σ.set i (some (.ref D))) H' s'' := I''.unpinned
  exact I2.turned (t' := s''.toks) (fun b o hb e => (sb.2 b hb).trans e) hfC.1 hfC.2.1 hfC.2.2.2.1 hfC.2.2.2.2.1 hfC.2.2.2.2.2

theorem inSt_cons (σ : St) (o : Option Nat) (ρ : List (Option Nat)) : inSt (o :: ρ) σ = (match o with | some i => (σ[i]?).getD none | none => none) :: inSt ρ σ := rfl
theorem outs1 {ρ : List (Option Nat)} {σ : St} (o : Option V) : Outs (none :: ρ) σ (o :: inSt ρ σ) := by
  refine ⟨by unfold inSt; simp, fun j v e => ?_⟩
  cases j with
  | zero => rw [inSt_cons] at e; simp at e
  | succ j => rw [inSt_cons] at e; simpa using e
theorem comp_by {J : It} {n : Nat} {X : Nat → V → Prop} {ρ : List (Option Nat)} {tt : TT} {te : TE} {σ : St} {H : Hp} {Q : VK} (Pv : Nat → List V → Hp → Prop) (h0 : Pv 0 [] H) (hlen : n ≤ sizeLine)
    (hy : ∀ i ys H, i ≤ n → Pv i ys H → ys.length ≤ i) (hgo : ∀ i ys H, i < n → Pv i ys H → J.go i H) (hyl : ∀ i ys H x H', i < n → Pv i ys H → J.yld i H x H' → H' = H ∧ X i x) (hst : ∀ ys H, Pv n ys H → J.stop n H)
    (hs : ∀ i x ys H, i < n → X i x → Pv i ys H → tt (some x :: inSt ρ σ) H fun ok H4 => if ok = true then te (some x :: inSt ρ σ) H4 fun v H5 => Pv (i + 1) (ys ++ [v]) H5 else Pv (i + 1) ys H4)
    (hd : ∀ ys H, Pv n ys H → ∀ p, H p = none → Q (.ref p) (upd H p (.lst ys))) :
    CompW (none :: ρ) (gName 0) tt te σ Q J H := by
  refine ⟨fun i m ys H => m = n - i ∧ i ≤ n ∧ Pv i ys H, ⟨n, by simp, Nat.zero_le _, h0⟩, ?_⟩
  rintro i m ys H ⟨rfl, hi, p⟩
  have hl := hy i ys H hi p
  by_cases hlt : i < n
  · refine .inr ⟨hgo i ys H hlt p, by omega, Pv (i + 1), fun ys' H'' p' => ⟨n - (i + 1), by omega, rfl, hlt, p'⟩, fun x H' y => ?_⟩
    obtain ⟨e, y2⟩ := hyl i ys H x H' hlt p y
    subst e
    exact ⟨outs1 _, hs i x ys _ hlt y2 p⟩
  · have e : i = n := by omega
    subst e
    exact .inl ⟨hst ys H p, by omega, hd ys H p⟩
theorem comp_list {K : PySem.W.Frag} {a : Addr} {xs : List V} {ρ : List (Option Nat)} {tt : TT} {te : TE} {σ : St} {H : Hp} {Q : VK} (Pv : Nat → List V → Hp → Prop) (h0 : Pv 0 [] H) (hlen : xs.length ≤ sizeLine) (hl : ∀ i ys H, i ≤ xs.length → Pv i ys H → SqL K H a xs ∧ ys.length ≤ i)
    (hs : ∀ i x ys H, xs[i]? = some x → Pv i ys H → tt (some x :: inSt ρ σ) H fun ok H4 => if ok = true then te (some x :: inSt ρ σ) H4 fun v H5 => Pv (i + 1) (ys ++ [v]) H5 else Pv (i + 1) ys H4)
    (hd : ∀ ys H, Pv xs.length ys H → ∀ p, H p = none → Q (.ref p) (upd H p (.lst ys))) :
    CompW (none :: ρ) (gName 0) tt te σ Q (Itl K a) H :=
  comp_by (n := xs.length) (X := fun i x => xs[i]? = some x) Pv h0 hlen (fun i ys H hi p => (hl i ys H hi p).2) (fun i ys H hi p => ⟨xs, xs[i], (hl i ys H (Nat.le_of_lt hi) p).1, by simp [hi]⟩) (fun i ys H x H' hi p y => ⟨y.1, y.2 xs (hl i ys H (Nat.le_of_lt hi) p).1⟩)
    (fun ys H p => ⟨xs, (hl _ ys H (Nat.le_refl _) p).1, Nat.le_refl _⟩) (fun i x ys H _ e p => hs i x ys H e p) hd
theorem comp_range {lo : Int} {n : Nat} {ρ : List (Option Nat)} {tt : TT} {te : TE} {σ : St} {H : Hp} {Q : VK} (Pv : Nat → List V → Hp → Prop) (h0 : Pv 0 [] H) (hlen : n ≤ sizeLine) (hl : ∀ i ys H, i ≤ n → Pv i ys H → ys.length ≤ i)
    (hs : ∀ i ys H, i < n → Pv i ys H → tt (some (.int (lo + i)) :: inSt ρ σ) H fun ok H4 => if ok = true then te (some (.int (lo + i)) :: inSt ρ σ) H4 fun v H5 => Pv (i + 1) (ys ++ [v]) H5 else Pv (i + 1) ys H4)
    (hd : ∀ ys H, Pv n ys H → ∀ p, H p = none → Q (.ref p) (upd H p (.lst ys))) :
    CompW (none :: ρ) (gName 0) tt te σ Q (Itr lo n) H :=
  comp_by (n := n) (X := fun i x => x = .int (lo + i)) Pv h0 hlen hl (fun i ys H hi p => hi) (fun i ys H x H' hi p y => y) (fun ys H p => Nat.le_refl _) (fun i x ys H hi e p => by subst e; exact hs i ys H hi p) hd
end L2

set_option Elab.async false
set_option linter.all false
set_option maxRecDepth 100000
set_option maxHeartbeats 4000000
namespace L2
open PySem PySem.Spec PyProof.Rows

noncomputable def cutC {α : Type} (xs : List α) (lo hi : Option Int) : List α := (xs.drop (HT.sIx xs.length 0 lo)).take (HT.sIx xs.length xs.length hi - HT.sIx xs.length 0 lo)
section
variable {X : Cx}
end

section
variable {X : Cx}
noncomputable def clsV : V → Option Value
  | .ty n => some (.type n)
  | .ref a => some (.ref a)
  | _ => none
theorem call_isi : CallR X (.builtin "isinstance") (fun xs H Q => ∃ x c t cv b, xs = [x, c] ∧ clsV c = some cv ∧ TyOf X.K H x t ∧ PySem.W.kitOne X.K t cv = some b ∧ Q (.bl b) H) := by
  intro pins s σ H xs us Q I r h
  obtain ⟨x, c, t, cv, b, rfl, rc, ty, e, q⟩ := h
  obtain ⟨u, w', rfl, rx, rw'⟩ := r.two
  have : w' = cv := by
    cases c with
    | ref a => cases rc; exact rw'
    | ty a => cases rc; exact rw'
    | _ => cases rc
  subst this
  exact isinst_ok I rx ty e fun tk => ⟨.bl b, H, I.tok _, rfl, q⟩
end
end L2

set_option Elab.async false
set_option linter.all false
set_option maxRecDepth 100000
set_option maxHeartbeats 4000000
namespace L2
open PySem PySem.Spec PyProof.Rows

noncomputable def compB (sc out : Scope) (N N' : List Str) (ρ : List (Option Nat)) : Bool :=
  decide (sc.kind = .function) && sc.names.all (fun y => decide (y.2 ≠ .cell)) && sc.names.all (fun y => decide (y.2 = .local → sc.names.lookup y.1 = some .local)) &&
  sc.names.all (fun y => decide (y.2 = .free → sc.names.lookup y.1 = some .free ∧ (out.names.lookup y.1 = some .cell ∨ out.names.lookup y.1 = some .free))) &&
  decide (ρ.length = N'.length) && decide N'.Nodup &&
  (ρ.zip N').all (fun p => match p.1 with | none => true | some i => decide (N[i]? = some p.2) && decide (out.names.lookup p.2 = some .local ∨ out.names.lookup p.2 = some .cell ∨ out.names.lookup p.2 = some .free) && sc.names.any (fun y => decide (y = (p.2, NameKind.free))))
structure CompF (sc : Scope) (env : Env) (N N' : List Str) (ρ : List (Option Nat)) : Prop where
  S : CompScope sc env.scope
  sl : SlotOk sc env N N' ρ
  hl : ∀ x, (x, NameKind.free) ∈ sc.names → sc.names.lookup x = some .free
  nd : N'.Nodup
theorem compF_of {sc : Scope} {env : Env} {N N' : List Str} {ρ : List (Option Nat)} (h : compB sc env.scope N N' ρ = true) : CompF sc env N N' ρ := by
  unfold compB at h
  simp only [Bool.and_eq_true, decide_eq_true_eq, List.all_eq_true] at h
  obtain ⟨⟨⟨⟨⟨⟨h1, h2⟩, h3⟩, h4⟩, h5⟩, h6⟩, h7⟩ := h
  refine ⟨⟨h1, h2, h3, fun y hy e => (h4 y hy e).2⟩, ⟨h5, fun j i x e1 e2 => ?_⟩, fun x hx => (h4 _ hx rfl).1, h6⟩
  have hm : (some i, x) ∈ ρ.zip N' := by
    refine List.mem_of_getElem? (i := j) ?_
    rw [List.getElem?_zip_eq_some]
    exact ⟨e1, e2⟩
  have q := h7 _ hm
  simp only [Bool.and_eq_true, decide_eq_true_eq, List.any_eq_true] at q
  obtain ⟨⟨q1, q2⟩, y, hy, e⟩ := q
  exact ⟨q1, q2, e ▸ hy⟩

theorem pe_compB {X : Cx} {elt iter tg : Expr} {ifs : List Expr} {scope : Scope} {pos : Pos} (N' : List Str) (ρ : List (Option Nat)) {wi : TI} {g : TG} {tt : TT} {te : TE} (hc : X.calm = true) (hi : PI X tg iter wi) (h : compB scope X.env.scope X.N N' ρ = true)
    (inner : ∀ (cl : List (Str × Addr)) (C : Addr) (s : Shared) (H : Hp) (fp : List Addr) (pins : List (Addr × Obj)), PG (compCx X scope N' cl C s H fp pins) tg g ∧ PTs (compCx X scope N' cl C s H fp pins) ifs tt ∧ PE (compCx X scope N' cl C s H fp pins) elt te)
    (hs : ∀ x, foldedSetIterable iter X.env x = pure x := by intro _; rfl) : PE X (.ListComp elt [⟨tg, iter, ifs, 0⟩] scope pos) (tComp ρ wi g tt te) :=
  have F := compF_of h
  pe_comp N' ρ hc hi F.S F.sl F.hl inner hs
theorem ps_setcompB {X : Cx} {elt iter tg : Expr} {ifs : List Expr} {scope : Scope} {pos pos' spos : Pos} {i : Nat} {x : Str} (N' : List Str) (ρ : List (Option Nat)) {wi : TI} {g : TG} {tt : TT} {te : TE} (hN : X.N.Nodup) (hix : X.N[i]? = some x) (hx : Loc X.env.scope x)
    (hc : X.calm = true) (hi : PI X tg iter wi) (h : compB scope X.env.scope X.N N' ρ = true)
    (inner : ∀ (cl : List (Str × Addr)) (C : Addr) (s : Shared) (H : Hp) (fp : List Addr) (pins : List (Addr × Obj)), PG (compCx X scope N' cl C s H fp pins) tg g ∧ PTs (compCx X scope N' cl C s H fp pins) ifs tt ∧ PE (compCx X scope N' cl C s H fp pins) elt te)
    (hsw : swapsWith (.ListComp elt [⟨tg, iter, ifs, 0⟩] scope pos) (some (.Name x pos')) spos.line X.env = pure true := by rfl)
    (hs : ∀ x, foldedSetIterable iter X.env x = pure x := by intro _; rfl) (hf : X.fn x = true ∨ X.env.scope.names.lookup x = some .local := by first | exact .inl rfl | exact .inr rfl | assumption) :
    PS X (.Assign [.Name x pos'] (.ListComp elt [⟨tg, iter, ifs, 0⟩] scope pos) spos) (tAsg (tComp ρ wi g tt te) (gName i)) :=
  have F := compF_of h
  ps_setcomp N' ρ hN hix hx hc hi F.S F.sl F.hl inner hsw hs hf

noncomputable def spLaw (K : PySem.W.Frag) : Sp := fun vs H Q _ => ∃ (a : Addr) (ns : List Int), vs = [.ref a] ∧ SqL K H a (ns.map V.int) ∧ ns.length ≤ 63 ∧ Only H ∧ ∀ H', Q (.bl true) H'
theorem law_walk {l : PySem.W.OpenLaw} {q : Program} {loose : List Str} {XP : (Str → Option Value) → Heap → Prop} {YP : World → Heap → Prop} {d : DefRec} {K : Params → PySem.W.Frag} {x : Str} (k : Nat) (hk : k ≤ 200) (hn : l.most = some 63) (hdf : d.params.defaults = [])
    (hY : ∀ (w : World) (h : Heap), YP w h → (K w.params).In h)
    (F : ∀ (w : World) (mg : Str → Option Value) (fa : Addr) (h : Heap), (K w.params).In h → h.Ns mainGlobals mg → mg d.name = some (.ref fa) →
      ∃ fd : FuncData, (∀ (s : Shared) (u : Value), BindsTo s fd ⟨[u], []⟩ [(x, u)]) ∧ ∀ base : Heap, (K w.params).In base → base.Ns mainGlobals mg → FnOk l.prog w (K w.params) mg base CX0 k fa fd [x] (spLaw (K w.params))) :
    PySem.W.WalkO q loose XP YP l.row.toRowW d [] (fun f vs => PySem.call f vs) :=
  L2.walk_of (n := 63) (k := k) (x := x) (CX := fun _ => CX0) (sp := fun w => spLaw (K w.params)) hn (by decide) hdf
    ⟨rfl, by have : callerA.depth + 605 < recursionLimit := by decide
             omega, by have : callerA.units + 3400 < cLine := by decide
                       omega⟩ hY F (fun _ H a ns hl hO hS => ⟨a, ns, rfl, hS, hl, hO, fun _ => rfl⟩) fun _ _ _ _ _ z => z
end L2
namespace L2
open PySem
noncomputable def mkSc (l : List (Str × NameKind)) : Scope := { kind := .function, names := l, isGenerator := false, isCoroutine := false, more := [] }
end L2

namespace L2
open PySem
theorem bt_len : bootBuiltins "len" = some (.builtin "len") := by decide +kernel
theorem bt_isinstance : bootBuiltins "isinstance" = some (.builtin "isinstance") := by decide +kernel
theorem bt_min : bootBuiltins "min" = some (.builtin "min") := by decide +kernel
theorem bt_max : bootBuiltins "max" = some (.builtin "max") := by decide +kernel
theorem bt_int : bootBuiltins "int" = some (.type "int") := by decide +kernel
theorem bt_bool : bootBuiltins "bool" = some (.type "bool") := by decide +kernel
theorem bt_list : bootBuiltins "list" = some (.type "list") := by decide +kernel
theorem bt_tuple : bootBuiltins "tuple" = some (.type "tuple") := by decide +kernel
end L2

set_option Elab.async false
set_option linter.all false
set_option maxRecDepth 100000
set_option maxHeartbeats 4000000
namespace L2
open PySem PySem.Spec PyProof.Rows

theorem szl {n : Nat} (h : n ≤ 1000000) : n ≤ sizeLine := by rw [sizeLine_eq]; omega
theorem szlt {n : Nat} (h : n < 1000000) : n < sizeLine := by rw [sizeLine_eq]; omega
theorem same_new {H : Hp} {p : Addr} (h : H p = none) (o : HO) : Same H (upd H p o) := fun b u q => by rw [upd_ne (ne_of_none q h)]; exact q
theorem dT {p : Prop} [Decidable p] (h : decide p = true) : p := of_decide_eq_true h
theorem dF {p : Prop} [Decidable p] (h : ¬ decide p = true) : ¬ p := fun z => h (decide_eq_true z)

noncomputable def spCell (K : PySem.W.Frag) : Sp := fun vs H Q _ => ∃ (a : Addr) (ns : List Int) (k : Int), vs = [.ref a, .int k] ∧ SqL K H a (ns.map V.int) ∧ 0 ≤ k ∧ Q (.int (ns.getD k.toNat 0)) H
theorem cell_in {ns : List Int} {k : Int} (h0 : 0 ≤ k) (h : k < (ns.length : Int)) : atI (ns.map V.int) k = some (.int (ns.getD k.toNat 0)) := by
  have hk : k.toNat < ns.length := by omega
  have ek : k = ((k.toNat : Nat) : Int) := by omega
  have q : atI (ns.map V.int) ((k.toNat : Nat) : Int) = some (.int (ns.getD k.toNat 0)) := atI_nat (by rw [List.getElem?_map, List.getElem?_eq_getElem hk]; simp [List.getD_eq_getElem?_getD, hk])
  rw [← ek] at q
  exact q
theorem cell_out {ns : List Int} {k : Int} (h : ¬ k < (ns.length : Int)) : ns.getD k.toNat 0 = 0 := by rw [List.getD_eq_getElem?_getD, List.getElem?_eq_none (by omega)]; rfl
noncomputable def isInt : V → Bool
  | .int _ => true
  | _ => false
noncomputable def plainV : V → Bool
  | .int _ => true
  | .bl _ => true
  | .non => true
  | .str _ => true
  | _ => false
noncomputable def spWhole : Sp := fun vs H Q _ => ∃ x, vs = [x] ∧ plainV x = true ∧ Q (.bl (isInt x)) H
theorem take_snoc {α : Type} {l : List α} {i : Nat} {c : α} (h : l[i]? = some c) : l.take (i + 1) = l.take i ++ [c] := by
  rw [List.take_succ, h]; rfl
end L2
namespace L2
open PySem
end L2
namespace L2
open PySem
theorem seq_any {t u : TS} {D : Ends} {σ : St} {H : Hp} (M : St → Hp → Prop) (hu : ∀ σ' H', M σ' H' → u D σ' H') (ht : (∀ σ' H', M σ' H' → u D σ' H') → t { D with nx := u D } σ H) : tSeq t u D σ H := ht hu
theorem ndF {p : Prop} [Decidable p] (h : p) : (!decide p) = false := by rw [decide_eq_true h]; rfl
theorem ndT {p : Prop} [Decidable p] (h : ¬ p) : (!decide p) = true := by rw [decide_eq_false h]; rfl
theorem iteE {b : Bool} {A B : Prop} {v : Bool} (e : b = v) (h : if v = true then A else B) : if b = true then A else B := by rw [e]; exact h
end L2
namespace L2
open PySem
end L2

set_option Elab.async false
set_option linter.all false
set_option maxRecDepth 100000
set_option maxHeartbeats 4000000
namespace L2
open PySem PySem.Spec PyProof.Rows

inductive Tr where
  | v (x : V)
  | lst (l : List Tr)
  | tup (l : List Tr)
mutual
inductive TrIs (K : PySem.W.Frag) (H : Hp) : V → Tr → Prop
  | flat {x : V} : flatV x = true → TrIs K H x (.v x)
  | lst {p : Addr} {xs : List V} {l : List Tr} : SqL K H p xs → TrsIs K H xs l → TrIs K H (.ref p) (.lst l)
  | tup {p : Addr} {xs : List V} {l : List Tr} : SqT K H p xs → TrsIs K H xs l → TrIs K H (.ref p) (.tup l)
inductive TrsIs (K : PySem.W.Frag) (H : Hp) : List V → List Tr → Prop
  | nil : TrsIs K H [] []
  | cons {x : V} {t : Tr} {xs : List V} {l : List Tr} : TrIs K H x t → TrsIs K H xs l → TrsIs K H (x :: xs) (t :: l)
end
mutual
noncomputable def eqT : Tr → Tr → Bool
  | .v x, .v y => eqV x y
  | .lst l, .lst m => eqTs l m
  | .tup l, .tup m => eqTs l m
  | _, _ => false
noncomputable def eqTs : List Tr → List Tr → Bool
  | [], [] => true
  | x :: l, y :: m => eqT x y && eqTs l m
  | _, _ => false
end
mutual
noncomputable def simT : Tr → Tr → Bool
  | .v _, .v _ => true
  | .lst l, .lst m => simTs l m
  | .tup l, .tup m => simTs l m
  | _, _ => false
noncomputable def simTs : List Tr → List Tr → Bool
  | x :: l, y :: m => simT x y && simTs l m
  | _, _ => true
end
mutual
noncomputable def depT : Tr → Nat
  | .v _ => 0
  | .lst l => depTs l + 1
  | .tup l => depTs l + 1
noncomputable def depTs : List Tr → Nat
  | [] => 0
  | x :: l => max (depT x) (depTs l)
end
theorem eqV_refl {x : V} (h : flatV x = true) : eqV x x = true := by
  cases x <;> first | rfl | (simp [eqV]; done) | (simp [flatV] at h)
mutual
/-- a tree of flat values -/
noncomputable def okT : Tr → Bool
  | .v x => flatV x
  | .lst l => okTs l
  | .tup l => okTs l
noncomputable def okTs : List Tr → Bool
  | [] => true
  | x :: l => okT x && okTs l
end
mutual
theorem eqT_refl : ∀ t : Tr, okT t = true → eqT t t = true
  | .v x, h => by rw [eqT]; exact eqV_refl (by simpa [okT] using h)
  | .lst l, h => by rw [eqT]; exact eqTs_refl l (by simpa [okT] using h)
  | .tup l, h => by rw [eqT]; exact eqTs_refl l (by simpa [okT] using h)
theorem eqTs_refl : ∀ l : List Tr, okTs l = true → eqTs l l = true
  | [], _ => by rw [eqTs]
  | x :: l, h => by
    rw [okTs, Bool.and_eq_true] at h
    rw [eqTs, eqT_refl x h.1, eqTs_refl l h.2]; rfl
end
mutual
theorem simT_refl : ∀ t : Tr, simT t t = true
  | .v x => by rw [simT]
  | .lst l => by rw [simT]; exact simTs_refl l
  | .tup l => by rw [simT]; exact simTs_refl l
theorem simTs_refl : ∀ l : List Tr, simTs l l = true
  | [] => by simp [simTs]
  | x :: l => by rw [simTs, simT_refl x, simTs_refl l]; rfl
end
mutual
theorem TrIs.ok {K : PySem.W.Frag} {H : Hp} : ∀ {x : V} {t : Tr}, TrIs K H x t → okT t = true
  | _, _, .flat h => by rw [okT]; exact h
  | _, _, .lst _ h => by rw [okT]; exact h.ok
  | _, _, .tup _ h => by rw [okT]; exact h.ok
theorem TrsIs.ok {K : PySem.W.Frag} {H : Hp} : ∀ {xs : List V} {l : List Tr}, TrsIs K H xs l → okTs l = true
  | _, _, .nil => by rw [okTs]
  | _, _, .cons h r => by rw [okTs, h.ok, r.ok]; rfl
end
theorem TrsIs.length {K : PySem.W.Frag} {H : Hp} : ∀ {xs : List V} {l : List Tr}, TrsIs K H xs l → xs.length = l.length
  | _, _, .nil => rfl
  | _, _, .cons _ r => by simp [r.length]
theorem eqTs_len : ∀ {l m : List Tr}, l.length ≠ m.length → eqTs l m = false
  | [], [], h => absurd rfl h
  | [], _ :: _, _ => by rw [eqTs] <;> simp
  | _ :: _, [], _ => by rw [eqTs] <;> simp
  | x :: l, y :: m, h => by
    rw [eqTs, eqTs_len (l := l) (m := m) (fun e => h (by simp [e])), Bool.and_false]
section
variable {X : Cx} {pins : List (Addr × Obj)} {σ : St} {H : Hp} {s : Shared}
mutual
theorem TrIs.inj (I : Inv X pins σ H s) : ∀ {t t' : Tr} {x : V}, TrIs X.K H x t → TrIs X.K H x t' → t = t'
  | .v x, t', _, .flat h, h' => by
    cases h' with
    | flat _ => rfl
    | lst _ _ => cases h
    | tup _ _ => cases h
  | .lst l, t', _, .lst (p := p) (xs := xs) hq hr, h' => by
    cases h' with
    | flat h => cases h
    | lst hq' hr' =>
      have e := I.list_inj hq hq'
      subst e
      rw [TrsIs.inj I hr hr']
    | tup hq' hr' =>
      obtain ⟨_, _, ⟨o, n, e1, c1, _⟩, _⟩ := I.list hq
      obtain ⟨_, _, ⟨o', e2, c2, _⟩, _⟩ := I.tuple hq'
      rw [e1] at e2; cases e2
      rw [c1] at c2; simp at c2
  | .tup l, t', _, .tup (p := p) (xs := xs) hq hr, h' => by
    cases h' with
    | flat h => cases h
    | tup hq' hr' =>
      have e := I.tuple_inj hq hq'
      subst e
      rw [TrsIs.inj I hr hr']
    | lst hq' hr' =>
      obtain ⟨_, _, ⟨o, n, e1, c1, _⟩, _⟩ := I.list hq'
      obtain ⟨_, _, ⟨o', e2, c2, _⟩, _⟩ := I.tuple hq
      rw [e1] at e2; cases e2
      rw [c1] at c2; simp at c2
theorem TrsIs.inj (I : Inv X pins σ H s) : ∀ {l l' : List Tr} {xs : List V}, TrsIs X.K H xs l → TrsIs X.K H xs l' → l = l'
  | [], _, _, .nil, h' => by cases h'; rfl
  | t :: l, _, _, .cons h r, h' => by
    cases h' with
    | cons h2 r2 => rw [TrIs.inj I h h2, TrsIs.inj I r r2]
end
theorem range_all_eq {α : Type} {e : Nat → Bool} {f : α → Bool} : ∀ {l : List α}, (∀ j x, l[j]? = some x → e j = f x) → (List.range l.length).all e = l.all f := by
  intro l h
  rw [Bool.eq_iff_iff]
  simp only [List.all_eq_true, List.mem_range]
  constructor
  · intro q x hx
    obtain ⟨i, hi, hx⟩ := List.mem_iff_getElem.mp hx
    rw [← h i x (by rw [List.getElem?_eq_getElem hi, hx])]
    exact q i hi
  · intro q i hi
    rw [h i l[i] (List.getElem?_eq_getElem hi)]
    exact q _ (List.getElem_mem hi)
theorem eqTs_zip : ∀ {l m : List Tr}, l.length = m.length → eqTs l m = (l.zip m).all fun p => eqT p.1 p.2
  | [], [], _ => by rw [eqTs]; rfl
  | [], _ :: _, h => by simp at h
  | _ :: _, [], h => by simp at h
  | x :: l, y :: m, h => by
    rw [eqTs, eqTs_zip (l := l) (m := m) (by simpa using h)]
    rfl
theorem TrsIs.at {K : PySem.W.Frag} {H : Hp} : ∀ {xs : List V} {l : List Tr} {j : Nat} {t : Tr}, TrsIs K H xs l → l[j]? = some t → ∃ x, xs[j]? = some x ∧ TrIs K H x t
  | _, _, _, _, .nil, h => by simp at h
  | _, _, 0, _, .cons h _, e => by simp at e; subst e; exact ⟨_, rfl, h⟩
  | _, _, j + 1, _, .cons _ r, e => by
    obtain ⟨x, h1, h2⟩ := r.at (j := j) (by simpa using e)
    exact ⟨x, by simpa using h1, h2⟩
theorem simTs_at : ∀ {l m : List Tr} {j : Nat} {t t' : Tr}, simTs l m = true → l[j]? = some t → m[j]? = some t' → simT t t' = true
  | [], _, _, _, _, _, h, _ => by simp at h
  | _ :: _, [], _, _, _, _, _, h => by simp at h
  | x :: l, y :: m, 0, t, t', h, e1, e2 => by
    simp at e1 e2; subst e1 e2
    rw [simTs, Bool.and_eq_true] at h; exact h.1
  | x :: l, y :: m, j + 1, t, t', h, e1, e2 => by
    rw [simTs, Bool.and_eq_true] at h
    exact simTs_at (j := j) h.2 (by simpa using e1) (by simpa using e2)
theorem depTs_at : ∀ {l : List Tr} {j : Nat} {t : Tr}, l[j]? = some t → depT t ≤ depTs l
  | [], _, _, h => by simp at h
  | x :: l, 0, t, h => by simp at h; subst h; rw [depTs]; omega
  | x :: l, j + 1, t, h => by
    have := depTs_at (l := l) (j := j) (t := t) (by simpa using h)
    rw [depTs]; omega
theorem items_eq {A : Around} {l m : List Tr} {xs ys : List V} {its jts : List Value} (hr : TrsIs X.K H xs l) (hr' : TrsIs X.K H ys m) (rv : Vals xs its) (rv' : Vals ys jts)
    (ih : ∀ (j : Nat) (t t' : Tr) (x y : V) (u v : Value), l[j]? = some t → m[j]? = some t' → TrIs X.K H x t → RelV x u → TrIs X.K H y t' → RelV y v → SeqAt.EqAt A.in1 s u v (eqT t t')) :
    ∀ j (h1 : j < its.toArray.size) (h2 : j < jts.toArray.size), SeqAt.EqAt A.in1 s its.toArray[j] jts.toArray[j] (match l[j]?, m[j]? with | some t, some t' => eqT t t' | _, _ => true) := by
  intro j h1 h2
  have l1 := hr.length; have l2 := hr'.length; have l3 := rv.length; have l4 := rv'.length
  rw [List.size_toArray] at h1 h2
  obtain ⟨t, ht⟩ : ∃ t, l[j]? = some t := ⟨l[j]'(by omega), List.getElem?_eq_getElem (by omega)⟩
  obtain ⟨t', ht'⟩ : ∃ t', m[j]? = some t' := ⟨m[j]'(by omega), List.getElem?_eq_getElem (by omega)⟩
  obtain ⟨x, hx, hxt⟩ := hr.at ht
  obtain ⟨y, hy, hyt⟩ := hr'.at ht'
  obtain ⟨u, hu, ru⟩ := rv.get hx
  obtain ⟨v, hv, rw'⟩ := rv'.get hy
  rw [ht, ht']
  have e1 : its.toArray[j] = u := by
    have := List.getElem?_eq_getElem (l := its) (i := j) h1
    rw [hu] at this
    simpa using (Option.some.inj this).symm
  have e2 : jts.toArray[j] = v := by
    have := List.getElem?_eq_getElem (l := jts) (i := j) h2
    rw [hv] at this
    simpa using (Option.some.inj this).symm
  rw [e1, e2]
  exact ih j t t' x y u v ht ht' hxt ru hyt rw'
theorem all_items {l m : List Tr} (h : l.length = m.length) : (List.range l.length).all (fun j => match l[j]?, m[j]? with | some t, some t' => eqT t t' | _, _ => true) = eqTs l m := by
  rw [eqTs_zip h]
  have e : l.length = (l.zip m).length := by rw [List.length_zip]; omega
  rw [e]
  refine range_all_eq fun j p hp => ?_
  obtain ⟨h1, h2⟩ := List.getElem?_zip_eq_some.mp hp
  rw [h1, h2]
theorem RcAt_lists {A : Around} {p q : Addr} {xs ys : List V} {l m : List Tr} (I : Inv X pins σ H s) (hu : A.units < cLine) (hq : SqL X.K H p xs) (hr : TrsIs X.K H xs l) (hq' : SqL X.K H q ys) (hr' : TrsIs X.K H ys m)
    (ih : ∀ (j : Nat) (t t' : Tr) (x y : V) (u v : Value), l[j]? = some t → m[j]? = some t' → TrIs X.K H x t → RelV x u → TrIs X.K H y t' → RelV y v → SeqAt.EqAt A.in1 s u v (eqT t t')) :
    SeqAt.RcAt A s (.ref p) (.ref q) (eqTs l m) ∧ SeqAt.RcNeAt A s (.ref p) (.ref q) (!eqTs l m) := by
  obtain ⟨its, rv, pl, _⟩ := I.list hq
  obtain ⟨jts, rv', pl', _⟩ := I.list hq'
  have l1 := hr.length; have l2 := hr'.length; have l3 := rv.length; have l4 := rv'.length
  by_cases hl : l.length = m.length
  · have e : its.toArray.size = l.length := by rw [List.size_toArray]; omega
    have a := SeqAt.RcAt.lists (A := A) pl.isList pl'.isList (by rw [List.size_toArray, List.size_toArray]; omega) hu (items_eq hr hr' rv rv' ih)
    have b := SeqAt.RcNeAt.lists (A := A) pl.isList pl'.isList (by rw [List.size_toArray, List.size_toArray]; omega) hu (items_eq hr hr' rv rv' ih)
    rw [e, all_items hl] at a b
    exact ⟨a, b⟩
  · rw [eqTs_len hl]
    have hne : (its.toArray.size != jts.toArray.size) = true := by
      rw [List.size_toArray, List.size_toArray]
      simp only [bne_iff_ne, ne_eq]; omega
    exact ⟨SeqAt.RcAt.lists_lengths pl.isList pl'.isList hne hu, SeqAt.RcNeAt.lists_lengths pl.isList pl'.isList hne hu⟩
theorem RcAt_tuples {A : Around} {p q : Addr} {xs ys : List V} {l m : List Tr} (I : Inv X pins σ H s) (hu : A.units < cLine) (hq : SqT X.K H p xs) (hr : TrsIs X.K H xs l) (hq' : SqT X.K H q ys) (hr' : TrsIs X.K H ys m)
    (ih : ∀ (j : Nat) (t t' : Tr) (x y : V) (u v : Value), l[j]? = some t → m[j]? = some t' → TrIs X.K H x t → RelV x u → TrIs X.K H y t' → RelV y v → SeqAt.EqAt A.in1 s u v (eqT t t')) :
    SeqAt.RcAt A s (.ref p) (.ref q) (eqTs l m) ∧ SeqAt.RcNeAt A s (.ref p) (.ref q) (!eqTs l m) := by
  obtain ⟨its, rv, pl, _⟩ := I.tuple hq
  obtain ⟨jts, rv', pl', _⟩ := I.tuple hq'
  have l1 := hr.length; have l2 := hr'.length; have l3 := rv.length; have l4 := rv'.length
  have a := SeqAt.RcAt.tuples (A := A) (show s.heap.IsTuple p its.toArray from pl) (show s.heap.IsTuple q jts.toArray from pl') hu (items_eq hr hr' rv rv' ih)
  have b := SeqAt.RcNeAt.tuples (A := A) (show s.heap.IsTuple p its.toArray from pl) (show s.heap.IsTuple q jts.toArray from pl') hu (items_eq hr hr' rv rv' ih)
  have e : ((List.range (min its.toArray.size jts.toArray.size)).all (fun j => match l[j]?, m[j]? with | some t, some t' => eqT t t' | _, _ => true) && its.toArray.size == jts.toArray.size) = eqTs l m := by
    by_cases hl : l.length = m.length
    · have e1 : min its.toArray.size jts.toArray.size = l.length := by rw [List.size_toArray, List.size_toArray]; omega
      have e2 : (its.toArray.size == jts.toArray.size) = true := by rw [List.size_toArray, List.size_toArray]; simp; omega
      rw [e1, e2, all_items hl, Bool.and_true]
    · have e2 : (its.toArray.size == jts.toArray.size) = false := by rw [List.size_toArray, List.size_toArray]; simp; omega
      rw [e2, eqTs_len hl, Bool.and_false]
  rw [e] at a b
  exact ⟨a, b⟩
theorem eqAt_T (I : Inv X pins σ H s) (n : Nat) : ∀ (A : Around) (t t' : Tr) (x y : V) (u v : Value), depT t ≤ n → A.units + n < cLine → simT t t' = true → TrIs X.K H x t → RelV x u → TrIs X.K H y t' → RelV y v → SeqAt.EqAt A s u v (eqT t t') := by
  induction n with
  | zero =>
    intro A t t' x y u v hd hu hs hx rx hy ry
    cases hx with
    | flat fx =>
      cases hy with
      | flat fy => rw [eqT]; exact eqAt_V rx ry fx fy
      | lst _ _ => simp [simT] at hs
      | tup _ _ => simp [simT] at hs
    | lst _ _ => simp [depT] at hd
    | tup _ _ => simp [depT] at hd
  | succ n ih =>
    intro A t t' x y u v hd hu hs hx rx hy ry
    cases hx with
    | flat fx =>
      cases hy with
      | flat fy => rw [eqT]; exact eqAt_V rx ry fx fy
      | lst _ _ => simp [simT] at hs
      | tup _ _ => simp [simT] at hs
    | @lst p xs l hq hr =>
      cases hy with
      | flat fy => simp [simT] at hs
      | tup _ _ => simp [simT] at hs
      | @lst q ys m hq' hr' =>
        cases rx; cases ry
        rw [depT] at hd
        rw [simT] at hs
        by_cases e : p = q
        · subst e
          have e1 := TrIs.inj I (TrIs.lst hq hr) (TrIs.lst hq' hr')
          rw [← e1, eqT_refl _ (TrIs.lst hq hr).ok]
          exact SeqAt.EqAt.same _
        · rw [eqT]
          refine SeqAt.EqAt.of_refs e (RcAt_lists I (by omega) hq hr hq' hr' fun j t t' x y u v h1 h2 h3 h4 h5 h6 => ?_).1
          exact ih A.in1 t t' x y u v (by have := depTs_at h1; omega) (by show A.units + 1 + n < cLine; omega) (simTs_at hs h1 h2) h3 h4 h5 h6
    | @tup p xs l hq hr =>
      cases hy with
      | flat fy => simp [simT] at hs
      | lst _ _ => simp [simT] at hs
      | @tup q ys m hq' hr' =>
        cases rx; cases ry
        rw [depT] at hd
        rw [simT] at hs
        by_cases e : p = q
        · subst e
          have e1 := TrIs.inj I (TrIs.tup hq hr) (TrIs.tup hq' hr')
          rw [← e1, eqT_refl _ (TrIs.tup hq hr).ok]
          exact SeqAt.EqAt.same _
        · rw [eqT]
          refine SeqAt.EqAt.of_refs e (RcAt_tuples I (by omega) hq hr hq' hr' fun j t t' x y u v h1 h2 h3 h4 h5 h6 => ?_).1
          exact ih A.in1 t t' x y u v (by have := depTs_at h1; omega) (by show A.units + 1 + n < cLine; omega) (simTs_at hs h1 h2) h3 h4 h5 h6
end

section
variable {X : Cx}
noncomputable def rEqX (K : PySem.W.Frag) (neg : Bool) : R2 := fun x y H Q => ∃ t t', TrIs K H x t ∧ TrIs K H y t' ∧ (∃ p, x = .ref p) ∧ (∃ p, y = .ref p) ∧ simT t t' = true ∧ depT t ≤ 60 ∧ Q (.bl (if neg then !eqT t t' else eqT t t')) H
theorem eqX_aux {neg : Bool} (hu : X.A.units + 64 < cLine) : OpR X (compareOp (if neg then .NotEq else .Eq)) (rEqX X.K neg) := by
  intro pins s σ H x y v u Q I rx ry h
  obtain ⟨t, t', hx, hy, ⟨p, rfl⟩, ⟨q, rfl⟩, hs, hd, q'⟩ := h
  cases rx; cases ry
  have done : ∀ l m, SeqAt.RcAt X.A s (.ref p) (.ref q) (eqTs l m) ∧ SeqAt.RcNeAt X.A s (.ref p) (.ref q) (!eqTs l m) → Q (.bl (if neg then !eqTs l m else eqTs l m)) H →
      wpAny (model X.prog X.w) X.A (compareOp (if neg then .NotEq else .Eq) (.ref p) (.ref q)) (EP X pins σ Q) X.xe s := fun l m hb hq => by
    cases neg with
    | false => exact hb.1 X.prog X.w X.xe _ ⟨.bl _, H, I, rfl, hq⟩
    | true => exact hb.2 X.prog X.w X.xe _ ⟨.bl _, H, I, rfl, hq⟩
  cases hx with
  | flat fx => cases fx
  | @lst _ xs l hq hr =>
    cases hy with
    | flat fy => cases fy
    | tup _ _ => simp [simT] at hs
    | @lst _ ys m hq' hr' =>
      rw [depT] at hd
      rw [simT] at hs
      rw [eqT] at q'
      refine done l m (RcAt_lists I (by omega) hq hr hq' hr' fun j t t' x y u v h1 h2 h3 h4 h5 h6 => ?_) q'
      exact eqAt_T I 60 X.A.in1 t t' x y u v (by have := depTs_at h1; omega) (by show X.A.units + 1 + 60 < cLine; omega) (simTs_at hs h1 h2) h3 h4 h5 h6
  | @tup _ xs l hq hr =>
    cases hy with
    | flat fy => cases fy
    | lst _ _ => simp [simT] at hs
    | @tup _ ys m hq' hr' =>
      rw [depT] at hd
      rw [simT] at hs
      rw [eqT] at q'
      refine done l m (RcAt_tuples I (by omega) hq hr hq' hr' fun j t t' x y u v h1 h2 h3 h4 h5 h6 => ?_) q'
      exact eqAt_T I 60 X.A.in1 t t' x y u v (by have := depTs_at h1; omega) (by show X.A.units + 1 + 60 < cLine; omega) (simTs_at hs h1 h2) h3 h4 h5 h6
theorem op_eqS (hu : X.A.units + 64 < cLine) : OpR X (compareOp .Eq) (rEqX X.K false) := eqX_aux (neg := false) hu
theorem op_neS (hu : X.A.units + 64 < cLine) : OpR X (compareOp .NotEq) (rEqX X.K true) := eqX_aux (neg := true) hu
theorem hu64 {A : Around} {k : Nat} (hr : Room k A) : A.units + 64 < cLine := by have := hr.un; omega
end
end L2

set_option Elab.async false
set_option linter.all false
set_option maxRecDepth 100000
set_option maxHeartbeats 4000000
namespace L2
open PySem PySem.Spec PyProof.Rows

section
variable {X : Cx}
end

end L2

set_option Elab.async false
set_option linter.all false
set_option maxRecDepth 100000
set_option maxHeartbeats 4000000
namespace L2
open PySem PySem.Spec PyProof.Rows

theorem cut_to {α : Type} (l : List α) {k : Int} (h : 0 ≤ k) : cutC l none (some k) = l.take k.toNat := by
  unfold cutC
  have e : k = ((k.toNat : Nat) : Int) := by omega
  rw [HT.sIx_none, e, HT.sIx_nat, List.drop_zero, Nat.sub_zero]
  rw [show (((k.toNat : Nat) : Int)).toNat = k.toNat by omega]
  by_cases h : k.toNat ≤ l.length
  · rw [Nat.min_eq_left h]
  · rw [Nat.min_eq_right (by omega), List.take_of_length_le (by omega), List.take_of_length_le (by omega)]
theorem cut_mid {α : Type} (l : List α) {i j : Int} (hi : 0 ≤ i) (hj : 0 ≤ j) (hl : j ≤ (l.length : Int)) (hij : i ≤ j) : cutC l (some i) (some j) = (l.drop i.toNat).take (j.toNat - i.toNat) := by
  unfold cutC
  have e1 : i = ((i.toNat : Nat) : Int) := by omega
  have e2 : j = ((j.toNat : Nat) : Int) := by omega
  rw [e1, e2, HT.sIx_nat, HT.sIx_nat]
  rw [show (((i.toNat : Nat) : Int)).toNat = i.toNat by omega, show (((j.toNat : Nat) : Int)).toNat = j.toNat by omega, Nat.min_eq_left (by omega), Nat.min_eq_left (by omega)]
end L2
namespace L2
open PySem
end L2
namespace L2
open PySem
end L2
namespace L2
open PySem
end L2

set_option Elab.async false
set_option linter.all false
set_option maxRecDepth 100000
set_option maxHeartbeats 4000000
namespace L2
open PySem PySem.Spec PyProof.Rows

end L2

set_option Elab.async false
set_option linter.all false
set_option maxRecDepth 100000
set_option maxHeartbeats 4000000
namespace L2
open PySem PySem.Spec PyProof.Rows
noncomputable def spNInit (C : Addr) : Sp := fun vs H Q _ => ∃ (x dx : Addr) (n : V), vs = [.ref x, n] ∧ H x = some (.ins C dx []) ∧ ∀ H', (∀ b o, H b = some o → b ≠ x → H' b = some o) → (∃ dx, H' x = some (.ins C dx [("n", n)])) → Q .non H'
noncomputable def spDInit (C : Addr) : Sp := fun vs H Q _ => ∃ (x dx : Addr) (v1 v2 v3 v4 v5 v6 v7 : V), vs = [.ref x, v1, v2, v3, v4, v5, v6, v7] ∧ H x = some (.ins C dx []) ∧ ∀ H', (∀ b o, H b = some o → b ≠ x → H' b = some o) → (∃ dx, H' x = some (.ins C dx [("names", v1), ("lows", v2), ("highs", v3), ("table", v4), ("spots", v5), ("term", v6), ("path", v7)])) → Q .non H'
noncomputable def spAlikeN : Sp := fun vs H Q _ => ∃ (p1 p2 : Addr) (xs ys : List Int) (m k : Nat), vs = [.ref p1, .ref p2, .int (m : Int)] ∧ H p1 = some (.tup (xs.map V.int)) ∧ H p2 = some (.tup (ys.map V.int)) ∧ m ≤ xs.length ∧ m ≤ ys.length ∧ m ≤ 1000 ∧ k ≤ m ∧ (∀ e < k, xs.getD e 0 = ys.getD e 0) ∧ (k < m → xs.getD k 0 ≠ ys.getD k 0) ∧ Q (.int (k : Int)) H
theorem made_same {H H2 : Hp} {x dx C : Addr} (hx : H x = none) (hdx : H dx = none) (k : ∀ b o, (upd (upd H dx (.own x)) x (.ins C dx [])) b = some o → b ≠ x → H2 b = some o) : Same H H2 := fun b o e => by
  have n1 := ne_of_none e hx
  have n2 := ne_of_none e hdx
  exact k b o (by rw [upd_ne n1, upd_ne n2]; exact e) n1
end L2

set_option Elab.async false
set_option linter.all false
set_option maxRecDepth 100000
set_option maxHeartbeats 4000000
namespace L2
open PySem PySem.Spec PyProof.Rows
section
variable {X : Cx} {pins : List (Addr × Obj)} {σ : St} {H : Hp} {s : Shared} {h' : Heap}
theorem Inv.turnedL {t' : Nat} {ch : List Addr} (I : Inv X pins σ H s) (k : ∀ b o, b ∉ ch → s.heap.get? b = some o → h'.get? b = some o) (hf : ∀ b ∈ ch, FpOk X pins H b) : Inv X pins σ H { s with heap := h', toks := t' } := by
  have nit : ∀ b u, H b = some u → b ∉ ch := fun b u e z => by rw [(hf b z).1] at e; cases e
  have hL : X.env.locals ∉ ch := fun z => (hf _ z).2.1 rfl
  refine I.step (g' := s.gens) (d' := s.drawn) (ch := ch) (fun b hb => ?_) (fun b o _ _ hc e _ => k b o hc e) (fun b o _ _ hc e _ => ⟨o.slots, k b o hc e⟩) (fun _ _ _ _ n => n)
    (fun b o hc e => ⟨o, k b o hc e⟩) (fun _ _ e => e) (fun _ _ _ e => e) (fun b ps e => ⟨#[], by rw [e]; simp⟩) (fun m hm => ?_) (fun b u e => ?_) I.bare
  · obtain ⟨f0, f1, f2, f3, f4, f5⟩ := hf b hb
    exact ⟨f3, f1, f4, f5⟩
  · obtain ⟨o, es, ep, ho, r⟩ := hm
    exact ⟨o, es, ep, k _ o hL ho, r⟩
  · refine (I.hok b u e).stay (fun c v hc q => k c v ?_ q) (fun _ q => q) fun _ _ q => q
    rcases hc with z | z
    · rw [z]; exact nit b u e
    · exact nit c _ z
end
noncomputable def Ite (K : PySem.W.Frag) (a : Addr) : It :=
  ⟨fun i H => ∃ xs x, SqL K H a xs ∧ xs[i]? = some x, fun i H v H' => ∃ x T, (∀ xs, SqL K H a xs → xs[i]? = some x) ∧ H T = none ∧ v = .ref T ∧ H' = upd H T (.tup [.int i, x]), fun i H => ∃ xs, SqL K H a xs ∧ xs.length ≤ i⟩
theorem turn_enum {P : Program} {w : World} {K : PySem.W.Frag} {elts : List Expr} {x1 : Nat} {pos : Pos} (a e it : Addr) (hei : e ≠ it) : Turn P w K (.Tuple elts x1 pos) (Ite K a) [e, it] e (fun i h => (∃ old, IsEnum h e it i old) ∧ h.IsListIter it a i) where
  mem := by simp
  obj := fun i h st b hb => by
    obtain ⟨⟨old, he⟩, hit⟩ := st
    rcases List.mem_cons.mp hb with rfl | hb
    · exact ⟨_, he, fun v z => by cases z⟩
    · have e : b = it := by simpa using hb
      subst e
      obtain ⟨o, e, c, d⟩ := hit
      exact ⟨o, e, fun v z => by rw [d] at z; cases z⟩
  keep := fun i h h' st k => by
    obtain ⟨⟨old, he⟩, hit⟩ := st
    exact ⟨⟨old, k e (by simp) _ he⟩, hit.at fun o e => k it (by simp) o e⟩
  item := by
    intro X hP hw hK hc i pins s σ H E I hf st hg
    subst hP hw hK
    obtain ⟨xs, x, hq, hx⟩ := hg
    obtain ⟨its, rv, p, hz⟩ := I.list hq
    obtain ⟨u, hu, ru⟩ := rv.get hx
    obtain ⟨⟨old, he⟩, hit⟩ := st
    refine wpAny_pyNext_enum_item he hit p.isList (x := u) (by simpa using hu) hei fun h1 ho hit' hT hsz hk => ⟨_, rfl, ?_⟩
    refine wpAny_letOwnedTupleGo_enum ho fun h2 he2 hs2 => ?_
    have hTn : H s.heap.objs.size = none := I.hok.fresh (Nat.le_refl _)
    have helt : e < s.heap.objs.size := Heap.lt_size he
    have hilt : it < s.heap.objs.size := by obtain ⟨_, x, _⟩ := hit; exact Heap.lt_size x
    have I1 : Inv X pins σ (upd H s.heap.objs.size (.tup [.int i, x])) { s with heap := s.heap.push { cls := .type "tuple", data := .seq #[.int i s.toks, u] }, toks := s.toks + 1 } := I.laid (t' := s.toks + 1) (o := .tup [.int i, x]) (fun b o e => Heap.get?_push_of_some _ e) (Nat.le_refl _) ⟨szl (by show 2 ≤ 1000000; decide), [.int i s.toks, u], .cons ⟨_, rfl⟩ (.cons ru .nil), IsTupN.new _ _⟩
    have I2 : Inv X pins σ (upd H s.heap.objs.size (.tup [.int i, x])) { s with heap := h2, toks := s.toks + 1 } := by
      refine Inv.turnedL (s := { s with heap := s.heap.push { cls := .type "tuple", data := .seq #[.int i s.toks, u] }, toks := s.toks + 1 }) (h' := h2) (ch := [e, it]) (t' := s.toks + 1) I1 (fun b o hb q => ?_) (fun b hb => ?_)
      · have nbe : b ≠ e := fun z => hb (by simp [z])
        have nbi : b ≠ it := fun z => hb (by simp [z])
        show h2.get? b = some o
        rw [hs2.2 b nbe]
        rcases Heap.get?_push_cases q with ⟨rfl, rfl⟩ | q
        · exact hT
        · exact hk b o nbe nbi q
      · obtain ⟨f0, f1, f2, f3, f4, f5⟩ := hf b hb
        have nb : b ≠ s.heap.objs.size := by
          rcases List.mem_cons.mp hb with rfl | hb
          · exact Nat.ne_of_lt helt
          · have : b = it := by simpa using hb
            subst this
            exact Nat.ne_of_lt hilt
        exact ⟨by rw [upd_ne nb]; exact f0, f1, f2, f3, f4, f5⟩
    refine ⟨.ref s.heap.objs.size, _, I2, rfl, ⟨x, _, fun ys hy => by rw [I.list_inj hy hq]; exact hx, hTn, rfl, rfl⟩, ⟨⟨_, by simpa using he2⟩, hit'.at fun o y => (hs2.2 it hei.symm).trans y⟩, fun b hb => ?_⟩
    obtain ⟨f0, f1, f2, f3, f4, f5⟩ := hf b hb
    have nb : b ≠ s.heap.objs.size := by
      rcases List.mem_cons.mp hb with rfl | hb
      · exact Nat.ne_of_lt helt
      · have : b = it := by simpa using hb
        subst this
        exact Nat.ne_of_lt hilt
    rw [upd_ne nb]
    exact f0
  done := by
    intro X hP hw hK hc i pins s σ H E I hf st hg
    subst hP hw hK
    obtain ⟨xs, hq, hx⟩ := hg
    obtain ⟨its, rv, p, hz⟩ := I.list hq
    obtain ⟨⟨old, he⟩, hit⟩ := st
    have hl := rv.length
    refine wpAny_pyNext_enum_end (I.ok.hd hc) he hit p.isList (by simp; omega) fun h' eb => ⟨rfl, ?_⟩
    exact I.turnedL (ch := [e, it]) (t' := s.toks) (fun b o hb q => eb b o (fun z => hb (by simp [z])) q) hf
  self := fun _ _ _ _ _ st h => by
    obtain ⟨⟨old, he⟩, _⟩ := st
    exact wpAny_pyIter_enum he h
noncomputable def iEnum (K : PySem.W.Frag) (ta : TA) : TI := fun σ H R => ta σ H fun vs H1 => ∃ a : Addr, vs = [.ref a] ∧ (∃ xs, SqL K H1 a xs) ∧ R (Ite K a) H1
theorem pi_enum {X : Cx} {a : Expr} {ta : TA} {p pos : Pos} {elts : List Expr} {x1 : Nat} {pos2 : Pos} (hg : Gl X "enumerate") (hm : X.mg "enumerate" = none) (ha : PA X [a] ta) (hs : starEach [a] X.env = [(false, eval a X.env)] := by rfl) : PI X (.Tuple elts x1 pos2) (.Call (.Name "enumerate" p) [a] [] pos) (iEnum X.K ta) := by
  intro pins s σ H R I h
  refine Call_ (ld_blt I hg hm boot_enumerate (PyProof.Rows.callWith_type1 (thn (ha pos pins s σ H _ I h) fun us s1 ⟨vs, H1, I1, r1, q1⟩ => ?_) hs rfl))
  obtain ⟨l, rfl, ⟨xs, hq⟩, q⟩ := q1
  cases r1 with
  | cons r rr =>
    cases rr
    cases r
    obtain ⟨its, rv, pl, hz⟩ := I1.list hq
    refine call_enumerate_list pl.isList fun h' he hit hsz hk => ?_
    refine wpAny_pyIter_enum he ?_
    refine ⟨_, [s1.heap.objs.size + 1, s1.heap.objs.size], _, _, H1, rfl, I1.kept (t' := s1.toks) hk, turn_enum l _ _ (Nat.ne_of_gt (Nat.lt_succ_self _)), ⟨⟨_, he⟩, hit⟩, fun b hb => ?_, q⟩
    rcases List.mem_cons.mp hb with rfl | hb
    · exact I1.fpOk (Nat.le_succ _) (I1.hok.fresh (Nat.le_succ _))
    · have e : b = s1.heap.objs.size := by simpa using hb
      subst e
      exact I1.fpOk (Nat.le_refl _) (I1.hok.fresh (Nat.le_refl _))
theorem for_enum {K : PySem.W.Frag} {a : Addr} {xs : List V} {g : TG} {tb : TS} {D : Ends} {σ : St} {H : Hp} (Pv : Nat → St → Hp → Prop) (h0 : Pv 0 σ H) (hl : ∀ i σ H, i ≤ xs.length → Pv i σ H → SqL K H a xs)
    (hs : ∀ i x T σ H, xs[i]? = some x → Pv i σ H → H T = none → g (.ref T) σ (upd H T (.tup [.int i, x])) fun σ2 H2 => tb { D with nx := Pv (i + 1), ct := Pv (i + 1), bk := D.nx } σ2 H2) (hd : ∀ σ H, Pv xs.length σ H → D.nx σ H) :
    ∃ W : Nat → Nat → St → Hp → Prop, (∃ m, W 0 m σ H) ∧ ∀ i m σ H, W i m σ H →
      ((Ite K a).stop i H ∧ D.nx σ H) ∨ ((Ite K a).go i H ∧ ∃ N : St → Hp → Prop, (∀ σ' H', N σ' H' → ∃ m', m' < m ∧ W (i + 1) m' σ' H') ∧ ∀ x H', (Ite K a).yld i H x H' → g x σ H' fun σ2 H2 => tb { D with nx := N, ct := N, bk := D.nx } σ2 H2) := by
  refine ⟨fun i m σ H => m = xs.length - i ∧ i ≤ xs.length ∧ Pv i σ H, ⟨xs.length, by simp, Nat.zero_le _, h0⟩, ?_⟩
  rintro i m σ H ⟨rfl, hi, p⟩
  have q := hl i σ H hi p
  by_cases hlt : i < xs.length
  · refine .inr ⟨⟨xs, xs[i], q, List.getElem?_eq_getElem hlt⟩, Pv (i + 1), fun σ' H' p' => ⟨xs.length - (i + 1), by omega, rfl, hlt, p'⟩, fun v H' y => ?_⟩
    obtain ⟨x, T, hx, hT, rfl, rfl⟩ := y
    exact hs i x T σ H (hx xs q) p hT
  · have e : i = xs.length := by omega
    subst e
    exact .inl ⟨⟨xs, q, Nat.le_refl _⟩, hd σ H p⟩
end L2

set_option Elab.async false
set_option linter.all false
set_option maxRecDepth 100000
set_option maxHeartbeats 4000000
namespace L2
open PySem PySem.Spec PyProof.Rows
end L2

set_option Elab.async false
set_option linter.all false
set_option maxRecDepth 100000
set_option maxHeartbeats 4000000
namespace PySem
open Builtin
open AutoSeq1 (wpAny_loadPart')
end PySem
namespace L2
open PySem PySem.Spec PyProof.Rows
section
variable {X : Cx}
end
end L2

set_option Elab.async false
set_option linter.all false
set_option maxRecDepth 100000
set_option maxHeartbeats 4000000
namespace Bd
end Bd
namespace L2
open PySem PySem.Spec PyProof.Rows Bd
section
variable {es : List Expr} {env : Env} {p : Pos}
theorem star_C {c : Const} {n : Nat} : starEach (.Constant c n p :: es) env = (false, eval (.Constant c n p) env) :: starEach es env := rfl
theorem star_N {x : Str} : starEach (.Name x p :: es) env = (false, eval (.Name x p) env) :: starEach es env := rfl
theorem star_B {a b : Expr} {o : Operator} : starEach (.BinOp a o b p :: es) env = (false, eval (.BinOp a o b p) env) :: starEach es env := rfl
theorem star_K {f : Expr} {as : List Expr} {ks : List Keyword} : starEach (.Call f as ks p :: es) env = (false, eval (.Call f as ks p) env) :: starEach es env := rfl
theorem star_S {a b : Expr} : starEach (.Subscript a b p :: es) env = (false, eval (.Subscript a b p) env) :: starEach es env := rfl
theorem star_T {as : List Expr} {n : Nat} : starEach (.Tuple as n p :: es) env = (false, eval (.Tuple as n p) env) :: starEach es env := rfl
theorem star_U {o : UnaryOp} {a : Expr} : starEach (.UnaryOp o a p :: es) env = (false, eval (.UnaryOp o a p) env) :: starEach es env := rfl
end
@[irreducible] def PAq (X : Cx) (es : List Expr) (t : TA) : Prop := PA X es t
section
variable {X : Cx} {e : Expr} {es : List Expr} {te : TE} {t : TA} {pos : Pos}
theorem paq_nil : PAq X [] tNil := by unfold PAq; exact pa_nil
theorem paq_cons (ha : PE X e te) (hr : PAq X es t) (hs : starEach (e :: es) X.env = (false, eval e X.env) :: starEach es X.env) : PAq X (e :: es) (tCons te t) := by unfold PAq at *; exact pa_cons ha hr hs
theorem pe_tupq {x1 : Nat} (h : PAq X es t) : PE X (.Tuple es x1 pos) (tTup t) := by unfold PAq at h; exact pe_tup h
end
theorem ixN_nat {n x : Nat} (h : x < n) : ixN n (x : Int) = some x := by
  unfold ixN
  rw [if_pos (by omega), if_pos (by omega)]
  rfl
theorem pickI {L : List Int} {i : Int} (h0 : 0 ≤ i) (h1 : i < (L.length : Int)) : ∃ z ∈ L, atI (L.map V.int) i = some (.int z) := by
  have e : L[i.toNat]? = some L[i.toNat] := List.getElem?_eq_getElem (by omega)
  refine ⟨L[i.toNat], List.getElem_mem _, ?_⟩
  have h : atI (L.map V.int) ((i.toNat : Nat) : Int) = some (.int L[i.toNat]) := atI_nat (by rw [List.getElem?_map, e]; rfl)
  rwa [Int.toNat_of_nonneg h0] at h
theorem pickN {L : List Int} {i : Int} (n : Nat) (hn : L.length = n) (h0 : 0 ≤ i) (h1 : i < (n : Int)) : ∃ z ∈ L, atI (L.map V.int) i = some (.int z) := pickI h0 (by rw [hn]; exact h1)
theorem while_ix {c : TT} {tb : TS} {D : Ends} {σ : St} {H : Hp} (k : Nat) (Pv : Nat → St → Hp → Prop) (h0 : Pv 0 σ H)
    (hs : ∀ i σ H, i ≤ k → Pv i σ H → c σ H fun b H1 => if b = true then i < k ∧ tb { D with nx := Pv (i + 1), ct := Pv (i + 1), bk := D.nx } σ H1 else D.nx σ H1)
    (mono : ∀ σ H Q Q', (∀ b H1, Q b H1 → Q' b H1) → c σ H Q → c σ H Q') : tWhile c tb D σ H := by
  refine ⟨fun m σ H => ∃ i, i ≤ k ∧ m = k - i ∧ Pv i σ H, ⟨_, 0, Nat.zero_le _, rfl, h0⟩, ?_⟩
  rintro m σ H ⟨i, hi, rfl, p⟩
  refine mono σ H _ _ (fun b H1 q => ?_) (hs i σ H hi p)
  cases b with
  | true => exact ⟨Pv (i + 1), fun σ' H' p' => ⟨k - (i + 1), by have := q.1; omega, i + 1, by have := q.1; omega, rfl, p'⟩, q.2⟩
  | false => exact q
end L2

set_option Elab.async false
set_option linter.all false
set_option maxRecDepth 100000
set_option maxHeartbeats 4000000
namespace Bd
end Bd
namespace L2
open PySem PySem.Spec PyProof.Rows Bd
theorem ints_of : ∀ {ns : List Int} {its : List Value}, Vals (ns.map V.int) its → IntsAre its ns
  | [], _, .nil => .nil
  | n :: ns, _, .cons ⟨t, h⟩ r => by subst h; exact .cons n t (ints_of r)
end L2

set_option Elab.async false
set_option linter.all false
set_option maxRecDepth 100000
set_option maxHeartbeats 4000000
namespace L2
open PySem PySem.Spec PyProof.Rows
open Bd
end L2

set_option Elab.async false
set_option linter.all false
set_option maxRecDepth 100000
set_option maxHeartbeats 4000000
namespace L2
open PySem PySem.Spec PyProof.Rows Bd
theorem dS {x y : Str} (h : x ≠ y) : decide (V.str x = V.str y) = false := decide_eq_false fun e => h (V.str.inj e)
end L2

set_option Elab.async false
set_option linter.all false
set_option maxRecDepth 100000
set_option maxHeartbeats 4000000
namespace L2
open PySem PySem.Spec PyProof.Rows
section
open PySem.SeqAt
open PySem.AutoSeq1 (wpAny_loadPart')
open PySem.MeetsSeq PySem.MeetsSeq2 PySem.MeetsSeq3
end
noncomputable def upto (n : Nat) : List V := (List.range n).map fun i : Nat => V.int (i : Int)
noncomputable def tLRange (ta : TA) : TE := fun σ H Q => ta σ H fun vs H1 => ∃ n : Nat, vs = [.int (n : Int)] ∧ n ≤ 1000000 ∧ ∀ l, H1 l = none → Q (.ref l) (upd H1 l (.lst (upto n)))
theorem vals_upto {n : Nat} {acc : Array Value} (h : ItemsOf (fun i v => ∃ t, v = .int (0 + (i : Int) * 1) t) acc n) : Vals (upto n) acc.toList := by
  have key : ∀ (k : Nat) (l : List Value), (∀ (j : Nat) (v : Value), l[j]? = some v → ∃ t, v = Value.int ((k + j : Nat) : Int) t) → Vals ((List.range' k l.length).map fun i : Nat => V.int (i : Int)) l := by
    intro k l
    induction l generalizing k with
    | nil => intro _; exact .nil
    | cons x l ih =>
      intro hl
      rw [List.length_cons, List.range'_succ, List.map_cons]
      obtain ⟨t, ht⟩ := hl 0 x rfl
      refine .cons ⟨t, by rw [ht]; rfl⟩ (ih (k + 1) fun j v hj => ?_)
      obtain ⟨t', ht'⟩ := hl (j + 1) v (by simpa using hj)
      exact ⟨t', by rw [ht']; congr 1; omega⟩
  have hl : acc.toList.length = n := by simpa using h.1
  have := key 0 acc.toList fun j v hj => by
    obtain ⟨t, ht⟩ := h.2 j v (by simpa using hj)
    exact ⟨t, by rw [ht]; congr 1; omega⟩
  rw [hl] at this
  unfold upto
  rw [List.range_eq_range']
  exact this
theorem pe_lrange {X : Cx} {a : Expr} {ta : TA} {p p2 pos pos2 : Pos} (hc : X.calm = true) (hgl : Gl X "list") (hml : X.mg "list" = none) (hg : Gl X "range") (hm : X.mg "range" = none) (ha : PA X [a] ta)
    (hs : starEach [a] X.env = [(false, eval a X.env)] := by rfl) : PE X (.Call (.Name "list" p) [.Call (.Name "range" p2) [a] [] pos2] [] pos) (tLRange ta) := by
  intro pins s σ H Q I h
  refine wpAny_Call_Name_kw (ld_blt I hgl hml bt_list ?_ (by decide) (by decide))
  refine PyProof.Rows.callWith_type1 ?_ rfl rfl
  show wpAny _ _ (spliced ((false, eval (.Call (.Name "range" p2) [a] [] pos2) X.env) :: backTo pos (starEach [] X.env))) _ _ s
  refine Calls.spliced_cons ?_
  refine Call_ (ld_blt I hg hm boot_range (PyProof.Rows.callWith_type1 (thn (ha pos2 pins s σ H _ I h) fun us s1 hx => ?_) hs rfl))
  obtain ⟨vs, H1, I1, r1, n, e, hn, q⟩ := hx
  subst e
  obtain ⟨u, rfl, ru⟩ := vals1 r1
  obtain ⟨t, rfl⟩ := (show ∃ t, u = Value.int (n : Int) t from ru)
  refine call_range_1 ?_
  refine Calls.spliced_nil ?_
  have p62 : (2 : Int) ^ 62 = 4611686018427387904 := by decide
  refine call_list_range (n := n) (I1.ok.hd hc) (IsRange.new ..) (small_one (by decide) (by decide) (by omega) (by omega)) (by rw [rangeSize_one]; split <;> omega) (by omega) fun h' tk acc c' hk hl hi => ?_
  have hsz : (s1.heap.push { cls := .type "range", data := .fields #[.int 0 s1.toks, .int (n : Int) t, .int 1 (s1.toks + 1)] }).objs.size = s1.heap.objs.size + 1 := Heap.size_push ..
  have hf : H1 (s1.heap.objs.size + 1) = none := I1.hok.fresh (Nat.le_succ _)
  have hul : (upto n).length ≤ sizeLine := by unfold upto; rw [List.length_map, List.length_range]; exact szl hn
  change h'.get? (s1.heap.push { cls := .type "range", data := .fields #[.int 0 s1.toks, .int (n : Int) t, .int 1 (s1.toks + 1)] }).objs.size = _ at hl
  rw [hsz] at hl
  refine ⟨.ref (s1.heap.objs.size + 1), upd H1 (s1.heap.objs.size + 1) (.lst (upto n)), I1.laid (t' := tk) (o := .lst (upto n)) (fun b o e => hk b o (Heap.get?_push_of_some _ e)) (Nat.le_succ _) ⟨hul, acc.toList, c', vals_upto hi, by simpa using hl⟩, ?_, q _ hf⟩
  show Value.ref _ = Value.ref _
  rw [← hsz]
end L2

set_option Elab.async false
set_option linter.all false
set_option maxRecDepth 100000
set_option maxHeartbeats 4000000
namespace L2
open PySem PySem.Spec PyProof.Rows
section
variable {prog : Program} {w : World} {A : Around} {E : Value → Shared → Prop} {s : Shared}
theorem tu_ask {it t : Addr} {k : Nat} {its : Array Value} {Q : Value → Shared → Prop} (a : s.heap.IsTupleIter it t k) (b : s.heap.IsTuple t its)
    (q : wpAny (model prog w) A.in1 (match its[k]? with
        | some x => do setField (.ref it) 1 (rawInt (k + 1)); ret x
        | none => do rule (toString "tuple_iterator.__next__" ++ toString ".end"); setField (.ref it) 0 .none; Builtin.SmallTypes.stopIteration) (fun fin s' => ∃ v, fin = .done (.ret v) ∧ Q v s') E s) :
    wpAny (model prog w) A (Builtin.SmallTypes.nextOf (.ref it)) Q E s := by
  have ty := a.typeIs
  obtain ⟨o, g, c, d⟩ := a
  obtain ⟨o2, g2, -, n2, d2⟩ := b
  unfold Builtin.SmallTypes.nextOf
  apply wpAny_bind
  apply wpAny_callSpecial?_slot (name := Str.ofString "__next__") ty F.slot_tuple_iterator_next
  refine wpAny_call_entry F.slot_tuple_iterator_next ty F.entry_tuple_iterator_next ?_ (F.args_tuple_iterator_next_1 _)
  unfold Builtin.«tuple_iterator.__next__»
  wp_walk using wpAny_field g d (x := .ref t) rfl
  rw [d]
  apply wpAny_pure
  apply wpAny_pure
  apply wpAny_bind
  apply wpAny_seqItems g2 d2
  rw [show Int.toNat (k : Int) = k from rfl]
  exact wpAny_mono q (fun fin s' ⟨v, e, z⟩ => ⟨v, e, wpAny_pure z⟩) fun _ _ z => z
theorem tu_item {it t : Addr} {k : Nat} {its : Array Value} {x : Value} {Q : Value → Shared → Prop} (a : s.heap.IsTupleIter it t k) (b : s.heap.IsTuple t its) (hx : its[k]? = some x)
    (q : ∀ h', h'.IsTupleIter it t (k + 1) → Heap.SameBut it s.heap h' → Q x { s with heap := h' }) : wpAny (model prog w) A (Builtin.SmallTypes.nextOf (.ref it)) Q E s := by
  apply tu_ask a b
  obtain ⟨o, g, c, d⟩ := a
  rw [hx]
  apply wpAny_bind
  apply wpAny_setField g d (by simp)
  apply wpAny_pure
  refine ⟨x, rfl, q _ ⟨_, Heap.get?_update_self _ g ?_, ?_, ?_⟩ (Heap.SameBut.update ..)⟩
  · exact Obj.isFreed_of_fields (Obj.data_mapFields d _)
  · exact (Obj.cls_mapFields ..).trans c
  · rw [Obj.data_mapFields d]; rfl
theorem tu_end {it t : Addr} {k : Nat} {its : Array Value} {Q : Value → Shared → Prop} (hh : A.handled = none) (a : s.heap.IsTupleIter it t k) (b : s.heap.IsTuple t its) (hx : its[k]? = none)
    (q : ∀ h' e, Heap.ExtBut it s.heap h' → (∃ o, h'.get? e = some o ∧ o.cls = .type "StopIteration") → E (.ref e) { s with heap := h' }) : wpAny (model prog w) A (Builtin.SmallTypes.nextOf (.ref it)) Q E s := by
  apply tu_ask a b
  obtain ⟨o, g, c, d⟩ := a
  rw [hx]
  apply wpAny_bind
  apply wpAny_rule
  apply wpAny_bind
  apply wpAny_setField g d (by simp)
  have h1 : A.in1.handled = none := hh
  wp_walk
  unfold raiseNew
  apply wpAny_bind
  apply wpAny_handled
  rw [h1]
  show wpAny _ _ (throw _) _ _ _
  apply wpAny_throw
  exact q _ _ (((Heap.SameBut.update ..).extBut.push _).push _) ⟨_, Heap.get?_push_size _ rfl, rfl⟩
theorem drawsT (hh : A.handled = none) (it t : Addr) (ne : t ≠ it) (its : Array Value) : Draws prog w A it [it, t] its.size (fun i v => its[i]? = some v) (fun i h => h.IsTupleIter it t i ∧ h.IsTuple t its) where
  live := fun _ _ ⟨⟨o, g, _⟩, _⟩ => ⟨o, g⟩
  frame := fun _ _ _ ⟨⟨o, g, r⟩, ⟨o2, g2, r2⟩⟩ k => ⟨⟨o, k it (by simp) o g, r⟩, ⟨o2, k t (by simp) o2 g2, r2⟩⟩
  item := fun i s Q E lt ⟨a, b⟩ q => tu_item a b (Array.getElem?_eq_getElem lt) fun h' a' sb => q _ h' s.toks (Array.getElem?_eq_getElem lt) ⟨a', b.extBut sb.extBut ne⟩ sb
  done := fun s Q E ⟨a, b⟩ q => tu_end hh a b (by simp) q
end
section
variable {prog : Program} {w : World} {A : Around} {E : Value → Shared → Prop} {s : Shared}
end
noncomputable def Itu (K : PySem.W.Frag) (a : Addr) : It :=
  ⟨fun i H => ∃ xs x, SqT K H a xs ∧ xs[i]? = some x, fun i H v H' => ∃ x T, (∀ xs, SqT K H a xs → xs[i]? = some x) ∧ H T = none ∧ v = .ref T ∧ H' = upd H T (.tup [.int i, x]), fun i H => ∃ xs, SqT K H a xs ∧ xs.length = i⟩
theorem turn_enumT {P : Program} {w : World} {K : PySem.W.Frag} {elts : List Expr} {x1 : Nat} {pos : Pos} (a e it : Addr) (hei : e ≠ it) (na : a ≠ it) (ne : e ≠ a) : Turn P w K (.Tuple elts x1 pos) (Itu K a) [e, it] e (fun i h => (∃ old, IsEnum h e it i old) ∧ h.IsTupleIter it a i) where
  mem := by simp
  obj := fun i h st b hb => by
    obtain ⟨⟨old, he⟩, hit⟩ := st
    rcases List.mem_cons.mp hb with rfl | hb
    · exact ⟨_, he, fun v z => by cases z⟩
    · have e : b = it := by simpa using hb
      subst e
      obtain ⟨o, e, c, d⟩ := hit
      exact ⟨o, e, fun v z => by rw [d] at z; cases z⟩
  keep := fun i h h' st k => by
    obtain ⟨⟨old, he⟩, hit⟩ := st
    exact ⟨⟨old, k e (by simp) _ he⟩, hit.at fun o e => k it (by simp) o e⟩
  item := by
    intro X hP hw hK hc i pins s σ H E I hf st hg
    subst hP hw hK
    obtain ⟨xs, x, hq, hx⟩ := hg
    obtain ⟨its, rv, p, hz⟩ := I.tuple hq
    obtain ⟨u, hu, ru⟩ := rv.get hx
    obtain ⟨⟨old, he⟩, hit⟩ := st
    have p' : s.heap.IsTuple a its.toArray := p
    have hn : X.A.in1.handled = none := I.ok.hd hc
    have d1 := drawsT (prog := X.prog) (w := X.w) hn it a na its.toArray
    have l1 := rv.length
    obtain ⟨b1, _⟩ := List.getElem?_eq_some_iff.1 hx
    refine wpAny_pyNext_enum_itemD d1 he ⟨hit, p'⟩ (by simp; omega) hei (by simp [hei, ne]) fun u' h1 tk hu' ho hit' hT hsz hk => ⟨_, rfl, ?_⟩
    have eu : u = u' := by simpa [hu] using hu'
    subst eu
    refine wpAny_letOwnedTupleGo_enum ho fun h2 he2 hs2 => ?_
    have hTn : H s.heap.objs.size = none := I.hok.fresh (Nat.le_refl _)
    have helt : e < s.heap.objs.size := Heap.lt_size he
    have hilt : it < s.heap.objs.size := by obtain ⟨_, x, _⟩ := hit; exact Heap.lt_size x
    have I1 : Inv X pins σ (upd H s.heap.objs.size (.tup [.int i, x])) { s with heap := s.heap.push { cls := .type "tuple", data := .seq #[.int i tk, u] }, toks := tk + 1 } := I.laid (t' := tk + 1) (o := .tup [.int i, x]) (fun b o e => Heap.get?_push_of_some _ e) (Nat.le_refl _) ⟨szl (by show 2 ≤ 1000000; decide), [.int i tk, u], .cons ⟨_, rfl⟩ (.cons ru .nil), IsTupN.new _ _⟩
    have I2 : Inv X pins σ (upd H s.heap.objs.size (.tup [.int i, x])) { s with heap := h2, toks := tk + 1 } := by
      refine Inv.turnedL (s := { s with heap := s.heap.push { cls := .type "tuple", data := .seq #[.int i tk, u] }, toks := tk + 1 }) (h' := h2) (ch := [e, it]) (t' := tk + 1) I1 (fun b o hb q => ?_) (fun b hb => ?_)
      · have nbe : b ≠ e := fun z => hb (by simp [z])
        have nbi : b ≠ it := fun z => hb (by simp [z])
        show h2.get? b = some o
        rw [hs2.2 b nbe]
        rcases Heap.get?_push_cases q with ⟨rfl, rfl⟩ | q
        · exact hT
        · exact hk b o nbe nbi q
      · obtain ⟨f0, f1, f2, f3, f4, f5⟩ := hf b hb
        have nb : b ≠ s.heap.objs.size := by
          rcases List.mem_cons.mp hb with rfl | hb
          · exact Nat.ne_of_lt helt
          · have : b = it := by simpa using hb
            subst this
            exact Nat.ne_of_lt hilt
        exact ⟨by rw [upd_ne nb]; exact f0, f1, f2, f3, f4, f5⟩
    refine ⟨.ref s.heap.objs.size, _, I2, rfl, ⟨x, _, fun ys hy => by rw [I.tuple_inj hy hq]; exact hx, hTn, rfl, rfl⟩, ⟨⟨_, by simpa using he2⟩, hit'.1.at fun o y => (hs2.2 it hei.symm).trans y⟩, fun b hb => ?_⟩
    obtain ⟨f0, f1, f2, f3, f4, f5⟩ := hf b hb
    have nb : b ≠ s.heap.objs.size := by
      rcases List.mem_cons.mp hb with rfl | hb
      · exact Nat.ne_of_lt helt
      · have : b = it := by simpa using hb
        subst this
        exact Nat.ne_of_lt hilt
    rw [upd_ne nb]
    exact f0
  done := by
    intro X hP hw hK hc i pins s σ H E I hf st hg
    subst hP hw hK
    obtain ⟨xs, hq, hx⟩ := hg
    obtain ⟨its, rv, p, hz⟩ := I.tuple hq
    obtain ⟨⟨old, he⟩, hit⟩ := st
    have p' : s.heap.IsTuple a its.toArray := p
    have hn : X.A.in1.handled = none := I.ok.hd hc
    have d1 := drawsT (prog := X.prog) (w := X.w) hn it a na its.toArray
    have hl := rv.length
    have e1 : its.toArray.size = i := by simp; omega
    refine wpAny_pyNext_enum_endD d1 he ⟨by rw [e1]; exact hit, p'⟩ fun h' eb => ⟨rfl, ?_⟩
    exact I.turnedL (ch := [e, it]) (t' := s.toks) (fun b o hb q => eb b o (fun z => hb (by simp [z])) q) hf
  self := fun _ _ _ _ _ st h => by
    obtain ⟨⟨old, he⟩, _⟩ := st
    exact wpAny_pyIter_enum he h
theorem enum_newT (l : Addr) (items : Array Value) (n : Nat) (dd : Option Addr) (sl : Array (Option Value)) :
    Meets (Builtin.«enumerate.__new__» ⟨[.type "enumerate", .ref l], []⟩) (fun _ R s => s.heap.get? l = some { cls := .type "tuple", dict := dd, data := .seq items n, slots := sl } ∧
      ∀ h', IsEnum h' (s.heap.objs.size + 1) s.heap.objs.size 0 .none → h'.IsTupleIter s.heap.objs.size l 0 → (∀ c o, s.heap.get? c = some o → h'.get? c = some o) → R (.ok (.ret (.ref (s.heap.objs.size + 1)))) { s with heap := h' }) :=
  .of_wp fun prog w A R s h => by
    obtain ⟨hp, g, d, tk, os⟩ := s
    obtain ⟨hl, h⟩ := h
    have hsub := sub_enumerate
    have hL : Heap.IsTuple (Shared.heap ⟨hp, g, d, tk, os⟩) l items := ⟨_, hl, rfl, n, rfl⟩
    have key : ∀ (n1 : Nat) (h' : Heap), n1 = hp.objs.size + 1 → IsEnum h' n1 hp.objs.size 0 .none → h'.IsTupleIter hp.objs.size l 0 → (∀ c o, hp.get? c = some o → h'.get? c = some o) → R (.ok (.ret (.ref n1))) ⟨h', g, d, tk, os⟩ := by
      rintro _ h' rfl
      exact h h'
    wp_walk using AutoSeq1.wpAny_loadPart' hl
    apply wpAny_stack_any
    intro st
    apply wpAny_pure
    have fin : R (.ok (.ret (.ref (hp.push { cls := .type "tuple_iterator", data := .fields #[.ref l, .int 0 0] }).objs.size))) ⟨(hp.push { cls := .type "tuple_iterator", data := .fields #[.ref l, .int 0 0] }).push { cls := .type "enumerate", data := .fields #[.none, .bool false, .ref hp.objs.size, rawInt 0, .none, .none] }, g, d, tk, os⟩ :=
      key _ _ (by simp only [Heap.size_push]) (Heap.get?_push_size _ rfl) ⟨_, Heap.get?_push_of_some _ (Heap.get?_push_size _ rfl), rfl, rfl⟩ fun c o e => Heap.get?_push_of_some _ (Heap.get?_push_of_some _ e)
    split
    · rename_i c _ _ _ _ _
      cases (c == Value.type "enumerate")
      all_goals
        wp_walk using AutoSeq1.wpAny_loadPart' hl, wpAny_pyIter_tuple hL
        exact ⟨_, rfl, fin⟩
    · wp_walk using AutoSeq1.wpAny_loadPart' hl, wpAny_pyIter_tuple hL
      exact ⟨_, rfl, fin⟩
noncomputable def iEnumT (K : PySem.W.Frag) (ta : TA) : TI := fun σ H R => ta σ H fun vs H1 => ∃ a : Addr, vs = [.ref a] ∧ (∃ xs, SqT K H1 a xs) ∧ R (Itu K a) H1
theorem pi_enumT {X : Cx} {a : Expr} {ta : TA} {p pos : Pos} {elts : List Expr} {x1 : Nat} {pos2 : Pos} (hg : Gl X "enumerate") (hm : X.mg "enumerate" = none) (ha : PA X [a] ta) (hs : starEach [a] X.env = [(false, eval a X.env)] := by rfl) : PI X (.Tuple elts x1 pos2) (.Call (.Name "enumerate" p) [a] [] pos) (iEnumT X.K ta) := by
  intro pins s σ H R I h
  refine Call_ (ld_blt I hg hm boot_enumerate (PyProof.Rows.callWith_type1 (thn (ha pos pins s σ H _ I h) fun us s1 ⟨vs, H1, I1, r1, q1⟩ => ?_) hs rfl))
  obtain ⟨l, rfl, ⟨xs, hq⟩, q⟩ := q1
  cases r1 with
  | cons r rr =>
    cases rr
    cases r
    obtain ⟨its, rv, pl, hz⟩ := I1.tuple hq
    have lt1 : l < s1.heap.objs.size := pl.lt
    obtain ⟨⟨c, dct, dt, sl⟩, hl, hc, n, hd⟩ := pl
    have hc' : c = .type "tuple" := hc
    have hd' : dt = .seq its.toArray n := hd
    subst hc' hd'
    refine callType_new F.called_enumerate (by decide) (F.typeCall_enumerate_1 _) (F.newCall_enumerate_1 _) (fun obj => F.args_object_init_2 obj _) F.entry_enumerate_new (enum_newT l its.toArray n dct sl) ⟨hl, fun h' he hit hk => ⟨⟨_, he, rfl⟩, ?_⟩⟩
    refine wpAny_pyIter_enum he ?_
    refine ⟨_, [s1.heap.objs.size + 1, s1.heap.objs.size], _, _, H1, rfl, I1.kept (t' := s1.toks) hk, turn_enumT l _ _ (Nat.ne_of_gt (Nat.lt_succ_self _)) (Nat.ne_of_lt lt1) (Nat.ne_of_gt (Nat.lt_of_lt_of_le lt1 (Nat.le_add_right _ _))), ⟨⟨_, he⟩, hit⟩, fun b hb => ?_, q⟩
    rcases List.mem_cons.mp hb with rfl | hb
    · exact I1.fpOk (Nat.le_succ _) (I1.hok.fresh (Nat.le_succ _))
    · have e : b = s1.heap.objs.size := by simpa using hb
      subst e
      exact I1.fpOk (Nat.le_refl _) (I1.hok.fresh (Nat.le_refl _))
theorem for_enumT {K : PySem.W.Frag} {a : Addr} {xs : List V} {g : TG} {tb : TS} {D : Ends} {σ : St} {H : Hp} (Pv : Nat → St → Hp → Prop) (h0 : Pv 0 σ H) (hl : ∀ i σ H, i ≤ xs.length → Pv i σ H → SqT K H a xs)
    (hs : ∀ i x T σ H, xs[i]? = some x → Pv i σ H → H T = none → g (.ref T) σ (upd H T (.tup [.int i, x])) fun σ2 H2 => tb { D with nx := Pv (i + 1), ct := Pv (i + 1), bk := D.nx } σ2 H2) (hd : ∀ σ H, Pv xs.length σ H → D.nx σ H) :
    ∃ W : Nat → Nat → St → Hp → Prop, (∃ m, W 0 m σ H) ∧ ∀ i m σ H, W i m σ H →
      ((Itu K a).stop i H ∧ D.nx σ H) ∨ ((Itu K a).go i H ∧ ∃ N : St → Hp → Prop, (∀ σ' H', N σ' H' → ∃ m', m' < m ∧ W (i + 1) m' σ' H') ∧ ∀ x H', (Itu K a).yld i H x H' → g x σ H' fun σ2 H2 => tb { D with nx := N, ct := N, bk := D.nx } σ2 H2) := by
  refine ⟨fun i m σ H => m = xs.length - i ∧ i ≤ xs.length ∧ Pv i σ H, ⟨xs.length, by simp, Nat.zero_le _, h0⟩, ?_⟩
  rintro i m σ H ⟨rfl, hi, p⟩
  have q := hl i σ H hi p
  by_cases hlt : i < xs.length
  · refine .inr ⟨⟨xs, xs[i], q, List.getElem?_eq_getElem hlt⟩, Pv (i + 1), fun σ' H' p' => ⟨xs.length - (i + 1), by omega, rfl, hlt, p'⟩, fun v H' y => ?_⟩
    obtain ⟨x, T, hx, hT, rfl, rfl⟩ := y
    exact hs i x T σ H (hx xs q) p hT
  · have e : i = xs.length := by omega
    subst e
    exact .inl ⟨⟨xs, q, rfl⟩, hd σ H p⟩
end L2

set_option Elab.async false
set_option linter.all false
set_option maxRecDepth 100000
set_option maxHeartbeats 4000000
namespace L2
open PySem PySem.Spec PyProof.Rows
noncomputable abbrev Tri := Int × Int × Int
noncomputable def TrisAt (H : Hp) (ys : List V) (B : List Tri) : Prop := ys.length = B.length ∧ ∀ (i : Nat) (y : V) (b : Tri), ys[i]? = some y → B[i]? = some b → ∃ t, y = .ref t ∧ H t = some (.tup [.int b.1, .int b.2.1, .int b.2.2])
theorem TrisAt.over {H H' : Hp} {ys : List V} {B : List Tri} (h : TrisAt H ys B) (e : Same H H') : TrisAt H' ys B := ⟨h.1, fun i y b p q => by obtain ⟨t, x, z⟩ := h.2 i y b p q; exact ⟨t, x, e _ _ z⟩⟩
theorem TrisAt.nil {H : Hp} : TrisAt H [] [] := ⟨rfl, fun i y b p => by simp at p⟩
theorem TrisAt.snoc {H : Hp} {ys : List V} {B : List Tri} {t : Addr} {b : Tri} (h : TrisAt H ys B) (ht : H t = some (.tup [.int b.1, .int b.2.1, .int b.2.2])) : TrisAt H (ys ++ [.ref t]) (B ++ [b]) := by
  refine ⟨by rw [List.length_append, List.length_append, h.1]; rfl, fun i y c p q => ?_⟩
  by_cases l : i < ys.length
  · rw [List.getElem?_append_left l] at p
    rw [List.getElem?_append_left (by rw [← h.1]; exact l)] at q
    exact h.2 i y c p q
  · have hi : i = ys.length := by
      have := (List.getElem?_eq_some_iff.mp p).1
      rw [List.length_append, List.length_singleton] at this
      omega
    subst hi
    rw [List.getElem?_append_right (Nat.le_refl _), Nat.sub_self] at p
    rw [h.1, List.getElem?_append_right (Nat.le_refl _), Nat.sub_self] at q
    cases p; cases q
    exact ⟨t, rfl, ht⟩
theorem TrisAt.upd {H : Hp} {ys zs xs : List V} {B : List Tri} {l : Addr} (h : TrisAt H ys B) (hl : H l = some (.lst zs)) : TrisAt (upd H l (.lst xs)) ys B := ⟨h.1, fun i y b p q => by
  obtain ⟨t, x, z⟩ := h.2 i y b p q
  exact ⟨t, x, by rw [upd_ne (ne_of z hl (by intro z; cases z))]; exact z⟩⟩
end L2
namespace L2
open PySem PySem.Spec PyProof.Rows
end L2
namespace L2
open PySem PySem.Spec PyProof.Rows
noncomputable def rCatH : R2 := fun x y H Q => ∃ (a b : Addr) (xs ys : List V), x = .ref a ∧ y = .ref b ∧ H a = some (.tup xs) ∧ H b = some (.tup ys) ∧ xs.length + ys.length ≤ sizeLine ∧ ∀ (p : Addr) (H' : Hp), Same H H' → H' p = some (.tup (xs ++ ys)) → Q (.ref p) H'
theorem op_catH {X : Cx} : OpR X (binaryOp .Add) rCatH := by
  intro pins s σ H x y v u Q I rx ry h
  obtain ⟨a, b, xs, ys, rfl, rfl, ha, hb, hz, q⟩ := h
  by_cases c : xs = []
  · subst c
    cases rx
    cases ry
    obtain ⟨its, r1, p1, _⟩ := I.tuple (SqT.of ha)
    obtain ⟨its2, r2, p2, _⟩ := I.tuple (SqT.of hb)
    obtain ⟨⟨cls, dd, data, sl⟩, ho, hc, n, hd⟩ := id p1
    obtain ⟨⟨cls2, dd2, data2, sl2⟩, ho2, hc2, n2, hd2⟩ := id p2
    simp only at hc hd hc2 hd2
    subst hc hd hc2 hd2
    have e : its = [] := r1.nil_iff.mpr rfl
    exact concat_meets ⟨_, ho, rfl⟩ ⟨_, ho2, rfl⟩ noFill_tuple_add seq_tuple_add PySem.F.slot_tuple_add PySem.F.entry_tuple_add (PySem.F.args_tuple_add_2 _ _)
      (tuple_addW0 a b its.toArray its2.toArray n n2 dd dd2 sl sl2 (by simp [e])) ⟨ho, ho2, .ref b, H, I, rfl, q b H (Same.refl _) hb⟩
  · refine op_catT pins s σ H (.ref a) (.ref b) v u Q I rx ry ⟨a, b, xs, ys, rfl, rfl, SqT.of ha, SqT.of hb, c, hz, fun z => ?_, fun z p hp => ?_⟩
    · subst z
      exact q a H (Same.refl _) (by rw [List.append_nil]; exact ha)
    · exact q p _ (same_new hp _) upd_same
end L2

set_option linter.all false
namespace Fo
inductive F (W : Type) where
  | nil : F W
  | leaf (k : Int) (pl : List (Int × Int)) (rest : F W) : F W
  | node (cut : Bool) (way : W) (sub rest : F W) : F W
structure Bo (W : Type) where
  k : Int
  sh : Nat
  ways : List (Bool × W)
  pl : List (Int × Int)
variable {W L : Type}
noncomputable def HeadSh (B : List (Bo W)) (d : Nat) : Prop := ∀ c, B.head? = some c → c.sh = d
noncomputable def Is : F W → List (Bo W) → Nat → Prop
  | .nil, B, _ => B = []
  | .leaf k pl rest, B, d => ∃ b B', B = b :: B' ∧ b.k = k ∧ b.pl = pl ∧ b.ways.length = d ∧ HeadSh B' d ∧ Is rest B' d
  | .node cut way sub rest, B, d => ∃ b G B', B = (b :: G) ++ B' ∧ b.ways[d]? = some (cut, way) ∧ (∀ c ∈ G, d < c.sh) ∧ HeadSh B' d ∧ Is sub (b :: G) (d + 1) ∧ Is rest B' d
section
variable (hdr : Nat → Bool → W → L) (dl : Nat → Int → List (Int × Int) → L)
end
structure Ok (B : List (Bo W)) : Prop where
  sh : ∀ b ∈ B, b.sh ≤ b.ways.length
  ln : ∀ (i : Nat) (b c : Bo W), B[i]? = some b → B[i + 1]? = some c → c.sh ≤ b.ways.length ∧ c.ways.take c.sh = b.ways.take c.sh
structure En where
  k : Int
  pl : List (Int × Int)
  path : List Int
noncomputable def deedsF : F W → List Int → Nat → List En
  | .nil, _, _ => []
  | .leaf k pl rest, p, j => ⟨k, pl, p ++ [(j : Int)]⟩ :: deedsF rest p (j + 1)
  | .node _ _ sub rest, p, j => deedsF sub (p ++ [(j : Int)]) 0 ++ deedsF rest p (j + 1)
theorem deeds_map : ∀ (f : F W) (B : List (Bo W)) (d : Nat) (p : List Int) (j : Nat), Is f B d → (deedsF f p j).map (fun e => (e.k, e.pl)) = B.map fun b => (b.k, b.pl)
  | .nil, B, d, p, j, h => by cases (show B = [] from h); rfl
  | .leaf k pl rest, B, d, p, j, h => by
    obtain ⟨b, B', rfl, rfl, rfl, hl, hh, hr⟩ := h
    show (b.k, b.pl) :: _ = (b.k, b.pl) :: _
    rw [deeds_map rest B' d p (j + 1) hr]
  | .node c w sub rest, B, d, p, j, h => by
    obtain ⟨b, G, B', rfl, hw, hG, hh, hs, hr⟩ := h
    show List.map _ (deedsF sub (p ++ [(j : Int)]) 0 ++ deedsF rest p (j + 1)) = _
    rw [List.map_append, deeds_map sub (b :: G) (d + 1) _ _ hs, deeds_map rest B' d p (j + 1) hr, ← List.map_append]
theorem deeds_len {f : F W} {B : List (Bo W)} {d : Nat} (p : List Int) (j : Nat) (h : Is f B d) : (deedsF f p j).length = B.length := by
  have := congrArg List.length (deeds_map f B d p j h)
  rwa [List.length_map, List.length_map] at this
theorem deeds_begin : ∀ (f : F W) (p : List Int) (j : Nat) (e : En), e ∈ deedsF f p j → ∃ (i : Nat) (q : List Int), j ≤ i ∧ e.path = p ++ (i : Int) :: q
  | .nil, p, j, e, h => by cases h
  | .leaf k pl rest, p, j, e, h => by
    rcases List.mem_cons.mp h with rfl | h
    · exact ⟨j, [], Nat.le_refl _, rfl⟩
    · obtain ⟨i, q, h1, h2⟩ := deeds_begin rest p (j + 1) e h
      exact ⟨i, q, by omega, h2⟩
  | .node c w sub rest, p, j, e, h => by
    rcases List.mem_append.mp h with h | h
    · obtain ⟨i, q, h1, h2⟩ := deeds_begin sub (p ++ [(j : Int)]) 0 e h
      exact ⟨j, (i : Int) :: q, Nat.le_refl _, by rw [h2]; simp⟩
    · obtain ⟨i, q, h1, h2⟩ := deeds_begin rest p (j + 1) e h
      exact ⟨i, q, by omega, h2⟩
noncomputable def Sep (x y : List Int) (n : Nat) : Prop := ∃ (c : List Int) (i j : Int) (q r : List Int), x = c ++ i :: q ∧ y = c ++ j :: r ∧ c.length = n ∧ i < j
noncomputable def Least (B : List (Bo W)) (i1 i2 m : Nat) : Prop := (∃ j c, i1 < j ∧ j ≤ i2 ∧ B[j]? = some c ∧ c.sh = m) ∧ ∀ j c, i1 < j → j ≤ i2 → B[j]? = some c → m ≤ c.sh
theorem sep_at {x y : En} {p : List Int} {i j : Nat} {q r : List Int} (hx : x.path = p ++ (i : Int) :: q) (hy : y.path = p ++ (j : Int) :: r) (h : i < j) : Sep x.path y.path p.length := ⟨p, i, j, q, r, hx, hy, rfl, by omega⟩
theorem deeds_sep : ∀ (f : F W) (B : List (Bo W)) (d : Nat) (p : List Int) (j i1 i2 m : Nat) (x y : En), Is f B d → (∀ i c, B[i + 1]? = some c → d ≤ c.sh) → i1 < i2 → (deedsF f p j)[i1]? = some x → (deedsF f p j)[i2]? = some y → Least B i1 i2 m → d ≤ m ∧ Sep x.path y.path (p.length + (m - d))
  | .nil, B, d, p, j, i1, i2, m, x, y, h, hs, hi, hx, hy, hm => by simp [deedsF] at hx
  | .leaf k pl rest, B, d, p, j, i1, i2, m, x, y, h, hs, hi, hx, hy, hm => by
    obtain ⟨b, B', rfl, rfl, rfl, hl, hh, hr⟩ := h
    have hs' : ∀ i c, B'[i + 1]? = some c → d ≤ c.sh := fun i c hc => hs (i + 1) c (by simpa using hc)
    obtain ⟨i2, rfl⟩ : ∃ n, i2 = n + 1 := ⟨i2 - 1, by omega⟩
    change (⟨b.k, b.pl, p ++ [(j : Int)]⟩ :: deedsF rest p (j + 1))[i1]? = some x at hx
    change (⟨b.k, b.pl, p ++ [(j : Int)]⟩ :: deedsF rest p (j + 1))[i2 + 1]? = some y at hy
    rw [List.getElem?_cons_succ] at hy
    cases i1 with
    | zero =>
      rw [List.getElem?_cons_zero] at hx
      cases hx
      obtain ⟨n, r, h1, h2⟩ := deeds_begin rest p (j + 1) y (List.mem_of_getElem? hy)
      have hB : 0 < B'.length := by
        have := deeds_len p (j + 1) hr
        have := (List.getElem?_eq_some_iff.mp hy).1
        omega
      have h0 : B'[0]? = some B'[0] := List.getElem?_eq_getElem hB
      have hd : (B'[0]).sh = d := hh _ (by rw [List.head?_eq_getElem?]; exact h0)
      have m1 : m ≤ d := by
        have := hm.2 1 B'[0] (by omega) (by omega) (by simpa using h0)
        omega
      have m2 : d ≤ m := by
        obtain ⟨⟨j', c, a1, a2, a3, a4⟩, _⟩ := hm
        have := hs (j' - 1) c (by rw [show j' - 1 + 1 = j' by omega]; exact a3)
        omega
      refine ⟨m2, ?_⟩
      rw [show p.length + (m - d) = p.length by omega]
      exact sep_at (x := ⟨b.k, b.pl, p ++ [(j : Int)]⟩) (y := y) (q := []) rfl h2 (by omega)
    | succ i1 =>
      rw [List.getElem?_cons_succ] at hx
      refine deeds_sep rest B' d p (j + 1) i1 i2 m x y hr hs' (by omega) hx hy ?_
      obtain ⟨⟨j', c, a1, a2, a3, a4⟩, a5⟩ := hm
      obtain ⟨j', rfl⟩ : ∃ n, j' = n + 1 := ⟨j' - 1, by omega⟩
      refine ⟨⟨j', c, by omega, by omega, by simpa using a3, a4⟩, fun j'' c' b1 b2 b3 => a5 (j'' + 1) c' (by omega) (by omega) (by simpa using b3)⟩
  | .node c w sub rest, B, d, p, j, i1, i2, m, x, y, h, hs, hi, hx, hy, hm => by
    obtain ⟨b, G, B', rfl, hw, hG, hh, hsub, hr⟩ := h
    have l1 := deeds_len (p ++ [(j : Int)]) 0 hsub
    have l2 := deeds_len p (j + 1) hr
    change (deedsF sub (p ++ [(j : Int)]) 0 ++ deedsF rest p (j + 1))[i1]? = some x at hx
    change (deedsF sub (p ++ [(j : Int)]) 0 ++ deedsF rest p (j + 1))[i2]? = some y at hy
    have hs' : ∀ i c, B'[i + 1]? = some c → d ≤ c.sh := fun i c hc => hs ((b :: G).length + i) c (by
      rw [List.getElem?_append_right (by omega), show (b :: G).length + i + 1 - (b :: G).length = i + 1 by omega]
      exact hc)
    by_cases c2 : i2 < (b :: G).length
    · rw [List.getElem?_append_left (by omega)] at hx hy
      have g : Least (b :: G) i1 i2 m := by
        obtain ⟨⟨j', c', a1, a2, a3, a4⟩, a5⟩ := hm
        rw [List.getElem?_append_left (by omega)] at a3
        exact ⟨⟨j', c', a1, a2, a3, a4⟩, fun j'' c'' b1 b2 b3 => a5 j'' c'' b1 b2 (by rw [List.getElem?_append_left (by omega)]; exact b3)⟩
      obtain ⟨q1, q2⟩ := deeds_sep sub (b :: G) (d + 1) (p ++ [(j : Int)]) 0 i1 i2 m x y hsub (fun i c hc => hG c (by
        rw [List.getElem?_cons_succ] at hc
        exact List.mem_of_getElem? hc)) hi hx hy g
      refine ⟨by omega, ?_⟩
      rw [List.length_append, List.length_singleton] at q2
      rwa [show p.length + (m - d) = p.length + 1 + (m - (d + 1)) by omega]
    · rw [List.getElem?_append_right (by omega)] at hy
      by_cases c1 : i1 < (b :: G).length
      · rw [List.getElem?_append_left (by omega)] at hx
        obtain ⟨n, r, h1, h2⟩ := deeds_begin rest p (j + 1) y (List.mem_of_getElem? hy)
        obtain ⟨n', r', h1', h2'⟩ := deeds_begin sub (p ++ [(j : Int)]) 0 x (List.mem_of_getElem? hx)
        have hB : 0 < B'.length := by
          have := (List.getElem?_eq_some_iff.mp hy).1
          omega
        have h0 : B'[0]? = some B'[0] := List.getElem?_eq_getElem hB
        have hd : (B'[0]).sh = d := hh _ (by rw [List.head?_eq_getElem?]; exact h0)
        have m1 : m ≤ d := by
          have := hm.2 (b :: G).length B'[0] (by omega) (by omega) (by rw [List.getElem?_append_right (by omega), Nat.sub_self]; exact h0)
          omega
        have m2 : d ≤ m := by
          obtain ⟨⟨j', c', a1, a2, a3, a4⟩, _⟩ := hm
          have := hs (j' - 1) c' (by rw [show j' - 1 + 1 = j' by omega]; exact a3)
          omega
        refine ⟨m2, ?_⟩
        rw [show p.length + (m - d) = p.length by omega]
        exact sep_at (x := x) (y := y) (i := j) (q := (n' : Int) :: r') (by rw [h2']; simp) h2 (by omega)
      · rw [List.getElem?_append_right (by omega)] at hx
        rw [l1] at hx hy
        refine deeds_sep rest B' d p (j + 1) (i1 - (b :: G).length) (i2 - (b :: G).length) m x y hr hs' (by omega) hx hy ?_
        obtain ⟨⟨j', c', a1, a2, a3, a4⟩, a5⟩ := hm
        rw [List.getElem?_append_right (by omega)] at a3
        refine ⟨⟨j' - (b :: G).length, c', by omega, by omega, a3, a4⟩, fun j'' c'' b1 b2 b3 => a5 (j'' + (b :: G).length) c'' (by omega) (by omega) ?_⟩
        rw [List.getElem?_append_right (by omega), show j'' + (b :: G).length - (b :: G).length = j'' by omega]
        exact b3
inductive Item (W : Type) where
  | deed (k : Int) (pl : List (Int × Int)) : Item W
  | sweep (cut : Bool) (way : W) (sub : F W) : Item W
noncomputable def itm : F W → Nat → Option (Item W)
  | .nil, _ => none
  | .leaf k pl _, 0 => some (.deed k pl)
  | .leaf _ _ rest, n + 1 => itm rest n
  | .node c w sub _, 0 => some (.sweep c w sub)
  | .node _ _ _ rest, n + 1 => itm rest n
noncomputable def Down : F W → List Nat → List (Bool × W) → Prop
  | _, [], _ => False
  | f, r :: rs, ws => (∃ k pl, itm f r = some (.deed k pl) ∧ rs = [] ∧ ws = []) ∨ (∃ c w sub ws', itm f r = some (.sweep c w sub) ∧ ws = (c, w) :: ws' ∧ Down sub rs ws')
theorem deeds_down : ∀ (f : F W) (B : List (Bo W)) (d : Nat) (p : List Int) (j i : Nat) (e : En) (b : Bo W), Is f B d → (∀ i c, B[i + 1]? = some c → d ≤ c.sh) → Ok B → (∀ b ∈ B, d ≤ b.ways.length) → (deedsF f p j)[i]? = some e → B[i]? = some b →
    ∃ (r : Nat) (rs : List Nat), e.path = p ++ ((j + r : Nat) : Int) :: rs.map (fun n : Nat => (n : Int)) ∧ Down f (r :: rs) (b.ways.drop d)
  | .nil, B, d, p, j, i, e, b, h, hs, hk, hd, he, hb => by simp [deedsF] at he
  | .leaf k pl rest, B, d, p, j, i, e, b, h, hs, hk, hd, he, hb => by
    obtain ⟨b0, B', rfl, rfl, rfl, hl, hh, hr⟩ := h
    change (⟨b0.k, b0.pl, p ++ [(j : Int)]⟩ :: deedsF rest p (j + 1))[i]? = some e at he
    cases i with
    | zero =>
      rw [List.getElem?_cons_zero] at he hb
      cases he; cases hb
      exact ⟨0, [], rfl, .inl ⟨_, _, rfl, rfl, List.drop_eq_nil_of_le (Nat.le_of_eq hl)⟩⟩
    | succ i =>
      rw [List.getElem?_cons_succ] at he hb
      obtain ⟨r, rs, h1, h2⟩ := deeds_down rest B' d p (j + 1) i e b hr (fun i c hc => hs (i + 1) c (by simpa using hc)) ⟨fun b hb => hk.sh b (List.mem_cons_of_mem _ hb), fun i b c h1 h2 => hk.ln (i + 1) b c (by simpa using h1) (by simpa using h2)⟩ (fun b hb => hd b (List.mem_cons_of_mem _ hb)) he hb
      exact ⟨r + 1, rs, by rw [h1, show j + 1 + r = j + (r + 1) by omega], h2⟩
  | .node c w sub rest, B, d, p, j, i, e, b, h, hs, hk, hd, he, hb => by
    obtain ⟨b0, G, B', rfl, hw, hG, hh, hsub, hr⟩ := h
    have l1 := deeds_len (p ++ [(j : Int)]) 0 hsub
    change (deedsF sub (p ++ [(j : Int)]) 0 ++ deedsF rest p (j + 1))[i]? = some e at he
    by_cases ci : i < (b0 :: G).length
    · rw [List.getElem?_append_left (by omega)] at he hb
      -- all in a group have the sweep of the first one
      have key : ∀ (n : Nat) (b : Bo W), (b0 :: G)[n]? = some b → b.ways[d]? = some (c, w) := by
        intro n
        induction n with
        | zero => intro b hb; cases hb; exact hw
        | succ n ih =>
          intro b hb
          have hn : n < (b0 :: G).length := by have := (List.getElem?_eq_some_iff.mp hb).1; omega
          have e1 : (b0 :: G)[n]? = some (b0 :: G)[n] := List.getElem?_eq_getElem hn
          have hp := ih _ e1
          have hg : d < b.sh := hG b (by rw [List.getElem?_cons_succ] at hb; exact List.mem_of_getElem? hb)
          have := (hk.ln n _ b (by rw [List.getElem?_append_left hn]; exact e1) (by rw [List.getElem?_append_left (List.getElem?_eq_some_iff.mp hb).1]; exact hb)).2
          have h2 := congrArg (fun l : List (Bool × W) => l[d]?) this
          simp only [List.getElem?_take_of_lt hg] at h2
          rw [h2]
          exact hp
      have hb' := key i b hb
      obtain ⟨hl, eb⟩ := List.getElem?_eq_some_iff.mp hb'
      obtain ⟨r, rs, h1, h2⟩ := deeds_down sub (b0 :: G) (d + 1) (p ++ [(j : Int)]) 0 i e b hsub (fun i c hc => hG c (by rw [List.getElem?_cons_succ] at hc; exact List.mem_of_getElem? hc)) ⟨fun b hb => hk.sh b (List.mem_append_left _ hb), fun i b c h1 h2 => hk.ln i b c (by rw [List.getElem?_append_left (List.getElem?_eq_some_iff.mp h1).1]; exact h1) (by rw [List.getElem?_append_left (List.getElem?_eq_some_iff.mp h2).1]; exact h2)⟩ (fun b hb => by
        obtain ⟨n, hn⟩ := List.mem_iff_getElem?.mp hb
        obtain ⟨z, _⟩ := List.getElem?_eq_some_iff.mp (key n b hn)
        omega) he hb
      refine ⟨0, r :: rs, by rw [h1]; simp, .inr ⟨c, w, sub, b.ways.drop (d + 1), rfl, ?_, h2⟩⟩
      rw [List.drop_eq_getElem_cons hl, eb]
    · rw [List.getElem?_append_right (by omega)] at he hb
      rw [l1] at he
      obtain ⟨r, rs, h1, h2⟩ := deeds_down rest B' d p (j + 1) (i - (b0 :: G).length) e b hr (fun i c hc => hs ((b0 :: G).length + i) c (by
        rw [List.getElem?_append_right (by omega), show (b0 :: G).length + i + 1 - (b0 :: G).length = i + 1 by omega]
        exact hc)) ⟨fun b hb => hk.sh b (List.mem_append_right _ hb), fun i b c h1 h2 => hk.ln (i + (b0 :: G).length) b c (by
          rw [List.getElem?_append_right (by omega), Nat.add_sub_cancel]; exact h1) (by
          rw [List.getElem?_append_right (by omega), show i + (b0 :: G).length + 1 - (b0 :: G).length = i + 1 by omega]; exact h2)⟩ (fun b hb => hd b (List.mem_append_right _ hb)) he hb
      exact ⟨r + 1, rs, by rw [h1, show j + 1 + r = j + (r + 1) by omega], h2⟩
end Fo
namespace Fo
variable {W L : Type}
noncomputable def app : F W → F W → F W
  | .nil, g => g
  | .leaf k pl r, g => .leaf k pl (app r g)
  | .node c w s r, g => .node c w s (app r g)
theorem HeadSh.app {B C : List (Bo W)} {d : Nat} (h : HeadSh B d) (g : HeadSh C d) : HeadSh (B ++ C) d := by
  cases B with
  | nil => exact g
  | cons b B => exact h
theorem Is.app : ∀ (f g : F W) (B C : List (Bo W)) (d : Nat), Is f B d → Is g C d → HeadSh C d → Is (app f g) (B ++ C) d
  | .nil, g, B, C, d, hf, hg, hh => by cases (show B = [] from hf); exact hg
  | .leaf k pl r, g, B, C, d, hf, hg, hh => by
    obtain ⟨b, B', rfl, h1, h2, h3, h4, h5⟩ := hf
    exact ⟨b, B' ++ C, rfl, h1, h2, h3, h4.app hh, Is.app r g B' C d h5 hg hh⟩
  | .node c w s r, g, B, C, d, hf, hg, hh => by
    obtain ⟨b, G, B', rfl, h1, h2, h3, h4, h5⟩ := hf
    exact ⟨b, G, B' ++ C, by simp, h1, h2, h3.app hh, h4, Is.app r g B' C d h5 hg hh⟩
theorem Is.leaf1 {b : Bo W} {d : Nat} (h : b.ways.length = d) : Is (.leaf b.k b.pl .nil) [b] d := ⟨b, [], rfl, rfl, rfl, h, (fun c hc => by cases hc), rfl⟩
theorem Is.node1 {b : Bo W} {G : List (Bo W)} {d : Nat} {s : F W} {c : Bool} {w : W} (hw : b.ways[d]? = some (c, w)) (hG : ∀ c ∈ G, d < c.sh) (hs : Is s (b :: G) (d + 1)) : Is (.node c w s .nil) (b :: G) d := ⟨b, G, [], by simp, hw, hG, (fun c hc => by cases hc), hs, rfl⟩
end Fo

set_option Elab.async false
set_option linter.all false
set_option maxRecDepth 100000
set_option maxHeartbeats 4000000
namespace L2
open PySem PySem.Spec PyProof.Rows
noncomputable def All2 {α : Type} (R : V → α → Prop) (xs : List V) (as : List α) : Prop := xs.length = as.length ∧ ∀ (i : Nat) (x : V) (a : α), xs[i]? = some x → as[i]? = some a → R x a
theorem All2.nil {α : Type} {R : V → α → Prop} : All2 R [] [] := ⟨rfl, fun i x a h => by simp at h⟩
theorem All2.mono {α : Type} {R S : V → α → Prop} {xs : List V} {as : List α} (h : All2 R xs as) (m : ∀ x a, R x a → S x a) : All2 S xs as := ⟨h.1, fun i x a p q => m _ _ (h.2 i x a p q)⟩
theorem All2.get {α : Type} {R : V → α → Prop} {xs : List V} {as : List α} {i : Nat} {a : α} (h : All2 R xs as) (ha : as[i]? = some a) : ∃ x, xs[i]? = some x ∧ R x a := by
  have hi : i < xs.length := by rw [h.1]; exact (List.getElem?_eq_some_iff.mp ha).1
  exact ⟨_, List.getElem?_eq_getElem hi, h.2 i _ a (List.getElem?_eq_getElem hi) ha⟩
theorem All2.get' {α : Type} {R : V → α → Prop} {xs : List V} {as : List α} {i : Nat} {x : V} (h : All2 R xs as) (hx : xs[i]? = some x) : ∃ a, as[i]? = some a ∧ R x a := by
  have hi : i < as.length := by rw [← h.1]; exact (List.getElem?_eq_some_iff.mp hx).1
  exact ⟨_, List.getElem?_eq_getElem hi, h.2 i x _ hx (List.getElem?_eq_getElem hi)⟩
theorem All2.app {α : Type} {R : V → α → Prop} {xs ys : List V} {as bs : List α} (h : All2 R xs as) (g : All2 R ys bs) : All2 R (xs ++ ys) (as ++ bs) := by
  refine ⟨by rw [List.length_append, List.length_append, h.1, g.1], fun i x a p q => ?_⟩
  by_cases l : i < xs.length
  · rw [List.getElem?_append_left l] at p
    rw [List.getElem?_append_left (by rw [← h.1]; exact l)] at q
    exact h.2 i x a p q
  · rw [List.getElem?_append_right (by omega)] at p
    rw [List.getElem?_append_right (by have := h.1; omega)] at q
    rw [h.1] at p
    exact g.2 _ x a p q
theorem All2.one {α : Type} {R : V → α → Prop} {x : V} {a : α} (h : R x a) : All2 R [x] [a] := ⟨rfl, fun i y b p q => by
  cases i with
  | zero => cases p; cases q; exact h
  | succ i => simp at p⟩
theorem All2.snoc {α : Type} {R : V → α → Prop} {xs : List V} {as : List α} {x : V} {a : α} (h : All2 R xs as) (g : R x a) : All2 R (xs ++ [x]) (as ++ [a]) := h.app (.one g)
theorem All2.drop {α : Type} {R : V → α → Prop} {xs : List V} {as : List α} (h : All2 R xs as) (n : Nat) : All2 R (xs.drop n) (as.drop n) := ⟨by rw [List.length_drop, List.length_drop, h.1], fun i x a p q => by
  rw [List.getElem?_drop] at p q
  exact h.2 _ x a p q⟩
theorem All2.take {α : Type} {R : V → α → Prop} {xs : List V} {as : List α} (h : All2 R xs as) (n : Nat) : All2 R (xs.take n) (as.take n) := ⟨by rw [List.length_take, List.length_take, h.1], fun i x a p q => by
  by_cases l : i < n
  · rw [List.getElem?_take_of_lt l] at p q
    exact h.2 _ x a p q
  · rw [List.getElem?_take_eq_none (by omega)] at p
    cases p⟩
noncomputable abbrev Way := Bool × Str
noncomputable abbrev Bgh := Fo.Bo Str
noncomputable abbrev Frs := Fo.F Str
noncomputable def WayAt (H : Hp) (x : V) (w : Way) : Prop := ∃ t, x = .ref t ∧ H t = some (.tup [.bl w.1, .str w.2])
noncomputable def PrAt (H : Hp) (x : V) (p : Int × Int) : Prop := ∃ t, x = .ref t ∧ H t = some (.tup [.int p.1, .int p.2])
theorem WayAt.over {H H' : Hp} {x : V} {w : Way} (h : WayAt H x w) (e : Same H H') : WayAt H' x w := by obtain ⟨t, a, b⟩ := h; exact ⟨t, a, e _ _ b⟩
theorem PrAt.over {H H' : Hp} {x : V} {p : Int × Int} (h : PrAt H x p) (e : Same H H') : PrAt H' x p := by obtain ⟨t, a, b⟩ := h; exact ⟨t, a, e _ _ b⟩
noncomputable def WaysAt (H : Hp) (l : Addr) (ws : List Way) : Prop := ∃ xs, H l = some (.lst xs) ∧ All2 (WayAt H) xs ws
noncomputable def PrsAt (H : Hp) (l : Addr) (ps : List (Int × Int)) : Prop := ∃ xs, H l = some (.lst xs) ∧ All2 (PrAt H) xs ps
noncomputable def PrsT (H : Hp) (l : Addr) (ps : List (Int × Int)) : Prop := ∃ xs, H l = some (.tup xs) ∧ All2 (PrAt H) xs ps
theorem WaysAt.over {H H' : Hp} {l : Addr} {ws : List Way} (h : WaysAt H l ws) (e : Same H H') : WaysAt H' l ws := by obtain ⟨xs, a, b⟩ := h; exact ⟨xs, e _ _ a, b.mono fun x w p => p.over e⟩
theorem PrsAt.over {H H' : Hp} {l : Addr} {ps : List (Int × Int)} (h : PrsAt H l ps) (e : Same H H') : PrsAt H' l ps := by obtain ⟨xs, a, b⟩ := h; exact ⟨xs, e _ _ a, b.mono fun x w p => p.over e⟩
theorem PrsT.over {H H' : Hp} {l : Addr} {ps : List (Int × Int)} (h : PrsT H l ps) (e : Same H H') : PrsT H' l ps := by obtain ⟨xs, a, b⟩ := h; exact ⟨xs, e _ _ a, b.mono fun x w p => p.over e⟩
noncomputable def BoAt (H : Hp) (x : V) (b : Bgh) : Prop := ∃ t w p, x = .ref t ∧ H t = some (.tup [.int b.k, .int (b.sh : Int), .ref w, .ref p]) ∧ WaysAt H w b.ways ∧ PrsAt H p b.pl
theorem BoAt.over {H H' : Hp} {x : V} {b : Bgh} (h : BoAt H x b) (e : Same H H') : BoAt H' x b := by obtain ⟨t, w, p, a, b, c, d⟩ := h; exact ⟨t, w, p, a, e _ _ b, c.over e, d.over e⟩
noncomputable def BosAt (H : Hp) (l : Addr) (B : List Bgh) : Prop := ∃ xs, H l = some (.lst xs) ∧ All2 (BoAt H) xs B
theorem BosAt.over {H H' : Hp} {l : Addr} {B : List Bgh} (h : BosAt H l B) (e : Same H H') : BosAt H' l B := by obtain ⟨xs, a, b⟩ := h; exact ⟨xs, e _ _ a, b.mono fun x w p => p.over e⟩
noncomputable def FoAt (H : Hp) : List V → Frs → Prop
  | xs, .nil => xs = []
  | xs, .leaf k pl rest => ∃ t p ys, xs = .ref t :: ys ∧ H t = some (.tup [.str "deed", .int k, .ref p]) ∧ PrsT H p pl ∧ FoAt H ys rest
  | xs, .node c w sub rest => ∃ t p zs ys, xs = .ref t :: ys ∧ H t = some (.tup [.str "sweep", .bl c, .str w, .ref p]) ∧ H p = some (.tup zs) ∧ FoAt H zs sub ∧ FoAt H ys rest
theorem FoAt.over {H H' : Hp} (e : Same H H') : ∀ {f : Frs} {xs : List V}, FoAt H xs f → FoAt H' xs f
  | .nil, xs, h => h
  | .leaf k pl rest, xs, h => by
    obtain ⟨t, p, ys, a, b, c, d⟩ := h
    exact ⟨t, p, ys, a, e _ _ b, c.over e, FoAt.over e d⟩
  | .node c w sub rest, xs, h => by
    obtain ⟨t, p, zs, ys, a, b, c, d, g⟩ := h
    exact ⟨t, p, zs, ys, a, e _ _ b, e _ _ c, FoAt.over e d, FoAt.over e g⟩
noncomputable def FoT (H : Hp) (p : Addr) (f : Frs) : Prop := ∃ xs, H p = some (.tup xs) ∧ FoAt H xs f
theorem FoT.over {H H' : Hp} {p : Addr} {f : Frs} (h : FoT H p f) (e : Same H H') : FoT H' p f := by obtain ⟨xs, a, b⟩ := h; exact ⟨xs, e _ _ a, FoAt.over e b⟩
end L2

set_option Elab.async false
set_option linter.all false
set_option maxRecDepth 100000
set_option maxHeartbeats 4000000
namespace L2
open PySem PySem.Spec PyProof.Rows
noncomputable def TK (H H' : Hp) : Prop := ∀ (b : Addr) (xs : List V), H b = some (.tup xs) → H' b = some (.tup xs)
theorem TK.trans {H H' H'' : Hp} (a : TK H H') (b : TK H' H'') : TK H H'' := fun x xs h => b x xs (a x xs h)
theorem Same.tk {H H' : Hp} (e : Same H H') : TK H H' := fun b xs h => e b _ h
theorem TK.upd {H : Hp} {l : Addr} {xs : List V} {o : HO} (hl : H l = some (.lst xs)) : TK H (upd H l o) := fun b ys hb => by
  rw [upd_ne (ne_of hb hl (by intro z; cases z))]
  exact hb
theorem WayAt.tk {H H' : Hp} {x : V} {w : Way} (h : WayAt H x w) (e : TK H H') : WayAt H' x w := by obtain ⟨t, a, b⟩ := h; exact ⟨t, a, e _ _ b⟩
theorem PrAt.tk {H H' : Hp} {x : V} {w : Int × Int} (h : PrAt H x w) (e : TK H H') : PrAt H' x w := by obtain ⟨t, a, b⟩ := h; exact ⟨t, a, e _ _ b⟩
theorem PrsT.tk {H H' : Hp} {l : Addr} {ps : List (Int × Int)} (h : PrsT H l ps) (e : TK H H') : PrsT H' l ps := by obtain ⟨xs, a, b⟩ := h; exact ⟨xs, e _ _ a, b.mono fun x w p => p.tk e⟩
theorem FoAt.tk {H H' : Hp} (e : TK H H') : ∀ {f : Frs} {xs : List V}, FoAt H xs f → FoAt H' xs f
  | .nil, xs, h => h
  | .leaf k pl rest, xs, h => by
    obtain ⟨t, p, ys, a, b, c, d⟩ := h
    exact ⟨t, p, ys, a, e _ _ b, c.tk e, FoAt.tk e d⟩
  | .node c w sub rest, xs, h => by
    obtain ⟨t, p, zs, ys, a, b, c, d, g⟩ := h
    exact ⟨t, p, zs, ys, a, e _ _ b, e _ _ c, FoAt.tk e d, FoAt.tk e g⟩
theorem FoAt.app {H : Hp} : ∀ {f g : Frs} {xs ys : List V}, FoAt H xs f → FoAt H ys g → FoAt H (xs ++ ys) (Fo.app f g)
  | .nil, g, xs, ys, h, k => by cases (show xs = [] from h); exact k
  | .leaf k pl rest, g, xs, ys, h, hg => by
    obtain ⟨t, p, zs, rfl, b, c, d⟩ := h
    exact ⟨t, p, zs ++ ys, rfl, b, c, FoAt.app d hg⟩
  | .node c w sub rest, g, xs, ys, h, hg => by
    obtain ⟨t, p, zs, us, rfl, b, c, d, k⟩ := h
    exact ⟨t, p, zs, us ++ ys, rfl, b, c, d, FoAt.app k hg⟩
noncomputable def ways3 : List Str := ["up", "down", "any"]
structure GoodB (b : Bgh) : Prop where
  len : b.ways.length ≤ 6
  pll : b.pl.length = b.ways.length
  shl : b.sh ≤ b.ways.length
  wy : ∀ w ∈ b.ways, w.2 ∈ ways3
  k0 : 0 ≤ b.k
  k5 : b.k ≤ 5
  pr : ∀ p ∈ b.pl, 0 ≤ p.1 ∧ p.1 ≤ 2 ∧ -200000000000000000 ≤ p.2 ∧ p.2 ≤ 200000000000000000
noncomputable def spMixW : Sp := fun vs H Q _ => ∃ c k : Int, vs = [.int c, .int k] ∧ ∀ m : Int, 0 ≤ m → Q (.int m) H
noncomputable def farB : Int := 100000000000000000
noncomputable def spPair : Sp := fun vs H Q _ => ∃ (sp : Bool) (l : Addr) (L : List Int) (n q far : Int), vs = [.bl sp, .ref l, .int n, .int q, .int far] ∧ H l = some (.lst (L.map V.int)) ∧ (∀ x ∈ L, 0 ≤ x ∧ x < n) ∧ 0 < n ∧ n ≤ 3 ∧ 0 ≤ q ∧ -farB ≤ far ∧ far ≤ farB ∧ (sp = false → L ≠ []) ∧
  ∀ (r : Addr) (H' : Hp) (p : Int × Int), (∀ b o, b ≠ l → H b = some o → H' b = some o) → H r = none → H' l = some (.lst ((if sp then L else L.tail).map V.int)) → H' r = some (.tup [.int p.1, .int p.2]) → 0 ≤ p.1 ∧ p.1 < n ∧ -200000000000000000 ≤ p.2 ∧ p.2 ≤ 200000000000000000 → Q (.ref r) H'
noncomputable def spBough : Sp := fun vs H Q _ => ∃ (k n cell far : Int) (pr : Addr) (ws : List Way), vs = [.int k, .int n, .ref pr, .int cell, .int far] ∧ 0 ≤ k ∧ k ≤ 5 ∧ 0 ≤ n ∧ n ≤ 3 ∧ WaysAt H pr ws ∧ ws.length ≤ 6 ∧ (∀ w ∈ ws, w.2 ∈ ways3) ∧ -farB ≤ far ∧ far ≤ farB ∧
  ∀ (r : Addr) (H' : Hp) (b : Bgh) (w p : Addr), Same H H' → H' r = some (.tup [.int b.k, .int (b.sh : Int), .ref w, .ref p]) → WaysAt H' w b.ways → PrsAt H' p b.pl → H w = none → H p = none → GoodB b → b.k = k → b.sh ≤ ws.length → b.ways.take b.sh = ws.take b.sh → (∀ p ∈ b.pl, p.1 < n) → Q (.ref r) H'
structure GoodBs (B : List Bgh) : Prop where
  ok : Fo.Ok B
  fst : ∀ b, B.head? = some b → b.sh = 0
  all : ∀ b ∈ B, GoodB b
  len : B.length ≤ 6
noncomputable def spBoughs (K : PySem.W.Frag) : Sp := fun vs H Q _ => ∃ (dl sc : Addr) (D ns : List Int) (first far : Int), vs = [.ref dl, .ref sc, .int first, .int far] ∧ H dl = some (.lst (D.map V.int)) ∧ (∀ d ∈ D, 0 ≤ d ∧ d ≤ 3) ∧ D.length ≤ 6 ∧ SqL K H sc (ns.map V.int) ∧ ns.length ≤ 63 ∧ 0 ≤ first ∧ first ≤ 1000 ∧ -farB ≤ far ∧ far ≤ farB ∧
  ∀ (r : Addr) (H' : Hp) (B : List Bgh), Same H H' → BosAt H' r B → GoodBs B → (B.map (·.k)).Perm ((List.range D.length).map fun i : Nat => (i : Int)) → (∀ b ∈ B, ∀ p ∈ b.pl, p.1 < D.getD b.k.toNat 0) → Q (.ref r) H'
structure From (B : List Bgh) (d n : Nat) : Prop where
  ok : Fo.Ok B
  sh : ∀ i c, B[i + 1]? = some c → d ≤ c.sh
  lo : ∀ b ∈ B, d ≤ b.ways.length
  hi : ∀ b ∈ B, b.ways.length ≤ d + n
  pl : ∀ b ∈ B, b.pl.length ≤ 6
  len : B.length ≤ 6
theorem From.of {B : List Bgh} (h : GoodBs B) : From B 0 6 := ⟨h.ok, fun _ _ _ => Nat.zero_le _, fun _ _ => Nat.zero_le _, fun b hb => by have := (h.all b hb).len; omega, fun b hb => by have := h.all b hb; have := this.pll; have := (h.all b hb).len; omega, h.len⟩
theorem ok_slice {B : List Bgh} (h : Fo.Ok B) (i j : Nat) : Fo.Ok ((B.drop i).take j) := by
  refine ⟨fun b hb => h.sh b (List.mem_of_mem_drop (List.mem_of_mem_take hb)), fun n b c h1 h2 => ?_⟩
  have l2 := (List.getElem?_eq_some_iff.mp h2).1
  rw [List.length_take] at l2
  rw [List.getElem?_take_of_lt (by omega), List.getElem?_drop] at h1 h2
  exact h.ln (i + n) b c h1 h2
theorem From.group {B : List Bgh} {d n at' m : Nat} {b : Bgh} (h : From B d (n + 1)) (hb : B[at']? = some b) (hd : b.ways.length ≠ d) (hm : at' < m) (hG : ∀ i c, at' < i → i < m → B[i]? = some c → d < c.sh) : From ((B.drop at').take (m - at')) (d + 1) n := by
  have mem : ∀ c ∈ (B.drop at').take (m - at'), c ∈ B := fun c hc => List.mem_of_mem_drop (List.mem_of_mem_take hc)
  refine ⟨ok_slice h.ok _ _, fun i c hc => ?_, fun c hc => ?_, fun c hc => by have := h.hi c (mem c hc); omega, fun c hc => h.pl c (mem c hc), ?_⟩
  · have l2 := (List.getElem?_eq_some_iff.mp hc).1
    rw [List.length_take] at l2
    rw [List.getElem?_take_of_lt (by omega), List.getElem?_drop] at hc
    exact hG (at' + (i + 1)) c (by omega) (by omega) hc
  · obtain ⟨i, hi⟩ := List.mem_iff_getElem?.mp hc
    have l2 := (List.getElem?_eq_some_iff.mp hi).1
    rw [List.length_take] at l2
    rw [List.getElem?_take_of_lt (by omega), List.getElem?_drop] at hi
    by_cases z : i = 0
    · subst z
      rw [Nat.add_zero, hb] at hi
      cases hi
      have := h.lo b (List.mem_of_getElem? hb)
      omega
    · have := hG (at' + i) c (by omega) (by omega) hi
      have := h.ok.sh c (mem c hc)
      omega
  · have := h.len
    rw [List.length_take, List.length_drop]
    omega
noncomputable def spItems (n : Nat) : Sp := fun vs H Q _ => ∃ (l : Addr) (d m : Nat) (B : List Bgh), vs = [.ref l, .int (d : Int)] ∧ BosAt H l B ∧ From B d m ∧ m < n ∧ d + m ≤ 10 ∧ ∀ (r : Addr) (H' : Hp) (f : Frs), Same H H' → FoT H' r f → Fo.Is f B d → Q (.ref r) H'
noncomputable def dep : Frs → Nat
  | .nil => 1
  | .leaf _ _ rest => dep rest
  | .node _ _ sub rest => max (1 + dep sub) (dep rest)
theorem dep_pos : ∀ f : Frs, 1 ≤ dep f
  | .nil => Nat.le_refl _
  | .leaf _ _ rest => dep_pos rest
  | .node _ _ sub rest => by have := dep_pos sub; unfold dep; omega
theorem dep_of : ∀ (f : Frs) (B : List Bgh) (d n : Nat), Fo.Is f B d → (∀ b ∈ B, b.ways.length ≤ d + n) → dep f ≤ n + 1
  | .nil, B, d, n, h, hn => by unfold dep; omega
  | .leaf k pl rest, B, d, n, h, hn => by
    obtain ⟨b, B', rfl, _, _, _, _, h5⟩ := h
    exact dep_of rest B' d n h5 fun b hb => hn b (List.mem_cons_of_mem _ hb)
  | .node c w sub rest, B, d, n, h, hn => by
    obtain ⟨b, G, B', rfl, h1, h2, h3, h4, h5⟩ := h
    have := dep_of rest B' d n h5 fun b hb => hn b (List.mem_append_right _ hb)
    have l := (List.getElem?_eq_some_iff.mp h1).1
    have l2 := hn b (List.mem_append_left _ List.mem_cons_self)
    obtain ⟨n, rfl⟩ : ∃ m, n = m + 1 := ⟨n - 1, by omega⟩
    have := dep_of sub (b :: G) (d + 1) n h4 fun b hb => by have := hn b (List.mem_append_left _ hb); omega
    unfold dep
    omega
noncomputable def ME (t : TE) : Prop := ∀ (σ : St) (H : Hp) (Q Q' : VK), (∀ v H1, Q v H1 → Q' v H1) → t σ H Q → t σ H Q'
noncomputable def MT (t : TT) : Prop := ∀ σ H Q Q', (∀ b H1, Q b H1 → Q' b H1) → t σ H Q → t σ H Q'
noncomputable def MA (t : TA) : Prop := ∀ σ H Q Q', (∀ b H1, Q b H1 → Q' b H1) → t σ H Q → t σ H Q'
noncomputable def MR (r : R2) : Prop := ∀ (x y : V) (H : Hp) (Q Q' : VK), (∀ v H1, Q v H1 → Q' v H1) → r x y H Q → r x y H Q'
noncomputable def MS (sp : Sp) : Prop := ∀ vs H Q Q' E, (∀ v H1, Q v H1 → Q' v H1) → sp vs H Q E → sp vs H Q' E
noncomputable def MB (r : List V → Hp → VK → Prop) : Prop := ∀ (vs : List V) (H : Hp) (Q Q' : VK), (∀ v H1, Q v H1 → Q' v H1) → r vs H Q → r vs H Q'
theorem ME.var (i : Nat) : ME (tVar i) := fun σ H Q Q' hq ⟨v, h, k⟩ => ⟨v, h, hq _ _ k⟩
theorem ME.c (v : V) : ME (tC v) := fun σ H Q Q' hq h => hq _ _ h
theorem ME.op {r : R2} {a b : TE} (hr : MR r) (ha : ME a) (hb : ME b) : ME (tOp r a b) := fun σ H Q Q' hq h => ha _ _ _ _ (fun x H1 k => hb _ _ _ _ (fun y H2 k => hr _ _ _ _ _ hq k) k) h
theorem ME.lst {t : TA} (h : MA t) : ME (tLst t) := fun σ H Q Q' hq k => h _ _ _ _ (fun xs H1 m => ⟨m.1, fun p hp => hq _ _ (m.2 p hp)⟩) k
theorem ME.call {sp : Sp} {dvs : List V} {E : XK} {t : TA} (hs : MS sp) (h : MA t) : ME (tCall sp dvs E t) := fun σ H Q Q' hq k => h _ _ _ _ (fun xs H1 m => hs _ _ _ _ _ hq m) k
theorem ME.cb {r : List V → Hp → VK → Prop} {t : TA} (hr : MB r) (h : MA t) : ME (tCB r t) := fun σ H Q Q' hq k => h _ _ _ _ (fun xs H1 m => hr _ _ _ _ hq m) k
theorem MA.nil : MA tNil := fun σ H Q Q' hq h => hq _ _ h
theorem MA.cons {t : TE} {u : TA} (ht : ME t) (hu : MA u) : MA (tCons t u) := fun σ H Q Q' hq h => ht _ _ _ _ (fun x H1 k => hu _ _ _ _ (fun xs H2 m => hq _ _ m) k) h
theorem MT.test {t : TE} (h : ME t) : MT (tTest t) := fun σ H Q Q' hq k => h _ _ _ _ (fun x H1 ⟨b, e, m⟩ => ⟨b, e, hq _ _ m⟩) k
theorem MT.or {t u : TT} (h : MT t) (g : MT u) : MT (tOr t u) := fun σ H Q Q' hq k => h _ _ _ _ (fun c H1 m => by
  cases c with
  | true => exact hq _ _ m
  | false => exact g _ _ _ _ hq m) k
theorem MT.and {t u : TT} (h : MT t) (g : MT u) : MT (tAnd t u) := fun σ H Q Q' hq k => h _ _ _ _ (fun c H1 m => by
  cases c with
  | true => exact g _ _ _ _ hq m
  | false => exact hq _ _ m) k
theorem MR.i (C : Int → Int → Prop) (g : Int → Int → V) : MR (rI C g) := fun x y H Q Q' hq ⟨i, j, a, b, c, d⟩ => ⟨i, j, a, b, c, hq _ _ d⟩
theorem MR.i0 (g : Int → Int → V) : MR (rI0 g) := fun x y H Q Q' hq ⟨i, j, a, b, d⟩ => ⟨i, j, a, b, hq _ _ d⟩
theorem MR.eq : MR rEq := fun x y H Q Q' hq ⟨a, b⟩ => ⟨a, hq _ _ b⟩
theorem MR.eqX (K : PySem.W.Frag) (n : Bool) : MR (rEqX K n) := fun x y H Q Q' hq ⟨t, u, a, b, c, d, e, f, g⟩ => ⟨t, u, a, b, c, d, e, f, hq _ _ g⟩
theorem MR.ixL (K : PySem.W.Frag) : MR (rIxL K) := fun x y H Q Q' hq ⟨p, xs, i, v, a, b, c, d, e⟩ => ⟨p, xs, i, v, a, b, c, d, hq _ _ e⟩
theorem MR.ixT (K : PySem.W.Frag) : MR (rIxT K) := fun x y H Q Q' hq ⟨p, xs, i, v, a, b, c, d, e⟩ => ⟨p, xs, i, v, a, b, c, d, hq _ _ e⟩
theorem MS.mixw : MS spMixW := fun vs H Q Q' E hq ⟨c, k, e, h⟩ => ⟨c, k, e, fun m hm => hq _ _ (h m hm)⟩
theorem MB.len {P R : Hp → Addr → List V → Prop} : MB (fun xs H Q => ∃ p ys, xs = [V.ref p] ∧ (P H p ys ∨ R H p ys) ∧ Q (V.int (ys.length : Int)) H) := fun vs H Q Q' hq ⟨p, ys, a, b, c⟩ => ⟨p, ys, a, b, hq _ _ c⟩
noncomputable def PrN (n : Int) (p : Int × Int) : Prop := 0 ≤ p.1 ∧ p.1 < n ∧ -200000000000000000 ≤ p.2 ∧ p.2 ≤ 200000000000000000
structure BgSt (H0 H' : Hp) (le wy pl : Addr) (n : Int) (L : List Int) (xs : List V) (ws : List Way) (ys : List V) (ps : List (Int × Int)) : Prop where
  same : Same H0 H'
  fl : H0 le = none
  fw : H0 wy = none
  fp : H0 pl = none
  lw : le ≠ wy
  lp : le ≠ pl
  wp : wy ≠ pl
  hl : H' le = some (.lst (L.map V.int))
  hw : H' wy = some (.lst xs)
  hp : H' pl = some (.lst ys)
  aw : All2 (WayAt H') xs ws
  ap : All2 (PrAt H') ys ps
  rl : ∀ x ∈ L, 0 ≤ x ∧ x < n
  rp : ∀ p ∈ ps, PrN n p
  le : ws.length = ps.length
  six : L.length + ws.length ≤ 6
theorem BgSt.mono {H0 H' H2 : Hp} {le wy pl : Addr} {n : Int} {L : List Int} {xs : List V} {ws : List Way} {ys : List V} {ps : List (Int × Int)} (h : BgSt H0 H' le wy pl n L xs ws ys ps) (e : Same H' H2) : BgSt H0 H2 le wy pl n L xs ws ys ps :=
  ⟨h.same.trans e, h.fl, h.fw, h.fp, h.lw, h.lp, h.wp, e _ _ h.hl, e _ _ h.hw, e _ _ h.hp, h.aw.mono fun x w p => p.over e, h.ap.mono fun x w p => p.over e, h.rl, h.rp, h.le, h.six⟩
theorem BgSt.step {H0 H' H2 : Hp} {le wy pl r : Addr} {n : Int} {L L' : List Int} {xs : List V} {ws : List Way} {ys : List V} {ps : List (Int × Int)} {x : V} {w : Way} {p : Int × Int} (h : BgSt H0 H' le wy pl n L xs ws ys ps) (hx : WayAt H' x w)
    (k2 : ∀ b o, b ≠ le → (upd H' wy (.lst (xs ++ [x]))) b = some o → H2 b = some o) (hle : H2 le = some (.lst (L'.map V.int))) (hr : H2 r = some (.tup [.int p.1, .int p.2])) (hp : PrN n p) (hL : ∀ x ∈ L', x ∈ L) (h6 : L'.length + (ws.length + 1) ≤ 6) :
    BgSt H0 (upd H2 pl (.lst (ys ++ [.ref r]))) le wy pl n L' (xs ++ [x]) (ws ++ [w]) (ys ++ [.ref r]) (ps ++ [p]) := by
  have hpl : H2 pl = some (.lst ys) := k2 pl _ h.lp.symm (by rw [upd_ne h.wp.symm]; exact h.hp)
  have tk : TK H' H2 := fun b zs hb => by
    have nw : b ≠ wy := ne_of hb h.hw (by intro z; cases z)
    have nl : b ≠ le := ne_of hb h.hl (by intro z; cases z)
    exact k2 b _ nl (by rw [upd_ne nw]; exact hb)
  have tk2 := tk.trans (TK.upd (o := .lst (ys ++ [V.ref r])) hpl)
  have nr : r ≠ pl := ne_of hr hpl (by intro z; cases z)
  refine ⟨fun b o hb => ?_, h.fl, h.fw, h.fp, h.lw, h.lp, h.wp, by rw [upd_ne h.lp]; exact hle, ?_, upd_same, ?_, ?_, fun x hx => h.rl x (hL x hx), fun q hq => ?_, by rw [List.length_append, List.length_append, h.le]; rfl, by rw [List.length_append]; exact h6⟩
  · rw [upd_ne (ne_of_none hb h.fp)]
    exact k2 b o (ne_of_none hb h.fl) (by rw [upd_ne (ne_of_none hb h.fw)]; exact h.same _ _ hb)
  · rw [upd_ne h.wp]
    exact k2 wy _ h.lw.symm upd_same
  · exact (h.aw.mono fun y v q => q.tk tk2).snoc (hx.tk tk2)
  · exact (h.ap.mono fun y v q => q.tk tk2).snoc ⟨r, rfl, by rw [upd_ne nr]; exact hr⟩
  · rcases List.mem_append.mp hq with hq | hq
    · exact h.rp q hq
    · rw [List.mem_singleton] at hq; subst hq; exact hp

theorem ints_tr {K : PySem.W.Frag} {H : Hp} : ∀ L : List Int, TrsIs K H (L.map V.int) (L.map fun i => Tr.v (.int i))
  | [] => .nil
  | x :: L => .cons (.flat rfl) (ints_tr L)
theorem ints_dep : ∀ L : List Int, depTs (L.map fun i => Tr.v (.int i)) = 0
  | [] => rfl
  | x :: L => by rw [List.map_cons, depTs, ints_dep L]; rfl
theorem left_eq {K : PySem.W.Frag} {H : Hp} {p z : Addr} {L : List Int} {neg : Bool} {Q : VK} (hp : H p = some (.lst (L.map V.int))) (hz : H z = some (.lst [])) (h : Q (.bl (if neg then !L.isEmpty else L.isEmpty)) H) : rEqX K neg (.ref p) (.ref z) H Q := by
  refine ⟨.lst (L.map fun i => Tr.v (.int i)), .lst [], .lst (SqL.of hp) (ints_tr L), .lst (SqL.of hz) .nil, ⟨_, rfl⟩, ⟨_, rfl⟩, by rw [simT]; cases L <;> rfl, by rw [depT, ints_dep]; decide, ?_⟩
  have e : eqT (.lst (L.map fun i => Tr.v (.int i))) (.lst []) = L.isEmpty := by
    rw [eqT]
    cases L <;> rfl
  rw [e]
  exact h

noncomputable def av (H : Hp) (S : List Addr) : Hp := fun b => if b ∈ S then none else H b
theorem av_upd {H : Hp} {S : List Addr} {l : Addr} {o : HO} (h : l ∈ S) : av (upd H l o) S = av H S := by
  funext b
  unfold av
  by_cases c : b ∈ S
  · rw [if_pos c, if_pos c]
  · rw [if_neg c, if_neg c, upd_ne (fun z : b = l => c (by rw [z]; exact h))]
theorem av_same {H : Hp} {S : List Addr} : Same (av H S) H := fun b o h => by
  unfold av at h
  split at h
  · cases h
  · exact h
theorem av_mono {H H' : Hp} {S : List Addr} (e : Same H H') : Same (av H S) (av H' S) := fun b o h => by
  unfold av at h ⊢
  split at h
  · cases h
  · rename_i c; rw [if_neg c]; exact e b o h
theorem av_ne {H : Hp} {S : List Addr} {b : Addr} (h : b ∉ S) : av H S b = H b := by unfold av; rw [if_neg h]
theorem Fo.Ok.snoc {B : List Bgh} {b : Bgh} (h : Fo.Ok B) (h1 : b.sh ≤ b.ways.length) (h2 : ∀ c, B.getLast? = some c → b.sh ≤ c.ways.length ∧ b.ways.take b.sh = c.ways.take b.sh) : Fo.Ok (B ++ [b]) := by
  refine ⟨fun c hc => ?_, fun i c e hc he => ?_⟩
  · rcases List.mem_append.mp hc with hc | hc
    · exact h.sh c hc
    · rw [List.mem_singleton] at hc; subst hc; exact h1
  · have le := (List.getElem?_eq_some_iff.mp he).1
    rw [List.length_append, List.length_singleton] at le
    rw [List.getElem?_append_left (by omega)] at hc
    by_cases z : i + 1 < B.length
    · rw [List.getElem?_append_left z] at he
      exact h.ln i c e hc he
    · have hi : i + 1 = B.length := by omega
      rw [hi, List.getElem?_append_right (Nat.le_refl _), Nat.sub_self] at he
      cases he
      refine h2 c ?_
      rw [List.getLast?_eq_getElem?, show B.length - 1 = i by omega]
      exact hc
noncomputable def lastW (B : List Bgh) : List Way := (B.getLast?.map (·.ways)).getD []
theorem GoodBs.snoc {B : List Bgh} {b : Bgh} (h : Fo.Ok B ∧ (∀ b, B.head? = some b → b.sh = 0) ∧ ∀ b ∈ B, GoodB b) (g : GoodB b) (h1 : b.sh ≤ (lastW B).length) (h2 : b.ways.take b.sh = (lastW B).take b.sh) : Fo.Ok (B ++ [b]) ∧ (∀ c, (B ++ [b]).head? = some c → c.sh = 0) ∧ ∀ c ∈ B ++ [b], GoodB c := by
  obtain ⟨a1, a2, a3⟩ := h
  refine ⟨Fo.Ok.snoc a1 g.shl fun c hc => ?_, fun c hc => ?_, fun c hc => ?_⟩
  · unfold lastW at h1 h2
    rw [hc] at h1 h2
    exact ⟨h1, h2⟩
  · cases B with
    | nil => cases hc; exact Nat.le_zero.mp h1
    | cons x B => exact a2 c hc
  · rcases List.mem_append.mp hc with hc | hc
    · exact a3 c hc
    · rw [List.mem_singleton] at hc; subst hc; exact g
theorem lastW_snoc (B : List Bgh) (b : Bgh) : lastW (B ++ [b]) = b.ways := by
  unfold lastW
  rw [List.getLast?_append]
  rfl
theorem seqIx {j n : Nat} (h : j < n) : seqIndex? (j : Int) n = some j := by
  unfold seqIndex?
  simp only [show ¬ ((j : Int) < 0) by omega, if_false]
  rw [if_pos (by simp; omega), Int.toNat_natCast]
theorem erase_map (L : List Int) : ∀ j : Nat, (L.map V.int).eraseIdx j = (L.eraseIdx j).map V.int := by
  induction L with
  | nil => intro j; rfl
  | cons x L ih =>
    intro j
    cases j with
    | zero => rfl
    | succ j => show V.int x :: (L.map V.int).eraseIdx j = V.int x :: (L.eraseIdx j).map V.int; rw [ih]
theorem erase_perm : ∀ (L : List Int) (j : Nat) (x : Int), L[j]? = some x → (x :: L.eraseIdx j).Perm L
  | [], j, x, h => by simp at h
  | y :: L, 0, x, h => by cases h; exact List.Perm.refl _
  | y :: L, j + 1, x, h => by
    have ih := erase_perm L j x (by simpa using h)
    show (x :: y :: L.eraseIdx j).Perm (y :: L)
    exact (List.Perm.swap y x _).trans (ih.cons y)
theorem is_nil : ∀ {f : Frs} {d : Nat}, Fo.Is f [] d → f = .nil
  | .nil, d, h => rfl
  | .leaf k pl r, d, h => by obtain ⟨b, B', e, _⟩ := h; cases e
  | .node c w s r, d, h => by obtain ⟨b, G, B', e, _⟩ := h; simp at e
theorem is_app {f g : Frs} {B C : List Bgh} {d : Nat} (hf : Fo.Is f B d) (hg : Fo.Is g C d) (hh : B ≠ [] → Fo.HeadSh C d) : Fo.Is (Fo.app f g) (B ++ C) d := by
  by_cases c : B = []
  · subst c
    rw [is_nil hf]
    exact hg
  · exact Fo.Is.app f g B C d hf hg (hh c)
theorem take_slice {α : Type} (B : List α) {i m : Nat} (h : i ≤ m) : B.take i ++ (B.drop i).take (m - i) = B.take m := by
  have : B.take i = (B.take m).take i := by rw [List.take_take, Nat.min_eq_left h]
  rw [← List.drop_take, this, List.take_append_drop]
end L2

set_option Elab.async false
set_option linter.all false
set_option maxRecDepth 100000
set_option maxHeartbeats 4000000
namespace L2
open PySem PySem.Spec PyProof.Rows
theorem down_len : ∀ {rs : List Nat} {f : Frs} {ws : List Way}, Fo.Down f rs ws → rs.length = ws.length + 1
  | [], f, ws, h => h.elim
  | r :: rs, f, ws, h => by
    rcases h with ⟨k, pl, _, rfl, rfl⟩ | ⟨c, w, sub, ws', _, rfl, h⟩
    · rfl
    · rw [List.length_cons, List.length_cons, down_len h]
theorem itm_at {H : Hp} : ∀ {f : Frs} {r : Nat} {xs : List V} {c : Bool} {w : Str} {sub : Frs}, FoAt H xs f → Fo.itm f r = some (.sweep c w sub) → ∃ t p zs, xs[r]? = some (.ref t) ∧ H t = some (.tup [.str "sweep", .bl c, .str w, .ref p]) ∧ H p = some (.tup zs) ∧ FoAt H zs sub
  | .nil, r, xs, c, w, sub, h, e => by cases e
  | .leaf k pl rest, 0, xs, c, w, sub, h, e => by cases e
  | .leaf k pl rest, r + 1, xs, c, w, sub, h, e => by
    obtain ⟨t, p, ys, rfl, _, _, hr⟩ := h
    obtain ⟨t', p', zs, a, b⟩ := itm_at (r := r) hr e
    exact ⟨t', p', zs, by simpa using a, b⟩
  | .node c' w' s rest, 0, xs, c, w, sub, h, e => by
    obtain ⟨t, p, zs, ys, rfl, a, b, d, _⟩ := h
    cases e
    exact ⟨t, p, zs, rfl, a, b, d⟩
  | .node c' w' s rest, r + 1, xs, c, w, sub, h, e => by
    obtain ⟨t, p, zs, ys, rfl, _, _, _, hr⟩ := h
    obtain ⟨t', p', zs', a, b⟩ := itm_at (r := r) hr e
    exact ⟨t', p', zs', by simpa using a, b⟩
noncomputable def EnAt (H : Hp) (x : V) (e : Fo.En) : Prop := ∃ t pl pt cu, x = .ref t ∧ H t = some (.tup [.int e.k, .ref pl, .ref pt, .ref cu]) ∧ PrsT H pl e.pl ∧ H pt = some (.tup (e.path.map V.int))
theorem EnAt.tk {H H' : Hp} {x : V} {e : Fo.En} (h : EnAt H x e) (k : TK H H') : EnAt H' x e := by obtain ⟨t, pl, pt, cu, a, b, c, d⟩ := h; exact ⟨t, pl, pt, cu, a, k _ _ b, c.tk k, k _ _ d⟩
theorem EnAt.over {H H' : Hp} {x : V} {e : Fo.En} (h : EnAt H x e) (k : Same H H') : EnAt H' x e := h.tk (Same.tk k)
noncomputable def spDeedsP (n : Nat) : Sp := fun vs H Q _ => ∃ (it pa cu : Addr) (f : Frs) (P : List Int) (cs : List V), vs = [.ref it, .ref pa, .ref cu] ∧ FoT H it f ∧ H pa = some (.tup (P.map V.int)) ∧ H cu = some (.tup cs) ∧ dep f ≤ n ∧ P.length + n ≤ 100 ∧ cs.length + n ≤ 100 ∧ (Fo.deedsF f P 0).length ≤ 1000 ∧ ∀ (r : Addr) (ys : List V) (H' : Hp), Same H H' → H' r = some (.lst ys) → All2 (EnAt H') ys (Fo.deedsF f P 0) → Q (.ref r) H'
noncomputable def spStandP : Sp := fun vs H Q _ => ∃ (p : Addr) (k : Int) (f : Frs) (i : Nat) (e : Fo.En), vs = [.ref p, .int k] ∧ FoT H p f ∧ dep f ≤ 7 ∧ (Fo.deedsF f [] 0).length ≤ 1000 ∧ (Fo.deedsF f [] 0)[i]? = some e ∧ e.k = k ∧ (∀ j e', j < i → (Fo.deedsF f [] 0)[j]? = some e' → e'.k ≠ k) ∧ ∀ (r pt pl : Addr) (H' : Hp), Same H H' → H' r = some (.tup [.ref pt, .ref pl]) → H' pt = some (.tup (e.path.map V.int)) → PrsT H' pl e.pl → Q (.ref r) H'
structure Rb where
  way : Way
  p : Int × Int
  q : Int × Int
noncomputable def RbAt (H : Hp) (x : V) (r : Rb) : Prop := ∃ t pt a b, x = .ref t ∧ H t = some (.tup [.ref pt, .bl r.way.1, .str r.way.2, .ref a, .ref b]) ∧ H a = some (.tup [.int r.p.1, .int r.p.2]) ∧ H b = some (.tup [.int r.q.1, .int r.q.2])
theorem RbAt.tk {H H' : Hp} {x : V} {r : Rb} (h : RbAt H x r) (k : TK H H') : RbAt H' x r := by obtain ⟨t, pt, a, b, c, d, e, f⟩ := h; exact ⟨t, pt, a, b, c, k _ _ d, k _ _ e, k _ _ f⟩
noncomputable def Many (B : List Bgh) (i j s : Nat) : Prop := (i = j ∧ ∃ b, B[i]? = some b ∧ s = b.ways.length) ∨ (i < j ∧ Fo.Least B i j s) ∨ (j < i ∧ Fo.Least B j i s)
noncomputable def rbs (b c : Bgh) (s : Nat) : List Rb := (List.range s).map fun e => ⟨b.ways.getD e (false, ""), b.pl.getD e (0, 0), c.pl.getD e (0, 0)⟩
noncomputable def PlanIs (H : Hp) (p : Addr) (B : List Bgh) : Prop := ∃ f, FoT H p f ∧ Fo.Is f B 0 ∧ GoodBs B ∧ (B.map (·.k)).Nodup
theorem PlanIs.over {H H' : Hp} {p : Addr} {B : List Bgh} (h : PlanIs H p B) (e : Same H H') : PlanIs H' p B := by obtain ⟨f, a, b⟩ := h; exact ⟨f, a.over e, b⟩
noncomputable def spRound : Sp := fun vs H Q _ => ∃ (p : Addr) (B : List Bgh) (i j s : Nat) (b c : Bgh), vs = [.ref p, .int b.k, .int c.k] ∧ PlanIs H p B ∧ B[i]? = some b ∧ B[j]? = some c ∧ Many B i j s ∧ ∀ (r : Addr) (ys : List V) (H' : Hp), Same H H' → H r = none → H' r = some (.lst ys) → All2 (RbAt H') ys (rbs b c s) → s ≤ b.ways.length ∧ s ≤ c.ways.length → Q (.ref r) H'
theorem en_at {f : Frs} {B : List Bgh} {i : Nat} {b : Bgh} (h : Fo.Is f B 0) (hb : B[i]? = some b) : ∃ e, (Fo.deedsF f [] 0)[i]? = some e ∧ e.k = b.k ∧ e.pl = b.pl := by
  have l := Fo.deeds_len [] 0 h
  have hi : i < (Fo.deedsF f [] 0).length := by rw [l]; exact (List.getElem?_eq_some_iff.mp hb).1
  have m := congrArg (fun l : List (Int × List (Int × Int)) => l[i]?) (Fo.deeds_map f B 0 [] 0 h)
  simp only [List.getElem?_map, List.getElem?_eq_getElem hi, hb, Option.map_some] at m
  have m := Option.some.inj m
  exact ⟨_, List.getElem?_eq_getElem hi, congrArg Prod.fst m, congrArg Prod.snd m⟩
theorem en_first {f : Frs} {B : List Bgh} {i : Nat} {b : Bgh} (h : Fo.Is f B 0) (nd : (B.map (·.k)).Nodup) (hb : B[i]? = some b) (j : Nat) (e' : Fo.En) (hj : j < i) (he : (Fo.deedsF f [] 0)[j]? = some e') : e'.k ≠ b.k := fun z => by
  have l := Fo.deeds_len [] 0 h
  have hjl : j < B.length := by have := (List.getElem?_eq_some_iff.mp he).1; omega
  obtain ⟨e'', g1, g2, _⟩ := en_at h (List.getElem?_eq_getElem hjl)
  rw [he] at g1
  cases g1
  obtain ⟨l1, a1⟩ := List.getElem?_eq_some_iff.mp hb
  exact List.pairwise_iff_getElem.mp nd j i (by rw [List.length_map]; exact hjl) (by rw [List.length_map]; exact l1) hj (by rw [List.getElem_map, List.getElem_map, a1, ← z, g2])
theorem paths {f : Frs} {B : List Bgh} {i j s : Nat} {b c : Bgh} {x y : Fo.En} (h : Fo.Is f B 0) (g : GoodBs B) (hb : B[i]? = some b) (hc : B[j]? = some c) (hx : (Fo.deedsF f [] 0)[i]? = some x) (hy : (Fo.deedsF f [] 0)[j]? = some y) (hm : Many B i j s) :
    s ≤ b.ways.length ∧ s ≤ c.ways.length ∧ (∀ e < s, x.path.getD e 0 = y.path.getD e 0) ∧ (s < b.ways.length → s < c.ways.length → x.path.getD s 0 ≠ y.path.getD s 0) ∧ x.path.length = b.ways.length + 1 ∧ y.path.length = c.ways.length + 1 := by
  have zero : ∀ i c, B[i + 1]? = some c → 0 ≤ c.sh := fun _ _ _ => Nat.zero_le _
  obtain ⟨r1, rs1, e1, d1⟩ := Fo.deeds_down f B 0 [] 0 i x b h zero g.ok (fun _ _ => Nat.zero_le _) hx hb
  obtain ⟨r2, rs2, e2, d2⟩ := Fo.deeds_down f B 0 [] 0 j y c h zero g.ok (fun _ _ => Nat.zero_le _) hy hc
  have l1 := down_len d1
  have l2 := down_len d2
  rw [List.drop_zero] at l1 l2
  have x1 : x.path.length = b.ways.length + 1 := by rw [e1, List.nil_append, List.length_cons, List.length_map, ← l1]; rfl
  have y1 : y.path.length = c.ways.length + 1 := by rw [e2, List.nil_append, List.length_cons, List.length_map, ← l2]; rfl
  have sep : ∀ {u v : List Int} {n : Nat}, Fo.Sep u v n → n < u.length ∧ n < v.length ∧ (∀ e < n, u.getD e 0 = v.getD e 0) ∧ u.getD n 0 ≠ v.getD n 0 := fun {u v n} hs => by
    obtain ⟨cc, a, b, q, r, rfl, rfl, rfl, hab⟩ := hs
    refine ⟨by simp, by simp, fun e he => ?_, ?_⟩
    · rw [List.getD_eq_getElem?_getD, List.getD_eq_getElem?_getD, List.getElem?_append_left he, List.getElem?_append_left he]
    · rw [List.getD_eq_getElem?_getD, List.getD_eq_getElem?_getD, List.getElem?_append_right (Nat.le_refl _), List.getElem?_append_right (Nat.le_refl _), Nat.sub_self]
      show a ≠ b
      omega
  rcases hm with ⟨rfl, b', hb', rfl⟩ | ⟨hij, hl⟩ | ⟨hij, hl⟩
  · rw [hb] at hb' hc
    cases hb'
    cases hc
    rw [hx] at hy
    cases hy
    exact ⟨Nat.le_refl _, Nat.le_refl _, fun _ _ => rfl, fun z => by omega, x1, y1⟩
  · obtain ⟨_, hs⟩ := Fo.deeds_sep f B 0 [] 0 i j s x y h zero hij hx hy hl
    obtain ⟨a1, a2, a3, a4⟩ := sep hs
    simp only [List.length_nil, Nat.zero_add, Nat.sub_zero] at a1 a2 a3 a4
    exact ⟨by omega, by omega, a3, fun _ _ => a4, x1, y1⟩
  · obtain ⟨_, hs⟩ := Fo.deeds_sep f B 0 [] 0 j i s y x h zero hij hy hx hl
    obtain ⟨a1, a2, a3, a4⟩ := sep hs
    simp only [List.length_nil, Nat.zero_add, Nat.sub_zero] at a1 a2 a3 a4
    exact ⟨by omega, by omega, fun e he => (a3 e he).symm, fun _ _ z => a4 z.symm, x1, y1⟩

theorem call_minL {X : Cx} (hc : X.calm = true) : CallR X (.builtin "min") (fun xs H Q => ∃ (p : Addr) (ns : List Int), xs = [.ref p] ∧ SqL X.K H p (ns.map V.int) ∧ 0 < ns.length ∧ ∀ M ∈ ns, (∀ a ∈ ns, M ≤ a) → Q (.int M) H) := by
  intro pins s σ H xs us Q I r h
  obtain ⟨p, ns, rfl, hq, hpos, q⟩ := h
  obtain ⟨u, rfl, ru⟩ := vals1 r
  cases ru
  obtain ⟨its, rv, pl, hz⟩ := I.list hq
  have hi := ints_of rv
  obtain ⟨xs, e⟩ := hi.allInts.items
  have hns : ns = xs.toList.map (·.1) := by rw [← hi.numsOf, ← nums_intItems, ← e]
  have hsz : 0 < xs.size := by
    have h3 := hpos; rw [hns, List.length_map, Array.length_toList] at h3; exact h3
  have hl := pl.isList
  rw [e] at hl
  refine min_intList (I.ok.hd hc) hl hsz fun v h' tk hv hk => ?_
  obtain ⟨t, rfl⟩ := intItems_at hv
  obtain ⟨h1, h2⟩ := argBest_lt (numAt xs) (xs.size - 1)
  refine ⟨.int _, H, I.kept (t' := tk) hk, ⟨_, rfl⟩, q _ ?_ fun a ha => ?_⟩
  · rw [hns, numAt_eq]; exact getD_mem (by rw [List.length_map, Array.length_toList]; omega)
  · rw [hns] at ha
    obtain ⟨j, hj, rfl⟩ := mem_getD ha
    rw [List.length_map, Array.length_toList] at hj
    rw [← numAt_eq]; exact h2 j (by omega)
noncomputable def intE (z : Int) : Value → Bool
  | .int y _ => y == z
  | _ => false
theorem ints_get {zs : List Int} {its : List Value} (r : Vals (zs.map V.int) its) {i : Nat} {u : Value} (h : its[i]? = some u) : ∃ z t, zs[i]? = some z ∧ u = .int z t := by
  cases e : (zs.map V.int)[i]? with
  | none => rw [r.none_of e] at h; cases h
  | some v =>
    obtain ⟨u', h', ru⟩ := r.get e
    rw [h] at h'
    cases h'
    rw [List.getElem?_map] at e
    cases ez : zs[i]? with
    | none => rw [ez] at e; cases e
    | some z =>
      rw [ez] at e
      cases e
      obtain ⟨t, ht⟩ := (show ∃ t, u = Value.int z t from ru)
      exact ⟨z, t, rfl, ht⟩
noncomputable def rLIndex : V → List V → Hp → VK → Prop := fun x vs H Q => ∃ (p : Addr) (zs : List Int) (z : Int) (j : Nat), x = .ref p ∧ vs = [.int z] ∧ H p = some (.lst (zs.map V.int)) ∧ zs[j]? = some z ∧ (∀ m < j, zs[m]? ≠ some z) ∧ j < 1000000 ∧ Q (.int (j : Int)) H
theorem mt_lindex {X : Cx} : MtM X "list.index" rLIndex := by
  intro pins s σ H x vs v us Q I rx rv h
  obtain ⟨p, zs, z, j, rfl, rfl, hq, hj, hno, hjs, q⟩ := h
  cases rx
  obtain ⟨u, rfl, ru⟩ := vals1 rv
  obtain ⟨tk, rfl⟩ := (show ∃ t, u = Value.int z t from ru)
  obtain ⟨z1, its, n, r, hl, e⟩ := I.lstM hq
  have hl := r.length
  rw [List.length_map] at hl
  have hjl : j < its.length := by have := (List.getElem?_eq_some_iff.mp hj).1; omega
  have at' : ∀ m (hm : m < its.toArray.size), ∃ y t, zs[m]? = some y ∧ its.toArray[m] = .int y t := fun m hm => by
    have hm' : m < its.length := by simpa using hm
    obtain ⟨y, t, h1, h2⟩ := ints_get r (i := m) (u := its[m]) (List.getElem?_eq_getElem hm')
    exact ⟨y, t, h1, by simpa using h2⟩
  refine call_meets PySem.F.slot_list_index ⟨_, e, rfl⟩ PySem.F.entry_list_index (PySem.F.args_list_index_2 _ _) (PySem.SeqAt.list_indexAt p its.toArray n _ _ (.int z tk) (intE z) j (by simpa using hjl) (by omega) ?_ ?_) ⟨e, fun y hy => ?_, ?_⟩
  · obtain ⟨y, t, h1, h2⟩ := at' j (by simpa using hjl)
    rw [hj] at h1
    cases h1
    rw [h2]
    exact beq_self_eq_true z
  · intro m hm hmj
    obtain ⟨y, t, h1, h2⟩ := at' m hm
    rw [h2]
    have : y ≠ z := fun e => hno m hmj (by rw [h1, e])
    exact beq_eq_false_iff_ne.mpr this
  · obtain ⟨m, hm, rfl⟩ := Array.mem_iff_getElem.mp hy
    obtain ⟨y, t, h1, h2⟩ := at' m hm
    rw [h2]
    exact PySem.SeqAt.EqAt.int_int y t z tk
  · exact ⟨.int (j : Int), H, I.tok _, ⟨_, rfl⟩, q⟩

noncomputable def DeedN (C : Addr) (H : Hp) (v : V) (n : Int) : Prop := ∃ (d dx nm : Addr) (xs : List V) (v2 v3 v4 v5 v6 v7 : V), v = .ref d ∧ H d = some (.ins C dx [("names", .ref nm), ("lows", v2), ("highs", v3), ("table", v4), ("spots", v5), ("term", v6), ("path", v7)]) ∧ H nm = some (.tup xs) ∧ (xs.length : Int) = n
theorem DeedN.over {C : Addr} {H H' : Hp} {v : V} {n : Int} (h : DeedN C H v n) (e : Same H H') : DeedN C H' v n := by
  obtain ⟨d, dx, nm, xs, v2, v3, v4, v5, v6, v7, a, b, c, d'⟩ := h
  exact ⟨d, dx, nm, xs, v2, v3, v4, v5, v6, v7, a, e _ _ b, e _ _ c, d'⟩
noncomputable def ProgIs (CP CD : Addr) (H : Hp) (pr : Addr) (D : List Int) : Prop := ∃ (dx dl : Addr) (v1 : V) (xs : List V), H pr = some (.ins CP dx [("size", v1), ("deeds", .ref dl)]) ∧ H dl = some (.lst xs) ∧ All2 (DeedN CD H) xs D
theorem ProgIs.over {CP CD : Addr} {H H' : Hp} {pr : Addr} {D : List Int} (h : ProgIs CP CD H pr D) (e : Same H H') : ProgIs CP CD H' pr D := by
  obtain ⟨dx, dl, v1, xs, a, b, c⟩ := h
  exact ⟨dx, dl, v1, xs, e _ _ a, e _ _ b, c.mono fun x n z => z.over e⟩
noncomputable def sdAt (beh : Int) (level : Nat) (side : Str) (e : Nat) (r : Rb) : List Tri :=
  (if e < level ∧ r.way.1 = false then [(1 + r.p.1, beh + r.q.1, r.q.2 - r.p.2), (beh + r.q.1, 1 + r.p.1, -(r.q.2 - r.p.2))] else []) ++ (if e = level ∧ side = "more" then [(beh + r.q.1, 1 + r.p.1, -(r.q.2 - r.p.2) - 1)] else []) ++ (if e = level ∧ side = "less" then [(1 + r.p.1, beh + r.q.1, r.q.2 - r.p.2 - 1)] else [])
noncomputable def sdL (beh : Int) (level : Nat) (side : Str) : Nat → List Rb → List Tri
  | _, [] => []
  | e, r :: R => sdAt beh level side e r ++ sdL beh level side (e + 1) R
theorem sdL_snoc (beh : Int) (level : Nat) (side : Str) : ∀ (R : List Rb) (e : Nat) (r : Rb), sdL beh level side e (R ++ [r]) = sdL beh level side e R ++ sdAt beh level side (e + R.length) r
  | [], e, r => by simp [sdL]
  | x :: R, e, r => by
    show sdAt beh level side e x ++ sdL beh level side (e + 1) (R ++ [r]) = sdAt beh level side e x ++ sdL beh level side (e + 1) R ++ sdAt beh level side (e + (R.length + 1)) r
    rw [sdL_snoc beh level side R (e + 1) r, List.append_assoc, show e + 1 + R.length = e + (R.length + 1) by omega]
theorem sdAt_len (beh : Int) (level : Nat) (side : Str) (e : Nat) (r : Rb) : (sdAt beh level side e r).length ≤ 4 := by
  unfold sdAt
  rw [List.length_append, List.length_append]
  split <;> split <;> split <;> simp
theorem sdL_len (beh : Int) (level : Nat) (side : Str) : ∀ (R : List Rb) (e : Nat), (sdL beh level side e R).length ≤ 4 * R.length
  | [], e => Nat.zero_le _
  | x :: R, e => by
    show (sdAt beh level side e x ++ sdL beh level side (e + 1) R).length ≤ _
    rw [List.length_append, List.length_cons]
    have := sdAt_len beh level side e x
    have := sdL_len beh level side R (e + 1)
    omega
theorem sdAt_far {beh : Int} {level e : Nat} {side : Str} {r : Rb} (h : level < e) : sdAt beh level side e r = [] := by
  unfold sdAt
  rw [if_neg (by omega), if_neg (by omega), if_neg (by omega)]
  rfl
theorem rbs_len (b c : Bgh) (s : Nat) : (rbs b c s).length = s := by unfold rbs; rw [List.length_map, List.length_range]
theorem rbs_succ (b c : Bgh) (s : Nat) : rbs b c (s + 1) = rbs b c s ++ [⟨b.ways.getD s (false, ""), b.pl.getD s (0, 0), c.pl.getD s (0, 0)⟩] := by unfold rbs; rw [List.range_succ, List.map_append]; rfl
theorem sdL_cut (b c : Bgh) (beh : Int) (side : Str) (level : Nat) : ∀ k : Nat, sdL beh level side 0 (rbs b c (level + 1 + k)) = sdL beh level side 0 (rbs b c (level + 1))
  | 0 => rfl
  | k + 1 => by
    rw [show level + 1 + (k + 1) = level + 1 + k + 1 by omega, rbs_succ, sdL_snoc, sdL_cut b c beh side level k, rbs_len, sdAt_far (by omega), List.append_nil]
noncomputable def spSideP (CP CD : Addr) : Sp := fun vs H Q _ => ∃ (pr p : Addr) (B : List Bgh) (D : List Int) (i j s level : Nat) (side : Str) (b c : Bgh), vs = [.ref pr, .ref p, .int b.k, .int c.k, .int (level : Int), .str side] ∧ ProgIs CP CD H pr D ∧ PlanIs H p B ∧ B[i]? = some b ∧ B[j]? = some c ∧ Many B i j s ∧ b.k.toNat < D.length ∧ ∀ (r : Addr) (ys : List V) (H' : Hp), Same H H' → H' r = some (.lst ys) → TrisAt H' ys (sdL (1 + D.getD b.k.toNat 0) level side 0 (rbs b c s)) → Q (.ref r) H'
noncomputable def spAtL : Sp := fun vs H Q _ => ∃ (l : Addr) (B : List Bgh) (i : Nat) (b : Bgh), vs = [.ref l, .int b.k] ∧ BosAt H l B ∧ B.length ≤ 6 ∧ (B.map (·.k)).Nodup ∧ B[i]? = some b ∧ ∀ H', Same H H' → Q (.int (i : Int)) H'
noncomputable def spSharedL : Sp := fun vs H Q _ => ∃ (l : Addr) (B : List Bgh) (i j s : Nat), vs = [.ref l, .int (i : Int), .int (j : Int)] ∧ BosAt H l B ∧ B.length ≤ 6 ∧ i < B.length ∧ j < B.length ∧ Many B i j s ∧ ∀ H', Same H H' → Q (.int (s : Int)) H'
theorem many_ex {B : List Bgh} {i j : Nat} (hi : i < B.length) (hj : j < B.length) : ∃ s, Many B i j s := by
  have low : ∀ (i j : Nat), i < j → j < B.length → ∃ s, Fo.Least B i j s := fun i j hij hj => by
    have : ∀ n, i < n → n ≤ j → ∃ s, Fo.Least B i n s := by
      intro n
      induction n with
      | zero => intro h; omega
      | succ n ih =>
        intro h1 h2
        have Bn : B[n + 1]? = some B[n + 1] := List.getElem?_eq_getElem (by omega)
        by_cases c : i < n
        · obtain ⟨s, ⟨k, b, k1, k2, k3, k4⟩, k5⟩ := ih c (by omega)
          by_cases d : (B[n + 1]).sh < s
          · refine ⟨(B[n + 1]).sh, ⟨n + 1, _, h1, Nat.le_refl _, Bn, rfl⟩, fun m c' m1 m2 m3 => ?_⟩
            by_cases z : m = n + 1
            · subst z
              rw [Bn] at m3
              cases m3
              exact Nat.le_refl _
            · have := k5 m c' m1 (by omega) m3
              omega
          · refine ⟨s, ⟨k, b, k1, by omega, k3, k4⟩, fun m c' m1 m2 m3 => ?_⟩
            by_cases z : m = n + 1
            · subst z
              rw [Bn] at m3
              cases m3
              omega
            · exact k5 m c' m1 (by omega) m3
        · have : i = n := by omega
          subst this
          refine ⟨(B[i + 1]).sh, ⟨i + 1, _, h1, Nat.le_refl _, Bn, rfl⟩, fun m c' m1 m2 m3 => ?_⟩
          have : m = i + 1 := by omega
          subst this
          rw [Bn] at m3
          cases m3
          exact Nat.le_refl _
    exact this j hij (Nat.le_refl _)
  rcases Nat.lt_trichotomy i j with c | c | c
  · obtain ⟨s, h⟩ := low i j c hj
    exact ⟨s, .inr (.inl ⟨c, h⟩)⟩
  · exact ⟨_, .inl ⟨c, _, List.getElem?_eq_getElem hi, rfl⟩⟩
  · obtain ⟨s, h⟩ := low j i c hi
    exact ⟨s, .inr (.inr ⟨c, h⟩)⟩
noncomputable abbrev Sd := Nat × Str
noncomputable def SdAt (H : Hp) (x : V) (q : Sd) : Prop := ∃ t, x = .ref t ∧ H t = some (.tup [.int (q.1 : Int), .str q.2])
theorem SdAt.tk {H H' : Hp} {x : V} {q : Sd} (h : SdAt H x q) (k : TK H H') : SdAt H' x q := by obtain ⟨t, a, b⟩ := h; exact ⟨t, a, k _ _ b⟩
noncomputable def sd1 (w : Str) (e : Nat) : List Sd := (if w ≠ "up" then [((e, ("less" : Str)) : Sd)] else []) ++ (if w ≠ "down" then [((e, ("more" : Str)) : Sd)] else [])
noncomputable def sds (b : Bgh) : Nat → List Sd
  | 0 => []
  | e + 1 => sds b e ++ sd1 (b.ways.getD e (false, "")).2 e
noncomputable def sidesL (b : Bgh) (i j s : Nat) : List Sd := sds b s ++ (if j < i then [((s, ("text" : Str)) : Sd)] else [])
noncomputable def spSidesL : Sp := fun vs H Q _ => ∃ (l : Addr) (B : List Bgh) (i j s : Nat) (b c : Bgh), vs = [.ref l, .int b.k, .int c.k] ∧ BosAt H l B ∧ GoodBs B ∧ (B.map (·.k)).Nodup ∧ B[i]? = some b ∧ B[j]? = some c ∧ Many B i j s ∧ s ≤ b.ways.length ∧ ∀ (r : Addr) (ys : List V) (H' : Hp), Same H H' → H' r = some (.lst ys) → All2 (SdAt H') ys (sidesL b i j s) → Q (.ref r) H'
theorem sds_mem {b : Bgh} {e : Nat} {q : Sd} (h : q ∈ sds b e) : q.1 < e ∧ (q.2 = "less" ∨ q.2 = "more") := by
  induction e with
  | zero => cases h
  | succ e ih =>
    rcases List.mem_append.mp h with h | h
    · obtain ⟨a, c⟩ := ih h
      exact ⟨by omega, c⟩
    · unfold sd1 at h
      rcases List.mem_append.mp h with h | h
      · split at h
        · rw [List.mem_singleton] at h; subst h; exact ⟨Nat.lt_succ_self _, .inl rfl⟩
        · cases h
      · split at h
        · rw [List.mem_singleton] at h; subst h; exact ⟨Nat.lt_succ_self _, .inr rfl⟩
        · cases h
theorem sds_len (b : Bgh) : ∀ e : Nat, (sds b e).length ≤ 2 * e
  | 0 => Nat.le_refl _
  | e + 1 => by
    show (sds b e ++ sd1 _ e).length ≤ _
    rw [List.length_append]
    have := sds_len b e
    have : (sd1 (b.ways.getD e (false, "")).2 e).length ≤ 2 := by
      unfold sd1
      rw [List.length_append]
      split <;> split <;> simp
    omega
noncomputable def tmB (u r w m : Int) (kind : Str) : List Tri := if kind = "less" then [(u, w, m - r - 1)] else if kind = "more" then [(w, u, r - m - 1)] else [(u, w, m - r), (w, u, r - m)]
noncomputable def spTimeB : Sp := fun vs H Q _ => ∃ (u r w m : Int) (kind : Str), vs = [.int u, .int r, .int w, .int m, .str kind] ∧ ∀ (l : Addr) (ys : List V) (H' : Hp), Same H H' → H' l = some (.lst ys) → TrisAt H' ys (tmB u r w m kind) → Q (.ref l) H'
noncomputable def hi1 (side : Str) (level : Nat) : Nat := if side = "text" then level else level + 1
noncomputable def spSideL : Sp := fun vs H Q _ => ∃ (l : Addr) (B : List Bgh) (beh : Int) (level : Nat) (side : Str) (i j : Nat) (b c : Bgh), vs = [.ref l, .int beh, .int b.k, .int c.k, .int (level : Int), .str side] ∧ BosAt H l B ∧ GoodBs B ∧ (B.map (·.k)).Nodup ∧ B[i]? = some b ∧ B[j]? = some c ∧ (side = "less" ∨ side = "more" ∨ side = "text") ∧ hi1 side level ≤ b.ways.length ∧ hi1 side level ≤ c.ways.length ∧ ∀ (r : Addr) (ys : List V) (H' : Hp), Same H H' → H' r = some (.lst ys) → TrisAt H' ys (sdL beh level side 0 (rbs b c (hi1 side level))) → Q (.ref r) H'
noncomputable def spAlike3 : Sp := fun vs H Q _ => ∃ (l l2 : Addr) (ys zs : List V) (B : List Tri), vs = [.ref l, .ref l2] ∧ H l = some (.lst ys) ∧ H l2 = some (.lst zs) ∧ TrisAt H ys B ∧ TrisAt H zs B ∧ B.length ≤ 1000 ∧ ∀ H', Same H H' → Q (.bl true) H'
noncomputable def hold7 (W : List Int) (b : Tri) : Bool := decide (W.getD b.1.toNat 0 - W.getD b.2.1.toNat 0 ≤ b.2.2)
noncomputable def InW (W : List Int) (x : Int) : Prop := 0 ≤ x ∧ x < (W.length : Int)
noncomputable def spHold7 : Sp := fun vs H Q _ => ∃ (l v : Addr) (ys : List V) (B : List Tri) (W : List Int), vs = [.ref l, .ref v] ∧ H l = some (.lst ys) ∧ TrisAt H ys B ∧ H v = some (.lst (W.map V.int)) ∧ (∀ b ∈ B, InW W b.1 ∧ InW W b.2.1) ∧ Q (.bl (B.all (hold7 W))) H
noncomputable def spMeant : Sp := fun vs H Q _ => ∃ (x y : V) (v : Addr) (beh : Int) (level : Nat) (side : Str) (b c : Bgh) (W : List Int), vs = [x, y, .int beh, .ref v, .int (level : Int), .str side] ∧ BoAt H x b ∧ BoAt H y c ∧ H v = some (.lst (W.map V.int)) ∧ (side = "less" ∨ side = "more" ∨ side = "text") ∧ hi1 side level ≤ b.ways.length ∧ b.pl.length = b.ways.length ∧ hi1 side level ≤ c.pl.length ∧ b.ways.length ≤ 6 ∧ level ≤ 6 ∧ (∀ p ∈ b.pl, InW W (1 + p.1)) ∧ (∀ p ∈ c.pl, InW W (beh + p.1)) ∧ Q (.bl ((sdL beh level side 0 (rbs b c (hi1 side level))).all (hold7 W))) H
noncomputable def spTurns7 (K : PySem.W.Frag) : Sp := fun vs H Q _ => ∃ (sc dl : Addr) (x y : V) (ns : List Int) (b c : Bgh) (d1 d2 : Int), vs = [.ref sc, x, y, .ref dl] ∧ SqL K H sc (ns.map V.int) ∧ BoAt H x b ∧ BoAt H y c ∧ H dl = some (.lst [.int d1, .int d2]) ∧ 0 ≤ d1 ∧ d1 ≤ 3 ∧ 0 ≤ d2 ∧ d2 ≤ 3 ∧ b.pl.length ≤ 6 ∧ c.pl.length ≤ 6 ∧ (∀ p ∈ b.pl, 0 ≤ p.1 ∧ p.1 < d1) ∧ (∀ p ∈ c.pl, 0 ≤ p.1 ∧ p.1 < d2) ∧ ∀ (r : Addr) (W : List Int) (H' : Hp), Same H H' → H' r = some (.lst (W.map V.int)) → (W.length : Int) = 1 + d1 + d2 → Q (.ref r) H'
end L2
namespace HT
open PySem PySem.Spec PyProof.Rows L2
section
variable {prog : Program} {w : World} {A : Around} {E : Value → Shared → Prop} {s : Shared}
theorem getItem_tuple_all {t sl : Addr} {items : Array Value} {vl vu : Value} {lo hi : Option Int} {Q : Value → Shared → Prop} (ht : IsTup s.heap t items) (hs : s.heap.IsSliceOf sl vl vu .none) (pl : IsPart vl lo) (pu : IsPart vu hi)
    (hw : sIx items.size 0 lo = 0 ∧ sIx items.size items.size hi = items.size) (h : Q (.ref t) s) : wpAny (model prog w) A (getItem (.ref t) (.ref sl)) Q E s := by
  obtain ⟨os, hos, hcs, hds⟩ := id hs
  have hTs : s.TypeIs (.ref sl) "slice" := ⟨os, hos, hcs⟩
  unfold getItem
  try with_reducible refine wpAny_holding ?_
  first | refine wpAny_bind (wpAny_pure ?_) | skip
  refine wpAny_bind (wpAny_sequenceKey ht.typeIs (by decide) ?_)
  refine wpAny_bind (wpAny_callSpecial?_slot (name := Str.ofString "__getitem__") ht.typeIs PyProof.Rows.slot_tuple_getitem
    (wpAny_call_entry PyProof.Rows.slot_tuple_getitem ht.typeIs entry_tuple_getitem ?_ (args_tuple_getitem _ _)))
  show wpAny _ _ (Builtin.Tuple.tupleItemsOf (.ref t) >>= _) _ _ s
  refine wpAny_bind (tupleItemsOf_ ht ?_)
  refine wpAny_bind (wpAny_typeOf hTs ?_)
  rw [if_pos (by decide)]
  refine wpAny_bind (sliceApplied_gen hs pl pu ?_)
  have hyes : (((sIx items.size 0 lo : Nat) : Int) == 0 && (1 : Int) == 1 && (sIx items.size items.size hi - sIx items.size 0 lo) == items.size) = true := by
    rw [hw.1, hw.2]
    simp
  show wpAny _ _ (if (((sIx items.size 0 lo : Nat) : Int) == 0 && (1 : Int) == 1 && (sIx items.size items.size hi - sIx items.size 0 lo) == items.size) = true then _ else _) _ _ s
  rw [if_pos hyes]
  show wpAny _ _ (Builtin.Tuple.tupleIsExact (.ref t) >>= _) _ _ s
  unfold Builtin.Tuple.tupleIsExact
  refine wpAny_bind (wpAny_bind (wpAny_typeOf ht.typeIs (wpAny_pure ?_)))
  rw [if_pos (by decide)]
  wp_walk
  first
    | exact ⟨_, rfl, wpAny_pure h⟩
    | exact wpAny_pure ⟨_, rfl, wpAny_pure h⟩
end
end HT
namespace L2
open PySem PySem.Spec PyProof.Rows
noncomputable def rSlH : V → Option Int → Option Int → Hp → VK → Prop := fun x lo hi H Q => ∃ (a : Addr) (xs : List V), x = .ref a ∧ H a = some (.tup xs) ∧ ∀ (p : Addr) (H' : Hp), Same H H' → H' p = some (.tup (cutV xs lo hi)) → Q (.ref p) H'
theorem sl_tupH {X : Cx} : SlR X rSlH := by
  intro pins s σ H x v vl vu lo hi sl Q I rx hs pl pu h
  obtain ⟨a, xs, rfl, ha, q⟩ := h
  by_cases c : HT.sIx xs.length 0 lo = 0 ∧ HT.sIx xs.length xs.length hi = xs.length
  · cases rx
    obtain ⟨its, r, ht, hz⟩ := I.tuple (SqT.of ha)
    have hlen : its.toArray.size = xs.length := by rw [List.size_toArray]; exact r.length.symm
    refine ⟨"tuple", _, PyProof.Rows.slot_tuple_getitem.lookup, ht.typeIs, ?_⟩
    refine HT.getItem_tuple_all ht hs pl pu (by rw [hlen]; exact c) ⟨.ref a, H, I, rfl, q a H (Same.refl _) ?_⟩
    have : cutV xs lo hi = xs := by
      unfold cutV
      rw [c.1, c.2]
      simp
    rw [this]
    exact ha
  · exact sl_tup pins s σ H (.ref a) v vl vu lo hi sl Q I rx hs pl pu ⟨a, xs, rfl, SqT.of ha, c, fun p hp => q p _ (same_new hp _) upd_same⟩
noncomputable def spPInit (C : Addr) : Sp := fun vs H Q _ => ∃ (x dx l : Addr) (v1 : V) (xs : List V), vs = [.ref x, v1, .ref l] ∧ H x = some (.ins C dx []) ∧ H l = some (.lst xs) ∧ xs.length ≤ 1000 ∧ ∀ (H' : Hp) (dl : Addr), (∀ b o, H b = some o → b ≠ x → H' b = some o) → (∃ dx, H' x = some (.ins C dx [("size", v1), ("deeds", .ref dl)])) → H' dl = some (.lst xs) → Q .non H'
noncomputable def spDeed7 (C : Addr) : Sp := fun vs H Q _ => ∃ (k d : Int), vs = [.int k, .int d] ∧ 0 ≤ d ∧ d ≤ 3 ∧ ∀ (r : Addr) (H' : Hp), Same H H' → DeedN C H' (.ref r) d → Q (.ref r) H'
noncomputable def spPStands (K : PySem.W.Frag) (CP CD : Addr) : Sp := fun vs H Q _ => ∃ (sc pr l dl : Addr) (ns D : List Int) (B : List Bgh) (i j : Nat) (b c : Bgh), vs = [.ref sc, .ref pr, .ref l, .ref dl, .int b.k, .int c.k] ∧ SqL K H sc (ns.map V.int) ∧ ns.length ≤ 63 ∧ ProgIs CP CD H pr D ∧ BosAt H l B ∧ H dl = some (.lst (D.map V.int)) ∧ (∀ d ∈ D, 0 ≤ d ∧ d ≤ 3) ∧ GoodBs B ∧ (B.map (·.k)).Nodup ∧ B[i]? = some b ∧ B[j]? = some c ∧ b.k.toNat < D.length ∧ c.k.toNat < D.length ∧ (∀ b ∈ B, ∀ p ∈ b.pl, p.1 < D.getD b.k.toNat 0) ∧ ∀ H', Same H H' → Q (.bl true) H'

theorem tris_add {H : Hp} {bo r : Addr} {zs : List V} {L : List Tri} {x y z : Int} (hb : H bo = some (.lst zs)) (ht : TrisAt H zs L) (hr : H r = none) :
    (upd (upd H r (.tup [.int x, .int y, .int z])) bo (.lst (zs ++ [.ref r]))) bo = some (.lst (zs ++ [.ref r])) ∧ TrisAt (upd (upd H r (.tup [.int x, .int y, .int z])) bo (.lst (zs ++ [.ref r]))) (zs ++ [.ref r]) (L ++ [(x, y, z)]) ∧ ∀ a o, a ≠ bo → H a = some o → (upd (upd H r (.tup [.int x, .int y, .int z])) bo (.lst (zs ++ [.ref r]))) a = some o := by
  have s1 := same_new hr (.tup [.int x, .int y, .int z])
  have nr : r ≠ bo := fun z => by rw [z, hb] at hr; cases hr
  refine ⟨upd_same, ((ht.over s1).upd (s1 _ _ hb)).snoc (t := r) (b := (x, y, z)) (by rw [upd_ne nr]; exact upd_same), fun a o ha h => by rw [upd_ne ha]; exact s1 _ _ h⟩
theorem least_inj {B : List Bgh} {i j s : Nat} (h : Fo.Least B i j s) {M : Int} (h1 : M ∈ ((B.drop (i + 1)).take (j - i)).map fun b => (b.sh : Int)) (h2 : ∀ a ∈ ((B.drop (i + 1)).take (j - i)).map (fun b => (b.sh : Int)), M ≤ a) : M = (s : Int) := by
  obtain ⟨⟨k, c, k1, k2, k3, k4⟩, k5⟩ := h
  obtain ⟨b, hb, rfl⟩ := List.mem_map.mp h1
  obtain ⟨n, hn⟩ := List.mem_iff_getElem?.mp hb
  have l := (List.getElem?_eq_some_iff.mp hn).1
  rw [List.length_take] at l
  rw [List.getElem?_take_of_lt (by omega), List.getElem?_drop] at hn
  have a1 := k5 (i + 1 + n) b (by omega) (by omega) hn
  have a2 := h2 (s : Int) (List.mem_map.mpr ⟨c, List.mem_iff_getElem?.mpr ⟨k - (i + 1), by rw [List.getElem?_take_of_lt (by omega), List.getElem?_drop, show i + 1 + (k - (i + 1)) = k by omega]; exact k3⟩, by rw [k4]⟩)
  omega

noncomputable def triT (b : Tri) : Tr := .tup [.v (.int b.1), .v (.int b.2.1), .v (.int b.2.2)]
theorem tri_tr {K : PySem.W.Frag} {H : Hp} : ∀ {ys : List V} {B : List Tri}, TrisAt H ys B → TrsIs K H ys (B.map triT)
  | [], [], _ => .nil
  | [], p :: P, h => by have := h.1; cases this
  | y :: ys, [], h => by have := h.1; cases this
  | y :: ys, b :: B, h => by
    obtain ⟨t, rfl, ht⟩ := h.2 0 y b rfl rfl
    exact .cons (.tup (SqT.of ht) (.cons (.flat rfl) (.cons (.flat rfl) (.cons (.flat rfl) .nil)))) (tri_tr ⟨Nat.succ.inj h.1, fun i x a p q => h.2 (i + 1) x a (by simpa using p) (by simpa using q)⟩)
theorem tri_dep : ∀ B : List Tri, depTs (B.map triT) ≤ 1
  | [] => Nat.zero_le _
  | b :: B => by
    rw [List.map_cons, depTs]
    have := tri_dep B
    have : depT (triT b) = 1 := by simp [triT, depT, depTs]
    omega

theorem sd_alike {beh : Int} {level e : Nat} {side : Str} {rb : Rb} (h : e < level) (hc : rb.way.1 = false) : tmB (1 + rb.p.1) rb.p.2 (beh + rb.q.1) rb.q.2 "alike" = sdAt beh level side e rb := by
  have a1 : ¬ (("alike" : Str) = "less") := by decide +kernel
  have a2 : ¬ (("alike" : Str) = "more") := by decide +kernel
  unfold tmB sdAt
  rw [if_neg a1, if_neg a2, if_pos ⟨h, hc⟩, if_neg (by omega), if_neg (by omega), List.append_nil, List.append_nil, Int.neg_sub]
theorem sd_level {beh : Int} {level : Nat} {side : Str} {rb : Rb} (h : side = "less" ∨ side = "more") : tmB (1 + rb.p.1) rb.p.2 (beh + rb.q.1) rb.q.2 side = sdAt beh level side level rb := by
  have a1 : ¬ (("less" : Str) = "more") := by decide +kernel
  have a2 : ¬ (("more" : Str) = "less") := by decide +kernel
  unfold tmB sdAt
  rcases h with rfl | rfl
  · rw [if_pos rfl, if_neg (by omega), if_neg (fun z => a1 z.2), if_pos ⟨rfl, rfl⟩]
    rfl
  · rw [if_neg a2, if_pos rfl, if_neg (by omega), if_pos ⟨rfl, rfl⟩, if_neg (fun z => a2 z.2), Int.neg_sub]
    rfl
theorem sd_none {beh : Int} {level e : Nat} {side : Str} {rb : Rb} (h : e < level) (hc : rb.way.1 = true) : sdAt beh level side e rb = [] := by
  unfold sdAt
  rw [if_neg (fun z => by rw [hc] at z; cases z.2), if_neg (by omega), if_neg (by omega)]
  rfl
theorem TrisAt.app {H : Hp} {ys zs : List V} {B C : List Tri} (h : TrisAt H ys B) (g : TrisAt H zs C) : TrisAt H (ys ++ zs) (B ++ C) := by
  have a : All2 (fun x (b : Tri) => ∃ t, x = .ref t ∧ H t = some (.tup [.int b.1, .int b.2.1, .int b.2.2])) ys B := ⟨h.1, fun i x b p q => h.2 i x b p q⟩
  have c : All2 (fun x (b : Tri) => ∃ t, x = .ref t ∧ H t = some (.tup [.int b.1, .int b.2.1, .int b.2.2])) zs C := ⟨g.1, fun i x b p q => g.2 i x b p q⟩
  have := a.app c
  exact ⟨this.1, fun i x b p q => this.2 i x b p q⟩
theorem tmB_len (u r w m : Int) (kind : Str) : (tmB u r w m kind).length ≤ 2 := by
  unfold tmB
  split
  · simp
  · split <;> simp
theorem sdL_all {beh : Int} {level : Nat} {side : Str} {p : Tri → Bool} {b c : Bgh} : ∀ n : Nat, (sdL beh level side 0 (rbs b c n)).all p = true ↔ ∀ e < n, (sdAt beh level side e ⟨b.ways.getD e (false, ""), b.pl.getD e (0, 0), c.pl.getD e (0, 0)⟩).all p = true
  | 0 => ⟨fun _ e he => by omega, fun _ => rfl⟩
  | n + 1 => by
    rw [rbs_succ, sdL_snoc, Nat.zero_add, rbs_len, List.all_append, Bool.and_eq_true, sdL_all n]
    constructor
    · rintro ⟨h1, h2⟩ e he
      by_cases z : e < n
      · exact h1 e z
      · have : e = n := by omega
        subst this
        exact h2
    · intro h
      exact ⟨fun e he => h e (by omega), h n (by omega)⟩
theorem hold_alike {beh : Int} {level e : Nat} {side : Str} {rb : Rb} {W : List Int} (h : e < level) (hc : rb.way.1 = false) : (sdAt beh level side e rb).all (hold7 W) = decide (W.getD (1 + rb.p.1).toNat 0 + rb.p.2 = W.getD (beh + rb.q.1).toNat 0 + rb.q.2) := by
  unfold sdAt
  rw [if_pos ⟨h, hc⟩, if_neg (by omega), if_neg (by omega), List.append_nil, List.append_nil]
  simp only [List.all_cons, List.all_nil, Bool.and_true, hold7]
  rw [Bool.eq_iff_iff, Bool.and_eq_true, decide_eq_true_iff, decide_eq_true_iff, decide_eq_true_iff]
  omega
theorem hold_less {beh : Int} {level : Nat} {rb : Rb} {W : List Int} : (sdAt beh level "less" level rb).all (hold7 W) = decide (W.getD (1 + rb.p.1).toNat 0 + rb.p.2 < W.getD (beh + rb.q.1).toNat 0 + rb.q.2) := by
  have a1 : ¬ (("less" : Str) = "more") := by decide +kernel
  unfold sdAt
  rw [if_neg (by omega), if_neg (fun z => a1 z.2), if_pos ⟨rfl, rfl⟩]
  simp only [List.nil_append, List.all_cons, List.all_nil, Bool.and_true, hold7]
  rw [Bool.eq_iff_iff, decide_eq_true_iff, decide_eq_true_iff]
  omega
theorem hold_more {beh : Int} {level : Nat} {rb : Rb} {W : List Int} : (sdAt beh level "more" level rb).all (hold7 W) = decide (W.getD (beh + rb.q.1).toNat 0 + rb.q.2 < W.getD (1 + rb.p.1).toNat 0 + rb.p.2) := by
  have a1 : ¬ (("more" : Str) = "less") := by decide +kernel
  unfold sdAt
  rw [if_neg (by omega), if_pos ⟨rfl, rfl⟩, if_neg (fun z => a1 z.2)]
  simp only [List.nil_append, List.append_nil, List.all_cons, List.all_nil, Bool.and_true, hold7]
  rw [Bool.eq_iff_iff, decide_eq_true_iff, decide_eq_true_iff]
  omega

theorem sdAt_mem {beh : Int} {level e : Nat} {side : Str} {rb : Rb} {t : Tri} (h : t ∈ sdAt beh level side e rb) : (t.1 = 1 + rb.p.1 ∧ t.2.1 = beh + rb.q.1) ∨ (t.1 = beh + rb.q.1 ∧ t.2.1 = 1 + rb.p.1) := by
  unfold sdAt at h
  rcases List.mem_append.mp h with h | h
  · rcases List.mem_append.mp h with h | h
    · split at h
      · rcases List.mem_cons.mp h with rfl | h
        · exact .inl ⟨rfl, rfl⟩
        · rw [List.mem_singleton] at h; subst h; exact .inr ⟨rfl, rfl⟩
      · cases h
    · split at h
      · rw [List.mem_singleton] at h; subst h; exact .inr ⟨rfl, rfl⟩
      · cases h
  · split at h
    · rw [List.mem_singleton] at h; subst h; exact .inl ⟨rfl, rfl⟩
    · cases h
theorem sdL_mem {beh : Int} {level : Nat} {side : Str} {b c : Bgh} {t : Tri} : ∀ n : Nat, n ≤ b.pl.length → n ≤ c.pl.length → t ∈ sdL beh level side 0 (rbs b c n) → ∃ p ∈ b.pl, ∃ q ∈ c.pl, (t.1 = 1 + p.1 ∧ t.2.1 = beh + q.1) ∨ (t.1 = beh + q.1 ∧ t.2.1 = 1 + p.1)
  | 0, _, _, h => by cases h
  | n + 1, h1, h2, h => by
    rw [rbs_succ, sdL_snoc] at h
    rcases List.mem_append.mp h with h | h
    · exact sdL_mem n (by omega) (by omega) h
    · have g1 : b.pl.getD n (0, 0) = b.pl[n] := by rw [List.getD_eq_getElem?_getD, List.getElem?_eq_getElem (show n < b.pl.length by omega)]; rfl
      have g2 : c.pl.getD n (0, 0) = c.pl[n] := by rw [List.getD_eq_getElem?_getD, List.getElem?_eq_getElem (show n < c.pl.length by omega)]; rfl
      rw [g1, g2] at h
      exact ⟨_, List.getElem_mem _, _, List.getElem_mem _, sdAt_mem h⟩
theorem sides_mem {b : Bgh} {i j s level : Nat} {side : Str} (h : (level, side) ∈ sidesL b i j s) : (level < s ∧ (side = "less" ∨ side = "more")) ∨ (level = s ∧ side = "text") := by
  unfold sidesL at h
  rcases List.mem_append.mp h with h | h
  · exact .inl (sds_mem h)
  · split at h
    · rw [List.mem_singleton] at h
      cases h
      exact .inr ⟨rfl, rfl⟩
    · cases h
theorem sides_same {b c : Bgh} {s level : Nat} {side : Str} (beh : Int) (h : (level < s ∧ (side = "less" ∨ side = "more")) ∨ (level = s ∧ side = "text")) : hi1 side level ≤ s ∧ sdL beh level side 0 (rbs b c s) = sdL beh level side 0 (rbs b c (hi1 side level)) ∧ (side = "less" ∨ side = "more" ∨ side = "text") ∧ level ≤ s := by
  have a1 : ¬ (("less" : Str) = "text") := by decide +kernel
  have a2 : ¬ (("more" : Str) = "text") := by decide +kernel
  rcases h with ⟨h, hs⟩ | ⟨rfl, rfl⟩
  · have nt : ¬ side = "text" := by rcases hs with rfl | rfl; exact a1; exact a2
    have e : hi1 side level = level + 1 := by unfold hi1; rw [if_neg nt]
    rw [e]
    refine ⟨by omega, ?_, by rcases hs with h | h; exact .inl h; exact .inr (.inl h), by omega⟩
    have := sdL_cut b c beh side level (s - (level + 1))
    rw [show level + 1 + (s - (level + 1)) = s by omega] at this
    exact this
  · have e : hi1 "text" level = level := by unfold hi1; rw [if_pos rfl]
    rw [e]
    exact ⟨Nat.le_refl _, rfl, .inr (.inr rfl), Nat.le_refl _⟩
end L2

set_option Elab.async false
set_option linter.all false
namespace L2
open PySem PySem.Spec PyProof.Rows
theorem zeq {e l : Nat} (h : e = l) : (e : Int) = (l : Int) := by rw [h]
theorem ninj {e l : Nat} (h : V.int (e : Int) = V.int (l : Int)) : e = l := by have := V.int.inj h; omega
end L2

set_option Elab.async false
set_option linter.all false
set_option maxRecDepth 100000
set_option maxHeartbeats 4000000

namespace Fw
open PySem L2 Bd



noncomputable def top (i : Nat) : Stmt := PySem.Challenge.pw_furrow_k72_bonds_of_sides.main.body.getD i (.Pass ⟨0, 0, 0, 0⟩)
noncomputable abbrev s_deeds_within : Stmt := top 9
noncomputable abbrev s_stand : Stmt := top 10
noncomputable abbrev s_round_both : Stmt := top 11
noncomputable abbrev s_alike_numbers : Stmt := top 7
noncomputable abbrev s_side_bonds : Stmt := top 13
noncomputable abbrev s_Number_init : Stmt := inClass (top 3) 0
noncomputable abbrev s_Deed_init : Stmt := inClass (top 5) 0
noncomputable abbrev s_Program_init : Stmt := inClass (top 6) 0
noncomputable abbrev s_l_cell_at : Stmt := top 15
noncomputable abbrev s_l_mixed : Stmt := top 16
noncomputable abbrev s_l_items : Stmt := top 17
noncomputable abbrev s_l_pair : Stmt := top 18
noncomputable abbrev s_l_bough : Stmt := top 19
noncomputable abbrev s_l_boughs : Stmt := top 20
noncomputable abbrev s_l_at : Stmt := top 21
noncomputable abbrev s_l_shared : Stmt := top 22
noncomputable abbrev s_l_sides : Stmt := top 23
noncomputable abbrev s_l_deed : Stmt := top 27
noncomputable abbrev s_l_time_bonds : Stmt := top 24
noncomputable abbrev s_l_side_bonds : Stmt := top 25
noncomputable abbrev s_l_whole : Stmt := top 26
noncomputable abbrev s_l_alike : Stmt := top 28
noncomputable abbrev s_l_turns : Stmt := top 29
noncomputable abbrev s_l_hold : Stmt := top 30
noncomputable abbrev s_l_meant : Stmt := top 31
noncomputable abbrev s_l_pair_stands : Stmt := top 32
noncomputable abbrev s_law : Stmt := top 33
theorem sc_deeds_within : FnScope ["items", "path", "cuts", "found", "number", "item", "here"] ["items", "path", "cuts"] (defScope s_deeds_within) := ⟨rfl, rfl, rfl, by decide +kernel, rfl, by decide +kernel, by decide +kernel⟩
theorem sc_stand : FnScope ["plan", "k", "number", "places", "path", "cuts"] ["plan", "k"] (defScope s_stand) := ⟨rfl, rfl, rfl, by decide +kernel, rfl, by decide +kernel, by decide +kernel⟩
theorem sc_round_both : FnScope ["plan", "k", "l", "one", "other", "found", "items", "level", "item"] ["plan", "k", "l"] (defScope s_round_both) := ⟨rfl, rfl, rfl, by decide +kernel, rfl, by decide +kernel, by decide +kernel⟩
theorem sc_alike_numbers : FnScope ["path", "other", "most", "e"] ["path", "other", "most"] (defScope s_alike_numbers) := ⟨rfl, rfl, rfl, by decide +kernel, rfl, by decide +kernel, by decide +kernel⟩
theorem sc_side_bonds : FnScope ["program", "plan", "k", "l", "level", "side", "behind", "bonds", "number", "sweep", "u", "w", "above"] ["program", "plan", "k", "l", "level", "side"] (defScope s_side_bonds) := ⟨rfl, rfl, rfl, by decide +kernel, rfl, by decide +kernel, by decide +kernel⟩
theorem sc_Number_init : FnScope ["self", "n"] ["self", "n"] (defScope s_Number_init) := ⟨rfl, rfl, rfl, by decide +kernel, rfl, by decide +kernel, by decide +kernel⟩
theorem sc_Deed_init : FnScope ["self", "names", "lows", "highs", "table", "spots", "term", "path"] ["self", "names", "lows", "highs", "table", "spots", "term", "path"] (defScope s_Deed_init) := ⟨rfl, rfl, rfl, by decide +kernel, rfl, by decide +kernel, by decide +kernel⟩
theorem sc_Program_init : FnScope ["self", "size", "deeds"] ["self", "size", "deeds"] (defScope s_Program_init) := ⟨rfl, rfl, rfl, by decide +kernel, rfl, by decide +kernel, by decide +kernel⟩
theorem sc_l_cell_at : FnScope ["_law_script", "_law_k"] ["_law_script", "_law_k"] (defScope s_l_cell_at) := ⟨rfl, rfl, rfl, by decide +kernel, rfl, by decide +kernel, by decide +kernel⟩
theorem sc_l_mixed : FnScope ["_law_cell", "_law_k", "_law_number"] ["_law_cell", "_law_k"] (defScope s_l_mixed) := ⟨rfl, rfl, rfl, by decide +kernel, rfl, by decide +kernel, by decide +kernel⟩
theorem sc_l_items : FnScope ["_law_boughs_here", "_law_depth", "_law_items_here", "_law_at_here", "_law_upto", "_law_way"] ["_law_boughs_here", "_law_depth"] (defScope s_l_items) := ⟨rfl, rfl, rfl, by decide +kernel, rfl, by decide +kernel, by decide +kernel⟩
theorem sc_l_pair : FnScope ["_law_split", "_law_left", "_law_loops", "_law_q", "_law_far", "_law_shift"] ["_law_split", "_law_left", "_law_loops", "_law_q", "_law_far"] (defScope s_l_pair) := ⟨rfl, rfl, rfl, by decide +kernel, rfl, by decide +kernel, by decide +kernel⟩
theorem sc_l_bough : FnScope ["_law_k", "_law_loops", "_law_prior", "_law_cell", "_law_far", "_law_left", "_law_wish", "_law_ways", "_law_places", "_law_way", "_law_share", "_law_q", "_law_split"] ["_law_k", "_law_loops", "_law_prior", "_law_cell", "_law_far"] (defScope s_l_bough) := ⟨rfl, rfl, rfl, by decide +kernel, rfl, by decide +kernel, by decide +kernel⟩
theorem sc_l_boughs : FnScope ["_law_depths", "_law_script", "_law_first", "_law_far", "_law_left", "_law_boughs_here", "_law_prior", "_law_cell", "_law_k"] ["_law_depths", "_law_script", "_law_first", "_law_far"] (defScope s_l_boughs) := ⟨rfl, rfl, rfl, by decide +kernel, rfl, by decide +kernel, by decide +kernel⟩
theorem sc_l_at : FnScope ["_law_boughs_here", "_law_k"] ["_law_boughs_here", "_law_k"] (defScope s_l_at) := ⟨rfl, rfl, rfl, by decide +kernel, rfl, by decide +kernel, by decide +kernel⟩
theorem sc_l_shared : FnScope ["_law_boughs_here", "_law_p", "_law_q"] ["_law_boughs_here", "_law_p", "_law_q"] (defScope s_l_shared) := ⟨rfl, rfl, rfl, by decide +kernel, rfl, by decide +kernel, by decide +kernel⟩
theorem sc_l_sides : FnScope ["_law_boughs_here", "_law_k", "_law_l", "_law_p", "_law_q", "_law_many", "_law_due", "_law_e", "_law_way"] ["_law_boughs_here", "_law_k", "_law_l"] (defScope s_l_sides) := ⟨rfl, rfl, rfl, by decide +kernel, rfl, by decide +kernel, by decide +kernel⟩
theorem sc_l_deed : FnScope ["_law_k", "_law_depth", "_law_names", "_law_bounds"] ["_law_k", "_law_depth"] (defScope s_l_deed) := ⟨rfl, rfl, rfl, by decide +kernel, rfl, by decide +kernel, by decide +kernel⟩
theorem sc_l_time_bonds : FnScope ["_law_u", "_law_r", "_law_w", "_law_m", "_law_side"] ["_law_u", "_law_r", "_law_w", "_law_m", "_law_side"] (defScope s_l_time_bonds) := ⟨rfl, rfl, rfl, by decide +kernel, rfl, by decide +kernel, by decide +kernel⟩
theorem sc_l_side_bonds : FnScope ["_law_boughs_here", "_law_behind", "_law_k", "_law_l", "_law_level", "_law_side", "_law_mine", "_law_theirs", "_law_due", "_law_e", "_law_kind", "_law_one", "_law_other"] ["_law_boughs_here", "_law_behind", "_law_k", "_law_l", "_law_level", "_law_side"] (defScope s_l_side_bonds) := ⟨rfl, rfl, rfl, by decide +kernel, rfl, by decide +kernel, by decide +kernel⟩
theorem sc_l_whole : FnScope ["_law_found"] ["_law_found"] (defScope s_l_whole) := ⟨rfl, rfl, rfl, by decide +kernel, rfl, by decide +kernel, by decide +kernel⟩
theorem sc_l_alike : FnScope ["_law_found", "_law_due", "_law_bond"] ["_law_found", "_law_due"] (defScope s_l_alike) := ⟨rfl, rfl, rfl, by decide +kernel, rfl, by decide +kernel, by decide +kernel⟩
theorem sc_l_turns : FnScope ["_law_script", "_law_mine", "_law_theirs", "_law_depths", "_law_ones", "_law_others", "_law_e", "_law_near", "_law_pair_here", "_law_beside"] ["_law_script", "_law_mine", "_law_theirs", "_law_depths"] (defScope s_l_turns) := ⟨rfl, rfl, rfl, by decide +kernel, rfl, by decide +kernel, by decide +kernel⟩
theorem sc_l_hold : FnScope ["_law_bonds", "_law_values", "_law_bond"] ["_law_bonds", "_law_values"] (defScope s_l_hold) := ⟨rfl, rfl, rfl, by decide +kernel, rfl, by decide +kernel, by decide +kernel⟩
theorem sc_l_meant : FnScope ["_law_mine", "_law_theirs", "_law_behind", "_law_values", "_law_level", "_law_side", "_law_e", "_law_time", "_law_beside"] ["_law_mine", "_law_theirs", "_law_behind", "_law_values", "_law_level", "_law_side"] (defScope s_l_meant) := ⟨rfl, rfl, rfl, by decide +kernel, rfl, by decide +kernel, by decide +kernel⟩
theorem sc_l_pair_stands : FnScope ["_law_script", "_law_program", "_law_boughs_here", "_law_depths", "_law_k", "_law_l", "_law_plan", "_law_mine", "_law_theirs", "_law_values", "_law_behind", "_law_pair_here", "_law_found", "_law_due", "_law_meant_here"] ["_law_script", "_law_program", "_law_boughs_here", "_law_depths", "_law_k", "_law_l"] (defScope s_l_pair_stands) := ⟨rfl, rfl, rfl, by decide +kernel, rfl, by decide +kernel, by decide +kernel⟩
theorem sc_law : FnScope ["_law_script", "_law_depths", "_law_far", "_law_boughs_here", "_law_program", "_law_k", "_law_l"] ["_law_script"] (defScope s_law) := ⟨rfl, rfl, rfl, by decide +kernel, rfl, by decide +kernel, by decide +kernel⟩
theorem c_l_at_0 : compB (mkSc [(".0", .local), ("_law_bough_here", .local)]) (defScope s_l_at) ["_law_boughs_here", "_law_k"] ["_law_bough_here"] [none] = true := by decide +kernel
theorem c_l_at_0n : (["_law_bough_here"] : List Str).Nodup := by decide +kernel
theorem c_l_shared_0 : compB (mkSc [(".0", .local), ("_law_bough_here", .local)]) (defScope s_l_shared) ["_law_boughs_here", "_law_p", "_law_q"] ["_law_bough_here"] [none] = true := by decide +kernel
theorem c_l_shared_0n : (["_law_bough_here"] : List Str).Nodup := by decide +kernel
theorem c_l_turns_0 : compB (mkSc [(".0", .local), ("_law_e", .local), ("_law_cell_at", .globalImplicit), ("_law_script", .free)]) (defScope s_l_turns) ["_law_script", "_law_mine", "_law_theirs", "_law_depths", "_law_ones", "_law_others", "_law_e", "_law_near", "_law_pair_here", "_law_beside"] ["_law_e", "_law_script"] [none, some 0] = true := by decide +kernel
theorem c_l_turns_0n : (["_law_e", "_law_script"] : List Str).Nodup := by decide +kernel
theorem c_l_turns_1 : compB (mkSc [(".0", .local), ("_law_e", .local), ("_law_cell_at", .globalImplicit), ("_law_script", .free)]) (defScope s_l_turns) ["_law_script", "_law_mine", "_law_theirs", "_law_depths", "_law_ones", "_law_others", "_law_e", "_law_near", "_law_pair_here", "_law_beside"] ["_law_e", "_law_script"] [none, some 0] = true := by decide +kernel
theorem c_l_turns_1n : (["_law_e", "_law_script"] : List Str).Nodup := by decide +kernel
theorem c_law_0 : compB (mkSc [(".0", .local), ("_law_k", .local), ("_law_mixed", .globalImplicit), ("_law_cell_at", .globalImplicit), ("_law_script", .free)]) (defScope s_law) ["_law_script", "_law_depths", "_law_far", "_law_boughs_here", "_law_program", "_law_k", "_law_l"] ["_law_k", "_law_script"] [none, some 0] = true := by decide +kernel
theorem c_law_0n : (["_law_k", "_law_script"] : List Str).Nodup := by decide +kernel
theorem c_law_1 : compB (mkSc [(".0", .local), ("_law_k", .local), ("_law_deed", .globalImplicit), ("_law_depths", .free)]) (defScope s_law) ["_law_script", "_law_depths", "_law_far", "_law_boughs_here", "_law_program", "_law_k", "_law_l"] ["_law_k", "_law_depths"] [none, some 1] = true := by decide +kernel
theorem c_law_1n : (["_law_k", "_law_depths"] : List Str).Nodup := by decide +kernel
set_option genInjectivity false in
set_option genSizeOf false in
structure Ad where
  f_deeds_within : Addr
  d_deeds_within : FuncData
  f_stand : Addr
  d_stand : FuncData
  f_round_both : Addr
  d_round_both : FuncData
  f_alike_numbers : Addr
  d_alike_numbers : FuncData
  f_side_bonds : Addr
  d_side_bonds : FuncData
  f_Number_init : Addr
  d_Number_init : FuncData
  f_Deed_init : Addr
  d_Deed_init : FuncData
  f_Program_init : Addr
  d_Program_init : FuncData
  f_l_cell_at : Addr
  d_l_cell_at : FuncData
  f_l_mixed : Addr
  d_l_mixed : FuncData
  f_l_items : Addr
  d_l_items : FuncData
  f_l_pair : Addr
  d_l_pair : FuncData
  f_l_bough : Addr
  d_l_bough : FuncData
  f_l_boughs : Addr
  d_l_boughs : FuncData
  f_l_at : Addr
  d_l_at : FuncData
  f_l_shared : Addr
  d_l_shared : FuncData
  f_l_sides : Addr
  d_l_sides : FuncData
  f_l_deed : Addr
  d_l_deed : FuncData
  f_l_time_bonds : Addr
  d_l_time_bonds : FuncData
  f_l_side_bonds : Addr
  d_l_side_bonds : FuncData
  f_l_whole : Addr
  d_l_whole : FuncData
  f_l_alike : Addr
  d_l_alike : FuncData
  f_l_turns : Addr
  d_l_turns : FuncData
  f_l_hold : Addr
  d_l_hold : FuncData
  f_l_meant : Addr
  d_l_meant : FuncData
  f_l_pair_stands : Addr
  d_l_pair_stands : FuncData
  f_law : Addr
  d_law : FuncData
  c_Number : Addr
  c_Deed : Addr
  c_Program : Addr
structure Tx (K : PySem.W.Frag) (mg : Str → Option Value) (a : Ad) : Prop where
  F_deeds_within : Fun K "deeds_within" "deeds_within" s_deeds_within a.f_deeds_within a.d_deeds_within
  b_deeds_within : Binds K a.d_deeds_within ["items", "path", "cuts"] []
  m_deeds_within : mg "deeds_within" = some (.ref a.f_deeds_within)
  F_stand : Fun K "stand" "stand" s_stand a.f_stand a.d_stand
  b_stand : Binds K a.d_stand ["plan", "k"] []
  m_stand : mg "stand" = some (.ref a.f_stand)
  F_round_both : Fun K "round_both" "round_both" s_round_both a.f_round_both a.d_round_both
  b_round_both : Binds K a.d_round_both ["plan", "k", "l"] []
  m_round_both : mg "round_both" = some (.ref a.f_round_both)
  F_alike_numbers : Fun K "alike_numbers" "alike_numbers" s_alike_numbers a.f_alike_numbers a.d_alike_numbers
  b_alike_numbers : Binds K a.d_alike_numbers ["path", "other", "most"] []
  m_alike_numbers : mg "alike_numbers" = some (.ref a.f_alike_numbers)
  F_side_bonds : Fun K "side_bonds" "side_bonds" s_side_bonds a.f_side_bonds a.d_side_bonds
  b_side_bonds : Binds K a.d_side_bonds ["program", "plan", "k", "l", "level", "side"] []
  m_side_bonds : mg "side_bonds" = some (.ref a.f_side_bonds)
  F_Number_init : Fun K "__init__" "Number.__init__" s_Number_init a.f_Number_init a.d_Number_init
  b_Number_init : Binds K a.d_Number_init ["self", "n"] []
  F_Deed_init : Fun K "__init__" "Deed.__init__" s_Deed_init a.f_Deed_init a.d_Deed_init
  b_Deed_init : Binds K a.d_Deed_init ["self", "names", "lows", "highs", "table", "spots", "term", "path"] []
  F_Program_init : Fun K "__init__" "Program.__init__" s_Program_init a.f_Program_init a.d_Program_init
  b_Program_init : Binds K a.d_Program_init ["self", "size", "deeds"] []
  F_l_cell_at : Fun K "_law_cell_at" "_law_cell_at" s_l_cell_at a.f_l_cell_at a.d_l_cell_at
  b_l_cell_at : Binds K a.d_l_cell_at ["_law_script", "_law_k"] []
  m_l_cell_at : mg "_law_cell_at" = some (.ref a.f_l_cell_at)
  F_l_mixed : Fun K "_law_mixed" "_law_mixed" s_l_mixed a.f_l_mixed a.d_l_mixed
  b_l_mixed : Binds K a.d_l_mixed ["_law_cell", "_law_k"] []
  m_l_mixed : mg "_law_mixed" = some (.ref a.f_l_mixed)
  F_l_items : Fun K "_law_items" "_law_items" s_l_items a.f_l_items a.d_l_items
  b_l_items : Binds K a.d_l_items ["_law_boughs_here", "_law_depth"] []
  m_l_items : mg "_law_items" = some (.ref a.f_l_items)
  F_l_pair : Fun K "_law_pair" "_law_pair" s_l_pair a.f_l_pair a.d_l_pair
  b_l_pair : Binds K a.d_l_pair ["_law_split", "_law_left", "_law_loops", "_law_q", "_law_far"] []
  m_l_pair : mg "_law_pair" = some (.ref a.f_l_pair)
  F_l_bough : Fun K "_law_bough" "_law_bough" s_l_bough a.f_l_bough a.d_l_bough
  b_l_bough : Binds K a.d_l_bough ["_law_k", "_law_loops", "_law_prior", "_law_cell", "_law_far"] []
  m_l_bough : mg "_law_bough" = some (.ref a.f_l_bough)
  F_l_boughs : Fun K "_law_boughs" "_law_boughs" s_l_boughs a.f_l_boughs a.d_l_boughs
  b_l_boughs : Binds K a.d_l_boughs ["_law_depths", "_law_script", "_law_first", "_law_far"] []
  m_l_boughs : mg "_law_boughs" = some (.ref a.f_l_boughs)
  F_l_at : Fun K "_law_at" "_law_at" s_l_at a.f_l_at a.d_l_at
  b_l_at : Binds K a.d_l_at ["_law_boughs_here", "_law_k"] []
  m_l_at : mg "_law_at" = some (.ref a.f_l_at)
  F_l_shared : Fun K "_law_shared" "_law_shared" s_l_shared a.f_l_shared a.d_l_shared
  b_l_shared : Binds K a.d_l_shared ["_law_boughs_here", "_law_p", "_law_q"] []
  m_l_shared : mg "_law_shared" = some (.ref a.f_l_shared)
  F_l_sides : Fun K "_law_sides" "_law_sides" s_l_sides a.f_l_sides a.d_l_sides
  b_l_sides : Binds K a.d_l_sides ["_law_boughs_here", "_law_k", "_law_l"] []
  m_l_sides : mg "_law_sides" = some (.ref a.f_l_sides)
  F_l_deed : Fun K "_law_deed" "_law_deed" s_l_deed a.f_l_deed a.d_l_deed
  b_l_deed : Binds K a.d_l_deed ["_law_k", "_law_depth"] []
  m_l_deed : mg "_law_deed" = some (.ref a.f_l_deed)
  F_l_time_bonds : Fun K "_law_time_bonds" "_law_time_bonds" s_l_time_bonds a.f_l_time_bonds a.d_l_time_bonds
  b_l_time_bonds : Binds K a.d_l_time_bonds ["_law_u", "_law_r", "_law_w", "_law_m", "_law_side"] []
  m_l_time_bonds : mg "_law_time_bonds" = some (.ref a.f_l_time_bonds)
  F_l_side_bonds : Fun K "_law_side_bonds" "_law_side_bonds" s_l_side_bonds a.f_l_side_bonds a.d_l_side_bonds
  b_l_side_bonds : Binds K a.d_l_side_bonds ["_law_boughs_here", "_law_behind", "_law_k", "_law_l", "_law_level", "_law_side"] []
  m_l_side_bonds : mg "_law_side_bonds" = some (.ref a.f_l_side_bonds)
  F_l_whole : Fun K "_law_whole" "_law_whole" s_l_whole a.f_l_whole a.d_l_whole
  b_l_whole : Binds K a.d_l_whole ["_law_found"] []
  m_l_whole : mg "_law_whole" = some (.ref a.f_l_whole)
  F_l_alike : Fun K "_law_alike" "_law_alike" s_l_alike a.f_l_alike a.d_l_alike
  b_l_alike : Binds K a.d_l_alike ["_law_found", "_law_due"] []
  m_l_alike : mg "_law_alike" = some (.ref a.f_l_alike)
  F_l_turns : Fun K "_law_turns" "_law_turns" s_l_turns a.f_l_turns a.d_l_turns
  b_l_turns : Binds K a.d_l_turns ["_law_script", "_law_mine", "_law_theirs", "_law_depths"] []
  m_l_turns : mg "_law_turns" = some (.ref a.f_l_turns)
  F_l_hold : Fun K "_law_hold" "_law_hold" s_l_hold a.f_l_hold a.d_l_hold
  b_l_hold : Binds K a.d_l_hold ["_law_bonds", "_law_values"] []
  m_l_hold : mg "_law_hold" = some (.ref a.f_l_hold)
  F_l_meant : Fun K "_law_meant" "_law_meant" s_l_meant a.f_l_meant a.d_l_meant
  b_l_meant : Binds K a.d_l_meant ["_law_mine", "_law_theirs", "_law_behind", "_law_values", "_law_level", "_law_side"] []
  m_l_meant : mg "_law_meant" = some (.ref a.f_l_meant)
  F_l_pair_stands : Fun K "_law_pair_stands" "_law_pair_stands" s_l_pair_stands a.f_l_pair_stands a.d_l_pair_stands
  b_l_pair_stands : Binds K a.d_l_pair_stands ["_law_script", "_law_program", "_law_boughs_here", "_law_depths", "_law_k", "_law_l"] []
  m_l_pair_stands : mg "_law_pair_stands" = some (.ref a.f_l_pair_stands)
  F_law : Fun K "law" "law" s_law a.f_law a.d_law
  b_law : Binds K a.d_law ["_law_script"] []
  m_law : mg "law" = some (.ref a.f_law)
  cl_Number : Cls K a.c_Number
  mc_Number : mg "Number" = some (.ref a.c_Number)
  mk_Number : Mk K a.c_Number a.f_Number_init
  n_Number_n : NoAttr K a.c_Number "n"
  cl_Deed : Cls K a.c_Deed
  mc_Deed : mg "Deed" = some (.ref a.c_Deed)
  mk_Deed : Mk K a.c_Deed a.f_Deed_init
  n_Deed_names : NoAttr K a.c_Deed "names"
  n_Deed_lows : NoAttr K a.c_Deed "lows"
  n_Deed_highs : NoAttr K a.c_Deed "highs"
  n_Deed_table : NoAttr K a.c_Deed "table"
  n_Deed_spots : NoAttr K a.c_Deed "spots"
  n_Deed_term : NoAttr K a.c_Deed "term"
  n_Deed_path : NoAttr K a.c_Deed "path"
  cl_Program : Cls K a.c_Program
  mc_Program : mg "Program" = some (.ref a.c_Program)
  mk_Program : Mk K a.c_Program a.f_Program_init
  n_Program_size : NoAttr K a.c_Program "size"
  n_Program_deeds : NoAttr K a.c_Program "deeds"
  z_bool : mg "bool" = none
  z_enumerate : mg "enumerate" = none
  z_int : mg "int" = none
  z_isinstance : mg "isinstance" = none
  z_len : mg "len" = none
  z_list : mg "list" = none
  z_max : mg "max" = none
  z_min : mg "min" = none
  z_range : mg "range" = none
  z_tuple : mg "tuple" = none
section
variable {P : Program} {w : World} {K : PySem.W.Frag} {mg : Str → Option Value} {base : Heap} {a : Ad}
theorem ok_cell_at (T : Tx K mg a) : FnOk P w K mg base CX0 1 a.f_l_cell_at a.d_l_cell_at ["_law_script", "_law_k"] (spCell K) := by
  refine T.F_l_cell_at.ok sc_l_cell_at (fun vs H Q E h => ?_) (fun cdv A outer s H vs Q E hr h => ?_)
  · obtain ⟨_, _, _, rfl, _⟩ := h; rfl
  obtain ⟨p, ns, k, rfl, hS, h0, q⟩ := h
  refine ⟨_, (@pss_cons _ _ _ _ _ (@ps_if _ _ _ _ _ _ _ _ (@pt_cmpR _ _ _ _ _ _ _ _ op_lt (pv 1) (@pe_callB _ _ _ _ _ _ _ _ _ call_len_seq (by rfl) T.z_len bt_len (@pa_cons _ _ _ _ _ (pv 0) pa_nil (by rfl)) (by decide) (by decide) (by rfl) (by rfl)) (@nomark _ _ (by decide) (by decide))) (@pss_one _ _ _ (@ps_ret _ _ _ _ (@pe_ix _ _ _ _ _ _ _ ix_list (pv 0) (pv 1) (fun _ _ => rfl)))) pss_nil) (@pss_one _ _ _ (@ps_ret _ _ _ _ pe_int))), ?_⟩
  try dsimp only [cxK, noxK]
  have hl : (ns.map V.int).length = ns.length := List.length_map _
  refine ⟨_, rfl, _, rfl, p, _, rfl, .inl hS, _, _, rfl, rfl, _, rfl, ?_⟩
  refine ite2 (fun c => ?_) (fun c => ?_)
  · have c' := dT c
    rw [hl] at c'
    exact ⟨_, rfl, _, rfl, p, _, _, _, rfl, rfl, hS, cell_in h0 c', q⟩
  · have c' := dF c
    rw [hl] at c'
    rw [cell_out c'] at q
    exact q

theorem ok_mixed (T : Tx K mg a) : FnOk P w K mg base CX0 1 a.f_l_mixed a.d_l_mixed ["_law_cell", "_law_k"] spMixW := by
  refine T.F_l_mixed.ok sc_l_mixed (fun vs H Q E h => ?_) (fun cdv A outer s H vs Q E hr h => ?_)
  · obtain ⟨_, _, rfl, _⟩ := h; rfl
  obtain ⟨c, k, rfl, q⟩ := h
  refine ⟨_, (@pss_cons _ _ _ _ _ (@ps_set _ _ (2) _ _ _ _ sc_l_mixed.nd rfl (Or.inl rfl) (@pe_op _ _ _ _ _ _ _ _ op_mod (@pe_op _ _ _ _ _ _ _ _ op_add (@pe_op _ _ _ _ _ _ _ _ op_add (@pe_op _ _ _ _ _ _ _ _ op_mul (@pe_op _ _ _ _ _ _ _ _ op_mod (pv 0) pe_int) (@pe_op _ _ _ _ _ _ _ _ op_add pe_int (@pe_op _ _ _ _ _ _ _ _ op_mul pe_int (pv 1)))) (@pe_op _ _ _ _ _ _ _ _ op_mul pe_int (pv 1))) pe_int) pe_int) (by rfl) (by first | exact .inl rfl | exact .inr rfl | assumption)) (@pss_one _ _ _ (@ps_ret _ _ _ _ (@pe_op _ _ _ _ _ _ _ _ op_mod (@pe_op _ _ _ _ _ _ _ _ op_mul (pv 2) (pv 2)) pe_int)))), ?_⟩
  try dsimp only [cxK, noxK]
  have p64 : (2 : Int) ^ 64 = 18446744073709551616 := by decide
  have a0 := Int.emod_nonneg c (show (2147483647 : Int) ≠ 0 by decide)
  have a1 := Int.emod_lt_of_pos c (show (0 : Int) < 2147483647 by decide)
  refine ⟨_, rfl, _, _, rfl, rfl, (by show (0 : Int) < 2147483647; decide), _, rfl, _, _, rfl, rfl, .inl ⟨by decide, by decide⟩, _, _, rfl, rfl, _, _, rfl, rfl, .inl ⟨by omega, by omega⟩, _, rfl, _, _, rfl, rfl, .inl ⟨by decide, by decide⟩, _, _, rfl, rfl, _, _, rfl, rfl, _, _, rfl, rfl, (by show (0 : Int) < 2147483629; decide), ?_⟩
  have b0 := Int.emod_nonneg (c % 2147483647 * (48271 + 2 * k) + 7919 * k + 1) (show (2147483629 : Int) ≠ 0 by decide)
  have b1 := Int.emod_lt_of_pos (c % 2147483647 * (48271 + 2 * k) + 7919 * k + 1) (show (0 : Int) < 2147483629 by decide)
  exact ⟨_, rfl, _, rfl, _, _, rfl, rfl, .inl ⟨by omega, by omega⟩, _, _, rfl, rfl, (by show (0 : Int) < 2147483587; decide), q _ (Int.emod_nonneg _ (by decide))⟩

theorem ok_pair (T : Tx K mg a) : FnOk P w K mg base CX0 1 a.f_l_pair a.d_l_pair ["_law_split", "_law_left", "_law_loops", "_law_q", "_law_far"] spPair := by
  refine T.F_l_pair.ok sc_l_pair (fun vs H Q E h => ?_) (fun cdv A outer s H vs Q E hr h => ?_)
  · obtain ⟨_, _, _, _, _, _, rfl, _⟩ := h; rfl
  obtain ⟨sp, l, L, n, qq, far, rfl, hl, hL, n0, n3, q0, f0, f1, hne, q⟩ := h
  refine ⟨_, (@pss_cons _ _ _ _ _ (@ps_set _ _ (5) _ _ _ _ sc_l_pair.nd rfl (Or.inl rfl) (@pe_ix _ _ _ _ _ _ _ ix_tup (@pe_tupq _ _ _ _ _ (@paq_cons _ _ _ _ _ pe_int (@paq_cons _ _ _ _ _ pe_int (@paq_cons _ _ _ _ _ (@pe_un _ _ _ _ _ _ un_neg pe_int) (@paq_cons _ _ _ _ _ pe_int (@paq_cons _ _ _ _ _ pe_int (@paq_cons _ _ _ _ _ pe_int (@paq_cons _ _ _ _ _ (@pe_un _ _ _ _ _ _ un_neg pe_int) (@paq_cons _ _ _ _ _ pe_int paq_nil star_C) star_U) star_C) star_C) star_C) star_U) star_C) star_C)) (@pe_op _ _ _ _ _ _ _ _ op_mod (pv 3) pe_int) (fun _ _ => rfl)) (by rfl) (by first | exact .inl rfl | exact .inr rfl | assumption)) (@pss_cons _ _ _ _ _ (@ps_if _ _ _ _ _ _ _ _ (@pt_cmpR _ _ _ _ _ _ _ _ op_eq (@pe_op _ _ _ _ _ _ _ _ op_mod (@pe_op _ _ _ _ _ _ _ _ op_fdiv (pv 3) pe_int) pe_int) pe_int (@nomark _ _ (by decide) (by decide))) (@pss_one _ _ _ (@ps_set _ _ (5) _ _ _ _ sc_l_pair.nd rfl (Or.inl rfl) (@pe_op _ _ _ _ _ _ _ _ op_add (pv 5) (pv 4)) (by rfl) (by first | exact .inl rfl | exact .inr rfl | assumption))) pss_nil) (@pss_cons _ _ _ _ _ (@ps_if _ _ _ _ _ _ _ _ (@pt_val _ _ _ (pv 0) (by intro _ ; rfl)) (@pss_one _ _ _ (@ps_ret _ _ _ _ (@pe_tup _ _ _ _ _ (@pa_cons _ _ _ _ _ (@pe_op _ _ _ _ _ _ _ _ op_mod (@pe_op _ _ _ _ _ _ _ _ op_fdiv (pv 3) pe_int) (pv 2)) (@pa_cons _ _ _ _ _ (pv 5) pa_nil (by rfl)) (by rfl))))) pss_nil) (@pss_one _ _ _ (@ps_ret _ _ _ _ (@pe_tup _ _ _ _ _ (@pa_cons _ _ _ _ _ (@pe_bm _ _ _ _ _ _ _ _ _ _ _ _ PySem.F.plainAttrs_list PySem.F.slot_list_pop PySem.F.type_list_pop mt_popAt (pv 1) (@pa_cons _ _ _ _ _ pe_int pa_nil (by rfl)) (by rfl) (by rfl) (by rfl) (by rfl) (by rfl)) (@pa_cons _ _ _ _ _ (pv 5) pa_nil (by rfl)) (by rfl)))))))), ?_⟩
  try dsimp only [cxK, noxK]
  have hfar : farB = 100000000000000000 := rfl
  obtain ⟨sh, hsh, esh⟩ := pickN (L := [0, 1, -1, 0, 2, 0, -3, 0]) (i := qq % 8) 8 rfl (Int.emod_nonneg _ (by decide)) (Int.emod_lt_of_pos _ (by decide))
  have hsh : -3 ≤ sh ∧ sh ≤ 2 := by
    simp only [List.mem_cons, List.not_mem_nil, or_false] at hsh
    omega
  refine ⟨_, rfl, _, rfl, szl (by show 8 ≤ 1000000; decide), fun t0 ht0 => ⟨_, rfl, _, _, rfl, rfl, (by show (0 : Int) < 8; decide), t0, _, _, _, rfl, rfl, SqT.of upd_same, esh, ?_⟩⟩
  have s0 := same_new ht0 (.tup [V.int 0, V.int 1, V.int (-1), V.int 0, V.int 2, V.int 0, V.int (-3), V.int 0])
  dsimp only [gName]
  generalize upd H t0 (.tup [V.int 0, V.int 1, V.int (-1), V.int 0, V.int 2, V.int 0, V.int (-3), V.int 0]) = H0 at s0
  have hl0 := s0 _ _ hl
  refine seq_any (fun σ' H' => H' = H0 ∧ ∃ s : Int, -200000000000000000 ≤ s ∧ s ≤ 200000000000000000 ∧ σ' = [some (.bl sp), some (.ref l), some (.int n), some (.int qq), some (.int far), some (.int s)]) (fun σ' H' pp => ?_) (fun nx => ?_)
  · obtain ⟨rfl, s, b0, b1, rfl⟩ := pp
    refine ⟨_, rfl, _, rfl, ?_⟩
    cases sp with
    | true =>
      refine iteT ⟨_, rfl, _, _, rfl, rfl, ⟨by decide, by decide⟩, _, rfl, _, _, rfl, rfl, n0, _, rfl, szl (by show 2 ≤ 1000000; decide), fun r hr => ?_⟩
      have s1 := same_new hr (.tup [V.int (qq / 64 % n), V.int s])
      exact q r _ (qq / 64 % n, s) (fun b o _ hb => s1 _ _ (s0 _ _ hb)) (s0.free hr) (s1 _ _ hl0) upd_same ⟨Int.emod_nonneg _ (by omega), Int.emod_lt_of_pos _ n0, b0, b1⟩
    | false =>
      refine iteF ?_
      cases L with
      | nil => exact absurd rfl (hne rfl)
      | cons x L =>
        refine ⟨_, rfl, .inl ⟨rfl, _, SqL.of hl0⟩, l, _, 0, 0, .int x, rfl, rfl, hl0, by decide, by decide, (by rw [List.map_cons, List.length_cons]; unfold seqIndex?; simp), rfl, _, rfl, szl (by show 2 ≤ 1000000; decide), fun r hr => ?_⟩
        have hrl : r ≠ l := fun z => by rw [z, upd_same] at hr; cases hr
        have hr0 : H' r = none := by rw [upd_ne hrl] at hr; exact hr
        refine q r _ (x, s) (fun b o hb hbo => ?_) (s0.free hr0) ?_ upd_same ⟨(hL x List.mem_cons_self).1, (hL x List.mem_cons_self).2, b0, b1⟩
        · have : b ≠ r := fun z => by rw [z] at hbo; rw [s0 _ _ hbo] at hr0; cases hr0
          rw [upd_ne this, upd_ne hb]
          exact s0 _ _ hbo
        · rw [upd_ne (fun z => hrl z.symm), upd_same]
          rfl
  · refine ⟨_, rfl, _, _, rfl, rfl, ⟨by decide, by decide⟩, _, _, rfl, rfl, (by show (0 : Int) < 8; decide), rfl, _, rfl, ?_⟩
    refine ite2 (fun c => ?_) (fun c => ?_)
    · exact ⟨_, rfl, _, rfl, _, _, rfl, rfl, nx _ _ ⟨rfl, sh + far, by omega, by omega, rfl⟩⟩
    · exact nx _ _ ⟨rfl, sh, by omega, by omega, rfl⟩

theorem ok_bough (T : Tx K mg a) : FnOk P w K mg base CX0 2 a.f_l_bough a.d_l_bough ["_law_k", "_law_loops", "_law_prior", "_law_cell", "_law_far"] spBough := by
  have G_l_mixed := ok_mixed (P := P) (w := w) (base := base) T
  have G_l_pair := ok_pair (P := P) (w := w) (base := base) T
  refine T.F_l_bough.ok sc_l_bough (fun vs H Q E h => ?_) (fun cdv A outer s H vs Q E hr h => ?_)
  · obtain ⟨_, _, _, _, _, _, rfl, _⟩ := h; rfl
  obtain ⟨k, n, cell, far, pr, ws0, rfl, hk0, hk5, n0, n3, ⟨xs0, hpr, hxs0⟩, wl0, wy0, far0, far1, q⟩ := h
  refine ⟨_, (@pss_cons _ _ _ _ _ (@ps_set _ _ (5) _ _ _ _ sc_l_bough.nd rfl (Or.inl rfl) (@pe_lrange _ _ _ _ _ _ _ rfl (by rfl) T.z_list (by rfl) T.z_range (@pa_cons _ _ _ _ _ (pv 1) pa_nil (by rfl)) (by rfl)) (by rfl) (by first | exact .inl rfl | exact .inr rfl | assumption)) (@pss_cons _ _ _ _ _ (@ps_if _ _ _ _ _ _ _ _ (@pt_cmpR _ _ _ _ _ _ _ _ op_eq (@pe_op _ _ _ _ _ _ _ _ op_mod (@pe_call _ _ _ _ _ _ _ _ _ _ _ _ _ _ _ _ G_l_mixed (hr.mono (by omega)) (by rfl) T.m_l_mixed T.F_l_mixed.kp T.b_l_mixed .nil pass0 (@pa_cons _ _ _ _ _ (pv 3) (@pa_cons _ _ _ _ _ pe_int pa_nil (by rfl)) (by rfl)) (by decide) (by rfl) (by rfl)) pe_int) pe_int (@nomark _ _ (by decide) (by decide))) (@pss_one _ _ _ (@ps_expr _ _ _ _ (@pe_bm0 _ _ _ _ _ _ _ _ _ PySem.F.plainAttrs_list PySem.F.slot_list_reverse PySem.F.type_list_reverse mt_reverse (pv 5) (by rfl) (by rfl)) (by rfl))) pss_nil) (@pss_cons _ _ _ _ _ (@ps_set _ _ (6) _ _ _ _ sc_l_bough.nd rfl (Or.inl rfl) (@pe_op _ _ _ _ _ _ _ _ op_mod (@pe_call _ _ _ _ _ _ _ _ _ _ _ _ _ _ _ _ G_l_mixed (hr.mono (by omega)) (by rfl) T.m_l_mixed T.F_l_mixed.kp T.b_l_mixed .nil pass0 (@pa_cons _ _ _ _ _ (pv 3) (@pa_cons _ _ _ _ _ pe_int pa_nil (by rfl)) (by rfl)) (by decide) (by rfl) (by rfl)) pe_int) (by rfl) (by first | exact .inl rfl | exact .inr rfl | assumption)) (@pss_cons _ _ _ _ _ (@ps_set _ _ (7) _ _ _ _ sc_l_bough.nd rfl (Or.inl rfl) (@pe_lst _ _ _ _ pa_nil) (by rfl) (by first | exact .inl rfl | exact .inr rfl | assumption)) (@pss_cons _ _ _ _ _ (@ps_set _ _ (8) _ _ _ _ sc_l_bough.nd rfl (Or.inl rfl) (@pe_lst _ _ _ _ pa_nil) (by rfl) (by first | exact .inl rfl | exact .inr rfl | assumption)) (@pss_cons _ _ _ _ _ (@ps_for _ _ _ _ _ _ _ _ PassesOwn.never rfl (@pi_list _ _ _ _ (pv 2)) (pg_name (i := 9) sc_l_bough.nd rfl (Or.inl rfl)) (@pss_cons _ _ _ _ _ (@ps_if _ _ _ _ _ _ _ _ ((@pw_or _ _ _ _ _ _ _ (@pt_cmpR _ _ _ _ _ _ _ _ op_eq (@pe_callB _ _ _ _ _ _ _ _ _ call_len_seq (by rfl) T.z_len bt_len (@pa_cons _ _ _ _ _ (pv 7) pa_nil (by rfl)) (by decide) (by decide) (by rfl) (by rfl)) (pv 6) (@nomark _ _ (by decide) (by decide))) (@pw_or _ _ _ _ _ _ _ (@pt_cmpR _ _ _ _ _ _ _ _ op_eq (pv 1) pe_int (@nomark _ _ (by decide) (by decide))) (@pw_or1 _ _ _ _ ((@pw_and _ _ _ _ _ _ _ (@pt_cmpR _ _ _ _ _ _ _ _ (@op_eqS _ (@hu64 _ _ hr)) (pv 5) (@pe_lst _ _ _ _ pa_nil) (@nomark _ _ (by decide) (by decide))) (@pw_and1 _ _ _ _ (@pt_not _ _ _ _ (@pt_val _ _ _ (@pe_ix _ _ _ _ _ _ _ ix_tup (pv 9) pe_int (fun _ _ => rfl)) (by intro _ ; rfl)))))).pt)))).pt (@pss_one _ _ _ ps_break) pss_nil) (@pss_cons _ _ _ _ _ (@ps_if _ _ _ _ _ _ _ _ ((@pw_and _ _ _ _ _ _ _ (@pt_cmpR _ _ _ _ _ _ _ _ op_eq (@pe_op _ _ _ _ _ _ _ _ op_add (@pe_callB _ _ _ _ _ _ _ _ _ call_len_seq (by rfl) T.z_len bt_len (@pa_cons _ _ _ _ _ (pv 7) pa_nil (by rfl)) (by decide) (by decide) (by rfl) (by rfl)) (@pe_callB _ _ _ _ _ _ _ _ _ call_len_seq (by rfl) T.z_len bt_len (@pa_cons _ _ _ _ _ (pv 5) pa_nil (by rfl)) (by decide) (by decide) (by rfl) (by rfl))) pe_int (@nomark _ _ (by decide) (by decide))) (@pw_and1 _ _ _ _ (@pt_val _ _ _ (@pe_ix _ _ _ _ _ _ _ ix_tup (pv 9) pe_int (fun _ _ => rfl)) (by intro _ ; rfl))))).pt (@pss_one _ _ _ ps_break) pss_nil) (@pss_cons _ _ _ _ _ (@ps_expr _ _ _ _ (@pe_bm _ _ _ _ _ _ _ _ _ _ _ _ PySem.F.plainAttrs_list PySem.F.slot_list_append PySem.F.type_list_append mt_append (pv 7) (@pa_cons _ _ _ _ _ (pv 9) pa_nil (by rfl)) (by rfl) (by rfl) (by rfl) (by rfl) (by rfl)) (by rfl)) (@pss_one _ _ _ (@ps_expr _ _ _ _ (@pe_bm _ _ _ _ _ _ _ _ _ _ _ _ PySem.F.plainAttrs_list PySem.F.slot_list_append PySem.F.type_list_append mt_append (pv 8) (@pa_cons _ _ _ _ _ (@pe_call _ _ _ _ _ _ _ _ _ _ _ _ _ _ _ _ G_l_pair (hr.mono (by omega)) (by rfl) T.m_l_pair T.F_l_pair.kp T.b_l_pair .nil pass0 (@pa_cons _ _ _ _ _ (@pe_ix _ _ _ _ _ _ _ ix_tup (pv 9) pe_int (fun _ _ => rfl)) (@pa_cons _ _ _ _ _ (pv 5) (@pa_cons _ _ _ _ _ (pv 1) (@pa_cons _ _ _ _ _ (@pe_call _ _ _ _ _ _ _ _ _ _ _ _ _ _ _ _ G_l_mixed (hr.mono (by omega)) (by rfl) T.m_l_mixed T.F_l_mixed.kp T.b_l_mixed .nil pass0 (@pa_cons _ _ _ _ _ (pv 3) (@pa_cons _ _ _ _ _ (@pe_op _ _ _ _ _ _ _ _ op_add pe_int (@pe_callB _ _ _ _ _ _ _ _ _ call_len_seq (by rfl) T.z_len bt_len (@pa_cons _ _ _ _ _ (pv 7) pa_nil (by rfl)) (by decide) (by decide) (by rfl) (by rfl))) pa_nil (by rfl)) (by rfl)) (by decide) (by rfl) (by rfl)) (@pa_cons _ _ _ _ _ (pv 4) pa_nil (by rfl)) (by rfl)) (by rfl)) (by rfl)) (by rfl)) (by decide) (by rfl) (by rfl)) pa_nil (by rfl)) (by rfl) (by rfl) (by rfl) (by rfl) (by rfl)) (by rfl)))))) (by intro _ ; rfl)) (@pss_cons _ _ _ _ _ (@ps_set _ _ (10) _ _ _ _ sc_l_bough.nd rfl (Or.inl rfl) (@pe_callB _ _ _ _ _ _ _ _ _ call_len_seq (by rfl) T.z_len bt_len (@pa_cons _ _ _ _ _ (pv 7) pa_nil (by rfl)) (by decide) (by decide) (by rfl) (by rfl)) (by rfl) (by first | exact .inl rfl | exact .inr rfl | assumption)) (@pss_cons _ _ _ _ _ (@ps_while _ _ _ _ _ _ PassesOwn.never ((@pw_or _ _ _ _ _ _ _ (@pt_cmpR _ _ _ _ _ _ _ _ (@op_neS _ (@hu64 _ _ hr)) (pv 5) (@pe_lst _ _ _ _ pa_nil) (@nomark _ _ (by decide) (by decide))) (@pw_or1 _ _ _ _ ((@pw_and _ _ _ _ _ _ _ (@pt_cmpR _ _ _ _ _ _ _ _ op_gt (pv 1) pe_int (@nomark _ _ (by decide) (by decide))) (@pw_and _ _ _ _ _ _ _ (@pt_cmpR _ _ _ _ _ _ _ _ op_lt (@pe_callB _ _ _ _ _ _ _ _ _ call_len_seq (by rfl) T.z_len bt_len (@pa_cons _ _ _ _ _ (pv 7) pa_nil (by rfl)) (by decide) (by decide) (by rfl) (by rfl)) pe_int (@nomark _ _ (by decide) (by decide))) (@pw_and1 _ _ _ _ (@pt_cmpR _ _ _ _ _ _ _ _ op_eq (@pe_op _ _ _ _ _ _ _ _ op_mod (@pe_call _ _ _ _ _ _ _ _ _ _ _ _ _ _ _ _ G_l_mixed (hr.mono (by omega)) (by rfl) T.m_l_mixed T.F_l_mixed.kp T.b_l_mixed .nil pass0 (@pa_cons _ _ _ _ _ (pv 3) (@pa_cons _ _ _ _ _ (@pe_op _ _ _ _ _ _ _ _ op_add pe_int (@pe_callB _ _ _ _ _ _ _ _ _ call_len_seq (by rfl) T.z_len bt_len (@pa_cons _ _ _ _ _ (pv 7) pa_nil (by rfl)) (by decide) (by decide) (by rfl) (by rfl))) pa_nil (by rfl)) (by rfl)) (by decide) (by rfl) (by rfl)) pe_int) pe_int (@nomark _ _ (by decide) (by decide))))))).pt))).pt (@pss_cons _ _ _ _ _ (@ps_set _ _ (11) _ _ _ _ sc_l_bough.nd rfl (Or.inl rfl) (@pe_call _ _ _ _ _ _ _ _ _ _ _ _ _ _ _ _ G_l_mixed (hr.mono (by omega)) (by rfl) T.m_l_mixed T.F_l_mixed.kp T.b_l_mixed .nil pass0 (@pa_cons _ _ _ _ _ (pv 3) (@pa_cons _ _ _ _ _ (@pe_op _ _ _ _ _ _ _ _ op_add pe_int (@pe_callB _ _ _ _ _ _ _ _ _ call_len_seq (by rfl) T.z_len bt_len (@pa_cons _ _ _ _ _ (pv 7) pa_nil (by rfl)) (by decide) (by decide) (by rfl) (by rfl))) pa_nil (by rfl)) (by rfl)) (by decide) (by rfl) (by rfl)) (by rfl) (by first | exact .inl rfl | exact .inr rfl | assumption)) (@pss_cons _ _ _ _ _ (@ps_set _ _ (12) _ _ _ _ sc_l_bough.nd rfl (Or.inl rfl) (@pe_and _ _ _ _ _ _ _ (@pe_cmpR _ _ _ _ _ _ _ _ op_lt (@pe_op _ _ _ _ _ _ _ _ op_add (@pe_callB _ _ _ _ _ _ _ _ _ call_len_seq (by rfl) T.z_len bt_len (@pa_cons _ _ _ _ _ (pv 7) pa_nil (by rfl)) (by decide) (by decide) (by rfl) (by rfl)) (@pe_callB _ _ _ _ _ _ _ _ _ call_len_seq (by rfl) T.z_len bt_len (@pa_cons _ _ _ _ _ (pv 5) pa_nil (by rfl)) (by decide) (by decide) (by rfl) (by rfl))) pe_int (@nomark _ _ (by decide) (by decide))) (@pe_one _ _ _ _ _ (@pe_or _ _ _ _ _ _ _ (@pe_cmpR _ _ _ _ _ _ _ _ (@op_eqS _ (@hu64 _ _ hr)) (pv 5) (@pe_lst _ _ _ _ pa_nil) (@nomark _ _ (by decide) (by decide))) (@pe_one _ _ _ _ _ (@pe_cmpR _ _ _ _ _ _ _ _ op_eq (@pe_op _ _ _ _ _ _ _ _ op_mod (pv 11) pe_int) pe_int (@nomark _ _ (by decide) (by decide))))))) (by rfl) (by first | exact .inl rfl | exact .inr rfl | assumption)) (@pss_cons _ _ _ _ _ (@ps_expr _ _ _ _ (@pe_bm _ _ _ _ _ _ _ _ _ _ _ _ PySem.F.plainAttrs_list PySem.F.slot_list_append PySem.F.type_list_append mt_append (pv 7) (@pa_cons _ _ _ _ _ (@pe_tup _ _ _ _ _ (@pa_cons _ _ _ _ _ (pv 12) (@pa_cons _ _ _ _ _ (@pe_ix _ _ _ _ _ _ _ ix_tup (@pe_tupq _ _ _ _ _ (@paq_cons _ _ _ _ _ pe_str (@paq_cons _ _ _ _ _ pe_str (@paq_cons _ _ _ _ _ pe_str (@paq_cons _ _ _ _ _ pe_str paq_nil star_C) star_C) star_C) star_C)) (@pe_op _ _ _ _ _ _ _ _ op_mod (@pe_op _ _ _ _ _ _ _ _ op_fdiv (pv 11) pe_int) pe_int) (fun _ _ => rfl)) pa_nil (by rfl)) (by rfl))) pa_nil (by rfl)) (by rfl) (by rfl) (by rfl) (by rfl) (by rfl)) (by rfl)) (@pss_one _ _ _ (@ps_expr _ _ _ _ (@pe_bm _ _ _ _ _ _ _ _ _ _ _ _ PySem.F.plainAttrs_list PySem.F.slot_list_append PySem.F.type_list_append mt_append (pv 8) (@pa_cons _ _ _ _ _ (@pe_call _ _ _ _ _ _ _ _ _ _ _ _ _ _ _ _ G_l_pair (hr.mono (by omega)) (by rfl) T.m_l_pair T.F_l_pair.kp T.b_l_pair .nil pass0 (@pa_cons _ _ _ _ _ (pv 12) (@pa_cons _ _ _ _ _ (pv 5) (@pa_cons _ _ _ _ _ (pv 1) (@pa_cons _ _ _ _ _ (@pe_call _ _ _ _ _ _ _ _ _ _ _ _ _ _ _ _ G_l_mixed (hr.mono (by omega)) (by rfl) T.m_l_mixed T.F_l_mixed.kp T.b_l_mixed .nil pass0 (@pa_cons _ _ _ _ _ (pv 3) (@pa_cons _ _ _ _ _ (@pe_op _ _ _ _ _ _ _ _ op_add pe_int (@pe_callB _ _ _ _ _ _ _ _ _ call_len_seq (by rfl) T.z_len bt_len (@pa_cons _ _ _ _ _ (pv 7) pa_nil (by rfl)) (by decide) (by decide) (by rfl) (by rfl))) pa_nil (by rfl)) (by rfl)) (by decide) (by rfl) (by rfl)) (@pa_cons _ _ _ _ _ (pv 4) pa_nil (by rfl)) (by rfl)) (by rfl)) (by rfl)) (by rfl)) (by decide) (by rfl) (by rfl)) pa_nil (by rfl)) (by rfl) (by rfl) (by rfl) (by rfl) (by rfl)) (by rfl))))))) (@pss_one _ _ _ (@ps_ret _ _ _ _ (@pe_tupq _ _ _ _ _ (@paq_cons _ _ _ _ _ (pv 0) (@paq_cons _ _ _ _ _ (pv 10) (@paq_cons _ _ _ _ _ (pv 7) (@paq_cons _ _ _ _ _ (pv 8) paq_nil star_N) star_N) star_N) star_N)))))))))))), ?_⟩
  try dsimp only [cxK, noxK]
  -- left
  obtain ⟨m, rfl⟩ : ∃ m : Nat, n = (m : Int) := ⟨n.toNat, (Int.toNat_of_nonneg n0).symm⟩
  refine ⟨_, rfl, m, rfl, by omega, fun le hle => ?_⟩
  have e1 := same_new hle (.lst (upto m))
  have hle1 : (upd H le (.lst (upto m))) le = some (.lst (upto m)) := upd_same
  dsimp only [gName]
  generalize upd H le (.lst (upto m)) = H1 at e1 hle1
  refine seq_any (fun σ' H' => σ' = [some (.int k), some (.int (m : Int)), some (.ref pr), some (.int cell), some (.int far), some (.ref le), none, none, none, none, none, none, none] ∧ Same H H' ∧ ∃ L : List Int, H' le = some (.lst (L.map V.int)) ∧ L.length = m ∧ ∀ x ∈ L, 0 ≤ x ∧ x < (m : Int)) (fun σ' H2 pp => ?_) (fun nx => ?_)
  rotate_left
  · have up : upto m = ((List.range m).map fun i : Nat => (i : Int)).map V.int := by unfold upto; rw [List.map_map]; rfl
    have ul : ((List.range m).map fun i : Nat => (i : Int)).length = m := by rw [List.length_map, List.length_range]
    have um : ∀ x ∈ (List.range m).map (fun i : Nat => (i : Int)), 0 ≤ x ∧ x < (m : Int) := fun x hx => by
      obtain ⟨i, hi, rfl⟩ := List.mem_map.mp hx
      rw [List.mem_range] at hi
      omega
    rw [up] at hle1
    refine ⟨_, rfl, _, _, rfl, fun m1 hm1 => ⟨_, _, rfl, rfl, (by show (0 : Int) < 2; decide), rfl, _, rfl, ?_⟩⟩
    refine ite2 (fun c => ?_) (fun c => ?_)
    · refine ⟨_, rfl, .inl ⟨rfl, _, SqL.of hle1⟩, le, _, rfl, rfl, hle1, ?_⟩
      refine nx _ _ ⟨rfl, fun a o ha => by rw [upd_ne (ne_of_none ha hle)]; exact e1 _ _ ha, ((List.range m).map fun i : Nat => (i : Int)).reverse, by rw [List.map_reverse]; exact upd_same, by rw [List.length_reverse]; exact ul, fun x hx => um x (List.mem_reverse.mp hx)⟩
    · exact nx _ _ ⟨rfl, e1, _, hle1, ul, um⟩
  obtain ⟨rfl, e2, L0, hl2, L0l, L0r⟩ := pp
  refine ⟨_, rfl, _, _, rfl, fun m2 hm2 => ⟨_, _, rfl, rfl, (by show (0 : Int) < 7; decide), ?_⟩⟩
  dsimp only [gName]
  generalize m2 % 7 = wish
  refine ⟨szl (by show 0 ≤ 1000000; decide), fun wy hwy => ?_⟩
  dsimp only [gName]
  refine ⟨szl (by show 0 ≤ 1000000; decide), fun pl hpl => ?_⟩
  have st0 : BgSt H (upd (upd H2 wy (.lst [])) pl (.lst [])) le wy pl (m : Int) L0 [] [] [] [] := by
    have nlw : le ≠ wy := fun z => by rw [← z, hl2] at hwy; cases hwy
    have nwp : wy ≠ pl := fun z => by rw [← z, upd_same] at hpl; cases hpl
    have nlp : le ≠ pl := fun z => by rw [← z, upd_ne nlw, hl2] at hpl; cases hpl
    have s1 := (same_new hwy (.lst [])).trans (same_new hpl (.lst []))
    exact ⟨e2.trans s1, hle, e2.free hwy, e2.free ((same_new hwy (.lst [])).free hpl), nlw, nlp, nwp, s1 _ _ hl2, (same_new hpl (.lst [])) _ _ upd_same, upd_same, .nil, .nil, L0r, (fun p hp => by cases hp), rfl, by rw [L0l]; show m + 0 ≤ 6; omega⟩
  dsimp only [gName]
  generalize upd (upd H2 wy (.lst [])) pl (.lst []) = H3 at st0
  -- the ways in common
  refine seq_any (fun σ' H' => ∃ (i : Nat) (L : List Int) (ys : List V) (ps : List (Int × Int)) (o9 : Option V), i ≤ ws0.length ∧ σ' = [some (.int k), some (.int (m : Int)), some (.ref pr), some (.int cell), some (.int far), some (.ref le), some (.int wish), some (.ref wy), some (.ref pl), o9, none, none, none] ∧ BgSt H H' le wy pl (m : Int) L (xs0.take i) (ws0.take i) ys ps) (fun σ' H4 pp => ?_) (fun nx => ?_)
  rotate_left
  · refine ⟨_, rfl, pr, rfl, ⟨_, SqL.of (st0.same _ _ hpr)⟩, ?_⟩
    refine for_list (xs := xs0) (fun i σ' H' => ∃ (L : List Int) (ys : List V) (ps : List (Int × Int)) (o9 : Option V), σ' = [some (.int k), some (.int (m : Int)), some (.ref pr), some (.int cell), some (.int far), some (.ref le), some (.int wish), some (.ref wy), some (.ref pl), o9, none, none, none] ∧ BgSt H H' le wy pl (m : Int) L (xs0.take i) (ws0.take i) ys ps) ⟨L0, [], [], _, rfl, st0⟩ (fun i σ' H' _ pp => by obtain ⟨_, _, _, _, _, st⟩ := pp; exact SqL.of (st.same _ _ hpr)) (fun i x σ' H' hx pp => ?_) (fun σ' H' pp => ?_)
    · obtain ⟨L, ys, ps, o9, rfl, st⟩ := pp
      have hix := (List.getElem?_eq_some_iff.mp hx).1
      obtain ⟨w0, hw0, hway⟩ := hxs0.get' hx
      have hiw := (List.getElem?_eq_some_iff.mp hw0).1
      have tl : (xs0.take i).length = i := by rw [List.length_take]; omega
      have twl : (ws0.take i).length = i := by rw [List.length_take]; omega
      obtain ⟨t, rfl, ht⟩ := hway.over st.same
      dsimp only [gName]
      have hwb := (hxs0.2 i _ _ hx hw0).over st.same
      have brk : ∀ H'', Same H' H'' → (fun (_ : Unit) => True) () → ∃ (i : Nat) (L : List Int) (ys : List V) (ps : List (Int × Int)) (o9' : Option V), i ≤ ws0.length ∧ [some (V.int k), some (.int (m : Int)), some (.ref pr), some (.int cell), some (.int far), some (.ref le), some (.int wish), some (.ref wy), some (.ref pl), some (.ref t), none, none, none] = [some (.int k), some (.int (m : Int)), some (.ref pr), some (.int cell), some (.int far), some (.ref le), some (.int wish), some (.ref wy), some (.ref pl), o9', none, none, none] ∧ BgSt H H'' le wy pl (m : Int) L (xs0.take i) (ws0.take i) ys ps := fun H'' e _ => ⟨i, L, ys, ps, _, by omega, rfl, st.mono e⟩
      refine seq_any (fun σ2 H2 => σ2 = [some (.int k), some (.int (m : Int)), some (.ref pr), some (.int cell), some (.int far), some (.ref le), some (.int wish), some (.ref wy), some (.ref pl), some (.ref t), none, none, none] ∧ Same H' H2 ∧ 0 < m ∧ (w0.1 = false → L ≠ [])) (fun σ2 H2 pp => ?_) (fun nx2 => ?_)
      rotate_left
      · refine ⟨_, rfl, wy, _, rfl, .inl (SqL.of st.hw), _, rfl, rfl, _, rfl, ?_⟩
        refine ite2 (fun c => nx _ _ (brk _ (Same.refl _) True.intro)) (fun c => ?_)
        refine ⟨_, rfl, rfl, _, rfl, ?_⟩
        refine ite2 (fun c => nx _ _ (brk _ (Same.refl _) True.intro)) (fun c => ?_)
        have hm : 0 < m := by
          have : ¬ ((m : Int) = 0) := fun z => c (decide_eq_true (congrArg V.int z))
          omega
        refine ⟨_, rfl, szl (by show 0 ≤ 1000000; decide), fun z hz => left_eq ((same_new hz (.lst [])) _ _ st.hl) upd_same ⟨_, rfl, ?_⟩⟩
        have sz := same_new hz (.lst [])
        cases L with
        | cons x L => exact iteF (nx2 _ _ ⟨rfl, sz, hm, fun _ => List.cons_ne_nil _ _⟩)
        | nil =>
          refine iteT ⟨_, rfl, t, _, 0, _, rfl, rfl, SqT.of (sz _ _ ht), rfl, _, rfl, ?_⟩
          cases hb : w0.1 with
          | true => exact iteF (nx2 _ _ ⟨rfl, sz, hm, fun z => by rw [hb] at z; cases z⟩)
          | false => exact iteT (nx _ _ (brk _ sz True.intro))
      obtain ⟨rfl, e2, hm, hne⟩ := pp
      have st := st.mono e2
      have ht := e2 _ _ ht
      have brk2 : ∀ H'', Same H2 H'' → ∃ (i : Nat) (L : List Int) (ys : List V) (ps : List (Int × Int)) (o9' : Option V), i ≤ ws0.length ∧ [some (V.int k), some (.int (m : Int)), some (.ref pr), some (.int cell), some (.int far), some (.ref le), some (.int wish), some (.ref wy), some (.ref pl), some (.ref t), none, none, none] = [some (.int k), some (.int (m : Int)), some (.ref pr), some (.int cell), some (.int far), some (.ref le), some (.int wish), some (.ref wy), some (.ref pl), o9', none, none, none] ∧ BgSt H H'' le wy pl (m : Int) L (xs0.take i) (ws0.take i) ys ps := fun H'' e => ⟨i, L, ys, ps, _, by omega, rfl, st.mono e⟩
      refine seq_any (fun σ3 H3 => σ3 = [some (.int k), some (.int (m : Int)), some (.ref pr), some (.int cell), some (.int far), some (.ref le), some (.int wish), some (.ref wy), some (.ref pl), some (.ref t), none, none, none] ∧ H3 = H2 ∧ (w0.1 = true → L.length + i < 6)) (fun σ3 H3 pp => ?_) (fun nx3 => ?_)
      rotate_left
      · have six := st.six
        rw [twl] at six
        refine ⟨_, rfl, wy, _, rfl, .inl (SqL.of st.hw), _, rfl, le, _, rfl, .inl (SqL.of st.hl), _, _, rfl, rfl, rfl, _, rfl, ?_⟩
        rw [tl, List.length_map]
        refine ite2 (fun c => ?_) (fun c => nx3 _ _ ⟨rfl, rfl, fun _ => ?_⟩)
        · refine ⟨_, rfl, t, _, 0, _, rfl, rfl, SqT.of ht, rfl, _, rfl, ?_⟩
          cases hb : w0.1 with
          | true => exact iteT (nx _ _ (brk2 _ (Same.refl _)))
          | false => exact iteF (nx3 _ _ ⟨rfl, rfl, fun z => by rw [hb] at z; cases z⟩)
        · have : ¬ ((i : Int) + (L.length : Int) = 6) := fun z => c (decide_eq_true (congrArg V.int z))
          omega
      obtain ⟨rfl, rfl, hlt⟩ := pp
      refine ⟨_, rfl, .inl ⟨rfl, _, SqL.of st.hw⟩, _, rfl, wy, _, _, rfl, rfl, st.hw, szlt (by omega), ?_⟩
      have hway' : WayAt H3 (.ref t) w0 := ⟨t, rfl, ht⟩
      have u1 : ∀ b, b ≠ wy → (upd H3 wy (.lst (xs0.take i ++ [V.ref t]))) b = H3 b := fun b hb => upd_ne hb
      have ntw : t ≠ wy := ne_of ht st.hw (by intro z; cases z)
      have uw : (upd H3 wy (.lst (xs0.take i ++ [V.ref t]))) wy = some (.lst (xs0.take i ++ [V.ref t])) := upd_same
      generalize hH4 : upd H3 wy (.lst (xs0.take i ++ [V.ref t])) = H4 at u1 uw
      have hl4 : H4 le = some (.lst (L.map V.int)) := by rw [u1 _ st.lw]; exact st.hl
      have hp4 : H4 pl = some (.lst ys) := by rw [u1 _ st.wp.symm]; exact st.hp
      have yl := st.ap.1
      have yle := st.le
      refine ⟨_, rfl, .inl ⟨rfl, _, SqL.of hp4⟩, _, rfl, t, _, 0, _, rfl, rfl, SqT.of (by rw [u1 _ ntw]; exact ht), rfl, _, rfl, _, rfl, _, rfl, _, rfl, wy, _, rfl, .inl (SqL.of uw), _, _, rfl, rfl, _, _, rfl, fun mq hmq => ⟨_, rfl, w0.1, le, L, (m : Int), mq, far, rfl, hl4, st.rl, by omega, n3, hmq, far0, far1, hne, fun r H5 p hk hr hl5 hr5 hp5 => ?_⟩⟩
      have hpl5 : H5 pl = some (.lst ys) := hk _ _ st.lp.symm hp4
      refine ⟨pl, _, _, rfl, rfl, hpl5, szlt (by omega), ?_⟩
      refine ⟨if w0.1 = true then L else L.tail, ys ++ [.ref r], ps ++ [p], _, rfl, ?_⟩
      have e1 : xs0.take (i + 1) = xs0.take i ++ [V.ref t] := take_snoc hx
      have e2 : ws0.take (i + 1) = ws0.take i ++ [w0] := take_snoc hw0
      rw [e1, e2]
      refine st.step hway' (fun b o hb h => hk b o hb (by rw [← hH4]; exact h)) hl5 hr5 hp5 (fun x hx => ?_) ?_
      · split at hx
        · exact hx
        · exact List.mem_of_mem_tail hx
      · rw [twl]
        have six := st.six
        rw [twl] at six
        cases hb : w0.1 with
        | true => have := hlt hb; simp only [if_true]; omega
        | false =>
          have := hne hb
          cases L with
          | nil => exact absurd rfl this
          | cons x L => simp at six ⊢; omega
    · obtain ⟨L, ys, ps, o9, rfl, st⟩ := pp
      exact nx _ _ ⟨xs0.length, L, ys, ps, o9, by have := hxs0.1; omega, rfl, st⟩
  obtain ⟨i, L, ys, ps, o9, hi, rfl, st⟩ := pp
  refine ⟨_, rfl, wy, _, rfl, .inl (SqL.of st.hw), ?_⟩
  dsimp only [gName]
  have tl : (xs0.take i).length = i := by rw [List.length_take]; have := hxs0.1; omega
  have twl : (ws0.take i).length = i := by rw [List.length_take]; omega
  rw [tl]
  show tSeq (tWhile _ _) (tRet _) _ _ _
  refine seq_any (fun σ' H' => ∃ (L : List Int) (xs : List V) (ws : List Way) (ys : List V) (ps : List (Int × Int)) (o11 o12 : Option V), σ' = [some (.int k), some (.int (m : Int)), some (.ref pr), some (.int cell), some (.int far), some (.ref le), some (.int wish), some (.ref wy), some (.ref pl), o9, some (.int (i : Int)), o11, o12] ∧ BgSt H H' le wy pl (m : Int) L xs ws ys ps ∧ i ≤ ws.length ∧ ws.take i = ws0.take i ∧ (∀ w ∈ ws, w.2 ∈ ways3)) (fun σ' H' pp => ?_) (fun nx => ?_)
  · obtain ⟨L, xs, ws, ys, ps, o11, o12, rfl, st, h1, h2, h3⟩ := pp
    refine ⟨_, rfl, _, rfl, _, rfl, _, rfl, szl (by show 4 ≤ 1000000; decide), fun r hr => ?_⟩
    have s1 := same_new hr (.tup [V.int k, V.int (i : Int), V.ref wy, V.ref pl])
    have st' := st.mono s1
    have six := st.six
    have hle := st.le
    exact q r _ ⟨k, i, ws, ps⟩ wy pl st'.same upd_same ⟨xs, st'.hw, st'.aw⟩ ⟨ys, st'.hp, st'.ap⟩ st.fw st.fp ⟨by show ws.length ≤ 6; omega, hle.symm, h1, h3, hk0, hk5, fun p hp => by have := st.rp p hp; unfold PrN at this; omega⟩ rfl hi h2 (fun p hp => (st.rp p hp).2.1)
  refine while_ix 7 (fun j σ' H' => ∃ (L : List Int) (xs : List V) (ws : List Way) (ys : List V) (ps : List (Int × Int)) (o11 o12 : Option V), σ' = [some (.int k), some (.int (m : Int)), some (.ref pr), some (.int cell), some (.int far), some (.ref le), some (.int wish), some (.ref wy), some (.ref pl), o9, some (.int (i : Int)), o11, o12] ∧ BgSt H H' le wy pl (m : Int) L xs ws ys ps ∧ i ≤ ws.length ∧ ws.take i = ws0.take i ∧ (∀ w ∈ ws, w.2 ∈ ways3) ∧ j ≤ ws.length) ⟨L, _, _, ys, ps, none, none, rfl, st, by rw [twl]; exact Nat.le_refl _, by rw [List.take_take, Nat.min_self], fun w hw => wy0 w (List.mem_of_mem_take hw), Nat.zero_le _⟩ (fun j σ' H' hj pp => ?_) ?mono
  case mono => exact MT.or (MT.test (ME.op (MR.eqX _ _) (ME.var _) (ME.lst MA.nil))) (MT.and (MT.test (ME.op (MR.i0 _) (ME.var _) (ME.c _))) (MT.and (MT.test (ME.op (MR.i0 _) (ME.cb MB.len (MA.cons (ME.var _) MA.nil)) (ME.c _))) (MT.test (ME.op MR.eq (ME.op (MR.i _ _) (ME.call MS.mixw (MA.cons (ME.var _) (MA.cons (ME.op (MR.i0 _) (ME.c _) (ME.cb MB.len (MA.cons (ME.var _) MA.nil))) MA.nil))) (ME.c _)) (ME.c _)))))
  obtain ⟨L, xs, ws, ys, ps, o11, o12, rfl, st, h1, h2, h3, hjw⟩ := pp
  have six := st.six
  have xl := st.aw.1
  refine (MT.or (MT.test (ME.op (MR.eqX _ _) (ME.var _) (ME.lst MA.nil))) (MT.and (MT.test (ME.op (MR.i0 _) (ME.var _) (ME.c _))) (MT.and (MT.test (ME.op (MR.i0 _) (ME.cb MB.len (MA.cons (ME.var _) MA.nil)) (ME.c _))) (MT.test (ME.op MR.eq (ME.op (MR.i _ _) (ME.call MS.mixw (MA.cons (ME.var _) (MA.cons (ME.op (MR.i0 _) (ME.c _) (ME.cb MB.len (MA.cons (ME.var _) MA.nil))) MA.nil))) (ME.c _)) (ME.c _)))))) _ _ (fun b H1 => if b = true then Same H' H1 ∧ ws.length < 6 ∧ 0 < m else Same H' H1) _ (fun b H1 h => ?_) ?_
  rotate_left
  · refine ⟨_, rfl, szl (by show 0 ≤ 1000000; decide), fun z hz => left_eq ((same_new hz (.lst [])) _ _ st.hl) upd_same ⟨_, rfl, ?_⟩⟩
    have sz := same_new hz (.lst [])
    cases L with
    | cons x L =>
      refine iteT ⟨sz, ?_, ?_⟩
      · rw [List.length_cons] at six; omega
      · have := st.rl x List.mem_cons_self; omega
    | nil =>
      refine iteF ⟨_, rfl, _, _, rfl, rfl, _, rfl, ?_⟩
      refine ite2 (fun c => ?_) (fun c => sz)
      have hm : 0 < m := by have := dT c; omega
      refine ⟨_, rfl, wy, _, rfl, .inl (SqL.of (sz _ _ st.hw)), _, _, rfl, rfl, _, rfl, ?_⟩
      refine ite2 (fun c => ?_) (fun c => sz)
      have hw6 : ws.length < 6 := by have := dT c; omega
      refine ⟨_, rfl, _, rfl, wy, _, rfl, .inl (SqL.of (sz _ _ st.hw)), _, _, rfl, rfl, _, _, rfl, fun mm hmm => ⟨_, _, rfl, rfl, (by show (0 : Int) < 5; decide), rfl, _, rfl, ?_⟩⟩
      refine ite2 (fun c => ⟨sz, hw6, hm⟩) (fun c => sz)
  cases b with
  | false => exact iteF (nx _ _ ⟨L, xs, ws, ys, ps, o11, o12, rfl, st.mono h, h1, h2, h3⟩)
  | true =>
    obtain ⟨e1, hw6, hm⟩ := h
    refine iteT ⟨by omega, ?_⟩
    have st := st.mono e1
    refine ⟨_, rfl, _, rfl, wy, _, rfl, .inl (SqL.of st.hw), _, _, rfl, rfl, _, _, rfl, fun qv hqv => ?_⟩
    dsimp only [gName]
    refine seq_any (fun σ2 H2 => ∃ sp : Bool, σ2 = [some (.int k), some (.int (m : Int)), some (.ref pr), some (.int cell), some (.int far), some (.ref le), some (.int wish), some (.ref wy), some (.ref pl), o9, some (.int (i : Int)), some (.int qv), some (.bl sp)] ∧ Same H1 H2 ∧ (sp = true → L.length + ws.length < 6) ∧ (sp = false → L ≠ [])) (fun σ2 H2 pp => ?_) (fun nx2 => ?_)
    rotate_left
    · refine ⟨_, rfl, wy, _, rfl, .inl (SqL.of st.hw), _, rfl, le, _, rfl, .inl (SqL.of st.hl), _, _, rfl, rfl, _, _, rfl, rfl, _, rfl, ?_⟩
      rw [List.length_map, xl]
      refine ite2 (fun c => ?_) (fun c => nx2 _ _ ⟨false, rfl, Same.refl _, (fun z => by cases z), fun _ z => ?_⟩)
      · have c := dT c
        refine ⟨_, rfl, szl (by show 0 ≤ 1000000; decide), fun z hz => left_eq ((same_new hz (.lst [])) _ _ st.hl) upd_same ⟨_, rfl, ?_⟩⟩
        have sz := same_new hz (.lst [])
        cases L with
        | nil => exact iteT (nx2 _ _ ⟨true, rfl, sz, (fun _ => by omega), (fun z => by cases z)⟩)
        | cons x L =>
          refine iteF ⟨_, rfl, _, _, rfl, rfl, (by show (0 : Int) < 4; decide), rfl, ?_⟩
          exact nx2 _ _ ⟨_, rfl, sz, (fun _ => by omega), fun _ => List.cons_ne_nil _ _⟩
      · have c := dF c
        subst z
        simp at c
        omega
    obtain ⟨sp, rfl, e2, hs1, hs2⟩ := pp
    have st := st.mono e2
    have g0 := Int.emod_nonneg (qv / 4) (show (4 : Int) ≠ 0 by decide)
    have g1 := Int.emod_lt_of_pos (qv / 4) (show (0 : Int) < 4 by decide)
    obtain ⟨wt, hwt, ewt⟩ : ∃ wt ∈ ways3, atI [V.str "up", V.str "down", V.str "any", V.str "up"] (qv / 4 % 4) = some (.str wt) := by
      generalize qv / 4 % 4 = z at g0 g1
      have : z = 0 ∨ z = 1 ∨ z = 2 ∨ z = 3 := by omega
      rcases this with rfl | rfl | rfl | rfl
      · exact ⟨"up", by decide +kernel, rfl⟩
      · exact ⟨"down", by decide +kernel, rfl⟩
      · exact ⟨"any", by decide +kernel, rfl⟩
      · exact ⟨"up", by decide +kernel, rfl⟩
    refine ⟨_, rfl, .inl ⟨rfl, _, SqL.of st.hw⟩, _, rfl, szl (by show 4 ≤ 1000000; decide), fun t0 ht0 => ⟨_, rfl, _, _, rfl, rfl, ⟨by decide, by decide⟩, _, _, rfl, rfl, (by show (0 : Int) < 4; decide), t0, _, _, _, rfl, rfl, SqT.of upd_same, ewt, szl (by show 2 ≤ 1000000; decide), fun t ht => ?_⟩⟩
    have s3 := (same_new ht0 (.tup [V.str "up", V.str "down", V.str "any", V.str "up"])).trans (same_new ht (.tup [V.bl sp, V.str wt]))
    have st := st.mono s3
    have ht' : (upd (upd H2 t0 (.tup [V.str "up", V.str "down", V.str "any", V.str "up"])) t (.tup [V.bl sp, V.str wt])) t = some (.tup [V.bl sp, V.str wt]) := upd_same
    generalize upd (upd H2 t0 (.tup [V.str "up", V.str "down", V.str "any", V.str "up"])) t (.tup [V.bl sp, V.str wt]) = H3 at s3 st ht'
    refine ⟨wy, _, _, rfl, rfl, st.hw, szlt (by omega), ?_⟩
    have hway' : WayAt H3 (.ref t) (sp, wt) := ⟨t, rfl, ht'⟩
    have u1 : ∀ b, b ≠ wy → (upd H3 wy (.lst (xs ++ [V.ref t]))) b = H3 b := fun b hb => upd_ne hb
    have uw : (upd H3 wy (.lst (xs ++ [V.ref t]))) wy = some (.lst (xs ++ [V.ref t])) := upd_same
    generalize hH4 : upd H3 wy (.lst (xs ++ [V.ref t])) = H4 at u1 uw
    have hl4 : H4 le = some (.lst (L.map V.int)) := by rw [u1 _ st.lw]; exact st.hl
    have hp4 : H4 pl = some (.lst ys) := by rw [u1 _ st.wp.symm]; exact st.hp
    have yl := st.ap.1
    have yle := st.le
    refine ⟨_, rfl, .inl ⟨rfl, _, SqL.of hp4⟩, _, rfl, _, rfl, _, rfl, _, rfl, _, rfl, wy, _, rfl, .inl (SqL.of uw), _, _, rfl, rfl, _, _, rfl, fun mq hmq => ⟨_, rfl, sp, le, L, (m : Int), mq, far, rfl, hl4, st.rl, by omega, n3, hmq, far0, far1, hs2, fun r H5 p hk hr hl5 hr5 hp5 => ?_⟩⟩
    have hpl5 : H5 pl = some (.lst ys) := hk _ _ st.lp.symm hp4
    refine ⟨pl, _, _, rfl, rfl, hpl5, szlt (by omega), ?_⟩
    refine ⟨if sp = true then L else L.tail, xs ++ [.ref t], ws ++ [(sp, wt)], ys ++ [.ref r], ps ++ [p], _, _, rfl, ?_, by rw [List.length_append]; omega, by rw [List.take_append_of_le_length h1]; exact h2, fun w hw => ?_, by rw [List.length_append, List.length_singleton]; omega⟩
    · refine st.step hway' (fun b o hb h => hk b o hb (by rw [← hH4]; exact h)) hl5 hr5 hp5 (fun x hx => ?_) ?_
      · split at hx
        · exact hx
        · exact List.mem_of_mem_tail hx
      · cases sp with
        | true => have := hs1 rfl; simp only [if_true]; omega
        | false =>
          have := hs2 rfl
          cases L with
          | nil => exact absurd rfl this
          | cons x L => simp at six ⊢; omega
    · rcases List.mem_append.mp hw with hw | hw
      · exact h3 w hw
      · rw [List.mem_singleton] at hw; subst hw; exact hwt

theorem ok_boughs (T : Tx K mg a) : FnOk P w K mg base CX0 3 a.f_l_boughs a.d_l_boughs ["_law_depths", "_law_script", "_law_first", "_law_far"] (spBoughs K) := by
  have G_l_mixed := ok_mixed (P := P) (w := w) (base := base) T
  have G_l_bough := ok_bough (P := P) (w := w) (base := base) T
  have G_l_cell_at := ok_cell_at (P := P) (w := w) (base := base) T
  refine T.F_l_boughs.ok sc_l_boughs (fun vs H Q E h => ?_) (fun cdv A outer s H vs Q E hr h => ?_)
  · obtain ⟨_, _, _, _, _, _, rfl, _⟩ := h; rfl
  obtain ⟨dl, sc, D, ns, first, far, rfl, hdl, hD, Dl, hsc, nsl, f0, f1, far0, far1, q⟩ := h
  refine ⟨_, (@pss_cons _ _ _ _ _ (@ps_set _ _ (4) _ _ _ _ sc_l_boughs.nd rfl (Or.inl rfl) (@pe_lrange _ _ _ _ _ _ _ rfl (by rfl) T.z_list (by rfl) T.z_range (@pa_cons _ _ _ _ _ (@pe_callB _ _ _ _ _ _ _ _ _ call_len_seq (by rfl) T.z_len bt_len (@pa_cons _ _ _ _ _ (pv 0) pa_nil (by rfl)) (by decide) (by decide) (by rfl) (by rfl)) pa_nil (by rfl)) (by rfl)) (by rfl) (by first | exact .inl rfl | exact .inr rfl | assumption)) (@pss_cons _ _ _ _ _ (@ps_set _ _ (5) _ _ _ _ sc_l_boughs.nd rfl (Or.inl rfl) (@pe_lst _ _ _ _ pa_nil) (by rfl) (by first | exact .inl rfl | exact .inr rfl | assumption)) (@pss_cons _ _ _ _ _ (@ps_set _ _ (6) _ _ _ _ sc_l_boughs.nd rfl (Or.inl rfl) (@pe_lst _ _ _ _ pa_nil) (by rfl) (by first | exact .inl rfl | exact .inr rfl | assumption)) (@pss_cons _ _ _ _ _ (@ps_while _ _ _ _ _ _ PassesOwn.never (@pt_cmpR _ _ _ _ _ _ _ _ (@op_neS _ (@hu64 _ _ hr)) (pv 4) (@pe_lst _ _ _ _ pa_nil) (@nomark _ _ (by decide) (by decide))) (@pss_cons _ _ _ _ _ (@ps_set _ _ (7) _ _ _ _ sc_l_boughs.nd rfl (Or.inl rfl) (@pe_call _ _ _ _ _ _ _ _ _ _ _ _ _ _ _ _ G_l_cell_at (hr.mono (by omega)) (by rfl) T.m_l_cell_at T.F_l_cell_at.kp T.b_l_cell_at .nil pass0 (@pa_cons _ _ _ _ _ (pv 1) (@pa_cons _ _ _ _ _ (@pe_op _ _ _ _ _ _ _ _ op_add (pv 2) (@pe_callB _ _ _ _ _ _ _ _ _ call_len_seq (by rfl) T.z_len bt_len (@pa_cons _ _ _ _ _ (pv 5) pa_nil (by rfl)) (by decide) (by decide) (by rfl) (by rfl))) pa_nil (by rfl)) (by rfl)) (by decide) (by rfl) (by rfl)) (by rfl) (by first | exact .inl rfl | exact .inr rfl | assumption)) (@pss_cons _ _ _ _ _ (@ps_set _ _ (8) _ _ _ _ sc_l_boughs.nd rfl (Or.inl rfl) (@pe_bm _ _ _ _ _ _ _ _ _ _ _ _ PySem.F.plainAttrs_list PySem.F.slot_list_pop PySem.F.type_list_pop mt_popAt (pv 4) (@pa_cons _ _ _ _ _ (@pe_op _ _ _ _ _ _ _ _ op_mod (@pe_op _ _ _ _ _ _ _ _ op_fdiv (@pe_call _ _ _ _ _ _ _ _ _ _ _ _ _ _ _ _ G_l_mixed (hr.mono (by omega)) (by rfl) T.m_l_mixed T.F_l_mixed.kp T.b_l_mixed .nil pass0 (@pa_cons _ _ _ _ _ (pv 7) (@pa_cons _ _ _ _ _ pe_int pa_nil (by rfl)) (by rfl)) (by decide) (by rfl) (by rfl)) pe_int) (@pe_callB _ _ _ _ _ _ _ _ _ call_len_seq (by rfl) T.z_len bt_len (@pa_cons _ _ _ _ _ (pv 4) pa_nil (by rfl)) (by decide) (by decide) (by rfl) (by rfl))) pa_nil (by rfl)) (by rfl) (by rfl) (by rfl) (by rfl) (by rfl)) (by rfl) (by first | exact .inl rfl | exact .inr rfl | assumption)) (@pss_cons _ _ _ _ _ (@ps_expr _ _ _ _ (@pe_bm _ _ _ _ _ _ _ _ _ _ _ _ PySem.F.plainAttrs_list PySem.F.slot_list_append PySem.F.type_list_append mt_append (pv 5) (@pa_cons _ _ _ _ _ (@pe_call _ _ _ _ _ _ _ _ _ _ _ _ _ _ _ _ G_l_bough (hr.mono (by omega)) (by rfl) T.m_l_bough T.F_l_bough.kp T.b_l_bough .nil pass0 (@pa_cons _ _ _ _ _ (pv 8) (@pa_cons _ _ _ _ _ (@pe_ix _ _ _ _ _ _ _ ix_list (pv 0) (pv 8) (fun _ _ => rfl)) (@pa_cons _ _ _ _ _ (pv 6) (@pa_cons _ _ _ _ _ (pv 7) (@pa_cons _ _ _ _ _ (pv 3) pa_nil (by rfl)) (by rfl)) (by rfl)) (by rfl)) (by rfl)) (by decide) (by rfl) (by rfl)) pa_nil (by rfl)) (by rfl) (by rfl) (by rfl) (by rfl) (by rfl)) (by rfl)) (@pss_one _ _ _ (@ps_set _ _ (6) _ _ _ _ sc_l_boughs.nd rfl (Or.inl rfl) (@pe_ix _ _ _ _ _ _ _ ix_tup (@pe_ix _ _ _ _ _ _ _ ix_list (pv 5) (@pe_un _ _ _ _ _ _ un_neg pe_int) (fun _ _ => rfl)) pe_int (fun _ _ => rfl)) (by rfl) (by first | exact .inl rfl | exact .inr rfl | assumption))))))) (@pss_one _ _ _ (@ps_ret _ _ _ _ (pv 5))))))), ?_⟩
  try dsimp only [cxK, noxK]
  refine ⟨_, rfl, dl, _, rfl, .inl (SqL.of hdl), D.length, by rw [List.length_map], by omega, fun le hle => ?_⟩
  have up : upto D.length = ((List.range D.length).map fun i : Nat => (i : Int)).map V.int := by unfold upto; rw [List.map_map]; rfl
  have e1 := same_new hle (.lst (upto D.length))
  have hle1 : (upd H le (.lst (upto D.length))) le = some (.lst (((List.range D.length).map fun i : Nat => (i : Int)).map V.int)) := by rw [← up]; exact upd_same
  generalize upd H le (.lst (upto D.length)) = H1 at e1 hle1
  refine ⟨szl (by show 0 ≤ 1000000; decide), fun bl hbl => ?_⟩
  refine ⟨szl (by show 0 ≤ 1000000; decide), fun pr0 hpr0 => ?_⟩
  have nlb : le ≠ bl := fun z => by rw [← z, hle1] at hbl; cases hbl
  have nbp : bl ≠ pr0 := fun z => by rw [← z, upd_same] at hpr0; cases hpr0
  have nlp : le ≠ pr0 := fun z => by rw [← z, upd_ne nlb, hle1] at hpr0; cases hpr0
  have s2 := (same_new hbl (.lst [])).trans (same_new hpr0 (.lst []))
  have hbl2 : (upd (upd H1 bl (.lst [])) pr0 (.lst [])) bl = some (.lst []) := (same_new hpr0 (.lst [])) _ _ upd_same
  have hpr2 : (upd (upd H1 bl (.lst [])) pr0 (.lst [])) pr0 = some (.lst []) := upd_same
  have hle2 := s2 _ _ hle1
  have hbl0 := e1.free hbl
  have e2 := e1.trans s2
  dsimp only [gName]
  generalize upd (upd H1 bl (.lst [])) pr0 (.lst []) = H2 at e2 hbl2 hpr2 hle2
  show tSeq (tWhile _ _) (tRet _) _ _ _
  refine seq_any (fun σ' H' => ∃ (xs : List V) (B : List Bgh) (pr : Addr) (o7 o8 : Option V), σ' = [some (.ref dl), some (.ref sc), some (.int first), some (.int far), some (.ref le), some (.ref bl), some (.ref pr), o7, o8] ∧ Same H H' ∧ H' bl = some (.lst xs) ∧ All2 (BoAt H') xs B ∧ GoodBs B ∧ (B.map (·.k)).Perm ((List.range D.length).map fun i : Nat => (i : Int)) ∧ (∀ b ∈ B, ∀ p ∈ b.pl, p.1 < D.getD b.k.toNat 0)) (fun σ' H' pp => ?_) (fun nx => ?_)
  · obtain ⟨xs, B, pr, o7, o8, rfl, e, hb, hB, g, pm, pp⟩ := pp
    exact ⟨_, rfl, q bl _ B e ⟨xs, hb, hB⟩ g pm pp⟩
  refine while_ix 7 (fun j σ' H' => ∃ (L : List Int) (xs : List V) (B : List Bgh) (pr : Addr) (o7 o8 : Option V), σ' = [some (.ref dl), some (.ref sc), some (.int first), some (.int far), some (.ref le), some (.ref bl), some (.ref pr), o7, o8] ∧ Same H H' ∧ H' le = some (.lst (L.map V.int)) ∧ H' bl = some (.lst xs) ∧ All2 (BoAt (av H' [le, bl])) xs B ∧ WaysAt (av H' [le, bl]) pr (lastW B) ∧ (Fo.Ok B ∧ (∀ b, B.head? = some b → b.sh = 0) ∧ ∀ b ∈ B, GoodB b) ∧ (L ++ B.map (·.k)).Perm ((List.range D.length).map fun i : Nat => (i : Int)) ∧ (∀ b ∈ B, ∀ p ∈ b.pl, p.1 < D.getD b.k.toNat 0) ∧ j = B.length) ⟨_, [], [], pr0, none, none, rfl, e2, hle2, hbl2, .nil, ⟨[], by rw [av_ne (by simp [nlp.symm, nbp.symm])]; exact hpr2, .nil⟩, ⟨⟨fun b hb => (by cases hb), fun i b c hb => (by simp at hb)⟩, fun b hb => (by cases hb), fun b hb => (by cases hb)⟩, by rw [List.map_nil, List.append_nil], fun b hb => (by cases hb), rfl⟩ (fun j σ' H' hj pp => ?_) (MT.test (ME.op (MR.eqX _ _) (ME.var _) (ME.lst MA.nil)))
  obtain ⟨L, xs, B, pr, o7, o8, rfl, e, hl, hb, hB, hpr, g, pm, pp, rfl⟩ := pp
  refine ⟨_, rfl, szl (by show 0 ≤ 1000000; decide), fun z hz => left_eq ((same_new hz (.lst [])) _ _ hl) upd_same ⟨_, rfl, ?_⟩⟩
  have sz := same_new hz (.lst [])
  have pl := pm.length_eq
  rw [List.length_append, List.length_map, List.length_map, List.length_range] at pl
  cases hL : L with
  | nil =>
    subst hL
    refine iteF (nx _ _ ⟨xs, B, pr, o7, o8, rfl, e.trans sz, sz _ _ hb, hB.mono fun x b h => (h.over av_same).over sz, ⟨g.1, g.2.1, g.2.2, by simp at pl; omega⟩, pm, pp⟩)
  | cons x0 L0 =>
    have lpos : 0 < L.length := by rw [hL]; exact Nat.succ_pos _
    rw [← hL]
    refine iteE (v := true) (by rw [hL]; rfl) (iteT ⟨by omega, ?_⟩)
    have e := e.trans sz
    have hl := sz _ _ hl
    have hb := sz _ _ hb
    have hB := hB.mono fun x b h => h.over (av_mono (S := [le, bl]) sz)
    have hpr := hpr.over (av_mono (S := [le, bl]) sz)
    generalize upd H' z (.lst []) = H3 at sz e hl hb hB hpr
    have xl := hB.1
    refine ⟨_, rfl, _, rfl, _, rfl, bl, _, rfl, .inl (SqL.of hb), _, _, rfl, rfl, sc, ns, _, rfl, e.seq hsc, (Int.add_nonneg f0 (Int.natCast_nonneg _)), ?_⟩
    generalize ns.getD (first + (xs.length : Int)).toNat 0 = cell
    have hll : ((L.map V.int).length : Int) = (L.length : Int) := by rw [List.length_map]
    refine ⟨_, rfl, .inl ⟨rfl, _, SqL.of hl⟩, _, rfl, _, _, rfl, fun mm hmm => ⟨_, _, rfl, rfl, ⟨by decide, by decide⟩, _, rfl, le, _, rfl, .inl (SqL.of hl), _, _, rfl, rfl, (by show (0 : Int) < ((L.map V.int).length : Int); omega), ?_⟩⟩
    rw [hll]
    have j0 := Int.emod_nonneg (mm / 3) (show (L.length : Int) ≠ 0 by omega)
    have j1 := Int.emod_lt_of_pos (mm / 3) (show (0 : Int) < (L.length : Int) by omega)
    obtain ⟨j, ej⟩ : ∃ j : Nat, mm / 3 % (L.length : Int) = (j : Int) := ⟨(mm / 3 % (L.length : Int)).toNat, by omega⟩
    have jl : j < L.length := by omega
    have Lj : L[j]? = some L[j] := List.getElem?_eq_getElem jl
    have p63 : (2 : Int) ^ 63 = 9223372036854775808 := by decide
    refine ⟨le, _, (j : Int), j, .int L[j], rfl, by rw [← ej], hl, by omega, by omega, seqIx (by rw [List.length_map]; exact jl), by rw [List.getElem?_map, Lj]; rfl, ?_⟩
    have erm : (L.map V.int).eraseIdx j = (L.eraseIdx j).map V.int := erase_map L j
    have hle3 : (upd H3 le (.lst ((L.map V.int).eraseIdx j))) le = some (.lst ((L.eraseIdx j).map V.int)) := by rw [← erm]; exact upd_same
    have e3 : Same H (upd H3 le (.lst ((L.map V.int).eraseIdx j))) := fun b o h => by rw [upd_ne (ne_of_none h hle)]; exact e _ _ h
    have hb3 : (upd H3 le (.lst ((L.map V.int).eraseIdx j))) bl = some (.lst xs) := by rw [upd_ne nlb.symm]; exact hb
    have av3 : av (upd H3 le (.lst ((L.map V.int).eraseIdx j))) [le, bl] = av H3 [le, bl] := av_upd (by simp)
    rw [← av3] at hB hpr
    dsimp only [gName]
    generalize upd H3 le (.lst ((L.map V.int).eraseIdx j)) = H4 at hle3 e3 hb3 hB hpr
    have kmem : L[j] ∈ (List.range D.length).map (fun i : Nat => (i : Int)) := pm.subset (List.mem_append_left _ (List.getElem_mem jl))
    obtain ⟨kk, hkk, ek⟩ := List.mem_map.mp kmem
    rw [List.mem_range] at hkk
    have ek : L[j] = (kk : Int) := ek.symm
    rw [ek]
    have Dk : D[kk]? = some D[kk] := List.getElem?_eq_getElem hkk
    have Dm := hD D[kk] (List.getElem_mem hkk)
    have atD : atI (D.map V.int) (kk : Int) = some (.int D[kk]) := atI_nat (by rw [List.getElem?_map, Dk]; rfl)
    have wl6 : (lastW B).length ≤ 6 ∧ ∀ w ∈ lastW B, w.2 ∈ ways3 := by
      unfold lastW
      cases hc : B.getLast? with
      | none => exact ⟨Nat.zero_le _, fun w hw => by cases hw⟩
      | some c =>
        have gc := g.2.2 c (List.mem_of_getLast? hc)
        exact ⟨gc.len, gc.wy⟩
    refine ⟨_, rfl, .inl ⟨rfl, _, SqL.of hb3⟩, _, rfl, _, rfl, _, rfl, dl, _, _, _, rfl, rfl, SqL.of (e3 _ _ hdl), atD, _, rfl, _, rfl, _, rfl, (kk : Int), D[kk], cell, far, pr, lastW B, rfl, by omega, by omega, Dm.1, Dm.2, hpr.over av_same, wl6.1, wl6.2, far0, far1, fun r H5 b w p e5 hr hw hp fw fp gb hbk hsh htk hpl => ?_⟩
    have hb5 := e5 _ _ hb3
    refine ⟨bl, _, _, rfl, rfl, hb5, szlt (by omega), ?_⟩
    have hle5 := e5 _ _ hle3
    have hrb : r ≠ bl := ne_of hr hb5 (by intro z; cases z)
    have hrl : r ≠ le := ne_of hr hle5 (by intro z; cases z)
    have hwn : w ∉ [le, bl] := by
      intro z
      rcases List.mem_cons.mp z with rfl | z
      · rw [hle3] at fw; cases fw
      · rw [List.mem_singleton] at z; subst z; rw [hb3] at fw; cases fw
    have hpn : p ∉ [le, bl] := by
      intro z
      rcases List.mem_cons.mp z with rfl | z
      · rw [hle3] at fp; cases fp
      · rw [List.mem_singleton] at z; subst z; rw [hb3] at fp; cases fp
    have tkv : ∀ {l : Addr} {xs : List V}, H5 l = some (.tup xs) → av H5 [le, bl] l = some (.tup xs) := fun {l xs} h => by
      rw [av_ne]
      · exact h
      · intro z
        rcases List.mem_cons.mp z with rfl | z
        · rw [hle5] at h; cases h
        · rw [List.mem_singleton] at z; subst z; rw [hb5] at h; cases h
    have hw' : WaysAt (av H5 [le, bl]) w b.ways := by
      obtain ⟨zs, z1, z2⟩ := hw
      exact ⟨zs, by rw [av_ne hwn]; exact z1, z2.mono fun x v q => by obtain ⟨t, q1, q2⟩ := q; exact ⟨t, q1, tkv q2⟩⟩
    have hp' : PrsAt (av H5 [le, bl]) p b.pl := by
      obtain ⟨zs, z1, z2⟩ := hp
      exact ⟨zs, by rw [av_ne hpn]; exact z1, z2.mono fun x v q => by obtain ⟨t, q1, q2⟩ := q; exact ⟨t, q1, tkv q2⟩⟩
    have av5 : av (upd H5 bl (.lst (xs ++ [V.ref r]))) [le, bl] = av H5 [le, bl] := av_upd (by simp)
    have hb6 : (upd H5 bl (.lst (xs ++ [V.ref r]))) bl = some (.lst (xs ++ [V.ref r])) := upd_same
    have hr6 : (upd H5 bl (.lst (xs ++ [V.ref r]))) r = some (.tup [.int b.k, .int (b.sh : Int), .ref w, .ref p]) := by rw [upd_ne hrb]; exact hr
    refine ⟨_, rfl, _, rfl, bl, _, _, _, rfl, rfl, SqL.of hb6, atI_last _ _, r, _, 2, _, rfl, rfl, SqT.of hr6, rfl, ?_⟩
    refine ⟨L.eraseIdx j, xs ++ [.ref r], B ++ [b], w, _, _, rfl, fun c o h => by rw [upd_ne (ne_of_none h hbl0)]; exact e5 _ _ (e3 _ _ h), by rw [upd_ne nlb]; exact hle5, hb6, ?_, ?_, GoodBs.snoc g gb hsh htk, ?_, fun c hc => ?_, by rw [List.length_append]; rfl⟩
    · rw [av5]
      exact (hB.mono fun x c h => h.over (av_mono e5)).snoc ⟨r, w, p, rfl, tkv hr, hw', hp'⟩
    · rw [av5, lastW_snoc]
      exact hw'
    · rw [List.map_append]
      have p1 : (L.eraseIdx j ++ (B.map (·.k) ++ [L[j]])).Perm (L ++ B.map (·.k)) := by
        have h1 : (L[j] :: L.eraseIdx j).Perm L := erase_perm L j _ Lj
        refine List.Perm.trans ?_ (h1.append_right _)
        rw [← List.append_assoc]
        exact (List.perm_append_comm (l₁ := L.eraseIdx j ++ B.map (·.k)) (l₂ := [L[j]]))
      have : [b].map (·.k) = [L[j]] := by rw [ek]; show [b.k] = _; rw [hbk]
      rw [this]
      exact p1.trans pm
    · rcases List.mem_append.mp hc with hc | hc
      · exact pp c hc
      · rw [List.mem_singleton] at hc
        subst hc
        intro p' hp''
        rw [hbk, Int.toNat_natCast, List.getD_eq_getElem?_getD, Dk]
        exact hpl p' hp''

theorem ok_items (T : Tx K mg a) : ∀ n : Nat, FnOk P w K mg base CX0 (n + 2) a.f_l_items a.d_l_items ["_law_boughs_here", "_law_depth"] (spItems n)
  | 0 => by
    have no : ∀ vs H Q E, ¬ spItems 0 vs H Q E := fun vs H Q E h => by
      obtain ⟨l, d, m, B, _, _, _, hm, _⟩ := h
      omega
    exact ⟨fun vs H Q E h => absurd h (no vs H Q E), fun A outer s H args us vs Q E _ _ _ _ h => absurd h (no vs H Q E)⟩
  | n + 1 => by
    have G_l_items := ok_items T n
    refine T.F_l_items.ok sc_l_items (fun vs H Q E h => ?_) (fun cdv A outer s H vs Q E hr h => ?_)
    · obtain ⟨_, _, _, _, rfl, _⟩ := h; rfl
    obtain ⟨l, d, mm, B, rfl, ⟨xs0, hl, hB⟩, hF, hmn, hd, q⟩ := h
    refine ⟨_, (@pss_cons _ _ _ _ _ (@ps_set _ _ (2) _ _ _ _ sc_l_items.nd rfl (Or.inl rfl) (@pe_lst _ _ _ _ pa_nil) (by rfl) (by first | exact .inl rfl | exact .inr rfl | assumption)) (@pss_cons _ _ _ _ _ (@ps_set _ _ (3) _ _ _ _ sc_l_items.nd rfl (Or.inl rfl) pe_int (by rfl) (by first | exact .inl rfl | exact .inr rfl | assumption)) (@pss_cons _ _ _ _ _ (@ps_while _ _ _ _ _ _ PassesOwn.never (@pt_cmpR _ _ _ _ _ _ _ _ op_lt (pv 3) (@pe_callB _ _ _ _ _ _ _ _ _ call_len_seq (by rfl) T.z_len bt_len (@pa_cons _ _ _ _ _ (pv 0) pa_nil (by rfl)) (by decide) (by decide) (by rfl) (by rfl)) (@nomark _ _ (by decide) (by decide))) (@pss_cons _ _ _ _ _ (@ps_set _ _ (4) _ _ _ _ sc_l_items.nd rfl (Or.inl rfl) (@pe_op _ _ _ _ _ _ _ _ op_add (pv 3) pe_int) (by rfl) (by first | exact .inl rfl | exact .inr rfl | assumption)) (@pss_cons _ _ _ _ _ (@ps_if _ _ _ _ _ _ _ _ (@pt_cmpR _ _ _ _ _ _ _ _ op_eq (@pe_callB _ _ _ _ _ _ _ _ _ call_len_seq (by rfl) T.z_len bt_len (@pa_cons _ _ _ _ _ (@pe_ix _ _ _ _ _ _ _ ix_tup (@pe_ix _ _ _ _ _ _ _ ix_list (pv 0) (pv 3) (fun _ _ => rfl)) pe_int (fun _ _ => rfl)) pa_nil (by rfl)) (by decide) (by decide) (by rfl) (by rfl)) (pv 1) (@nomark _ _ (by decide) (by decide))) (@pss_one _ _ _ (@ps_expr _ _ _ _ (@pe_bm _ _ _ _ _ _ _ _ _ _ _ _ PySem.F.plainAttrs_list PySem.F.slot_list_append PySem.F.type_list_append mt_append (pv 2) (@pa_cons _ _ _ _ _ (@pe_tupq _ _ _ _ _ (@paq_cons _ _ _ _ _ pe_str (@paq_cons _ _ _ _ _ (@pe_ix _ _ _ _ _ _ _ ix_tup (@pe_ix _ _ _ _ _ _ _ ix_list (pv 0) (pv 3) (fun _ _ => rfl)) pe_int (fun _ _ => rfl)) (@paq_cons _ _ _ _ _ (@pe_callTy _ _ _ _ _ _ _ _ _ call_tuple_of (by rfl) T.z_tuple bt_tuple (@pa_cons _ _ _ _ _ (@pe_ix _ _ _ _ _ _ _ ix_tup (@pe_ix _ _ _ _ _ _ _ ix_list (pv 0) (pv 3) (fun _ _ => rfl)) pe_int (fun _ _ => rfl)) pa_nil (by rfl)) (by decide) (by decide) (by rfl) (by rfl)) paq_nil star_K) star_S) star_C)) pa_nil (by rfl)) (by rfl) (by rfl) (by rfl) (by rfl) (by rfl)) (by rfl))) (@pss_cons _ _ _ _ _ (@ps_while _ _ _ _ _ _ PassesOwn.never ((@pw_and _ _ _ _ _ _ _ (@pt_cmpR _ _ _ _ _ _ _ _ op_lt (pv 4) (@pe_callB _ _ _ _ _ _ _ _ _ call_len_seq (by rfl) T.z_len bt_len (@pa_cons _ _ _ _ _ (pv 0) pa_nil (by rfl)) (by decide) (by decide) (by rfl) (by rfl)) (@nomark _ _ (by decide) (by decide))) (@pw_and1 _ _ _ _ (@pt_cmpR _ _ _ _ _ _ _ _ op_gt (@pe_ix _ _ _ _ _ _ _ ix_tup (@pe_ix _ _ _ _ _ _ _ ix_list (pv 0) (pv 4) (fun _ _ => rfl)) pe_int (fun _ _ => rfl)) (pv 1) (@nomark _ _ (by decide) (by decide)))))).pt (@pss_one _ _ _ (@ps_set _ _ (4) _ _ _ _ sc_l_items.nd rfl (Or.inl rfl) (@pe_op _ _ _ _ _ _ _ _ op_add (pv 4) pe_int) (by rfl) (by first | exact .inl rfl | exact .inr rfl | assumption)))) (@pss_cons _ _ _ _ _ (@ps_set _ _ (5) _ _ _ _ sc_l_items.nd rfl (Or.inl rfl) (@pe_ix _ _ _ _ _ _ _ ix_list (@pe_ix _ _ _ _ _ _ _ ix_tup (@pe_ix _ _ _ _ _ _ _ ix_list (pv 0) (pv 3) (fun _ _ => rfl)) pe_int (fun _ _ => rfl)) (pv 1) (fun _ _ => rfl)) (by rfl) (by first | exact .inl rfl | exact .inr rfl | assumption)) (@pss_one _ _ _ (@ps_expr _ _ _ _ (@pe_bm _ _ _ _ _ _ _ _ _ _ _ _ PySem.F.plainAttrs_list PySem.F.slot_list_append PySem.F.type_list_append mt_append (pv 2) (@pa_cons _ _ _ _ _ (@pe_tupq _ _ _ _ _ (@paq_cons _ _ _ _ _ pe_str (@paq_cons _ _ _ _ _ (@pe_ix _ _ _ _ _ _ _ ix_tup (pv 5) pe_int (fun _ _ => rfl)) (@paq_cons _ _ _ _ _ (@pe_ix _ _ _ _ _ _ _ ix_tup (pv 5) pe_int (fun _ _ => rfl)) (@paq_cons _ _ _ _ _ (@pe_call _ _ _ _ _ _ _ _ _ _ _ _ _ _ _ _ G_l_items (hr.mono (by omega)) (by rfl) T.m_l_items T.F_l_items.kp T.b_l_items .nil pass0 (@pa_cons _ _ _ _ _ (@pe_slice _ _ _ _ _ _ _ _ _ _ sl_list (pv 0) (@po_some _ _ _ (pv 3)) (@po_some _ _ _ (pv 4))) (@pa_cons _ _ _ _ _ (@pe_op _ _ _ _ _ _ _ _ op_add (pv 1) pe_int) pa_nil (by rfl)) (by rfl)) (by decide) (by rfl) (by rfl)) paq_nil star_K) star_S) star_S) star_C)) pa_nil (by rfl)) (by rfl) (by rfl) (by rfl) (by rfl) (by rfl)) (by rfl)))))) (@pss_one _ _ _ (@ps_set _ _ (3) _ _ _ _ sc_l_items.nd rfl (Or.inl rfl) (pv 4) (by rfl) (by first | exact .inl rfl | exact .inr rfl | assumption)))))) (@pss_one _ _ _ (@ps_ret _ _ _ _ (@pe_callTy _ _ _ _ _ _ _ _ _ call_tuple_of (by rfl) T.z_tuple bt_tuple (@pa_cons _ _ _ _ _ (pv 2) pa_nil (by rfl)) (by decide) (by decide) (by rfl) (by rfl))))))), ?_⟩
    try dsimp only [cxK, noxK]
    have xl := hB.1
    have Bl := hF.len
    refine ⟨szl (by show 0 ≤ 1000000; decide), fun it hit => ?_⟩
    have e1 := same_new hit (.lst [])
    have hit1 : (upd H it (.lst [])) it = some (.lst []) := upd_same
    dsimp only [gName]
    generalize upd H it (.lst []) = H1 at e1 hit1
    show tSeq (tWhile _ _) (tRet _) _ _ _
    refine seq_any (fun σ' H' => ∃ (xs : List V) (f : Frs) (o3 o4 o5 : Option V), σ' = [some (.ref l), some (.int (d : Int)), some (.ref it), o3, o4, o5] ∧ Same H H' ∧ H' it = some (.lst xs) ∧ FoAt H' xs f ∧ Fo.Is f B d ∧ xs.length ≤ 1000) (fun σ' H' pp => ?_) (fun nx => ?_)
    · obtain ⟨xs, f, o3, o4, o5, rfl, e, hx, hf, hI, xl⟩ := pp
      refine ⟨_, rfl, it, _, rfl, .inl ⟨SqL.of hx, fun t ht => ?_⟩⟩
      have s1 := same_new ht (.tup xs)
      exact q t _ f (e.trans s1) ⟨xs, upd_same, FoAt.over s1 hf⟩ hI
    refine while_ix (B.length + 1) (fun j σ' H' => ∃ (at' : Nat) (xs : List V) (f : Frs) (o4 o5 : Option V), σ' = [some (.ref l), some (.int (d : Int)), some (.ref it), some (.int (at' : Int)), o4, o5] ∧ Same H H' ∧ H' it = some (.lst xs) ∧ FoAt H' xs f ∧ Fo.Is f (B.take at') d ∧ at' ≤ B.length ∧ j ≤ at' ∧ xs.length ≤ at' ∧ (0 < at' → ∀ c, B[at']? = some c → c.sh = d)) ⟨0, [], .nil, none, none, rfl, e1, hit1, rfl, rfl, Nat.zero_le _, Nat.le_refl _, Nat.le_refl _, fun z => absurd z (Nat.lt_irrefl _)⟩ (fun j σ' H' hj pp => ?_) (MT.test (ME.op (MR.i0 _) (ME.var _) (ME.cb MB.len (MA.cons (ME.var _) MA.nil))))
    obtain ⟨at', xs, f, o4, o5, rfl, e, hx, hf, hI, hat, hja, xsl, hhd⟩ := pp
    have hl' := e _ _ hl
    refine ⟨_, rfl, _, rfl, l, _, rfl, .inl (SqL.of hl'), _, _, rfl, rfl, _, rfl, ?_⟩
    refine ite2 (fun c => ?_) (fun c => ?_)
    rotate_left
    · have c := dF c
      have : at' = B.length := by omega
      subst this
      rw [List.take_length] at hI
      exact nx _ _ ⟨xs, f, _, _, _, rfl, e, hx, hf, hI, by omega⟩
    have c := dT c
    have hlt : at' < B.length := by rw [xl] at c; exact Int.ofNat_lt.mp c
    refine ⟨by omega, ?_⟩
    have Ba : B[at']? = some B[at'] := List.getElem?_eq_getElem hlt
    generalize hb : B[at'] = b at Ba
    obtain ⟨x0, hx0, hbo⟩ := hB.get Ba
    obtain ⟨t, w0, p0, rfl, ht, ⟨wx, hw, haw⟩, ⟨px, hp, hap⟩⟩ := hbo.over e
    have at0 : atI xs0 (at' : Int) = some (.ref t) := atI_nat hx0
    have wxl := haw.1
    have memb : b ∈ B := List.mem_of_getElem? Ba
    refine ⟨_, rfl, _, _, rfl, rfl, ?_⟩
    dsimp only [gName]
    refine seq_any (fun σ' H' => ∃ (m : Nat) (xs : List V) (f : Frs) (o5 : Option V), σ' = [some (.ref l), some (.int (d : Int)), some (.ref it), some (.int (at' : Int)), some (.int (m : Int)), o5] ∧ Same H H' ∧ H' it = some (.lst xs) ∧ FoAt H' xs f ∧ Fo.Is f (B.take m) d ∧ at' < m ∧ m ≤ B.length ∧ xs.length ≤ m ∧ (∀ c, B[m]? = some c → c.sh = d)) (fun σ' H2 pp => ?_) (fun nx2 => ?_)
    · obtain ⟨m, xs2, f2, o5', rfl, e2, hx2, hf2, hI2, hm1, hm2, xl2, hh2⟩ := pp
      exact ⟨_, rfl, m, xs2, f2, _, _, rfl, e2, hx2, hf2, hI2, hm2, by omega, xl2, fun _ => hh2⟩
    refine ⟨_, rfl, _, rfl, l, _, _, _, rfl, rfl, SqL.of hl', at0, t, _, 2, _, rfl, rfl, SqT.of ht, rfl, w0, _, rfl, .inl (SqL.of hw), _, rfl, rfl, _, rfl, ?_⟩
    rw [wxl]
    by_cases cd : b.ways.length = d
    · refine iteE (v := true) (decide_eq_true (congrArg (fun n : Nat => V.int (n : Int)) cd)) (iteT ?_)
      refine ⟨_, rfl, .inl ⟨rfl, _, SqL.of hx⟩, _, rfl, _, rfl, l, _, _, _, rfl, rfl, SqL.of hl', at0, t, _, 0, _, rfl, rfl, SqT.of ht, rfl, _, rfl, _, rfl, l, _, _, _, rfl, rfl, SqL.of hl', at0, t, _, 3, _, rfl, rfl, SqT.of ht, rfl, p0, _, rfl, .inl ⟨SqL.of hp, fun pt hpt => ⟨szl (by show 3 ≤ 1000000; decide), fun r hr => ?_⟩⟩⟩
      have s1 := (same_new hpt (.tup px)).trans (same_new hr (.tup [V.str "deed", V.int b.k, V.ref pt]))
      have hr1 : (upd (upd H' pt (.tup px)) r (.tup [V.str "deed", V.int b.k, V.ref pt])) r = some (.tup [V.str "deed", V.int b.k, V.ref pt]) := upd_same
      have hpt1 : (upd (upd H' pt (.tup px)) r (.tup [V.str "deed", V.int b.k, V.ref pt])) pt = some (.tup px) := (same_new hr _) _ _ upd_same
      generalize upd (upd H' pt (.tup px)) r (.tup [V.str "deed", V.int b.k, V.ref pt]) = H2 at s1 hr1 hpt1
      have hx2 := s1 _ _ hx
      refine ⟨it, _, _, rfl, rfl, hx2, szlt (by omega), ?_⟩
      have tk : TK H2 (upd H2 it (.lst (xs ++ [V.ref r]))) := TK.upd hx2
      refine nx2 _ _ ⟨at' + 1, xs ++ [.ref r], Fo.app f (.leaf b.k b.pl .nil), _, rfl, fun a o ha => by rw [upd_ne (ne_of_none ha hit)]; exact s1 _ _ (e _ _ ha), upd_same, ?_, ?_, Nat.lt_succ_self _, hlt, by rw [List.length_append, List.length_singleton]; omega, fun c hc => ?_⟩
      · exact FoAt.tk tk (FoAt.app (FoAt.over s1 hf) ⟨r, pt, [], rfl, hr1, ⟨px, hpt1, hap.mono fun x v z => z.over s1⟩, rfl⟩)
      · rw [take_snoc Ba]
        refine is_app hI (Fo.Is.leaf1 cd) (fun z c hc => ?_)
        cases hc
        exact hhd (by rcases Nat.eq_zero_or_pos at' with z0 | z0; exact absurd (by rw [z0]; rfl) z; exact z0) b Ba
      · have h1 := (hF.ok.ln at' b c Ba hc).1
        have h2 := hF.sh at' c hc
        omega
    · refine iteE (v := false) (decide_eq_false fun z => cd (ninj z)) (iteF ?_)
      have hlo := hF.lo b memb
      have hhi := hF.hi b memb
      obtain ⟨mn, rfl⟩ : ∃ k, mm = k + 1 := ⟨mm - 1, by omega⟩
      refine seq_any (fun σ' H2 => H2 = H' ∧ ∃ (m : Nat), σ' = [some (.ref l), some (.int (d : Int)), some (.ref it), some (.int (at' : Int)), some (.int (m : Int)), o5] ∧ at' < m ∧ m ≤ B.length ∧ (∀ i c, at' < i → i < m → B[i]? = some c → d < c.sh) ∧ (∀ c, B[m]? = some c → c.sh ≤ d)) (fun σ' H2 pp => ?_) (fun nx3 => ?_)
      rotate_left
      · refine while_ix B.length (fun j σ' H2 => H2 = H' ∧ ∃ (m : Nat), σ' = [some (.ref l), some (.int (d : Int)), some (.ref it), some (.int (at' : Int)), some (.int (m : Int)), o5] ∧ m = at' + 1 + j ∧ m ≤ B.length ∧ (∀ i c, at' < i → i < m → B[i]? = some c → d < c.sh)) ⟨rfl, at' + 1, rfl, rfl, hlt, fun i c h1 h2 => absurd h2 (Nat.not_lt.mpr h1)⟩ (fun j σ' H2 hj pp => ?_) (MT.and (MT.test (ME.op (MR.i0 _) (ME.var _) (ME.cb MB.len (MA.cons (ME.var _) MA.nil)))) (MT.test (ME.op (MR.i0 _) (ME.op (MR.ixT _) (ME.op (MR.ixL _) (ME.var _) (ME.var _)) (ME.c _)) (ME.var _))))
        obtain ⟨rfl, m, rfl, hm, hmB, hG⟩ := pp
        refine ⟨_, rfl, _, rfl, l, _, rfl, .inl (SqL.of hl'), _, _, rfl, rfl, _, rfl, ?_⟩
        refine ite2 (fun c => ?_) (fun c => nx3 _ _ ⟨rfl, m, rfl, by omega, hmB, hG, fun c' hc' => ?_⟩)
        · have c := dT c
          have hmlt : m < B.length := by rw [xl] at c; exact Int.ofNat_lt.mp c
          have Bm : B[m]? = some B[m] := List.getElem?_eq_getElem hmlt
          obtain ⟨x1, hx1, hbo1⟩ := hB.get Bm
          obtain ⟨t1, w1, p1, rfl, ht1, _, _⟩ := hbo1.over e
          refine ⟨_, rfl, _, rfl, l, _, _, _, rfl, rfl, SqL.of hl', atI_nat hx1, t1, _, 1, _, rfl, rfl, SqT.of ht1, rfl, _, rfl, _, _, rfl, rfl, _, rfl, ?_⟩
          refine ite2 (fun c => ?_) (fun c => nx3 _ _ ⟨rfl, m, rfl, by omega, hmB, hG, fun c' hc' => ?_⟩)
          · have c := dT c
            refine ⟨by omega, _, rfl, _, _, rfl, rfl, rfl, m + 1, rfl, by omega, hmlt, fun i c' h1 h2 h3 => ?_⟩
            by_cases z : i = m
            · subst z
              rw [Bm] at h3
              cases h3
              omega
            · exact hG i c' h1 (by omega) h3
          · have c := dF c
            rw [Bm] at hc'
            cases hc'
            omega
        · have c := dF c
          have := (List.getElem?_eq_some_iff.mp hc').1
          omega
      obtain ⟨rfl, m, rfl, hm1, hm2, hG, hend⟩ := pp
      have hwd : d < b.ways.length := Nat.lt_of_le_of_ne hlo (Ne.symm cd)
      have Wd : b.ways[d]? = some b.ways[d] := List.getElem?_eq_getElem hwd
      obtain ⟨xw, hxw, tw, rfl, htw⟩ := haw.get Wd
      refine ⟨_, rfl, _, rfl, l, _, _, _, rfl, rfl, SqL.of hl', at0, t, _, 2, _, rfl, rfl, SqT.of ht, rfl, _, rfl, w0, _, _, _, rfl, rfl, SqL.of hw, atI_nat hxw, ?_⟩
      refine ⟨_, rfl, .inl ⟨rfl, _, SqL.of hx⟩, _, rfl, tw, _, 0, _, rfl, rfl, SqT.of htw, rfl, _, rfl, tw, _, 1, _, rfl, rfl, SqT.of htw, rfl, ?_⟩
      have cy : cutV xs0 (some (at' : Int)) (some (m : Int)) = (xs0.drop at').take (m - at') := by
        have : cutV xs0 (some (at' : Int)) (some (m : Int)) = (xs0.drop (at' : Int).toNat).take ((m : Int).toNat - (at' : Int).toNat) := cut_mid xs0 (Int.natCast_nonneg _) (Int.natCast_nonneg _) (by rw [xl]; exact Int.ofNat_le.mpr hm2) (Int.ofNat_le.mpr (Nat.le_of_lt hm1))
        rw [this, Int.toNat_natCast, Int.toNat_natCast]
      refine ⟨_, rfl, _, rfl, _, rfl, _, rfl, _, rfl, l, _, rfl, SqL.of hl', fun sl hsl => ?_⟩
      have s1 := same_new hsl (.lst (cutV xs0 (some (at' : Int)) (some (m : Int))))
      have hsl1 : (upd H2 sl (.lst (cutV xs0 (some (at' : Int)) (some (m : Int))))) sl = some (.lst ((xs0.drop at').take (m - at'))) := by rw [← cy]; exact upd_same
      generalize upd H2 sl (.lst (cutV xs0 (some (at' : Int)) (some (m : Int)))) = H3 at s1 hsl1
      refine ⟨_, rfl, _, _, rfl, rfl, sl, d + 1, mn, (B.drop at').take (m - at'), rfl, ⟨_, hsl1, ((hB.mono fun x v z => z.over (e.trans s1)).drop at').take (m - at')⟩, hF.group Ba cd hm1 hG, by omega, by omega, fun r H4 f' e4 hf' hI' => ⟨szl (by show 4 ≤ 1000000; decide), fun r2 hr2 => ?_⟩⟩
      have s5 := same_new hr2 (.tup [V.str "sweep", V.bl (b.ways[d]).1, V.str (b.ways[d]).2, V.ref r])
      have hr5 : (upd H4 r2 (.tup [V.str "sweep", V.bl (b.ways[d]).1, V.str (b.ways[d]).2, V.ref r])) r2 = some (.tup [V.str "sweep", V.bl (b.ways[d]).1, V.str (b.ways[d]).2, V.ref r]) := upd_same
      have e5 := (s1.trans e4).trans s5
      have hf5 := hf'.over s5
      generalize upd H4 r2 (.tup [V.str "sweep", V.bl (b.ways[d]).1, V.str (b.ways[d]).2, V.ref r]) = H5 at e5 hr5 hf5
      have hx5 := e5 _ _ hx
      refine ⟨it, _, _, rfl, rfl, hx5, szlt (by omega), ?_⟩
      have tk : TK H5 (upd H5 it (.lst (xs ++ [V.ref r2]))) := TK.upd hx5
      obtain ⟨zs, hz1, hz2⟩ := hf5
      refine nx2 _ _ ⟨m, xs ++ [.ref r2], Fo.app f (.node (b.ways[d]).1 (b.ways[d]).2 f' .nil), _, rfl, fun a o ha => by rw [upd_ne (ne_of_none ha hit)]; exact e5 _ _ (e _ _ ha), upd_same, ?_, ?_, hm1, hm2, by rw [List.length_append, List.length_singleton]; omega, fun c hc => ?_⟩
      · exact FoAt.tk tk (FoAt.app (FoAt.over e5 hf) ⟨r2, r, zs, [], rfl, hr5, hz1, hz2, rfl⟩)
      · rw [← take_slice B (Nat.le_of_lt hm1)]
        have sl1 : (B.drop at').take (m - at') = b :: (B.drop (at' + 1)).take (m - at' - 1) := by
          rw [List.drop_eq_getElem_cons hlt, hb]
          obtain ⟨k, hk⟩ : ∃ k, m - at' = k + 1 := ⟨m - at' - 1, by omega⟩
          rw [hk]
          rfl
        rw [sl1] at hI' ⊢
        refine is_app hI (Fo.Is.node1 Wd (fun c hc => ?_) hI') (fun z c hc => ?_)
        · obtain ⟨i, hi⟩ := List.mem_iff_getElem?.mp hc
          have l2 := (List.getElem?_eq_some_iff.mp hi).1
          rw [List.length_take] at l2
          rw [List.getElem?_take_of_lt (by omega), List.getElem?_drop] at hi
          exact hG (at' + 1 + i) c (by omega) (by omega) hi
        · cases hc
          exact hhd (by rcases Nat.eq_zero_or_pos at' with z0 | z0; exact absurd (by rw [z0]; rfl) z; exact z0) b Ba
      · have h1 := hend c hc
        have h2 := hF.sh (m - 1) c (by rw [show m - 1 + 1 = m by omega]; exact hc)
        omega

theorem ok_whole (T : Tx K mg a) : FnOk P w K mg base CX0 1 a.f_l_whole a.d_l_whole ["_law_found"] spWhole := by
  refine T.F_l_whole.ok sc_l_whole (fun vs H Q E h => ?_) (fun cdv A outer s H vs Q E hr h => ?_)
  · obtain ⟨_, rfl, _⟩ := h; rfl
  obtain ⟨x, rfl, hx, q⟩ := h
  refine ⟨_, (@pss_one _ _ _ (@ps_ret _ _ _ _ (@pe_and _ _ _ _ _ _ _ (@pe_callB _ _ _ _ _ _ _ _ _ call_isi (by rfl) T.z_isinstance bt_isinstance (@pa_cons _ _ _ _ _ (pv 0) (@pa_cons _ _ _ _ _ (@pe_bltn _ _ (.ty "int") _ _ (by rfl) T.z_int bt_int rfl (by decide) (by decide)) pa_nil (by rfl)) (by rfl)) (by decide) (by decide) (by rfl) (by rfl)) (@pe_one _ _ _ _ _ (@pe_not _ _ _ _ (@pe_callB _ _ _ _ _ _ _ _ _ call_isi (by rfl) T.z_isinstance bt_isinstance (@pa_cons _ _ _ _ _ (pv 0) (@pa_cons _ _ _ _ _ (@pe_bltn _ _ (.ty "bool") _ _ (by rfl) T.z_bool bt_bool rfl (by decide) (by decide)) pa_nil (by rfl)) (by rfl)) (by decide) (by decide) (by rfl) (by rfl))))))), ?_⟩
  try dsimp only [cxK, noxK]
  cases x with
  | int i => exact ⟨_, rfl, _, _, _, _, _, rfl, rfl, .int i, rfl, _, rfl, _, rfl, _, _, _, _, _, rfl, rfl, .int i, rfl, _, rfl, q⟩
  | bl b => exact ⟨_, rfl, _, _, _, _, _, rfl, rfl, .bl b, rfl, _, rfl, _, rfl, _, _, _, _, _, rfl, rfl, .bl b, rfl, _, rfl, q⟩
  | non => exact ⟨_, rfl, _, _, _, _, _, rfl, rfl, .non, rfl, _, rfl, q⟩
  | str z => exact ⟨_, rfl, _, _, _, _, _, rfl, rfl, .str z, rfl, _, rfl, q⟩
  | _ => cases hx

theorem ok_ninit (T : Tx K mg a) : FnOk P w K mg base CX0 1 a.f_Number_init a.d_Number_init ["self", "n"] (spNInit a.c_Number) := by
  refine T.F_Number_init.ok sc_Number_init (fun vs H Q E h => ?_) (fun cdv A outer s H vs Q E hr h => ?_)
  · obtain ⟨_, _, _, rfl, _⟩ := h; rfl
  obtain ⟨x, dx, n, rfl, hx, q⟩ := h
  refine ⟨_, (@pss_one _ _ _ (@ps_fld _ _ _ _ _ _ _ _ (pv 0) (pv 1) rfl)), ?_⟩
  try dsimp only [cxK, noxK]
  exact ⟨_, rfl, _, rfl, x, _, dx, _, rfl, hx, T.cl_Number, T.n_Number_n, (by show 0 < 1000; decide), q _ (fun b o e hb => by rw [upd_ne hb]; exact e) ⟨dx, upd_same⟩⟩

theorem ok_dinit (T : Tx K mg a) : FnOk P w K mg base CX0 1 a.f_Deed_init a.d_Deed_init ["self", "names", "lows", "highs", "table", "spots", "term", "path"] (spDInit a.c_Deed) := by
  refine T.F_Deed_init.ok sc_Deed_init (fun vs H Q E h => ?_) (fun cdv A outer s H vs Q E hr h => ?_)
  · obtain ⟨_, _, _, _, _, _, _, _, _, rfl, _⟩ := h; rfl
  obtain ⟨x, dx, v1, v2, v3, v4, v5, v6, v7, rfl, hx, q⟩ := h
  refine ⟨_, (@pss_cons _ _ _ _ _ (@ps_fld _ _ _ _ _ _ _ _ (pv 0) (pv 1) rfl) (@pss_cons _ _ _ _ _ (@ps_fld _ _ _ _ _ _ _ _ (pv 0) (pv 2) rfl) (@pss_cons _ _ _ _ _ (@ps_fld _ _ _ _ _ _ _ _ (pv 0) (pv 3) rfl) (@pss_cons _ _ _ _ _ (@ps_fld _ _ _ _ _ _ _ _ (pv 0) (pv 4) rfl) (@pss_cons _ _ _ _ _ (@ps_fld _ _ _ _ _ _ _ _ (pv 0) (pv 5) rfl) (@pss_cons _ _ _ _ _ (@ps_fld _ _ _ _ _ _ _ _ (pv 0) (pv 6) rfl) (@pss_one _ _ _ (@ps_fld _ _ _ _ _ _ _ _ (pv 0) (pv 7) rfl)))))))), ?_⟩
  try dsimp only [cxK, noxK]
  refine ⟨_, rfl, _, rfl, x, _, dx, _, rfl, hx, T.cl_Deed, T.n_Deed_names, (by show 0 < 1000; decide), ?_⟩
  refine ⟨_, rfl, _, rfl, x, _, dx, _, rfl, upd_same, T.cl_Deed, T.n_Deed_lows, (by show 1 < 1000; decide), ?_⟩
  refine ⟨_, rfl, _, rfl, x, _, dx, _, rfl, upd_same, T.cl_Deed, T.n_Deed_highs, (by show 2 < 1000; decide), ?_⟩
  refine ⟨_, rfl, _, rfl, x, _, dx, _, rfl, upd_same, T.cl_Deed, T.n_Deed_table, (by show 3 < 1000; decide), ?_⟩
  refine ⟨_, rfl, _, rfl, x, _, dx, _, rfl, upd_same, T.cl_Deed, T.n_Deed_spots, (by show 4 < 1000; decide), ?_⟩
  refine ⟨_, rfl, _, rfl, x, _, dx, _, rfl, upd_same, T.cl_Deed, T.n_Deed_term, (by show 5 < 1000; decide), ?_⟩
  refine ⟨_, rfl, _, rfl, x, _, dx, _, rfl, upd_same, T.cl_Deed, T.n_Deed_path, (by show 6 < 1000; decide), ?_⟩
  exact q _ (fun b o e hb => by repeat rw [upd_ne hb]
                                exact e) ⟨dx, upd_same⟩

theorem ok_pinit (T : Tx K mg a) : FnOk P w K mg base CX0 1 a.f_Program_init a.d_Program_init ["self", "size", "deeds"] (spPInit a.c_Program) := by
  refine T.F_Program_init.ok sc_Program_init (fun vs H Q E h => ?_) (fun cdv A outer s H vs Q E hr h => ?_)
  · obtain ⟨_, _, _, _, _, rfl, _⟩ := h; rfl
  obtain ⟨x, dx, p, v1, ys, rfl, hx, hp, yl, q⟩ := h
  refine ⟨_, (@pss_cons _ _ _ _ _ (@ps_fld _ _ _ _ _ _ _ _ (pv 0) (pv 1) rfl) (@pss_one _ _ _ (@ps_fld _ _ _ _ _ _ _ _ (pv 0) (@pe_callTy _ _ _ _ _ _ _ _ _ call_list_of (by rfl) T.z_list bt_list (@pa_cons _ _ _ _ _ (pv 2) pa_nil (by rfl)) (by decide) (by decide) (by rfl) (by rfl)) rfl))), ?_⟩
  try dsimp only [cxK, noxK]
  refine ⟨_, rfl, _, rfl, x, _, dx, _, rfl, hx, T.cl_Program, T.n_Program_size, (by show 0 < 1000; decide), ?_⟩
  have npx : p ≠ x := ne_of hp hx (by intro z; cases z)
  refine ⟨_, rfl, p, ys, rfl, .inl (SqL.of (by rw [upd_ne npx]; exact hp)), fun l hl => ?_⟩
  have nxl : x ≠ l := fun e => by rw [e, upd_same] at hl; cases hl
  have hlH : H l = none := by rw [upd_ne (Ne.symm nxl)] at hl; exact hl
  refine ⟨_, rfl, x, _, dx, _, rfl, (by rw [upd_ne nxl]; exact upd_same), T.cl_Program, T.n_Program_deeds, (by show 1 < 1000; decide), ?_⟩
  refine q _ l (fun b o e hb => ?_) ⟨dx, upd_same⟩ (by rw [upd_ne (Ne.symm nxl)]; exact upd_same)
  rw [upd_ne hb, upd_ne (ne_of_none e hlH), upd_ne hb]
  exact e

theorem ok_alike_numbers (T : Tx K mg a) : FnOk P w K mg base CX0 1 a.f_alike_numbers a.d_alike_numbers ["path", "other", "most"] spAlikeN := by
  refine T.F_alike_numbers.ok sc_alike_numbers (fun vs H Q E h => ?_) (fun cdv A outer s H vs Q E hr h => ?_)
  · obtain ⟨_, _, _, _, _, _, rfl, _⟩ := h; rfl
  obtain ⟨p1, p2, xs, ys, m, k, rfl, hp1, hp2, hm1, hm2, hm3, hkm, ke, kn, q⟩ := h
  refine ⟨_, (@pss_cons _ _ _ _ _ (@ps_for _ _ _ _ _ _ _ _ PassesOwn.never rfl (@pi_range1 _ _ _ _ _ _ (by rfl) T.z_range (@pa_cons _ _ _ _ _ (pv 2) pa_nil (by rfl)) (by rfl)) (pg_name (i := 3) sc_alike_numbers.nd rfl (Or.inl rfl)) (@pss_one _ _ _ (@ps_if _ _ _ _ _ _ _ _ (@pt_cmpR _ _ _ _ _ _ _ _ op_ne (@pe_ix _ _ _ _ _ _ _ ix_tup (pv 0) (pv 3) (fun _ _ => rfl)) (@pe_ix _ _ _ _ _ _ _ ix_tup (pv 1) (pv 3) (fun _ _ => rfl)) (@nomark _ _ (by decide) (by decide))) (@pss_one _ _ _ (@ps_ret _ _ _ _ (pv 3))) pss_nil)) (by intro _ ; rfl)) (@pss_one _ _ _ (@ps_ret _ _ _ _ (pv 2)))), ?_⟩
  try dsimp only [cxK, noxK]
  refine ⟨_, rfl, _, rfl, by omega, by omega, ?_⟩
  refine for_range (lo := 0) (n := m) (fun i σ' H' => H' = H ∧ (∃ o, σ' = [some (.ref p1), some (.ref p2), some (.int (m : Int)), o]) ∧ i ≤ k) ⟨rfl, ⟨_, rfl⟩, Nat.zero_le _⟩ (fun i σ' H' hi p => ?_) (fun σ' H' p => ?_)
  · obtain ⟨rfl, ⟨o, rfl⟩, hik⟩ := p
    have a1 : atI (xs.map V.int) (0 + (i : Int)) = some (.int (xs.getD i 0)) := by
      have := cell_in (ns := xs) (k := 0 + (i : Int)) (by omega) (by omega)
      rwa [show (0 + (i : Int)).toNat = i by rw [Int.zero_add]; rfl] at this
    have a2 : atI (ys.map V.int) (0 + (i : Int)) = some (.int (ys.getD i 0)) := by
      have := cell_in (ns := ys) (k := 0 + (i : Int)) (by omega) (by omega)
      rwa [show (0 + (i : Int)).toNat = i by rw [Int.zero_add]; rfl] at this
    refine ⟨_, rfl, _, rfl, p1, _, _, _, rfl, rfl, SqT.of hp1, a1, ?_⟩
    refine ⟨_, rfl, _, rfl, p2, _, _, _, rfl, rfl, SqT.of hp2, a2, rfl, _, rfl, ?_⟩
    by_cases hk : i < k
    · refine iteE (ndF (congrArg V.int (ke i hk))) (iteF ?_)
      exact ⟨rfl, ⟨_, rfl⟩, hk⟩
    · have e : i = k := by omega
      subst e
      refine iteE (ndT (fun z => kn hi (V.int.inj z))) (iteT ?_)
      exact ⟨_, rfl, by rw [Int.zero_add]; exact q⟩
  · obtain ⟨rfl, ⟨o, rfl⟩, hik⟩ := p
    have e : m = k := by omega
    subst e
    exact ⟨_, rfl, q⟩

theorem ok_deedsw (T : Tx K mg a) : ∀ n : Nat, FnOk P w K mg base CX0 (n + 2) a.f_deeds_within a.d_deeds_within ["items", "path", "cuts"] (spDeedsP n)
  | 0 => by
    have no : ∀ vs H Q E, ¬ spDeedsP 0 vs H Q E := fun vs H Q E h => by
      obtain ⟨it, pa, cu, f, P', cs, _, _, _, _, hd, _⟩ := h
      have := dep_pos f
      omega
    exact ⟨fun vs H Q E h => absurd h (no vs H Q E), fun A outer s H args us vs Q E _ _ _ _ h => absurd h (no vs H Q E)⟩
  | n + 1 => by
    have G_deeds_within := ok_deedsw T n
    refine T.F_deeds_within.ok sc_deeds_within (fun vs H Q E h => ?_) (fun cdv A outer s H vs Q E hr h => ?_)
    · obtain ⟨_, _, _, _, _, _, rfl, _⟩ := h; rfl
    obtain ⟨it, pa, cu, f, PP, cs, rfl, ⟨xs, hit, hf⟩, hpa, hcu, hdep, pl, cl, hlen, q⟩ := h
    refine ⟨_, (@pss_cons _ _ _ _ _ (@ps_set _ _ (3) _ _ _ _ sc_deeds_within.nd rfl (Or.inl rfl) (@pe_lst _ _ _ _ pa_nil) (by rfl) (by first | exact .inl rfl | exact .inr rfl | assumption)) (@pss_cons _ _ _ _ _ (@ps_for _ _ _ _ _ _ _ _ PassesOwn.never rfl (@pi_enumT _ _ _ _ _ _ _ _ (by rfl) T.z_enumerate (@pa_cons _ _ _ _ _ (pv 0) pa_nil (by rfl)) (by rfl)) (pg_tup rfl (pgs_cons (pg_name (i := 4) sc_deeds_within.nd rfl (Or.inl rfl)) (pgs_cons (pg_name (i := 5) sc_deeds_within.nd rfl (Or.inl rfl)) pgs_nil))) (@pss_cons _ _ _ _ _ (@ps_set _ _ (6) _ _ _ _ sc_deeds_within.nd rfl (Or.inl rfl) (@pe_op _ _ _ _ _ _ _ _ op_catH (pv 1) (@pe_tup _ _ _ _ _ (@pa_cons _ _ _ _ _ (pv 4) pa_nil (by rfl)))) (by rfl) (by first | exact .inl rfl | exact .inr rfl | assumption)) (@pss_one _ _ _ (@ps_if _ _ _ _ _ _ _ _ (@pt_cmpR _ _ _ _ _ _ _ _ op_eq (@pe_ix _ _ _ _ _ _ _ ix_tup (pv 5) pe_int (fun _ _ => rfl)) pe_str (@nomark _ _ (by decide) (by decide))) (@pss_one _ _ _ (@ps_expr _ _ _ _ (@pe_bm _ _ _ _ _ _ _ _ _ _ _ _ PySem.F.plainAttrs_list PySem.F.slot_list_append PySem.F.type_list_append mt_append (pv 3) (@pa_cons _ _ _ _ _ (@pe_tupq _ _ _ _ _ (@paq_cons _ _ _ _ _ (@pe_ix _ _ _ _ _ _ _ ix_tup (pv 5) pe_int (fun _ _ => rfl)) (@paq_cons _ _ _ _ _ (@pe_ix _ _ _ _ _ _ _ ix_tup (pv 5) pe_int (fun _ _ => rfl)) (@paq_cons _ _ _ _ _ (pv 6) (@paq_cons _ _ _ _ _ (pv 2) paq_nil star_N) star_N) star_S) star_S)) pa_nil (by rfl)) (by rfl) (by rfl) (by rfl) (by rfl) (by rfl)) (by rfl))) (@pss_one _ _ _ (@ps_expr _ _ _ _ (@pe_bm _ _ _ _ _ _ _ _ _ _ _ _ PySem.F.plainAttrs_list PySem.F.slot_list_extend PySem.F.type_list_extend mt_extend (pv 3) (@pa_cons _ _ _ _ _ (@pe_call _ _ _ _ _ _ _ _ _ _ _ _ _ _ _ _ G_deeds_within (hr.mono (by omega)) (by rfl) T.m_deeds_within T.F_deeds_within.kp T.b_deeds_within .nil pass0 (@pa_cons _ _ _ _ _ (@pe_ix _ _ _ _ _ _ _ ix_tup (pv 5) pe_int (fun _ _ => rfl)) (@pa_cons _ _ _ _ _ (pv 6) (@pa_cons _ _ _ _ _ (@pe_op _ _ _ _ _ _ _ _ op_catH (pv 2) (@pe_tup _ _ _ _ _ (@pa_cons _ _ _ _ _ (@pe_ix _ _ _ _ _ _ _ ix_tup (pv 5) pe_int (fun _ _ => rfl)) pa_nil (by rfl)))) pa_nil (by rfl)) (by rfl)) (by rfl)) (by decide) (by rfl) (by rfl)) pa_nil (by rfl)) (by rfl) (by rfl) (by rfl) (by rfl) (by rfl)) (by rfl)))))) (by intro _ ; rfl)) (@pss_one _ _ _ (@ps_ret _ _ _ _ (pv 3))))), ?_⟩
    try dsimp only [cxK, noxK]
    refine ⟨szl (by show 0 ≤ 1000000; decide), fun fo hfo => ?_⟩
    have e1 := same_new hfo (.lst [])
    have hfo1 : (upd H fo (.lst [])) fo = some (.lst []) := upd_same
    generalize upd H fo (.lst []) = H1 at e1 hfo1
    refine ⟨_, rfl, it, rfl, ⟨_, SqT.of (e1 _ _ hit)⟩, ?_⟩
    refine for_enumT (xs := xs) (fun i σ' H' => ∃ (g : Frs) (done : List Fo.En) (ys : List V) (o4 o5 o6 : Option V), σ' = [some (.ref it), some (.ref pa), some (.ref cu), some (.ref fo), o4, o5, o6] ∧ Same H H' ∧ FoAt H (xs.drop i) g ∧ dep g ≤ n + 1 ∧ H' fo = some (.lst ys) ∧ All2 (EnAt H') ys done ∧ done ++ Fo.deedsF g PP i = Fo.deedsF f PP 0) ⟨f, [], [], _, _, _, rfl, e1, hf, hdep, hfo1, .nil, rfl⟩ (fun i σ' H' _ pp => by obtain ⟨_, _, _, _, _, _, _, e, _⟩ := pp; exact SqT.of (e _ _ hit)) (fun i x Tt σ' H' hx pp hT => ?_) (fun σ' H' pp => ?_)
    rotate_left
    · obtain ⟨g, done, ys, o4, o5, o6, rfl, e, hg, _, hy, ay, hd⟩ := pp
      have hz : xs.drop xs.length = [] := List.drop_eq_nil_of_le (Nat.le_refl _)
      rw [hz] at hg
      have gn : g = .nil := by
        cases g with
        | nil => rfl
        | leaf k pl r => obtain ⟨_, _, _, z, _⟩ := hg; cases z
        | node c w s r => obtain ⟨_, _, _, _, z, _⟩ := hg; cases z
      subst gn
      have : done = Fo.deedsF f PP 0 := by rw [← hd]; show done = done ++ []; rw [List.append_nil]
      rw [this] at ay
      exact ⟨_, rfl, q fo ys _ e hy ay⟩
    obtain ⟨g, done, ys, o4, o5, o6, rfl, e, hg, gdep, hy, ay, hd⟩ := pp
    obtain ⟨hi, ex⟩ := List.getElem?_eq_some_iff.mp hx
    rw [List.drop_eq_getElem_cons hi, ex] at hg
    have tot := congrArg List.length hd
    rw [List.length_append] at tot
    have yl := ay.1
    have sT := same_new hT (.tup [V.int (i : Int), x])
    have e2 := e.trans sT
    have hy2 := sT _ _ hy
    have ay2 := ay.mono fun y v z => z.over sT
    refine ⟨Tt, _, rfl, SqT.of upd_same, rfl, _, _, rfl, _, _, rfl, rfl, ?_⟩
    generalize upd H' Tt (.tup [V.int (i : Int), x]) = H2 at e2 hy2 ay2
    refine ⟨_, rfl, _, rfl, szl (by show 1 ≤ 1000000; decide), fun t1 ht1 => ?_⟩
    have s3 := same_new ht1 (.tup [V.int (i : Int)])
    refine ⟨pa, t1, _, [V.int (i : Int)], rfl, rfl, s3 _ _ (e2 _ _ hpa), upd_same, szl (by rw [List.length_map, List.length_singleton]; omega), fun he H3 e3 hhe => ?_⟩
    have hhe : H3 he = some (.tup ((PP ++ [(i : Int)]).map V.int)) := by rw [List.map_append]; exact hhe
    have e23 := s3.trans e3
    have eH3 := e2.trans e23
    have hy3 := e23 _ _ hy2
    have ay3 := ay2.mono fun y v z => z.over e23
    dsimp only [gName]
    clear s3 e3 sT
    cases g with
    | nil => cases hg
    | leaf k pl rest =>
      obtain ⟨t, pp, zs, z, ht, hpr, hrest⟩ := hg
      cases z
      change dep rest ≤ n + 1 at gdep
      change done ++ (⟨k, pl, PP ++ [(i : Int)]⟩ :: Fo.deedsF rest PP (i + 1)) = Fo.deedsF f PP 0 at hd
      have tot' : done.length + (Fo.deedsF rest PP (i + 1)).length + 1 = (Fo.deedsF f PP 0).length := by rw [← hd, List.length_append, List.length_cons]; omega
      refine ⟨_, rfl, t, _, 0, _, rfl, rfl, SqT.of (eH3 _ _ ht), rfl, rfl, _, rfl, iteE (v := true) (decide_eq_true rfl) (iteT ?_)⟩
      refine ⟨_, rfl, .inl ⟨rfl, _, SqL.of hy3⟩, _, rfl, t, _, 1, _, rfl, rfl, SqT.of (eH3 _ _ ht), rfl, _, rfl, t, _, 2, _, rfl, rfl, SqT.of (eH3 _ _ ht), rfl, _, rfl, _, rfl, szl (by show 4 ≤ 1000000; decide), fun r hr => ?_⟩
      have s4 := same_new hr (.tup [V.int k, V.ref pp, V.ref he, V.ref cu])
      have nr : r ≠ fo := fun z => by rw [z, hy3] at hr; cases hr
      refine ⟨fo, _, _, rfl, rfl, s4 _ _ hy3, szlt (by omega), ?_⟩
      have tk := (Same.tk s4).trans (TK.upd (o := .lst (ys ++ [V.ref r])) (s4 _ _ hy3))
      refine ⟨rest, done ++ [⟨k, pl, PP ++ [(i : Int)]⟩], _, _, _, _, rfl, fun a o ha => by rw [upd_ne (ne_of_none ha hfo)]; exact s4 _ _ (eH3 _ _ ha), hrest, gdep, upd_same, ?_, by rw [List.append_assoc]; exact hd⟩
      exact (ay3.mono fun y v z => z.tk tk).snoc ⟨r, pp, he, cu, rfl, by rw [upd_ne nr]; exact upd_same, (hpr.over eH3).tk tk, tk _ _ hhe⟩
    | node c w sub rest =>
      obtain ⟨t, pp, zs, us, z, ht, hpp, hsub, hrest⟩ := hg
      cases z
      unfold dep at gdep
      change done ++ (Fo.deedsF sub (PP ++ [(i : Int)]) 0 ++ Fo.deedsF rest PP (i + 1)) = Fo.deedsF f PP 0 at hd
      have tot' : done.length + ((Fo.deedsF sub (PP ++ [(i : Int)]) 0).length + (Fo.deedsF rest PP (i + 1)).length) = (Fo.deedsF f PP 0).length := by rw [← hd, List.length_append, List.length_append]
      refine ⟨_, rfl, t, _, 0, _, rfl, rfl, SqT.of (eH3 _ _ ht), rfl, rfl, _, rfl, iteE (v := false) (dS (by decide +kernel)) (iteF ?_)⟩
      refine ⟨_, rfl, .inl ⟨rfl, _, SqL.of hy3⟩, _, rfl, t, _, 3, _, rfl, rfl, SqT.of (eH3 _ _ ht), rfl, _, rfl, _, rfl, _, rfl, t, _, 1, _, rfl, rfl, SqT.of (eH3 _ _ ht), rfl, szl (by show 1 ≤ 1000000; decide), fun t2 ht2 => ?_⟩
      have s4 := same_new ht2 (.tup [V.bl c])
      refine ⟨cu, t2, cs, [V.bl c], rfl, rfl, s4 _ _ (eH3 _ _ hcu), upd_same, szl (by rw [List.length_singleton]; omega), fun cu2 H4 e4 hcu2 => ?_⟩
      have e34 := s4.trans e4
      have eH4 := eH3.trans e34
      refine ⟨pp, he, cu2, sub, PP ++ [(i : Int)], cs ++ [V.bl c], rfl, ⟨zs, eH4 _ _ hpp, FoAt.over eH4 hsub⟩, e34 _ _ hhe, hcu2, by omega, by rw [List.length_append, List.length_singleton]; omega, by rw [List.length_append, List.length_singleton]; omega, by omega, fun r ys2 H5 e5 hr5 ay5 => ?_⟩
      have yl5 := ay5.1
      have hy5 := (e34.trans e5) _ _ hy3
      refine ⟨fo, r, _, _, rfl, rfl, hy5, hr5, szl (by omega), ?_⟩
      have tk := TK.upd (o := .lst (ys ++ ys2)) hy5
      refine ⟨rest, done ++ Fo.deedsF sub (PP ++ [(i : Int)]) 0, _, _, _, _, rfl, fun a o ha => by rw [upd_ne (ne_of_none ha hfo)]; exact e5 _ _ (eH4 _ _ ha), hrest, by omega, upd_same, ?_, by rw [List.append_assoc]; exact hd⟩
      exact ((ay3.mono fun y v z => (z.over (e34.trans e5)).tk tk)).app (ay5.mono fun y v z => z.tk tk)

theorem ok_standp (T : Tx K mg a) : FnOk P w K mg base CX0 10 a.f_stand a.d_stand ["plan", "k"] spStandP := by
  have G_deeds_within := ok_deedsw (P := P) (w := w) (base := base) T 7
  refine T.F_stand.ok sc_stand (fun vs H Q E h => ?_) (fun cdv A outer s H vs Q E hr h => ?_)
  · obtain ⟨_, _, _, _, _, rfl, _⟩ := h; rfl
  obtain ⟨p, k, f, i, e0, rfl, hf, hdep, hlen, he0, hk0, hfirst, q⟩ := h
  refine ⟨_, (@pss_cons _ _ _ _ _ (@ps_for _ _ _ _ _ _ _ _ PassesOwn.never rfl (@pi_list _ _ _ _ (@pe_call _ _ _ _ _ _ _ _ _ _ _ _ _ _ _ _ G_deeds_within (hr.mono (by omega)) (by rfl) T.m_deeds_within T.F_deeds_within.kp T.b_deeds_within .nil pass0 (@pa_cons _ _ _ _ _ (pv 0) (@pa_cons _ _ _ _ _ (@pe_tup _ _ _ _ _ pa_nil) (@pa_cons _ _ _ _ _ (@pe_tup _ _ _ _ _ pa_nil) pa_nil (by rfl)) (by rfl)) (by rfl)) (by decide) (by rfl) (by rfl))) (pg_tup rfl (pgs_cons (pg_name (i := 2) sc_stand.nd rfl (Or.inl rfl)) (pgs_cons (pg_name (i := 3) sc_stand.nd rfl (Or.inl rfl)) (pgs_cons (pg_name (i := 4) sc_stand.nd rfl (Or.inl rfl)) (pgs_cons (pg_name (i := 5) sc_stand.nd rfl (Or.inl rfl)) pgs_nil))))) (@pss_one _ _ _ (@ps_if _ _ _ _ _ _ _ _ (@pt_cmpR _ _ _ _ _ _ _ _ op_eq (pv 2) (pv 1) (@nomark _ _ (by decide) (by decide))) (@pss_one _ _ _ (@ps_ret _ _ _ _ (@pe_tup _ _ _ _ _ (@pa_cons _ _ _ _ _ (pv 4) (@pa_cons _ _ _ _ _ (pv 3) pa_nil (by rfl)) (by rfl))))) pss_nil)) (by intro _ ; rfl)) (@pss_one _ _ _ (@ps_ret _ _ _ _ pe_non))), ?_⟩
  try dsimp only [cxK, noxK]
  refine ⟨_, rfl, szl (by show 0 ≤ 1000000; decide), fun t1 ht1 => ⟨szl (by show 0 ≤ 1000000; decide), fun t2 ht2 => ?_⟩⟩
  have s1 := same_new ht1 (.tup [])
  have s2 := same_new ht2 (.tup [])
  have e2 := s1.trans s2
  refine ⟨p, t1, t2, f, [], [], rfl, hf.over e2, s2 _ _ upd_same, upd_same, hdep, by decide, by decide, hlen, fun l ys H3 e3 hl ay => ?_⟩
  have e23 := e2.trans e3
  have yl := ay.1
  have hi : i < ys.length := by rw [yl]; exact (List.getElem?_eq_some_iff.mp he0).1
  refine ⟨l, rfl, ⟨_, SqL.of hl⟩, ?_⟩
  refine for_list (xs := ys) (fun j σ' H' => H' = H3 ∧ j ≤ i ∧ ∃ o2 o3 o4 o5, σ' = [some (.ref p), some (.int k), o2, o3, o4, o5]) ⟨rfl, Nat.zero_le _, _, _, _, _, rfl⟩ (fun j σ' H' _ pp => by rw [pp.1]; exact SqL.of hl) (fun j x σ' H' hx pp => ?_) (fun σ' H' pp => ?_)
  · obtain ⟨rfl, hji, o2, o3, o4, o5, rfl⟩ := pp
    obtain ⟨en, hen, t, pl, pt, cu, rfl, ht, hpl, hpt⟩ := ay.get' hx
    refine ⟨t, _, rfl, SqT.of ht, rfl, _, _, rfl, _, _, rfl, _, _, rfl, _, _, rfl, rfl, ?_⟩
    refine ⟨_, rfl, _, rfl, rfl, _, rfl, ?_⟩
    by_cases c : j = i
    · subst c
      rw [he0] at hen
      cases hen
      refine iteE (v := true) (decide_eq_true (congrArg V.int hk0)) (iteT ?_)
      refine ⟨_, rfl, _, rfl, szl (by show 2 ≤ 1000000; decide), fun r hr => ?_⟩
      have s4 := same_new hr (.tup [V.ref pt, V.ref pl])
      exact q r pt pl _ (e23.trans s4) upd_same (s4 _ _ hpt) (hpl.over s4)
    · refine iteE (v := false) (decide_eq_false fun z => hfirst j en (by omega) hen (V.int.inj z)) (iteF ?_)
      exact ⟨rfl, by omega, _, _, _, _, rfl⟩
  · obtain ⟨_, h, _⟩ := pp
    omega

theorem ok_round (T : Tx K mg a) : FnOk P w K mg base CX0 11 a.f_round_both a.d_round_both ["plan", "k", "l"] spRound := by
  have G_stand := ok_standp (P := P) (w := w) (base := base) T
  have G_alike_numbers := ok_alike_numbers (P := P) (w := w) (base := base) T
  refine T.F_round_both.ok sc_round_both (fun vs H Q E h => ?_) (fun cdv A outer s H vs Q E hr h => ?_)
  · obtain ⟨_, _, _, _, _, _, _, rfl, _⟩ := h; rfl
  obtain ⟨p, B, i, j, s, b, c, rfl, ⟨f, hf, hI, g, nd⟩, hb, hc, hm, q⟩ := h
  refine ⟨_, (@pss_cons _ _ _ _ _ (@ps_set _ _ (3) _ _ _ _ sc_round_both.nd rfl (Or.inl rfl) (@pe_call _ _ _ _ _ _ _ _ _ _ _ _ _ _ _ _ G_stand (hr.mono (by omega)) (by rfl) T.m_stand T.F_stand.kp T.b_stand .nil pass0 (@pa_cons _ _ _ _ _ (pv 0) (@pa_cons _ _ _ _ _ (pv 1) pa_nil (by rfl)) (by rfl)) (by decide) (by rfl) (by rfl)) (by rfl) (by first | exact .inl rfl | exact .inr rfl | assumption)) (@pss_cons _ _ _ _ _ (@ps_set _ _ (4) _ _ _ _ sc_round_both.nd rfl (Or.inl rfl) (@pe_call _ _ _ _ _ _ _ _ _ _ _ _ _ _ _ _ G_stand (hr.mono (by omega)) (by rfl) T.m_stand T.F_stand.kp T.b_stand .nil pass0 (@pa_cons _ _ _ _ _ (pv 0) (@pa_cons _ _ _ _ _ (pv 2) pa_nil (by rfl)) (by rfl)) (by decide) (by rfl) (by rfl)) (by rfl) (by first | exact .inl rfl | exact .inr rfl | assumption)) (@pss_cons _ _ _ _ _ (@ps_set _ _ (5) _ _ _ _ sc_round_both.nd rfl (Or.inl rfl) (@pe_lst _ _ _ _ pa_nil) (by rfl) (by first | exact .inl rfl | exact .inr rfl | assumption)) (@pss_cons _ _ _ _ _ (@ps_set _ _ (6) _ _ _ _ sc_round_both.nd rfl (Or.inl rfl) (pv 0) (by rfl) (by first | exact .inl rfl | exact .inr rfl | assumption)) (@pss_cons _ _ _ _ _ (@ps_for _ _ _ _ _ _ _ _ PassesOwn.never rfl (@pi_range1 _ _ _ _ _ _ (by rfl) T.z_range (@pa_cons _ _ _ _ _ (@pe_call _ _ _ _ _ _ _ _ _ _ _ _ _ _ _ _ G_alike_numbers (hr.mono (by omega)) (by rfl) T.m_alike_numbers T.F_alike_numbers.kp T.b_alike_numbers .nil pass0 (@pa_cons _ _ _ _ _ (@pe_ix _ _ _ _ _ _ _ ix_tup (pv 3) pe_int (fun _ _ => rfl)) (@pa_cons _ _ _ _ _ (@pe_ix _ _ _ _ _ _ _ ix_tup (pv 4) pe_int (fun _ _ => rfl)) (@pa_cons _ _ _ _ _ (@pe_callB _ _ _ _ _ _ _ _ _ (@call_min2 _ rfl) (by rfl) T.z_min bt_min (@pa_cons _ _ _ _ _ (@pe_callB _ _ _ _ _ _ _ _ _ call_len_seq (by rfl) T.z_len bt_len (@pa_cons _ _ _ _ _ (@pe_ix _ _ _ _ _ _ _ ix_tup (pv 3) pe_int (fun _ _ => rfl)) pa_nil (by rfl)) (by decide) (by decide) (by rfl) (by rfl)) (@pa_cons _ _ _ _ _ (@pe_callB _ _ _ _ _ _ _ _ _ call_len_seq (by rfl) T.z_len bt_len (@pa_cons _ _ _ _ _ (@pe_ix _ _ _ _ _ _ _ ix_tup (pv 4) pe_int (fun _ _ => rfl)) pa_nil (by rfl)) (by decide) (by decide) (by rfl) (by rfl)) pa_nil (by rfl)) (by rfl)) (by decide) (by decide) (by rfl) (by rfl)) pa_nil (by rfl)) (by rfl)) (by rfl)) (by decide) (by rfl) (by rfl)) pa_nil (by rfl)) (by rfl)) (pg_name (i := 7) sc_round_both.nd rfl (Or.inl rfl)) (@pss_cons _ _ _ _ _ (@ps_set _ _ (8) _ _ _ _ sc_round_both.nd rfl (Or.inl rfl) (@pe_ix _ _ _ _ _ _ _ ix_tup (pv 6) (@pe_ix _ _ _ _ _ _ _ ix_tup (@pe_ix _ _ _ _ _ _ _ ix_tup (pv 3) pe_int (fun _ _ => rfl)) (pv 7) (fun _ _ => rfl)) (fun _ _ => rfl)) (by rfl) (by first | exact .inl rfl | exact .inr rfl | assumption)) (@pss_cons _ _ _ _ _ (@ps_expr _ _ _ _ (@pe_bm _ _ _ _ _ _ _ _ _ _ _ _ PySem.F.plainAttrs_list PySem.F.slot_list_append PySem.F.type_list_append mt_append (pv 5) (@pa_cons _ _ _ _ _ (@pe_tupq _ _ _ _ _ (@paq_cons _ _ _ _ _ (@pe_slice _ _ _ _ _ _ _ _ _ _ sl_tupH (@pe_ix _ _ _ _ _ _ _ ix_tup (pv 3) pe_int (fun _ _ => rfl)) po_none (@po_some _ _ _ (@pe_op _ _ _ _ _ _ _ _ op_add (pv 7) pe_int))) (@paq_cons _ _ _ _ _ (@pe_ix _ _ _ _ _ _ _ ix_tup (pv 8) pe_int (fun _ _ => rfl)) (@paq_cons _ _ _ _ _ (@pe_ix _ _ _ _ _ _ _ ix_tup (pv 8) pe_int (fun _ _ => rfl)) (@paq_cons _ _ _ _ _ (@pe_ix _ _ _ _ _ _ _ ix_tup (@pe_ix _ _ _ _ _ _ _ ix_tup (pv 3) pe_int (fun _ _ => rfl)) (pv 7) (fun _ _ => rfl)) (@paq_cons _ _ _ _ _ (@pe_ix _ _ _ _ _ _ _ ix_tup (@pe_ix _ _ _ _ _ _ _ ix_tup (pv 4) pe_int (fun _ _ => rfl)) (pv 7) (fun _ _ => rfl)) paq_nil star_S) star_S) star_S) star_S) star_S)) pa_nil (by rfl)) (by rfl) (by rfl) (by rfl) (by rfl) (by rfl)) (by rfl)) (@pss_one _ _ _ (@ps_set _ _ (6) _ _ _ _ sc_round_both.nd rfl (Or.inl rfl) (@pe_ix _ _ _ _ _ _ _ ix_tup (pv 8) pe_int (fun _ _ => rfl)) (by rfl) (by first | exact .inl rfl | exact .inr rfl | assumption))))) (by intro _ ; rfl)) (@pss_one _ _ _ (@ps_ret _ _ _ _ (pv 5)))))))), ?_⟩
  try dsimp only [cxK, noxK]
  have dep7 : dep f ≤ 7 := dep_of f B 0 6 hI fun b hb => by have := (g.all b hb).len; omega
  have dl : (Fo.deedsF f [] 0).length ≤ 1000 := by rw [Fo.deeds_len [] 0 hI]; have := g.len; omega
  obtain ⟨x, hx, xk, xpl⟩ := en_at hI hb
  obtain ⟨y, hy, yk, ypl⟩ := en_at hI hc
  obtain ⟨sb, sc, agree, differ, xl, yl⟩ := paths hI g hb hc hx hy hm
  have gb := g.all b (List.mem_of_getElem? hb)
  have gc := g.all c (List.mem_of_getElem? hc)
  have bw := gb.len
  have cw := gc.len
  obtain ⟨r0, rs0, ep, dn⟩ := Fo.deeds_down f B 0 [] 0 i x b hI (fun _ _ _ => Nat.zero_le _) g.ok (fun _ _ => Nat.zero_le _) hx hb
  rw [Nat.zero_add, List.nil_append] at ep
  refine ⟨_, rfl, _, rfl, p, b.k, f, i, x, rfl, hf, dep7, dl, hx, xk, en_first hI nd hb, fun r1 pt1 pl1 H1 e1 hr1 hpt1 hpl1 => ?_⟩
  refine ⟨_, rfl, _, rfl, p, c.k, f, j, y, rfl, hf.over e1, dep7, dl, hy, yk, en_first hI nd hc, fun r2 pt2 pl2 H2 e2 hr2 hpt2 hpl2 => ?_⟩
  dsimp only [gName]
  have hr1 := e2 _ _ hr1
  have hpt1 := e2 _ _ hpt1
  obtain ⟨px, hpx, apx⟩ := hpl1.over e2
  obtain ⟨qx, hqx, aqx⟩ := hpl2
  rw [xpl] at apx
  rw [ypl] at aqx
  have pxl : px.length = b.ways.length := by rw [apx.1, gb.pll]
  have qxl : qx.length = c.ways.length := by rw [aqx.1, gc.pll]
  have e2 := e1.trans e2
  refine ⟨szl (by show 0 ≤ 1000000; decide), fun fo hfo => ?_⟩
  have s3 := same_new hfo (.lst [])
  have hfo3 : (upd H2 fo (.lst [])) fo = some (.lst []) := upd_same
  have fo0 := e2.free hfo
  generalize upd H2 fo (.lst []) = H3 at s3 hfo3
  refine ⟨_, rfl, ?_⟩
  have e3 := e2.trans s3
  have hmin : (if ((qx.length : Nat) : Int) < ((px.length : Nat) : Int) then ((qx.length : Nat) : Int) else ((px.length : Nat) : Int)) = ((min b.ways.length c.ways.length : Nat) : Int) := by split <;> omega
  refine ⟨_, rfl, r1, _, 0, _, rfl, rfl, SqT.of (s3 _ _ hr1), rfl, _, rfl, r2, _, 0, _, rfl, rfl, SqT.of (s3 _ _ hr2), rfl, _, rfl, r1, _, 1, _, rfl, rfl, SqT.of (s3 _ _ hr1), rfl, pl1, _, rfl, .inr (SqT.of (s3 _ _ hpx)), _, rfl, r2, _, 1, _, rfl, rfl, SqT.of (s3 _ _ hr2), rfl, pl2, _, rfl, .inr (SqT.of (s3 _ _ hqx)), _, _, rfl, ?_⟩
  rw [hmin]
  refine ⟨pt1, pt2, x.path, y.path, min b.ways.length c.ways.length, s, rfl, s3 _ _ hpt1, s3 _ _ hpt2, by omega, by omega, by omega, by omega, agree, fun z => differ (by omega) (by omega), _, rfl, by omega, by omega, ?_⟩
  refine for_range (lo := 0) (n := s) (fun e σ' H' => ∃ (ite : Addr) (fe : Frs) (rs : List Nat) (ys : List V) (o7 o8 : Option V), σ' = [some (.ref p), some (.int b.k), some (.int c.k), some (.ref r1), some (.ref r2), some (.ref fo), some (.ref ite), o7, o8] ∧ (∀ a o, a ≠ fo → H3 a = some o → H' a = some o) ∧ FoT H3 ite fe ∧ Fo.Down fe rs (b.ways.drop e) ∧ x.path.drop e = rs.map (fun n : Nat => (n : Int)) ∧ H' fo = some (.lst ys) ∧ All2 (RbAt H') ys (rbs b c e)) ⟨p, f, r0 :: rs0, [], _, _, rfl, fun _ _ _ h => h, hf.over e3, dn, ep, hfo3, .nil⟩ (fun e σ' H' he pp => ?_) (fun σ' H' pp => ?_)
  rotate_left
  · obtain ⟨ite, fe, rs, ys, o7, o8, rfl, k, _, _, _, hy', ay⟩ := pp
    exact ⟨_, rfl, q fo ys _ (fun a o ha => k a o (ne_of_none ha fo0) (e3 _ _ ha)) fo0 hy' ay ⟨sb, sc⟩⟩
  obtain ⟨ite, fe, rs, ys, o7, o8, rfl, k, ⟨zs, hite, hfe⟩, dne, epe, hy', ay⟩ := pp
  have ylen : ys.length = e := by rw [ay.1, rbs_len]
  have tk : TK H3 H' := fun a o ha => k a _ (ne_of ha hfo3 (by intro z; cases z)) ha
  have hew : e < b.ways.length := Nat.lt_of_lt_of_le he sb
  have hec : e < c.ways.length := Nat.lt_of_lt_of_le he sc
  have dw : b.ways.drop e = b.ways[e] :: b.ways.drop (e + 1) := List.drop_eq_getElem_cons hew
  have gw : b.ways.getD e (false, "") = b.ways[e] := by rw [List.getD_eq_getElem?_getD, List.getElem?_eq_getElem hew]; rfl
  rw [dw] at dne
  cases rs with
  | nil => exact dne.elim
  | cons r rs =>
    rcases dne with ⟨_, _, _, _, z⟩ | ⟨cc, w, sub, ws', him, z, dsub⟩
    · cases z
    obtain ⟨zw, zd⟩ := List.cons.inj z
    obtain ⟨t, p', zs', hzt, ht, hp', hsub⟩ := itm_at hfe him
    have xe : x.path[e]? = some (r : Int) := by
      have := congrArg (fun l : List Int => l[0]?) epe
      simpa using this
    have xd : x.path.drop (e + 1) = rs.map (fun n : Nat => (n : Int)) := by
      have := congrArg List.tail epe
      rw [List.tail_drop] at this
      exact this
    have z0 : (0 + (e : Int)) = (e : Int) := Int.zero_add _
    have at1 : atI (x.path.map V.int) (0 + (e : Int)) = some (.int (r : Int)) := by rw [z0]; exact atI_nat (by rw [List.getElem?_map, xe]; rfl)
    have at2 : atI zs (r : Int) = some (.ref t) := atI_nat hzt
    have pe : px[e]? = some (px[e]'(pxl ▸ hew)) := List.getElem?_eq_getElem (pxl ▸ hew)
    have qe : qx[e]? = some (qx[e]'(qxl ▸ hec)) := List.getElem?_eq_getElem (qxl ▸ hec)
    obtain ⟨pv, hpv, ta, eta, hta⟩ := apx.get' pe
    obtain ⟨qv, hqv, tb, etb, htb⟩ := aqx.get' qe
    have at3 : atI px (0 + (e : Int)) = some (.ref ta) := by rw [z0]; exact (atI_nat pe).trans (congrArg some eta)
    have at4 : atI qx (0 + (e : Int)) = some (.ref tb) := by rw [z0]; exact (atI_nat qe).trans (congrArg some etb)
    have k1 := tk _ _ (s3 _ _ hr1)
    have k2 := tk _ _ (s3 _ _ hr2)
    have kp := tk _ _ (s3 _ _ hpt1)
    refine ⟨_, rfl, _, rfl, r1, _, 0, _, rfl, rfl, SqT.of k1, rfl, _, rfl, pt1, _, _, _, rfl, rfl, SqT.of kp, at1, ite, _, _, _, rfl, rfl, SqT.of (tk _ _ hite), at2, ?_⟩
    refine ⟨_, rfl, .inl ⟨rfl, _, SqL.of hy'⟩, _, rfl, r1, _, 0, _, rfl, rfl, SqT.of k1, rfl, _, rfl, _, _, rfl, rfl, _, rfl, pt1, _, rfl, kp, fun sl H4 e4 hsl => ?_⟩
    have ht4 := e4 _ _ (tk _ _ ht)
    refine ⟨_, rfl, t, _, 1, _, rfl, rfl, SqT.of ht4, rfl, _, rfl, t, _, 2, _, rfl, rfl, SqT.of ht4, rfl, _, rfl, r1, _, 1, _, rfl, rfl, SqT.of (e4 _ _ k1), rfl, _, rfl, pl1, _, _, _, rfl, rfl, SqT.of (e4 _ _ (tk _ _ (s3 _ _ hpx))), at3, _, rfl, r2, _, 1, _, rfl, rfl, SqT.of (e4 _ _ k2), rfl, _, rfl, pl2, _, _, _, rfl, rfl, SqT.of (e4 _ _ (tk _ _ (s3 _ _ hqx))), at4, szl (by show 5 ≤ 1000000; decide), fun rr hrr => ?_⟩
    have s5 := same_new hrr (.tup [V.ref sl, V.bl cc, V.str w, V.ref ta, V.ref tb])
    have hy5 := s5 _ _ (e4 _ _ hy')
    have nr : rr ≠ fo := fun z => by rw [z, e4 _ _ hy'] at hrr; cases hrr
    refine ⟨fo, _, _, rfl, rfl, hy5, szlt (by omega), ?_⟩
    have tk5 := ((Same.tk e4).trans (Same.tk s5)).trans (TK.upd (o := .lst (ys ++ [V.ref rr])) hy5)
    have htF := tk5 _ _ (tk _ _ ht)
    have htaF := tk5 _ _ (tk _ _ (s3 _ _ (show H2 ta = _ from hta)))
    have htbF := tk5 _ _ (tk _ _ (s3 _ _ (show H2 tb = _ from htb)))
    refine ⟨_, rfl, t, _, 3, _, rfl, rfl, SqT.of htF, rfl, ?_⟩
    refine ⟨p', sub, rs, _, _, _, rfl, fun a o ha h => by rw [upd_ne ha]; exact s5 _ _ (e4 _ _ (k a o ha h)), ⟨zs', hp', hsub⟩, by rw [zd]; exact dsub, xd, upd_same, ?_⟩
    rw [rbs_succ]
    refine (ay.mono fun u v z => z.tk tk5).snoc ⟨rr, sl, ta, tb, rfl, ?_, ?_, ?_⟩
    · rw [upd_ne nr, gw, zw]
      exact upd_same
    · have : b.pl.getD e (0, 0) = pv := by rw [List.getD_eq_getElem?_getD, hpv]; rfl
      rw [this]
      exact htaF
    · have : c.pl.getD e (0, 0) = qv := by rw [List.getD_eq_getElem?_getD, hqv]; rfl
      rw [this]
      exact htbF

theorem ok_sideb (T : Tx K mg a) : FnOk P w K mg base CX0 12 a.f_side_bonds a.d_side_bonds ["program", "plan", "k", "l", "level", "side"] (spSideP a.c_Program a.c_Deed) := by
  have G_round_both := ok_round (P := P) (w := w) (base := base) T
  refine T.F_side_bonds.ok sc_side_bonds (fun vs H Q E h => ?_) (fun cdv A outer s H vs Q E hr h => ?_)
  · obtain ⟨_, _, _, _, _, _, _, _, _, _, _, rfl, _⟩ := h; rfl
  obtain ⟨pr, p, B, D, i, j, s, level, side, b, c, rfl, ⟨dx, dl, v1, xs, hpr, hdl, hD⟩, hplan, hb, hc, hm, hbD, q⟩ := h
  refine ⟨_, (@pss_cons _ _ _ _ _ (@ps_set _ _ (6) _ _ _ _ sc_side_bonds.nd rfl (Or.inl rfl) (@pe_op _ _ _ _ _ _ _ _ op_add pe_int (@pe_callB _ _ _ _ _ _ _ _ _ call_len_seq (by rfl) T.z_len bt_len (@pa_cons _ _ _ _ _ (@pe_fld _ _ _ _ _ (@pe_ix _ _ _ _ _ _ _ ix_list (@pe_fld _ _ _ _ _ (pv 0) rfl) (pv 2) (fun _ _ => rfl)) rfl) pa_nil (by rfl)) (by decide) (by decide) (by rfl) (by rfl))) (by rfl) (by first | exact .inl rfl | exact .inr rfl | assumption)) (@pss_cons _ _ _ _ _ (@ps_set _ _ (7) _ _ _ _ sc_side_bonds.nd rfl (Or.inl rfl) (@pe_lst _ _ _ _ pa_nil) (by rfl) (by first | exact .inl rfl | exact .inr rfl | assumption)) (@pss_cons _ _ _ _ _ (@ps_for _ _ _ _ _ _ _ _ PassesOwn.never rfl (@pi_enum _ _ _ _ _ _ _ _ (by rfl) T.z_enumerate (@pa_cons _ _ _ _ _ (@pe_call _ _ _ _ _ _ _ _ _ _ _ _ _ _ _ _ G_round_both (hr.mono (by omega)) (by rfl) T.m_round_both T.F_round_both.kp T.b_round_both .nil pass0 (@pa_cons _ _ _ _ _ (pv 1) (@pa_cons _ _ _ _ _ (pv 2) (@pa_cons _ _ _ _ _ (pv 3) pa_nil (by rfl)) (by rfl)) (by rfl)) (by decide) (by rfl) (by rfl)) pa_nil (by rfl)) (by rfl)) (pg_tup rfl (pgs_cons (pg_name (i := 8) sc_side_bonds.nd rfl (Or.inl rfl)) (pgs_cons (pg_name (i := 9) sc_side_bonds.nd rfl (Or.inl rfl)) pgs_nil))) (@pss_cons _ _ _ _ _ (@ps_set _ _ (10) _ _ _ _ sc_side_bonds.nd rfl (Or.inl rfl) (@pe_op _ _ _ _ _ _ _ _ op_add pe_int (@pe_ix _ _ _ _ _ _ _ ix_tup (@pe_ix _ _ _ _ _ _ _ ix_tup (pv 9) pe_int (fun _ _ => rfl)) pe_int (fun _ _ => rfl))) (by rfl) (by first | exact .inl rfl | exact .inr rfl | assumption)) (@pss_cons _ _ _ _ _ (@ps_set _ _ (11) _ _ _ _ sc_side_bonds.nd rfl (Or.inl rfl) (@pe_op _ _ _ _ _ _ _ _ op_add (pv 6) (@pe_ix _ _ _ _ _ _ _ ix_tup (@pe_ix _ _ _ _ _ _ _ ix_tup (pv 9) pe_int (fun _ _ => rfl)) pe_int (fun _ _ => rfl))) (by rfl) (by first | exact .inl rfl | exact .inr rfl | assumption)) (@pss_cons _ _ _ _ _ (@ps_set _ _ (12) _ _ _ _ sc_side_bonds.nd rfl (Or.inl rfl) (@pe_op _ _ _ _ _ _ _ _ op_sub (@pe_ix _ _ _ _ _ _ _ ix_tup (@pe_ix _ _ _ _ _ _ _ ix_tup (pv 9) pe_int (fun _ _ => rfl)) pe_int (fun _ _ => rfl)) (@pe_ix _ _ _ _ _ _ _ ix_tup (@pe_ix _ _ _ _ _ _ _ ix_tup (pv 9) pe_int (fun _ _ => rfl)) pe_int (fun _ _ => rfl))) (by rfl) (by first | exact .inl rfl | exact .inr rfl | assumption)) (@pss_cons _ _ _ _ _ (@ps_if _ _ _ _ _ _ _ _ ((@pw_and _ _ _ _ _ _ _ (@pt_cmpR _ _ _ _ _ _ _ _ op_lt (pv 8) (pv 4) (@nomark _ _ (by decide) (by decide))) (@pw_and1 _ _ _ _ (@pt_not _ _ _ _ (@pt_val _ _ _ (@pe_ix _ _ _ _ _ _ _ ix_tup (pv 9) pe_int (fun _ _ => rfl)) (by intro _ ; rfl)))))).pt (@pss_cons _ _ _ _ _ (@ps_expr _ _ _ _ (@pe_bm _ _ _ _ _ _ _ _ _ _ _ _ PySem.F.plainAttrs_list PySem.F.slot_list_append PySem.F.type_list_append mt_append (pv 7) (@pa_cons _ _ _ _ _ (@pe_tupq _ _ _ _ _ (@paq_cons _ _ _ _ _ (pv 10) (@paq_cons _ _ _ _ _ (pv 11) (@paq_cons _ _ _ _ _ (pv 12) paq_nil star_N) star_N) star_N)) pa_nil (by rfl)) (by rfl) (by rfl) (by rfl) (by rfl) (by rfl)) (by rfl)) (@pss_one _ _ _ (@ps_expr _ _ _ _ (@pe_bm _ _ _ _ _ _ _ _ _ _ _ _ PySem.F.plainAttrs_list PySem.F.slot_list_append PySem.F.type_list_append mt_append (pv 7) (@pa_cons _ _ _ _ _ (@pe_tupq _ _ _ _ _ (@paq_cons _ _ _ _ _ (pv 11) (@paq_cons _ _ _ _ _ (pv 10) (@paq_cons _ _ _ _ _ (@pe_un _ _ _ _ _ _ un_neg (pv 12)) paq_nil star_U) star_N) star_N)) pa_nil (by rfl)) (by rfl) (by rfl) (by rfl) (by rfl) (by rfl)) (by rfl)))) pss_nil) (@pss_cons _ _ _ _ _ (@ps_if _ _ _ _ _ _ _ _ ((@pw_and _ _ _ _ _ _ _ (@pt_cmpR _ _ _ _ _ _ _ _ op_eq (pv 8) (pv 4) (@nomark _ _ (by decide) (by decide))) (@pw_and1 _ _ _ _ (@pt_cmpR _ _ _ _ _ _ _ _ op_eq (pv 5) pe_str (@nomark _ _ (by decide) (by decide)))))).pt (@pss_one _ _ _ (@ps_expr _ _ _ _ (@pe_bm _ _ _ _ _ _ _ _ _ _ _ _ PySem.F.plainAttrs_list PySem.F.slot_list_append PySem.F.type_list_append mt_append (pv 7) (@pa_cons _ _ _ _ _ (@pe_tupq _ _ _ _ _ (@paq_cons _ _ _ _ _ (pv 11) (@paq_cons _ _ _ _ _ (pv 10) (@paq_cons _ _ _ _ _ (@pe_op _ _ _ _ _ _ _ _ op_sub (@pe_un _ _ _ _ _ _ un_neg (pv 12)) pe_int) paq_nil star_B) star_N) star_N)) pa_nil (by rfl)) (by rfl) (by rfl) (by rfl) (by rfl) (by rfl)) (by rfl))) pss_nil) (@pss_one _ _ _ (@ps_if _ _ _ _ _ _ _ _ ((@pw_and _ _ _ _ _ _ _ (@pt_cmpR _ _ _ _ _ _ _ _ op_eq (pv 8) (pv 4) (@nomark _ _ (by decide) (by decide))) (@pw_and1 _ _ _ _ (@pt_cmpR _ _ _ _ _ _ _ _ op_eq (pv 5) pe_str (@nomark _ _ (by decide) (by decide)))))).pt (@pss_one _ _ _ (@ps_expr _ _ _ _ (@pe_bm _ _ _ _ _ _ _ _ _ _ _ _ PySem.F.plainAttrs_list PySem.F.slot_list_append PySem.F.type_list_append mt_append (pv 7) (@pa_cons _ _ _ _ _ (@pe_tupq _ _ _ _ _ (@paq_cons _ _ _ _ _ (pv 10) (@paq_cons _ _ _ _ _ (pv 11) (@paq_cons _ _ _ _ _ (@pe_op _ _ _ _ _ _ _ _ op_sub (pv 12) pe_int) paq_nil star_B) star_N) star_N)) pa_nil (by rfl)) (by rfl) (by rfl) (by rfl) (by rfl) (by rfl)) (by rfl))) pss_nil))))))) (by intro _ ; rfl)) (@pss_one _ _ _ (@ps_ret _ _ _ _ (pv 7)))))), ?_⟩
  try dsimp only [cxK, noxK]
  have gb : GoodB b := by obtain ⟨_, _, _, g, _⟩ := hplan; exact g.all b (List.mem_of_getElem? hb)
  have Dk : D[b.k.toNat]? = some D[b.k.toNat] := List.getElem?_eq_getElem hbD
  obtain ⟨x, hx, d, dxd, nm, ws, _, _, _, _, _, _, rfl, hd, hnm, hn⟩ := hD.get Dk
  have bk : ((b.k.toNat : Nat) : Int) = b.k := Int.toNat_of_nonneg gb.k0
  have at0 : atI xs b.k = some (.ref d) := by rw [← bk]; exact atI_nat hx
  refine ⟨_, rfl, pr, _, dx, _, _, rfl, hpr, T.cl_Program, T.n_Program_deeds, rfl, _, rfl, dl, _, _, _, rfl, rfl, SqL.of hdl, at0, d, _, dxd, _, _, rfl, hd, T.cl_Deed, T.n_Deed_names, rfl, nm, _, rfl, .inr (SqT.of hnm), _, _, rfl, rfl, ?_⟩
  dsimp only [gName]
  have hbeh : 1 + D.getD b.k.toNat 0 = 1 + (ws.length : Int) := by rw [List.getD_eq_getElem?_getD, Dk, hn]; rfl
  rw [hbeh] at q
  generalize 1 + (ws.length : Int) = beh at q ⊢
  refine ⟨szl (by show 0 ≤ 1000000; decide), fun bo hbo => ?_⟩
  have e1 := same_new hbo (.lst [])
  have hbo1 : (upd H bo (.lst [])) bo = some (.lst []) := upd_same
  generalize upd H bo (.lst []) = H1 at e1 hbo1
  refine ⟨_, rfl, _, rfl, _, rfl, p, B, i, j, s, b, c, rfl, hplan.over e1, hb, hc, hm, fun r ys H2 e2 hr1 hr2 ay hs => ?_⟩
  have s6 : s ≤ 6 := by have := gb.len; omega
  have e12 := e1.trans e2
  have hbo2 := e2 _ _ hbo1
  have nrb : r ≠ bo := fun z => by rw [z, hbo1] at hr1; cases hr1
  have yl : ys.length = s := by rw [ay.1, rbs_len]
  refine ⟨r, rfl, ⟨_, SqL.of hr2⟩, ?_⟩
  refine for_enum (xs := ys) (fun e σ' H' => ∃ (zs : List V) (o8 o9 o10 o11 o12 : Option V), σ' = [some (.ref pr), some (.ref p), some (.int b.k), some (.int c.k), some (.int (level : Int)), some (.str side), some (.int beh), some (.ref bo), o8, o9, o10, o11, o12] ∧ (∀ a o, a ≠ bo → H2 a = some o → H' a = some o) ∧ H' bo = some (.lst zs) ∧ TrisAt H' zs (sdL beh level side 0 ((rbs b c s).take e))) ⟨[], _, _, _, _, _, rfl, fun _ _ _ h => h, hbo2, .nil⟩ (fun e σ' H' _ pp => by obtain ⟨_, _, _, _, _, _, _, k, _⟩ := pp; exact SqL.of (k _ _ nrb hr2)) (fun e x Tt σ' H' hx pp hT => ?_) (fun σ' H' pp => ?_)
  rotate_left
  · obtain ⟨zs, o8, o9, o10, o11, o12, rfl, k, hz, tz⟩ := pp
    rw [List.take_of_length_le (by rw [rbs_len]; omega)] at tz
    exact ⟨_, rfl, q bo zs _ (fun a o ha => k a o (ne_of_none ha hbo) (e12 _ _ ha)) hz tz⟩
  obtain ⟨zs, o8, o9, o10, o11, o12, rfl, k, hz, tz⟩ := pp
  obtain ⟨rb, hrb, t, pt, ta, tb, rfl, ht, hta, htb⟩ := ay.get' hx
  have he : e < s := by have := (List.getElem?_eq_some_iff.mp hx).1; omega
  have sT := same_new hT (.tup [V.int (e : Int), V.ref t])
  have nT : Tt ≠ bo := fun z => by rw [z, hz] at hT; cases hT
  have tkk : ∀ {l : Addr} {xs : List V}, H2 l = some (.tup xs) → H' l = some (.tup xs) := fun {l xs} h => k l _ (ne_of h hbo2 (by intro z; cases z)) h
  have ht3 := sT _ _ (tkk ht)
  have hta3 := sT _ _ (tkk hta)
  have htb3 := sT _ _ (tkk htb)
  have hz3 := sT _ _ hz
  have tz3 := tz.over sT
  have k3 : ∀ a o, a ≠ bo → H2 a = some o → (upd H' Tt (.tup [V.int (e : Int), V.ref t])) a = some o := fun a o ha h => sT _ _ (k a o ha h)
  refine ⟨Tt, _, rfl, SqT.of upd_same, rfl, _, _, rfl, _, _, rfl, rfl, ?_⟩
  generalize upd H' Tt (.tup [V.int (e : Int), V.ref t]) = H3 at ht3 hta3 htb3 hz3 tz3 k3
  have hlen : zs.length ≤ 4 * s := by
    rw [tz.1]
    have := sdL_len beh level side ((rbs b c s).take e) 0
    rw [List.length_take, rbs_len] at this
    omega
  refine ⟨_, rfl, t, _, 3, _, rfl, rfl, SqT.of ht3, rfl, ta, _, 0, _, rfl, rfl, SqT.of hta3, rfl, _, _, rfl, rfl, ?_⟩
  refine ⟨_, rfl, _, rfl, t, _, 4, _, rfl, rfl, SqT.of ht3, rfl, tb, _, 0, _, rfl, rfl, SqT.of htb3, rfl, _, _, rfl, rfl, ?_⟩
  refine ⟨_, rfl, t, _, 4, _, rfl, rfl, SqT.of ht3, rfl, tb, _, 1, _, rfl, rfl, SqT.of htb3, rfl, _, rfl, t, _, 3, _, rfl, rfl, SqT.of ht3, rfl, ta, _, 1, _, rfl, rfl, SqT.of hta3, rfl, _, _, rfl, rfl, ?_⟩
  dsimp only [gName]
  have snoc : sdL beh level side 0 ((rbs b c s).take (e + 1)) = sdL beh level side 0 ((rbs b c s).take e) ++ sdAt beh level side e rb := by
    rw [take_snoc hrb, sdL_snoc, Nat.zero_add, List.length_take, rbs_len, Nat.min_eq_left (by omega)]
  unfold sdAt at snoc
  rw [← List.append_assoc, ← List.append_assoc] at snoc
  generalize 1 + rb.p.1 = uu at snoc ⊢
  generalize beh + rb.q.1 = ww at snoc ⊢
  generalize rb.q.2 - rb.p.2 = ab at snoc ⊢
  generalize sdL beh level side 0 ((rbs b c s).take e) = L0 at tz3 snoc
  -- alike
  refine seq_any (fun σ' H4 => ∃ zs4 : List V, σ' = [some (.ref pr), some (.ref p), some (.int b.k), some (.int c.k), some (.int (level : Int)), some (.str side), some (.int beh), some (.ref bo), some (.int (e : Int)), some (.ref t), some (.int uu), some (.int ww), some (.int ab)] ∧ (∀ a o, a ≠ bo → H3 a = some o → H4 a = some o) ∧ H4 bo = some (.lst zs4) ∧ TrisAt H4 zs4 (L0 ++ if e < level ∧ rb.way.1 = false then [(uu, ww, ab), (ww, uu, -ab)] else []) ∧ zs4.length ≤ zs.length + 2) (fun σ' H4 pp => ?_) (fun nx => ?_)
  rotate_left
  · refine ⟨_, rfl, _, rfl, _, _, rfl, rfl, _, rfl, ?_⟩
    refine ite2 (fun cl => ?_) (fun cl => ?_)
    · have cl := dT cl
      refine ⟨_, rfl, t, _, 1, _, rfl, rfl, SqT.of ht3, rfl, _, rfl, ?_⟩
      cases hcut : rb.way.1 with
      | true =>
        refine iteF (nx _ _ ⟨zs, rfl, fun _ _ _ h => h, hz3, ?_, Nat.le_add_right _ _⟩)
        rw [if_neg (by rw [hcut]; simp), List.append_nil]
        exact tz3
      | false =>
        refine iteT ?_
        refine ⟨_, rfl, .inl ⟨rfl, _, SqL.of hz3⟩, _, rfl, _, rfl, _, rfl, szl (by show 3 ≤ 1000000; decide), fun r1 hr1 => ?_⟩
        obtain ⟨g1, g2, g3⟩ := tris_add (x := uu) (y := ww) (z := ab) hz3 tz3 hr1
        refine ⟨bo, _, _, rfl, rfl, (same_new hr1 _) _ _ hz3, szlt (by omega), ?_⟩
        generalize upd (upd H3 r1 (.tup [V.int uu, V.int ww, V.int ab])) bo (.lst (zs ++ [V.ref r1])) = H4 at g1 g2 g3
        refine ⟨_, rfl, .inl ⟨rfl, _, SqL.of g1⟩, _, rfl, _, rfl, _, rfl, _, rfl, szl (by show 3 ≤ 1000000; decide), fun r2 hr2' => ?_⟩
        obtain ⟨f1, f2, f3⟩ := tris_add (x := ww) (y := uu) (z := -ab) g1 g2 hr2'
        refine ⟨bo, _, _, rfl, rfl, (same_new hr2' _) _ _ g1, szlt (by rw [List.length_append, List.length_singleton]; omega), ?_⟩
        refine nx _ _ ⟨_, rfl, fun a o ha h => f3 a o ha (g3 a o ha h), f1, ?_, by rw [List.length_append, List.length_append, List.length_singleton, List.length_singleton]; omega⟩
        rw [if_pos ⟨by omega, hcut⟩]
        rw [show L0 ++ [(uu, ww, ab), (ww, uu, -ab)] = L0 ++ [(uu, ww, ab)] ++ [(ww, uu, -ab)] by simp]
        exact f2
    · have cl := dF cl
      refine nx _ _ ⟨zs, rfl, fun _ _ _ h => h, hz3, ?_, Nat.le_add_right _ _⟩
      rw [if_neg (fun z => cl (by omega)), List.append_nil]
      exact tz3
  obtain ⟨zs4, rfl, k4, hz4, tz4, zl4⟩ := pp
  generalize (L0 ++ if e < level ∧ rb.way.1 = false then [(uu, ww, ab), (ww, uu, -ab)] else []) = L1 at tz4 snoc
  -- more
  refine seq_any (fun σ' H5 => ∃ zs5 : List V, σ' = [some (.ref pr), some (.ref p), some (.int b.k), some (.int c.k), some (.int (level : Int)), some (.str side), some (.int beh), some (.ref bo), some (.int (e : Int)), some (.ref t), some (.int uu), some (.int ww), some (.int ab)] ∧ (∀ a o, a ≠ bo → H4 a = some o → H5 a = some o) ∧ H5 bo = some (.lst zs5) ∧ TrisAt H5 zs5 (L1 ++ if e = level ∧ side = "more" then [(ww, uu, -ab - 1)] else []) ∧ zs5.length ≤ zs4.length + 1) (fun σ' H5 pp => ?_) (fun nx => ?_)
  rotate_left
  · refine ⟨_, rfl, _, rfl, rfl, _, rfl, ?_⟩
    by_cases c1 : e = level
    · refine iteE (v := true) (decide_eq_true (congrArg V.int (zeq c1))) (iteT ?_)
      refine ⟨_, rfl, rfl, _, rfl, ?_⟩
      by_cases c2 : side = "more"
      · refine iteE (v := true) (decide_eq_true (congrArg V.str c2)) (iteT ?_)
        refine ⟨_, rfl, .inl ⟨rfl, _, SqL.of hz4⟩, _, rfl, _, rfl, _, rfl, _, rfl, _, _, rfl, rfl, szl (by show 3 ≤ 1000000; decide), fun r1 hr1 => ?_⟩
        obtain ⟨g1, g2, g3⟩ := tris_add (x := ww) (y := uu) (z := -ab - 1) hz4 tz4 hr1
        refine ⟨bo, _, _, rfl, rfl, (same_new hr1 _) _ _ hz4, szlt (by omega), ?_⟩
        refine nx _ _ ⟨_, rfl, g3, g1, ?_, by rw [List.length_append, List.length_singleton]; omega⟩
        rw [if_pos ⟨c1, c2⟩]
        exact g2
      · refine iteE (v := false) (dS c2) (iteF (nx _ _ ⟨zs4, rfl, fun _ _ _ h => h, hz4, ?_, Nat.le_add_right _ _⟩))
        rw [if_neg (fun z => c2 z.2), List.append_nil]
        exact tz4
    · refine iteE (v := false) (decide_eq_false fun z => c1 (ninj z)) (iteF (nx _ _ ⟨zs4, rfl, fun _ _ _ h => h, hz4, ?_, Nat.le_add_right _ _⟩))
      rw [if_neg (fun z => c1 z.1), List.append_nil]
      exact tz4
  obtain ⟨zs5, rfl, k5, hz5, tz5, zl5⟩ := pp
  generalize (L1 ++ if e = level ∧ side = "more" then [(ww, uu, -ab - 1)] else []) = L2 at tz5 snoc
  have k25 : ∀ a o, a ≠ bo → H2 a = some o → H5 a = some o := fun a o ha h => k5 a o ha (k4 a o ha (k3 a o ha h))
  -- less
  refine ⟨_, rfl, _, rfl, rfl, _, rfl, ?_⟩
  by_cases c1 : e = level
  · refine iteE (v := true) (decide_eq_true (congrArg V.int (zeq c1))) (iteT ?_)
    refine ⟨_, rfl, rfl, _, rfl, ?_⟩
    by_cases c2 : side = "less"
    · refine iteE (v := true) (decide_eq_true (congrArg V.str c2)) (iteT ?_)
      refine ⟨_, rfl, .inl ⟨rfl, _, SqL.of hz5⟩, _, rfl, _, rfl, _, rfl, _, _, rfl, rfl, szl (by show 3 ≤ 1000000; decide), fun r1 hr1 => ?_⟩
      obtain ⟨g1, g2, g3⟩ := tris_add (x := uu) (y := ww) (z := ab - 1) hz5 tz5 hr1
      refine ⟨bo, _, _, rfl, rfl, (same_new hr1 _) _ _ hz5, szlt (by omega), ?_⟩
      refine ⟨_, _, _, _, _, _, rfl, fun a o ha h => g3 a o ha (k25 a o ha h), g1, ?_⟩
      rw [snoc, if_pos ⟨c1, c2⟩]
      exact g2
    · refine iteE (v := false) (dS c2) (iteF ⟨zs5, _, _, _, _, _, rfl, k25, hz5, ?_⟩)
      rw [snoc, if_neg (fun z => c2 z.2), List.append_nil]
      exact tz5
  · refine iteE (v := false) (decide_eq_false fun z => c1 (ninj z)) (iteF ⟨zs5, _, _, _, _, _, rfl, k25, hz5, ?_⟩)
    rw [snoc, if_neg (fun z => c1 z.1), List.append_nil]
    exact tz5

theorem ok_at (T : Tx K mg a) : FnOk P w K mg base CX0 1 a.f_l_at a.d_l_at ["_law_boughs_here", "_law_k"] spAtL := by
  refine T.F_l_at.ok sc_l_at (fun vs H Q E h => ?_) (fun cdv A outer s H vs Q E hr h => ?_)
  · obtain ⟨_, _, _, _, rfl, _⟩ := h; rfl
  obtain ⟨l, B, i, b, rfl, ⟨xs, hl, hB⟩, Bl, nd, hb, q⟩ := h
  refine ⟨_, (@pss_one _ _ _ (@ps_ret _ _ _ _ (@pe_bm _ _ _ _ _ _ _ _ _ _ _ _ PySem.F.plainAttrs_list PySem.F.slot_list_index PySem.F.type_list_index mt_lindex (@pe_compB _ _ _ _ _ _ _ ["_law_bough_here"] [none] _ _ _ _ (by rfl) (@pi_list _ _ _ _ (pv 0)) c_l_at_0 (fun _ _ _ _ _ _ => ⟨(pg_name (i := 0) c_l_at_0n rfl (Or.inl rfl)), @pts_nil _, (@pe_ix _ _ _ _ _ _ _ (show IxR _ (rIxT K) from ix_tup) (pv 0) pe_int (fun _ _ => rfl))⟩) (by intro _ ; rfl)) (@pa_cons _ _ _ _ _ (pv 1) pa_nil (by rfl)) (by rfl) (by rfl) (by rfl) (by rfl) (by rfl)))), ?_⟩
  try dsimp only [cxK, noxK]
  have xl := hB.1
  refine ⟨_, rfl, l, rfl, ⟨_, SqL.of hl⟩, ?_⟩
  refine comp_list (xs := xs) (fun j ys H2 => H2 = H ∧ ys = ((B.take j).map (·.k)).map V.int) ⟨rfl, rfl⟩ (szl (by omega)) (fun j ys H2 hj pp => ⟨by rw [pp.1]; exact SqL.of hl, by rw [pp.2, List.length_map, List.length_map, List.length_take]; omega⟩) (fun j x ys H2 hx pp => ?_) (fun ys H2 pp r hr' => ?_)
  · obtain ⟨rfl, rfl⟩ := pp
    obtain ⟨c, hc, t, w0, p0, rfl, ht, _⟩ := hB.get' hx
    refine ⟨_, rfl, t, _, 0, _, rfl, rfl, SqT.of ht, rfl, rfl, ?_⟩
    rw [take_snoc hc, List.map_append, List.map_append]
    rfl
  obtain ⟨rfl, rfl⟩ := pp
  rw [List.take_of_length_le (by omega)]
  have hi := (List.getElem?_eq_some_iff.mp hb).1
  refine ⟨.inl ⟨rfl, _, SqL.of upd_same⟩, _, rfl, r, B.map (·.k), b.k, i, rfl, rfl, upd_same, by rw [List.getElem?_map, hb]; rfl, fun m hm z => ?_, by omega, q _ (same_new hr' _)⟩
  rw [List.getElem?_map] at z
  obtain ⟨c, hc, ec⟩ := Option.map_eq_some_iff.mp z
  obtain ⟨l1, a1⟩ := List.getElem?_eq_some_iff.mp hc
  obtain ⟨l2, a2⟩ := List.getElem?_eq_some_iff.mp hb
  exact List.pairwise_iff_getElem.mp nd m i (by rw [List.length_map]; exact l1) (by rw [List.length_map]; exact l2) hm (by rw [List.getElem_map, List.getElem_map, a1, a2]; exact ec)

theorem ok_shared7 (T : Tx K mg a) : FnOk P w K mg base CX0 1 a.f_l_shared a.d_l_shared ["_law_boughs_here", "_law_p", "_law_q"] spSharedL := by
  refine T.F_l_shared.ok sc_l_shared (fun vs H Q E h => ?_) (fun cdv A outer s H vs Q E hr h => ?_)
  · obtain ⟨_, _, _, _, _, rfl, _⟩ := h; rfl
  obtain ⟨l, B, i, j, s, rfl, ⟨xs, hl, hB⟩, Bl, hi, hj, hm, q⟩ := h
  refine ⟨_, (@pss_cons _ _ _ _ _ (@ps_if _ _ _ _ _ _ _ _ (@pt_cmpR _ _ _ _ _ _ _ _ op_eq (pv 1) (pv 2) (@nomark _ _ (by decide) (by decide))) (@pss_one _ _ _ (@ps_ret _ _ _ _ (@pe_callB _ _ _ _ _ _ _ _ _ call_len_seq (by rfl) T.z_len bt_len (@pa_cons _ _ _ _ _ (@pe_ix _ _ _ _ _ _ _ ix_tup (@pe_ix _ _ _ _ _ _ _ ix_list (pv 0) (pv 1) (fun _ _ => rfl)) pe_int (fun _ _ => rfl)) pa_nil (by rfl)) (by decide) (by decide) (by rfl) (by rfl)))) pss_nil) (@pss_one _ _ _ (@ps_ret _ _ _ _ (@pe_callB _ _ _ _ _ _ _ _ _ (@call_minL _ rfl) (by rfl) T.z_min bt_min (@pa_cons _ _ _ _ _ (@pe_compB _ _ _ _ _ _ _ ["_law_bough_here"] [none] _ _ _ _ (by rfl) (@pi_list _ _ _ _ (@pe_slice _ _ _ _ _ _ _ _ _ _ sl_list (pv 0) (@po_some _ _ _ (@pe_op _ _ _ _ _ _ _ _ op_add (@pe_callB _ _ _ _ _ _ _ _ _ (@call_min2 _ rfl) (by rfl) T.z_min bt_min (@pa_cons _ _ _ _ _ (pv 1) (@pa_cons _ _ _ _ _ (pv 2) pa_nil (by rfl)) (by rfl)) (by decide) (by decide) (by rfl) (by rfl)) pe_int)) (@po_some _ _ _ (@pe_op _ _ _ _ _ _ _ _ op_add (@pe_callB _ _ _ _ _ _ _ _ _ (@call_max2 _ rfl) (by rfl) T.z_max bt_max (@pa_cons _ _ _ _ _ (pv 1) (@pa_cons _ _ _ _ _ (pv 2) pa_nil (by rfl)) (by rfl)) (by decide) (by decide) (by rfl) (by rfl)) pe_int)))) c_l_shared_0 (fun _ _ _ _ _ _ => ⟨(pg_name (i := 0) c_l_shared_0n rfl (Or.inl rfl)), @pts_nil _, (@pe_ix _ _ _ _ _ _ _ (show IxR _ (rIxT K) from ix_tup) (pv 0) pe_int (fun _ _ => rfl))⟩) (by intro _ ; rfl)) pa_nil (by rfl)) (by decide) (by decide) (by rfl) (by rfl))))), ?_⟩
  try dsimp only [cxK, noxK]
  have xl := hB.1
  refine ⟨_, rfl, _, rfl, rfl, _, rfl, ?_⟩
  by_cases c : i = j
  · subst c
    refine iteE (v := true) (decide_eq_true rfl) (iteT ?_)
    obtain ⟨x, hx, t, w0, p0, rfl, ht, ⟨wx, hw, haw⟩, _⟩ := hB.get (List.getElem?_eq_getElem hi)
    refine ⟨_, rfl, _, rfl, l, _, _, _, rfl, rfl, SqL.of hl, atI_nat hx, t, _, 2, _, rfl, rfl, SqT.of ht, rfl, w0, _, rfl, .inl (SqL.of hw), ?_⟩
    have es : s = wx.length := by
      rcases hm with ⟨_, b, hb, rfl⟩ | ⟨z, _⟩ | ⟨z, _⟩
      · rw [List.getElem?_eq_getElem hi] at hb
        cases hb
        exact haw.1.symm
      · exact absurd z (Nat.lt_irrefl _)
      · exact absurd z (Nat.lt_irrefl _)
    rw [← es]
    exact q _ (Same.refl _)
  · refine iteE (v := false) (decide_eq_false fun z => c (ninj z)) (iteF ?_)
    obtain ⟨lo, hi', e1, e2, hlt, hle, hL⟩ : ∃ lo hi' : Nat, (if (j : Int) < (i : Int) then (j : Int) else (i : Int)) = (lo : Int) ∧ (if (j : Int) > (i : Int) then (j : Int) else (i : Int)) = (hi' : Int) ∧ lo < hi' ∧ hi' < B.length ∧ Fo.Least B lo hi' s := by
      rcases hm with ⟨z, _⟩ | ⟨z, h⟩ | ⟨z, h⟩
      · exact absurd z c
      · exact ⟨i, j, if_neg (fun h => Nat.lt_asymm z (Int.ofNat_lt.mp h)), if_pos (Int.ofNat_lt.mpr z), z, hj, h⟩
      · exact ⟨j, i, if_pos (Int.ofNat_lt.mpr z), if_neg (fun h => Nat.lt_asymm z (Int.ofNat_lt.mp h)), z, hi, h⟩
    refine ⟨_, rfl, _, rfl, _, rfl, _, _, rfl, _, _, rfl, rfl, _, rfl, _, rfl, _, rfl, _, _, rfl, _, _, rfl, rfl, _, rfl, l, _, rfl, SqL.of hl, fun sl hsl => ?_⟩
    rw [e1, e2]
    have cy : cutV xs (some ((lo : Int) + 1)) (some ((hi' : Int) + 1)) = (xs.drop (lo + 1)).take (hi' - lo) := by
      have : cutV xs (some ((lo : Int) + 1)) (some ((hi' : Int) + 1)) = (xs.drop ((lo : Int) + 1).toNat).take (((hi' : Int) + 1).toNat - ((lo : Int) + 1).toNat) := cut_mid xs (Int.natCast_nonneg (lo + 1)) (Int.natCast_nonneg (hi' + 1)) (by rw [xl]; exact Int.ofNat_le.mpr hle) (Int.ofNat_le.mpr (Nat.succ_le_succ (Nat.le_of_lt hlt)))
      rw [this, show ((lo : Int) + 1).toNat = lo + 1 from rfl, show ((hi' : Int) + 1).toNat - (lo + 1) = hi' - lo from Nat.succ_sub_succ _ _]
    rw [cy]
    have s1 := same_new hsl (.lst ((xs.drop (lo + 1)).take (hi' - lo)))
    have hsl1 : (upd H sl (.lst ((xs.drop (lo + 1)).take (hi' - lo)))) sl = some (.lst ((xs.drop (lo + 1)).take (hi' - lo))) := upd_same
    generalize upd H sl (.lst ((xs.drop (lo + 1)).take (hi' - lo))) = H1 at s1 hsl1
    have hB1 := ((hB.mono fun x b z => z.over s1).drop (lo + 1)).take (hi' - lo)
    have xl1 := hB1.1
    have ln1 : ((B.drop (lo + 1)).take (hi' - lo)).length = hi' - lo := by rw [List.length_take, List.length_drop]; omega
    refine ⟨sl, rfl, ⟨_, SqL.of hsl1⟩, ?_⟩
    refine comp_list (xs := (xs.drop (lo + 1)).take (hi' - lo)) (fun j ys H2 => H2 = H1 ∧ ys = ((((B.drop (lo + 1)).take (hi' - lo)).take j).map fun b => (b.sh : Int)).map V.int) ⟨rfl, rfl⟩ (szl (by omega)) (fun j ys H2 hj pp => ⟨by rw [pp.1]; exact SqL.of hsl1, by rw [pp.2, List.length_map, List.length_map, List.length_take]; omega⟩) (fun j x ys H2 hx pp => ?_) (fun ys H2 pp r hr' => ?_)
    · obtain ⟨rfl, rfl⟩ := pp
      obtain ⟨cb, hcb, t, w0, p0, rfl, ht, _⟩ := hB1.get' hx
      refine ⟨_, rfl, t, _, 1, _, rfl, rfl, SqT.of ht, rfl, rfl, ?_⟩
      rw [take_snoc hcb, List.map_append, List.map_append]
      rfl
    obtain ⟨rfl, rfl⟩ := pp
    rw [List.take_of_length_le (by omega)]
    refine ⟨r, _, rfl, SqL.of upd_same, by rw [List.length_map]; omega, fun M h1 h2 => ?_⟩
    rw [least_inj hL h1 h2]
    exact q _ (s1.trans (same_new hr' _))

theorem ok_sides7 (T : Tx K mg a) : FnOk P w K mg base CX0 2 a.f_l_sides a.d_l_sides ["_law_boughs_here", "_law_k", "_law_l"] spSidesL := by
  have G_l_at := ok_at (P := P) (w := w) (base := base) T
  have G_l_shared := ok_shared7 (P := P) (w := w) (base := base) T
  refine T.F_l_sides.ok sc_l_sides (fun vs H Q E h => ?_) (fun cdv A outer s H vs Q E hr h => ?_)
  · obtain ⟨_, _, _, _, _, _, _, rfl, _⟩ := h; rfl
  obtain ⟨l, B, i, j, s, b, c, rfl, hB, g, nd, hb, hc, hm, sb, q⟩ := h
  refine ⟨_, (@pss_cons _ _ _ _ _ (@ps_set _ _ (3) _ _ _ _ sc_l_sides.nd rfl (Or.inl rfl) (@pe_call _ _ _ _ _ _ _ _ _ _ _ _ _ _ _ _ G_l_at (hr.mono (by omega)) (by rfl) T.m_l_at T.F_l_at.kp T.b_l_at .nil pass0 (@pa_cons _ _ _ _ _ (pv 0) (@pa_cons _ _ _ _ _ (pv 1) pa_nil (by rfl)) (by rfl)) (by decide) (by rfl) (by rfl)) (by rfl) (by first | exact .inl rfl | exact .inr rfl | assumption)) (@pss_cons _ _ _ _ _ (@ps_set _ _ (4) _ _ _ _ sc_l_sides.nd rfl (Or.inl rfl) (@pe_call _ _ _ _ _ _ _ _ _ _ _ _ _ _ _ _ G_l_at (hr.mono (by omega)) (by rfl) T.m_l_at T.F_l_at.kp T.b_l_at .nil pass0 (@pa_cons _ _ _ _ _ (pv 0) (@pa_cons _ _ _ _ _ (pv 2) pa_nil (by rfl)) (by rfl)) (by decide) (by rfl) (by rfl)) (by rfl) (by first | exact .inl rfl | exact .inr rfl | assumption)) (@pss_cons _ _ _ _ _ (@ps_set _ _ (5) _ _ _ _ sc_l_sides.nd rfl (Or.inl rfl) (@pe_call _ _ _ _ _ _ _ _ _ _ _ _ _ _ _ _ G_l_shared (hr.mono (by omega)) (by rfl) T.m_l_shared T.F_l_shared.kp T.b_l_shared .nil pass0 (@pa_cons _ _ _ _ _ (pv 0) (@pa_cons _ _ _ _ _ (pv 3) (@pa_cons _ _ _ _ _ (pv 4) pa_nil (by rfl)) (by rfl)) (by rfl)) (by decide) (by rfl) (by rfl)) (by rfl) (by first | exact .inl rfl | exact .inr rfl | assumption)) (@pss_cons _ _ _ _ _ (@ps_set _ _ (6) _ _ _ _ sc_l_sides.nd rfl (Or.inl rfl) (@pe_lst _ _ _ _ pa_nil) (by rfl) (by first | exact .inl rfl | exact .inr rfl | assumption)) (@pss_cons _ _ _ _ _ (@ps_for _ _ _ _ _ _ _ _ PassesOwn.never rfl (@pi_range1 _ _ _ _ _ _ (by rfl) T.z_range (@pa_cons _ _ _ _ _ (pv 5) pa_nil (by rfl)) (by rfl)) (pg_name (i := 7) sc_l_sides.nd rfl (Or.inl rfl)) (@pss_cons _ _ _ _ _ (@ps_set _ _ (8) _ _ _ _ sc_l_sides.nd rfl (Or.inl rfl) (@pe_ix _ _ _ _ _ _ _ ix_tup (@pe_ix _ _ _ _ _ _ _ ix_list (@pe_ix _ _ _ _ _ _ _ ix_tup (@pe_ix _ _ _ _ _ _ _ ix_list (pv 0) (pv 3) (fun _ _ => rfl)) pe_int (fun _ _ => rfl)) (pv 7) (fun _ _ => rfl)) pe_int (fun _ _ => rfl)) (by rfl) (by first | exact .inl rfl | exact .inr rfl | assumption)) (@pss_cons _ _ _ _ _ (@ps_if _ _ _ _ _ _ _ _ (@pt_cmpR _ _ _ _ _ _ _ _ op_ne (pv 8) pe_str (@nomark _ _ (by decide) (by decide))) (@pss_one _ _ _ (@ps_expr _ _ _ _ (@pe_bm _ _ _ _ _ _ _ _ _ _ _ _ PySem.F.plainAttrs_list PySem.F.slot_list_append PySem.F.type_list_append mt_append (pv 6) (@pa_cons _ _ _ _ _ (@pe_tup _ _ _ _ _ (@pa_cons _ _ _ _ _ (pv 7) (@pa_cons _ _ _ _ _ pe_str pa_nil (by rfl)) (by rfl))) pa_nil (by rfl)) (by rfl) (by rfl) (by rfl) (by rfl) (by rfl)) (by rfl))) pss_nil) (@pss_one _ _ _ (@ps_if _ _ _ _ _ _ _ _ (@pt_cmpR _ _ _ _ _ _ _ _ op_ne (pv 8) pe_str (@nomark _ _ (by decide) (by decide))) (@pss_one _ _ _ (@ps_expr _ _ _ _ (@pe_bm _ _ _ _ _ _ _ _ _ _ _ _ PySem.F.plainAttrs_list PySem.F.slot_list_append PySem.F.type_list_append mt_append (pv 6) (@pa_cons _ _ _ _ _ (@pe_tup _ _ _ _ _ (@pa_cons _ _ _ _ _ (pv 7) (@pa_cons _ _ _ _ _ pe_str pa_nil (by rfl)) (by rfl))) pa_nil (by rfl)) (by rfl) (by rfl) (by rfl) (by rfl) (by rfl)) (by rfl))) pss_nil)))) (by intro _ ; rfl)) (@pss_cons _ _ _ _ _ (@ps_if _ _ _ _ _ _ _ _ (@pt_cmpR _ _ _ _ _ _ _ _ op_lt (pv 4) (pv 3) (@nomark _ _ (by decide) (by decide))) (@pss_one _ _ _ (@ps_expr _ _ _ _ (@pe_bm _ _ _ _ _ _ _ _ _ _ _ _ PySem.F.plainAttrs_list PySem.F.slot_list_append PySem.F.type_list_append mt_append (pv 6) (@pa_cons _ _ _ _ _ (@pe_tup _ _ _ _ _ (@pa_cons _ _ _ _ _ (pv 5) (@pa_cons _ _ _ _ _ pe_str pa_nil (by rfl)) (by rfl))) pa_nil (by rfl)) (by rfl) (by rfl) (by rfl) (by rfl) (by rfl)) (by rfl))) pss_nil) (@pss_one _ _ _ (@ps_ret _ _ _ _ (pv 6))))))))), ?_⟩
  try dsimp only [cxK, noxK]
  have gb := g.all b (List.mem_of_getElem? hb)
  have bw := gb.len
  have hi := (List.getElem?_eq_some_iff.mp hb).1
  have hj := (List.getElem?_eq_some_iff.mp hc).1
  refine ⟨_, rfl, _, rfl, l, B, i, b, rfl, hB, g.len, nd, hb, fun H1 e1 => ?_⟩
  refine ⟨_, rfl, _, rfl, l, B, j, c, rfl, hB.over e1, g.len, nd, hc, fun H2 e2 => ?_⟩
  refine ⟨_, rfl, _, rfl, _, rfl, l, B, i, j, s, rfl, (hB.over e1).over e2, g.len, hi, hj, hm, fun H3 e3 => ?_⟩
  have e3 := (e1.trans e2).trans e3
  refine ⟨szl (by show 0 ≤ 1000000; decide), fun du hdu => ?_⟩
  have s4 := same_new hdu (.lst [])
  have hdu4 : (upd H3 du (.lst [])) du = some (.lst []) := upd_same
  have du0 := e3.free hdu
  have e4 := e3.trans s4
  generalize upd H3 du (.lst []) = H4 at s4 hdu4 e4
  obtain ⟨xs, hl, aB⟩ := hB
  obtain ⟨x, hx, t, w0, p0, rfl, ht, ⟨wx, hw, haw⟩, _⟩ := aB.get hb
  have wxl := haw.1
  have add : ∀ (H' : Hp) (ys : List V) (L : List Sd) (r : Addr) (n : Nat) (z : Str), Same H H' → H' du = some (.lst ys) → All2 (SdAt H') ys L → H' r = none → Same H (upd (upd H' r (.tup [V.int (n : Int), V.str z])) du (.lst (ys ++ [V.ref r]))) ∧ (upd (upd H' r (.tup [V.int (n : Int), V.str z])) du (.lst (ys ++ [V.ref r]))) du = some (.lst (ys ++ [V.ref r])) ∧ All2 (SdAt (upd (upd H' r (.tup [V.int (n : Int), V.str z])) du (.lst (ys ++ [V.ref r])))) (ys ++ [V.ref r]) (L ++ [(n, z)]) := fun H' ys L r n z e hy ay hr => by
    have s1 := same_new hr (.tup [V.int (n : Int), V.str z])
    have nr : r ≠ du := fun z => by rw [z, hy] at hr; cases hr
    have tk := (Same.tk s1).trans (TK.upd (o := .lst (ys ++ [V.ref r])) (s1 _ _ hy))
    exact ⟨fun a o ha => by rw [upd_ne (ne_of_none ha du0)]; exact s1 _ _ (e _ _ ha), upd_same, (ay.mono fun u v w => w.tk tk).snoc ⟨r, rfl, by rw [upd_ne nr]; exact upd_same⟩⟩
  refine ⟨_, rfl, _, rfl, by omega, by omega, ?_⟩
  refine for_range (lo := 0) (n := s) (fun e σ' H' => ∃ (ys : List V) (o7 o8 : Option V), σ' = [some (.ref l), some (.int b.k), some (.int c.k), some (.int (i : Int)), some (.int (j : Int)), some (.int (s : Int)), some (.ref du), o7, o8] ∧ Same H H' ∧ H' du = some (.lst ys) ∧ All2 (SdAt H') ys (sds b e)) ⟨[], _, _, rfl, e4, hdu4, .nil⟩ (fun e σ' H' he pp => ?_) (fun σ' H' pp => ?_)
  · obtain ⟨ys, o7, o8, rfl, eH, hy, ay⟩ := pp
    have yl : ys.length ≤ 2 * e := by rw [ay.1]; exact sds_len b e
    have hew : e < b.ways.length := Nat.lt_of_lt_of_le he sb
    have z0 : (0 + (e : Int)) = (e : Int) := Int.zero_add _
    obtain ⟨xw, hxw, tw, rfl, htw⟩ := haw.get (List.getElem?_eq_getElem hew)
    have atw : atI wx (0 + (e : Int)) = some (.ref tw) := by rw [z0]; exact atI_nat hxw
    have gw : b.ways.getD e (false, "") = b.ways[e] := by rw [List.getD_eq_getElem?_getD, List.getElem?_eq_getElem hew]; rfl
    refine ⟨_, rfl, _, rfl, l, _, _, _, rfl, rfl, SqL.of (eH _ _ hl), atI_nat hx, t, _, 2, _, rfl, rfl, SqT.of (eH _ _ ht), rfl, _, rfl, w0, _, _, _, rfl, rfl, SqL.of (eH _ _ hw), atw, tw, _, 1, _, rfl, rfl, SqT.of (eH _ _ htw), rfl, ?_⟩
    dsimp only [gName]
    have snoc : sds b (e + 1) = sds b e ++ sd1 (b.ways[e]).2 e := by show sds b e ++ sd1 _ e = _; rw [gw]
    unfold sd1 at snoc
    rw [← List.append_assoc] at snoc
    generalize (b.ways[e]).2 = w at snoc ⊢
    rw [z0]
    refine seq_any (fun σ' H5 => ∃ ys5 : List V, σ' = [some (.ref l), some (.int b.k), some (.int c.k), some (.int (i : Int)), some (.int (j : Int)), some (.int (s : Int)), some (.ref du), some (.int (e : Int)), some (.str w)] ∧ Same H H5 ∧ H5 du = some (.lst ys5) ∧ All2 (SdAt H5) ys5 (sds b e ++ if w ≠ "up" then [((e, ("less" : Str)) : Sd)] else []) ∧ ys5.length ≤ ys.length + 1) (fun σ' H5 pp => ?_) (fun nx => ?_)
    rotate_left
    · refine ⟨_, rfl, rfl, _, rfl, ?_⟩
      by_cases c1 : w = "up"
      · refine iteE (ndF (congrArg V.str c1)) (iteF (nx _ _ ⟨ys, rfl, eH, hy, ?_, Nat.le_succ _⟩))
        rw [if_neg (fun z => z c1), List.append_nil]
        exact ay
      · refine iteE (ndT (fun z => c1 (V.str.inj z))) (iteT ?_)
        refine ⟨_, rfl, .inl ⟨rfl, _, SqL.of hy⟩, _, rfl, szl (by show 2 ≤ 1000000; decide), fun r hr' => ?_⟩
        obtain ⟨a1, a2, a3⟩ := add H' ys (sds b e) r e "less" eH hy ay hr'
        refine ⟨du, _, _, rfl, rfl, (same_new hr' _) _ _ hy, szlt (by omega), ?_⟩
        refine nx _ _ ⟨_, rfl, a1, a2, ?_, by rw [List.length_append]; exact Nat.le_refl _⟩
        rw [if_pos c1]
        exact a3
    obtain ⟨ys5, rfl, e5, hy5, ay5, yl5⟩ := pp
    generalize (sds b e ++ if w ≠ "up" then [((e, ("less" : Str)) : Sd)] else []) = L1 at ay5 snoc
    refine ⟨_, rfl, rfl, _, rfl, ?_⟩
    by_cases c1 : w = "down"
    · refine iteE (ndF (congrArg V.str c1)) (iteF ⟨ys5, _, _, rfl, e5, hy5, ?_⟩)
      rw [snoc, if_neg (fun z => z c1), List.append_nil]
      exact ay5
    · refine iteE (ndT (fun z => c1 (V.str.inj z))) (iteT ?_)
      refine ⟨_, rfl, .inl ⟨rfl, _, SqL.of hy5⟩, _, rfl, szl (by show 2 ≤ 1000000; decide), fun r hr' => ?_⟩
      obtain ⟨a1, a2, a3⟩ := add H5 ys5 L1 r e "more" e5 hy5 ay5 hr'
      refine ⟨du, _, _, rfl, rfl, (same_new hr' _) _ _ hy5, szlt (by omega), ?_⟩
      refine ⟨_, _, _, rfl, a1, a2, ?_⟩
      rw [snoc, if_pos c1]
      exact a3
  obtain ⟨ys, o7, o8, rfl, eH, hy, ay⟩ := pp
  have yl : ys.length ≤ 2 * s := by rw [ay.1]; exact sds_len b s
  dsimp only
  refine seq_any (fun σ' H5 => ∃ ys5 : List V, σ' = [some (.ref l), some (.int b.k), some (.int c.k), some (.int (i : Int)), some (.int (j : Int)), some (.int (s : Int)), some (.ref du), o7, o8] ∧ Same H H5 ∧ H5 du = some (.lst ys5) ∧ All2 (SdAt H5) ys5 (sidesL b i j s)) (fun σ' H5 pp => ?_) (fun nx => ?_)
  · obtain ⟨ys5, rfl, e5, hy5, ay5⟩ := pp
    exact ⟨_, rfl, q du ys5 _ e5 hy5 ay5⟩
  refine ⟨_, rfl, _, rfl, _, _, rfl, rfl, _, rfl, ?_⟩
  refine ite2 (fun c1 => ?_) (fun c1 => ?_)
  · have c1 := dT c1
    refine ⟨_, rfl, .inl ⟨rfl, _, SqL.of hy⟩, _, rfl, szl (by show 2 ≤ 1000000; decide), fun r hr' => ?_⟩
    obtain ⟨a1, a2, a3⟩ := add H' ys (sds b s) r s "text" eH hy ay hr'
    refine ⟨du, _, _, rfl, rfl, (same_new hr' _) _ _ hy, szlt (by omega), ?_⟩
    refine nx _ _ ⟨_, rfl, a1, a2, ?_⟩
    unfold sidesL
    rw [if_pos (Int.ofNat_lt.mp c1)]
    exact a3
  · have c1 := dF c1
    refine nx _ _ ⟨ys, rfl, eH, hy, ?_⟩
    unfold sidesL
    rw [if_neg (fun h => c1 (Int.ofNat_lt.mpr h)), List.append_nil]
    exact ay

theorem ok_deed7 (T : Tx K mg a) : FnOk P w K mg base CX0 3 a.f_l_deed a.d_l_deed ["_law_k", "_law_depth"] (spDeed7 a.c_Deed) := by
  have G_Number_init := ok_ninit (P := P) (w := w) (base := base) T
  have G_Deed_init := ok_dinit (P := P) (w := w) (base := base) T
  refine T.F_l_deed.ok sc_l_deed (fun vs H Q E h => ?_) (fun cdv A outer s H vs Q E hr h => ?_)
  · obtain ⟨_, _, rfl, _⟩ := h; rfl
  obtain ⟨k, d, rfl, d0, d3, q⟩ := h
  refine ⟨_, (@pss_cons _ _ _ _ _ (@ps_set _ _ (2) _ _ _ _ sc_l_deed.nd rfl (Or.inl rfl) (@pe_slice _ _ _ _ _ _ _ _ _ _ sl_tupH (@pe_tupq _ _ _ _ _ (@paq_cons _ _ _ _ _ pe_str (@paq_cons _ _ _ _ _ pe_str (@paq_cons _ _ _ _ _ pe_str paq_nil star_C) star_C) star_C)) po_none (@po_some _ _ _ (pv 1))) (by rfl) (by first | exact .inl rfl | exact .inr rfl | assumption)) (@pss_cons _ _ _ _ _ (@ps_set _ _ (3) _ _ _ _ sc_l_deed.nd rfl (Or.inl rfl) (@pe_slice _ _ _ _ _ _ _ _ _ _ sl_tupH (@pe_tupq _ _ _ _ _ (@paq_cons _ _ _ _ _ (@pe_tup _ _ _ _ _ (@pa_cons _ _ _ _ _ pe_str (@pa_cons _ _ _ _ _ pe_int pa_nil (by rfl)) (by rfl))) (@paq_cons _ _ _ _ _ (@pe_tup _ _ _ _ _ (@pa_cons _ _ _ _ _ pe_str (@pa_cons _ _ _ _ _ pe_int pa_nil (by rfl)) (by rfl))) (@paq_cons _ _ _ _ _ (@pe_tup _ _ _ _ _ (@pa_cons _ _ _ _ _ pe_str (@pa_cons _ _ _ _ _ pe_int pa_nil (by rfl)) (by rfl))) paq_nil star_T) star_T) star_T)) po_none (@po_some _ _ _ (pv 1))) (by rfl) (by first | exact .inl rfl | exact .inr rfl | assumption)) (@pss_one _ _ _ (@ps_ret _ _ _ _ (@pe_make _ _ _ _ _ _ _ _ _ _ _ _ _ _ _ _ _ T.mk_Deed G_Deed_init (hr.mono (by omega)) (by rfl) T.mc_Deed T.b_Deed_init .nil pass0 (@pa_cons _ _ _ _ _ (pv 2) (@pa_cons _ _ _ _ _ (pv 3) (@pa_cons _ _ _ _ _ (pv 3) (@pa_cons _ _ _ _ _ pe_str (@pa_cons _ _ _ _ _ (@pe_tup _ _ _ _ _ (@pa_cons _ _ _ _ _ (@pe_tup _ _ _ _ _ (@pa_cons _ _ _ _ _ pe_str (@pa_cons _ _ _ _ _ (pv 0) pa_nil (by rfl)) (by rfl))) pa_nil (by rfl))) (@pa_cons _ _ _ _ _ (@pe_make _ _ _ _ _ _ _ _ _ _ _ _ _ _ _ _ _ T.mk_Number G_Number_init (hr.mono (by omega)) (by rfl) T.mc_Number T.b_Number_init .nil pass0 (@pa_cons _ _ _ _ _ (pv 0) pa_nil (by rfl)) (by decide) (by rfl) (by rfl)) (@pa_cons _ _ _ _ _ (@pe_op _ _ _ _ _ _ _ _ op_catH (@pe_tup _ _ _ _ _ (@pa_cons _ _ _ _ _ (pv 0) pa_nil (by rfl))) (@pe_slice _ _ _ _ _ _ _ _ _ _ sl_tupH (@pe_tupq _ _ _ _ _ (@paq_cons _ _ _ _ _ pe_int (@paq_cons _ _ _ _ _ pe_int (@paq_cons _ _ _ _ _ pe_int paq_nil star_C) star_C) star_C)) po_none (@po_some _ _ _ (pv 1)))) pa_nil (by rfl)) (by rfl)) (by rfl)) (by rfl)) (by rfl)) (by rfl)) (by rfl)) (by decide) (by rfl) (by rfl)))))), ?_⟩
  try dsimp only [cxK, noxK]
  have cut3 : ∀ x y z : V, (cutV [x, y, z] none (some d)).length = d.toNat := fun x y z => by
    have : cutV [x, y, z] none (some d) = [x, y, z].take d.toNat := cut_to _ d0
    rw [this, List.length_take]
    show min d.toNat 3 = _
    omega
  refine ⟨szl (by show 3 ≤ 1000000; decide), fun t1 ht1 => ⟨_, rfl, _, rfl, t1, _, rfl, upd_same, fun nm H1 e1 hnm => ?_⟩⟩
  have s1 := (same_new ht1 (.tup [V.str "i", V.str "jo", V.str "kim"])).trans e1
  refine ⟨szl (by show 2 ≤ 1000000; decide), fun t2 ht2 => ⟨szl (by show 2 ≤ 1000000; decide), fun t3 ht3 => ⟨szl (by show 2 ≤ 1000000; decide), fun t4 ht4 => ⟨szl (by show 3 ≤ 1000000; decide), fun t5 ht5 => ⟨_, rfl, _, rfl, t5, _, rfl, upd_same, fun bd H2 e2 hbd => ?_⟩⟩⟩⟩⟩
  have s2 := (((same_new ht2 (.tup [V.str "", V.int 0])).trans (same_new ht3 (.tup [V.str "", V.int 3]))).trans ((same_new ht4 (.tup [V.str "", V.int 1])).trans (same_new ht5 (.tup [V.ref t2, V.ref t3, V.ref t4])))).trans e2
  have s12 := s1.trans s2
  have hnm2 := s2 _ _ hnm
  refine ⟨_, rfl, _, rfl, _, rfl, _, rfl, szl (by show 2 ≤ 1000000; decide), fun u1 hu1 => ⟨szl (by show 1 ≤ 1000000; decide), fun u2 hu2 => ?_⟩⟩
  refine ⟨_, rfl, ?_⟩
  intro x dx hx hdx hne
  refine ⟨x, dx, _, rfl, upd_same, fun H9 k9 hx9 => ⟨rfl, ?_⟩⟩
  have e9 := (same_new hu1 (.tup [V.str "", V.int k])).trans ((same_new hu2 (.tup [V.ref u1])).trans (made_same hx hdx k9))
  refine ⟨_, rfl, szl (by show 1 ≤ 1000000; decide), fun u3 hu3 => ⟨szl (by show 3 ≤ 1000000; decide), fun u4 hu4 => ⟨_, rfl, _, rfl, u4, _, rfl, upd_same, fun z0 H10 e10 hz0 => ?_⟩⟩⟩
  have s9 := ((same_new hu3 (.tup [V.int k])).trans (same_new hu4 (.tup [V.int 0, V.int 0, V.int 0]))).trans e10
  have hu3' := e10 _ _ ((same_new hu4 (.tup [V.int 0, V.int 0, V.int 0])) _ _ (show (upd H9 u3 (.tup [V.int k])) u3 = some (.tup [V.int k]) from upd_same))
  refine ⟨u3, z0, [V.int k], _, rfl, rfl, hu3', hz0, szl (by rw [cut3]; show 1 + d.toNat ≤ 1000000; omega), fun pt H11 e11 hpt => ?_⟩
  intro dd ddx hd hdd hne2
  refine ⟨dd, ddx, _, _, _, _, _, _, _, rfl, upd_same, fun H12 k12 hd12 => ⟨rfl, ?_⟩⟩
  obtain ⟨dx12, hd12⟩ := hd12
  have e12 := (e9.trans (s9.trans e11)).trans (made_same hd hdd k12)
  exact q dd _ (s12.trans e12) ⟨dd, dx12, nm, _, _, _, _, _, _, _, rfl, hd12, e12 _ _ hnm2, by rw [cut3]; omega⟩

theorem ok_timeb (T : Tx K mg a) : FnOk P w K mg base CX0 1 a.f_l_time_bonds a.d_l_time_bonds ["_law_u", "_law_r", "_law_w", "_law_m", "_law_side"] spTimeB := by
  refine T.F_l_time_bonds.ok sc_l_time_bonds (fun vs H Q E h => ?_) (fun cdv A outer s H vs Q E hr h => ?_)
  · obtain ⟨_, _, _, _, _, rfl, _⟩ := h; rfl
  obtain ⟨u, r, w2, m, kind, rfl, q⟩ := h
  refine ⟨_, (@pss_cons _ _ _ _ _ (@ps_if _ _ _ _ _ _ _ _ (@pt_cmpR _ _ _ _ _ _ _ _ op_eq (pv 4) pe_str (@nomark _ _ (by decide) (by decide))) (@pss_one _ _ _ (@ps_ret _ _ _ _ (@pe_lst _ _ _ _ (@pa_cons _ _ _ _ _ (@pe_tupq _ _ _ _ _ (@paq_cons _ _ _ _ _ (pv 0) (@paq_cons _ _ _ _ _ (pv 2) (@paq_cons _ _ _ _ _ (@pe_op _ _ _ _ _ _ _ _ op_sub (@pe_op _ _ _ _ _ _ _ _ op_sub (pv 3) (pv 1)) pe_int) paq_nil star_B) star_N) star_N)) pa_nil (by rfl))))) pss_nil) (@pss_cons _ _ _ _ _ (@ps_if _ _ _ _ _ _ _ _ (@pt_cmpR _ _ _ _ _ _ _ _ op_eq (pv 4) pe_str (@nomark _ _ (by decide) (by decide))) (@pss_one _ _ _ (@ps_ret _ _ _ _ (@pe_lst _ _ _ _ (@pa_cons _ _ _ _ _ (@pe_tupq _ _ _ _ _ (@paq_cons _ _ _ _ _ (pv 2) (@paq_cons _ _ _ _ _ (pv 0) (@paq_cons _ _ _ _ _ (@pe_op _ _ _ _ _ _ _ _ op_sub (@pe_op _ _ _ _ _ _ _ _ op_sub (pv 1) (pv 3)) pe_int) paq_nil star_B) star_N) star_N)) pa_nil (by rfl))))) pss_nil) (@pss_one _ _ _ (@ps_ret _ _ _ _ (@pe_lst _ _ _ _ (@pa_cons _ _ _ _ _ (@pe_tupq _ _ _ _ _ (@paq_cons _ _ _ _ _ (pv 0) (@paq_cons _ _ _ _ _ (pv 2) (@paq_cons _ _ _ _ _ (@pe_op _ _ _ _ _ _ _ _ op_sub (pv 3) (pv 1)) paq_nil star_B) star_N) star_N)) (@pa_cons _ _ _ _ _ (@pe_tupq _ _ _ _ _ (@paq_cons _ _ _ _ _ (pv 2) (@paq_cons _ _ _ _ _ (pv 0) (@paq_cons _ _ _ _ _ (@pe_op _ _ _ _ _ _ _ _ op_sub (pv 1) (pv 3)) paq_nil star_B) star_N) star_N)) pa_nil (by rfl)) (by rfl))))))), ?_⟩
  try dsimp only [cxK, noxK]
  unfold tmB at q
  refine ⟨_, rfl, rfl, _, rfl, ?_⟩
  by_cases c1 : kind = "less"
  · rw [if_pos c1] at q
    refine iteE (v := true) (decide_eq_true (congrArg V.str c1)) (iteT ?_)
    refine ⟨_, rfl, _, rfl, _, rfl, _, rfl, _, _, rfl, rfl, _, _, rfl, rfl, szl (by show 3 ≤ 1000000; decide), fun t ht => ⟨szl (by show 1 ≤ 1000000; decide), fun l hl => ?_⟩⟩
    have s1 := same_new ht (.tup [V.int u, V.int w2, V.int (m - r - 1)])
    have s2 := same_new hl (.lst [V.ref t])
    exact q l [.ref t] _ (s1.trans s2) upd_same (TrisAt.nil.snoc (t := t) (b := (u, w2, m - r - 1)) (s2 _ _ upd_same))
  rw [if_neg c1] at q
  refine iteE (v := false) (dS c1) (iteF ?_)
  refine ⟨_, rfl, rfl, _, rfl, ?_⟩
  by_cases c2 : kind = "more"
  · rw [if_pos c2] at q
    refine iteE (v := true) (decide_eq_true (congrArg V.str c2)) (iteT ?_)
    refine ⟨_, rfl, _, rfl, _, rfl, _, rfl, _, _, rfl, rfl, _, _, rfl, rfl, szl (by show 3 ≤ 1000000; decide), fun t ht => ⟨szl (by show 1 ≤ 1000000; decide), fun l hl => ?_⟩⟩
    have s1 := same_new ht (.tup [V.int w2, V.int u, V.int (r - m - 1)])
    have s2 := same_new hl (.lst [V.ref t])
    exact q l [.ref t] _ (s1.trans s2) upd_same (TrisAt.nil.snoc (t := t) (b := (w2, u, r - m - 1)) (s2 _ _ upd_same))
  rw [if_neg c2] at q
  refine iteE (v := false) (dS c2) (iteF ?_)
  refine ⟨_, rfl, _, rfl, _, rfl, _, rfl, _, _, rfl, rfl, szl (by show 3 ≤ 1000000; decide), fun t ht => ⟨_, rfl, _, rfl, _, rfl, _, rfl, _, _, rfl, rfl, szl (by show 3 ≤ 1000000; decide), fun t2 ht2 => ⟨szl (by show 2 ≤ 1000000; decide), fun l hl => ?_⟩⟩⟩
  have s1 := same_new ht (.tup [V.int u, V.int w2, V.int (m - r)])
  have s2 := same_new ht2 (.tup [V.int w2, V.int u, V.int (r - m)])
  have s3 := same_new hl (.lst [V.ref t, V.ref t2])
  exact q l [.ref t, .ref t2] _ (s1.trans (s2.trans s3)) upd_same ((TrisAt.nil.snoc (t := t) (b := (u, w2, m - r)) (s3 _ _ (s2 _ _ upd_same))).snoc (t := t2) (b := (w2, u, r - m)) (s3 _ _ upd_same))

theorem ok_sidel (T : Tx K mg a) : FnOk P w K mg base CX0 2 a.f_l_side_bonds a.d_l_side_bonds ["_law_boughs_here", "_law_behind", "_law_k", "_law_l", "_law_level", "_law_side"] spSideL := by
  have G_l_at := ok_at (P := P) (w := w) (base := base) T
  have G_l_time_bonds := ok_timeb (P := P) (w := w) (base := base) T
  refine T.F_l_side_bonds.ok sc_l_side_bonds (fun vs H Q E h => ?_) (fun cdv A outer s H vs Q E hr h => ?_)
  · obtain ⟨_, _, _, _, _, _, _, _, _, rfl, _⟩ := h; rfl
  obtain ⟨l, B, beh, level, side, i, j, b, c, rfl, hBo, g, nd, hb, hc, hside, hb1, hc1, q⟩ := h
  refine ⟨_, (@pss_cons _ _ _ _ _ (@ps_set _ _ (6) _ _ _ _ sc_l_side_bonds.nd rfl (Or.inl rfl) (@pe_ix _ _ _ _ _ _ _ ix_list (pv 0) (@pe_call _ _ _ _ _ _ _ _ _ _ _ _ _ _ _ _ G_l_at (hr.mono (by omega)) (by rfl) T.m_l_at T.F_l_at.kp T.b_l_at .nil pass0 (@pa_cons _ _ _ _ _ (pv 0) (@pa_cons _ _ _ _ _ (pv 2) pa_nil (by rfl)) (by rfl)) (by decide) (by rfl) (by rfl)) (fun _ _ => rfl)) (by rfl) (by first | exact .inl rfl | exact .inr rfl | assumption)) (@pss_cons _ _ _ _ _ (@ps_set _ _ (7) _ _ _ _ sc_l_side_bonds.nd rfl (Or.inl rfl) (@pe_ix _ _ _ _ _ _ _ ix_list (pv 0) (@pe_call _ _ _ _ _ _ _ _ _ _ _ _ _ _ _ _ G_l_at (hr.mono (by omega)) (by rfl) T.m_l_at T.F_l_at.kp T.b_l_at .nil pass0 (@pa_cons _ _ _ _ _ (pv 0) (@pa_cons _ _ _ _ _ (pv 3) pa_nil (by rfl)) (by rfl)) (by decide) (by rfl) (by rfl)) (fun _ _ => rfl)) (by rfl) (by first | exact .inl rfl | exact .inr rfl | assumption)) (@pss_cons _ _ _ _ _ (@ps_set _ _ (8) _ _ _ _ sc_l_side_bonds.nd rfl (Or.inl rfl) (@pe_lst _ _ _ _ pa_nil) (by rfl) (by first | exact .inl rfl | exact .inr rfl | assumption)) (@pss_cons _ _ _ _ _ (@ps_for _ _ _ _ _ _ _ _ PassesOwn.never rfl (@pi_range1 _ _ _ _ _ _ (by rfl) T.z_range (@pa_cons _ _ _ _ _ (@pe_op _ _ _ _ _ _ _ _ op_add (pv 4) pe_int) pa_nil (by rfl)) (by rfl)) (pg_name (i := 9) sc_l_side_bonds.nd rfl (Or.inl rfl)) (@pss_cons _ _ _ _ _ (@ps_if _ _ _ _ _ _ _ _ ((@pw_and _ _ _ _ _ _ _ (@pt_cmpR _ _ _ _ _ _ _ _ op_eq (pv 9) (pv 4) (@nomark _ _ (by decide) (by decide))) (@pw_and1 _ _ _ _ (@pt_cmpR _ _ _ _ _ _ _ _ op_eq (pv 5) pe_str (@nomark _ _ (by decide) (by decide)))))).pt (@pss_one _ _ _ ps_break) pss_nil) (@pss_one _ _ _ (@ps_if _ _ _ _ _ _ _ _ ((@pw_or _ _ _ _ _ _ _ (@pt_cmpR _ _ _ _ _ _ _ _ op_eq (pv 9) (pv 4) (@nomark _ _ (by decide) (by decide))) (@pw_or1 _ _ _ _ (@pt_not _ _ _ _ (@pt_val _ _ _ (@pe_ix _ _ _ _ _ _ _ ix_tup (@pe_ix _ _ _ _ _ _ _ ix_list (@pe_ix _ _ _ _ _ _ _ ix_tup (pv 6) pe_int (fun _ _ => rfl)) (pv 9) (fun _ _ => rfl)) pe_int (fun _ _ => rfl)) (by intro _ ; rfl)))))).pt (@pss_cons _ _ _ _ _ (@ps_set _ _ (10) _ _ _ _ sc_l_side_bonds.nd rfl (Or.inl rfl) (pv 5) (by rfl) (by first | exact .inl rfl | exact .inr rfl | assumption)) (@pss_cons _ _ _ _ _ (@ps_if _ _ _ _ _ _ _ _ (@pt_cmpR _ _ _ _ _ _ _ _ op_lt (pv 9) (pv 4) (@nomark _ _ (by decide) (by decide))) (@pss_one _ _ _ (@ps_set _ _ (10) _ _ _ _ sc_l_side_bonds.nd rfl (Or.inl rfl) pe_str (by rfl) (by first | exact .inl rfl | exact .inr rfl | assumption))) pss_nil) (@pss_cons _ _ _ _ _ (@ps_set _ _ (11) _ _ _ _ sc_l_side_bonds.nd rfl (Or.inl rfl) (@pe_ix _ _ _ _ _ _ _ ix_list (@pe_ix _ _ _ _ _ _ _ ix_tup (pv 6) pe_int (fun _ _ => rfl)) (pv 9) (fun _ _ => rfl)) (by rfl) (by first | exact .inl rfl | exact .inr rfl | assumption)) (@pss_cons _ _ _ _ _ (@ps_set _ _ (12) _ _ _ _ sc_l_side_bonds.nd rfl (Or.inl rfl) (@pe_ix _ _ _ _ _ _ _ ix_list (@pe_ix _ _ _ _ _ _ _ ix_tup (pv 7) pe_int (fun _ _ => rfl)) (pv 9) (fun _ _ => rfl)) (by rfl) (by first | exact .inl rfl | exact .inr rfl | assumption)) (@pss_one _ _ _ (@ps_expr _ _ _ _ (@pe_bm _ _ _ _ _ _ _ _ _ _ _ _ PySem.F.plainAttrs_list PySem.F.slot_list_extend PySem.F.type_list_extend mt_extend (pv 8) (@pa_cons _ _ _ _ _ (@pe_call _ _ _ _ _ _ _ _ _ _ _ _ _ _ _ _ G_l_time_bonds (hr.mono (by omega)) (by rfl) T.m_l_time_bonds T.F_l_time_bonds.kp T.b_l_time_bonds .nil pass0 (@pa_cons _ _ _ _ _ (@pe_op _ _ _ _ _ _ _ _ op_add pe_int (@pe_ix _ _ _ _ _ _ _ ix_tup (pv 11) pe_int (fun _ _ => rfl))) (@pa_cons _ _ _ _ _ (@pe_ix _ _ _ _ _ _ _ ix_tup (pv 11) pe_int (fun _ _ => rfl)) (@pa_cons _ _ _ _ _ (@pe_op _ _ _ _ _ _ _ _ op_add (pv 1) (@pe_ix _ _ _ _ _ _ _ ix_tup (pv 12) pe_int (fun _ _ => rfl))) (@pa_cons _ _ _ _ _ (@pe_ix _ _ _ _ _ _ _ ix_tup (pv 12) pe_int (fun _ _ => rfl)) (@pa_cons _ _ _ _ _ (pv 10) pa_nil (by rfl)) (by rfl)) (by rfl)) (by rfl)) (by rfl)) (by decide) (by rfl) (by rfl)) pa_nil (by rfl)) (by rfl) (by rfl) (by rfl) (by rfl) (by rfl)) (by rfl))))))) pss_nil))) (by intro _ ; rfl)) (@pss_one _ _ _ (@ps_ret _ _ _ _ (pv 8))))))), ?_⟩
  try dsimp only [cxK, noxK]
  have gb := g.all b (List.mem_of_getElem? hb)
  have gc := g.all c (List.mem_of_getElem? hc)
  have bw := gb.len
  have cw := gc.len
  have lev : level ≤ 6 := by unfold hi1 at hb1; split at hb1 <;> omega
  obtain ⟨xs, hl, aB⟩ := hBo
  obtain ⟨x, hx, t, w0, p0, rfl, ht, ⟨wx, hw, haw⟩, ⟨px, hp, hap⟩⟩ := aB.get hb
  obtain ⟨y, hy, t2, w2, p2, rfl, ht2, _, ⟨qx, hq, haq⟩⟩ := aB.get hc
  refine ⟨_, rfl, _, rfl, _, rfl, l, B, i, b, rfl, ⟨xs, hl, aB⟩, g.len, nd, hb, fun H1 e1 => ⟨l, _, _, _, rfl, rfl, SqL.of (e1 _ _ hl), atI_nat hx, ?_⟩⟩
  refine ⟨_, rfl, _, rfl, _, rfl, l, B, j, c, rfl, BosAt.over ⟨xs, hl, aB⟩ e1, g.len, nd, hc, fun H2 e2 => ⟨l, _, _, _, rfl, rfl, SqL.of (e2 _ _ (e1 _ _ hl)), atI_nat hy, ?_⟩⟩
  have e2 := e1.trans e2
  refine ⟨szl (by show 0 ≤ 1000000; decide), fun du hdu => ?_⟩
  have s3 := same_new hdu (.lst [])
  have hdu3 : (upd H2 du (.lst [])) du = some (.lst []) := upd_same
  have du0 := e2.free hdu
  dsimp only [gName]
  have e3 := e2.trans s3
  generalize upd H2 du (.lst []) = H3 at s3 hdu3 e3
  refine seq_any (fun σ' H' => ∃ (zs : List V) (o9 o10 o11 o12 : Option V), σ' = [some (.ref l), some (.int beh), some (.int b.k), some (.int c.k), some (.int (level : Int)), some (.str side), some (.ref t), some (.ref t2), some (.ref du), o9, o10, o11, o12] ∧ Same H H' ∧ H' du = some (.lst zs) ∧ TrisAt H' zs (sdL beh level side 0 (rbs b c (hi1 side level)))) (fun σ' H' pp => ?_) (fun nx => ?_)
  · obtain ⟨zs, o9, o10, o11, o12, rfl, e, hz, tz⟩ := pp
    exact ⟨_, rfl, q du zs _ e hz tz⟩
  refine ⟨_, rfl, _, _, rfl, rfl, _, rfl, by omega, by omega, ?_⟩
  rw [show ((level : Int) + 1).toNat = level + 1 from rfl]
  refine for_range (lo := 0) (n := level + 1) (fun e σ' H' => ∃ (zs : List V) (o9 o10 o11 o12 : Option V), σ' = [some (.ref l), some (.int beh), some (.int b.k), some (.int c.k), some (.int (level : Int)), some (.str side), some (.ref t), some (.ref t2), some (.ref du), o9, o10, o11, o12] ∧ Same H H' ∧ H' du = some (.lst zs) ∧ TrisAt H' zs (sdL beh level side 0 (rbs b c e)) ∧ e ≤ hi1 side level) ⟨[], _, _, _, _, rfl, e3, hdu3, .nil, Nat.zero_le _⟩ (fun e σ' H' he pp => ?_) (fun σ' H' pp => ?_)
  rotate_left
  · obtain ⟨zs, o9, o10, o11, o12, rfl, eH, hz, tz, hle⟩ := pp
    have : hi1 side level = level + 1 := by unfold hi1 at hle ⊢; split at hle <;> rename_i z <;> simp only [z, if_true, if_false] <;> omega
    rw [← this] at tz
    exact nx _ _ ⟨zs, _, _, _, _, rfl, eH, hz, tz⟩
  obtain ⟨zs, o9, o10, o11, o12, rfl, eH, hz, tz, hle⟩ := pp
  have z0 : (0 + (e : Int)) = (e : Int) := Int.zero_add _
  dsimp only [gName]
  rw [z0]
  have zl : zs.length ≤ 4 * e := by
    rw [tz.1]
    have := sdL_len beh level side (rbs b c e) 0
    rwa [rbs_len] at this
  refine seq_any (fun σ' H4 => H4 = H' ∧ σ' = [some (.ref l), some (.int beh), some (.int b.k), some (.int c.k), some (.int (level : Int)), some (.str side), some (.ref t), some (.ref t2), some (.ref du), some (.int (e : Int)), o10, o11, o12] ∧ e < hi1 side level) (fun σ' H4 pp => ?_) (fun nx2 => ?_)
  rotate_left
  · refine ⟨_, rfl, _, rfl, rfl, _, rfl, ?_⟩
    by_cases c1 : e = level
    · refine iteE (v := true) (decide_eq_true (congrArg V.int (zeq c1))) (iteT ?_)
      refine ⟨_, rfl, rfl, _, rfl, ?_⟩
      by_cases c2 : side = "text"
      · refine iteE (v := true) (decide_eq_true (congrArg V.str c2)) (iteT (nx _ _ ⟨zs, _, _, _, _, rfl, eH, hz, ?_⟩))
        rw [show hi1 side level = e by unfold hi1; rw [if_pos c2, c1]]
        exact tz
      · refine iteE (v := false) (dS c2) (iteF (nx2 _ _ ⟨rfl, rfl, ?_⟩))
        unfold hi1
        rw [if_neg c2]
        omega
    · refine iteE (v := false) (decide_eq_false fun z => c1 (ninj z)) (iteF (nx2 _ _ ⟨rfl, rfl, ?_⟩))
      unfold hi1
      split <;> omega
  obtain ⟨rfl, rfl, hlt⟩ := pp
  have hew : e < b.ways.length := by omega
  have hec : e < c.ways.length := by omega
  obtain ⟨xw, hxw, tw, rfl, htw⟩ := haw.get (List.getElem?_eq_getElem hew)
  have hpe : e < b.pl.length := by rw [gb.pll]; exact hew
  have hqe : e < c.pl.length := by rw [gc.pll]; exact hec
  obtain ⟨xp, hxp, tp, rfl, htp⟩ := hap.get (List.getElem?_eq_getElem hpe)
  obtain ⟨xq, hxq, tq, rfl, htq⟩ := haq.get (List.getElem?_eq_getElem hqe)
  have gw : b.ways.getD e (false, "") = b.ways[e] := by rw [List.getD_eq_getElem?_getD, List.getElem?_eq_getElem hew]; rfl
  have gp : b.pl.getD e (0, 0) = b.pl[e] := by rw [List.getD_eq_getElem?_getD, List.getElem?_eq_getElem hpe]; rfl
  have gq : c.pl.getD e (0, 0) = c.pl[e] := by rw [List.getD_eq_getElem?_getD, List.getElem?_eq_getElem hqe]; rfl
  have snoc : sdL beh level side 0 (rbs b c (e + 1)) = sdL beh level side 0 (rbs b c e) ++ sdAt beh level side e ⟨b.ways[e], b.pl[e], c.pl[e]⟩ := by
    rw [rbs_succ, sdL_snoc, Nat.zero_add, rbs_len, gw, gp, gq]
  generalize b.ways[e] = wy at htw snoc
  generalize b.pl[e] = pv at htp snoc
  generalize c.pl[e] = qv at htq snoc
  have ht' := eH _ _ ht
  have ht2' := eH _ _ ht2
  -- extend
  have ext : ∀ (kind : Str), tmB (1 + pv.1) pv.2 (beh + qv.1) qv.2 kind = sdAt beh level side e ⟨wy, pv, qv⟩ → ∀ (r : Addr) (ys : List V) (H5 : Hp), Same H4 H5 → H5 r = some (.lst ys) → TrisAt H5 ys (tmB (1 + pv.1) pv.2 (beh + qv.1) qv.2 kind) → H5 du = some (.lst zs) ∧ zs.length + ys.length ≤ sizeLine ∧ Same H (upd H5 du (.lst (zs ++ ys))) ∧ TrisAt (upd H5 du (.lst (zs ++ ys))) (zs ++ ys) (sdL beh level side 0 (rbs b c (e + 1))) := fun kind hk r ys H5 e5 hr5 t5 => by
    have hz5 := e5 _ _ hz
    have yl := t5.1
    have := tmB_len (1 + pv.1) pv.2 (beh + qv.1) qv.2 kind
    refine ⟨hz5, szl (by omega), fun a o ha => by rw [upd_ne (ne_of_none ha du0)]; exact e5 _ _ (eH _ _ ha), ?_⟩
    rw [snoc, ← hk]
    exact ((tz.over e5).upd hz5).app (t5.upd hz5)
  refine ⟨_, rfl, _, rfl, rfl, _, rfl, ?_⟩
  by_cases c1 : e = level
  · subst c1
    have hs : side = "less" ∨ side = "more" := by
      rcases hside with h | h | h
      · exact .inl h
      · exact .inr h
      · unfold hi1 at hlt; rw [if_pos h] at hlt; omega
    refine iteE (v := true) (decide_eq_true rfl) (iteT ?_)
    refine ⟨_, rfl, ?_⟩
    dsimp only [gName]
    refine seq_any (fun σ' H5 => H5 = H4 ∧ σ' = [some (.ref l), some (.int beh), some (.int b.k), some (.int c.k), some (.int (e : Int)), some (.str side), some (.ref t), some (.ref t2), some (.ref du), some (.int (e : Int)), some (.str side), o11, o12]) (fun σ' H5 pp => ?_) (fun nx3 => ?_)
    rotate_left
    · refine ⟨_, rfl, _, rfl, _, _, rfl, rfl, _, rfl, ?_⟩
      exact ite2 (fun c => by have := dT c; omega) (fun c => nx3 _ _ ⟨rfl, rfl⟩)
    obtain ⟨rfl, rfl⟩ := pp
    refine ⟨_, rfl, t, _, 3, _, rfl, rfl, SqT.of ht', rfl, _, rfl, p0, _, _, _, rfl, rfl, SqL.of (eH _ _ hp), atI_nat hxp, ?_⟩
    refine ⟨_, rfl, t2, _, 3, _, rfl, rfl, SqT.of ht2', rfl, _, rfl, p2, _, _, _, rfl, rfl, SqL.of (eH _ _ hq), atI_nat hxq, ?_⟩
    refine ⟨_, rfl, .inl ⟨rfl, _, SqL.of hz⟩, _, rfl, tp, _, 0, _, rfl, rfl, SqT.of (eH _ _ htp), rfl, _, _, rfl, rfl, _, rfl, tp, _, 1, _, rfl, rfl, SqT.of (eH _ _ htp), rfl, _, rfl, _, rfl, tq, _, 0, _, rfl, rfl, SqT.of (eH _ _ htq), rfl, _, _, rfl, rfl, _, rfl, tq, _, 1, _, rfl, rfl, SqT.of (eH _ _ htq), rfl, _, rfl, _, _, _, _, side, rfl, fun r ys H6 e6 hr6 t6 => ?_⟩
    obtain ⟨g1, g2, g3, g4⟩ := ext side (sd_level (rb := ⟨wy, pv, qv⟩) hs) r ys H6 e6 hr6 t6
    exact ⟨du, r, _, _, rfl, rfl, g1, hr6, g2, _, _, _, _, _, rfl, g3, upd_same, g4, hlt⟩
  · have hel : e < level := by omega
    refine iteE (v := false) (decide_eq_false fun z => c1 (ninj z)) (iteF ?_)
    refine ⟨_, rfl, t, _, 2, _, rfl, rfl, SqT.of ht', rfl, _, rfl, w0, _, _, _, rfl, rfl, SqL.of (eH _ _ hw), atI_nat hxw, tw, _, 0, _, rfl, rfl, SqT.of (eH _ _ htw), rfl, _, rfl, ?_⟩
    cases hcut : wy.1 with
    | true =>
      refine iteF ⟨zs, _, _, _, _, rfl, eH, hz, ?_, hlt⟩
      rw [snoc, sd_none (rb := ⟨wy, pv, qv⟩) hel hcut, List.append_nil]
      exact tz
    | false =>
      refine iteT ⟨_, rfl, ?_⟩
      dsimp only [gName]
      refine seq_any (fun σ' H5 => H5 = H4 ∧ σ' = [some (.ref l), some (.int beh), some (.int b.k), some (.int c.k), some (.int (level : Int)), some (.str side), some (.ref t), some (.ref t2), some (.ref du), some (.int (e : Int)), some (.str "alike"), o11, o12]) (fun σ' H5 pp => ?_) (fun nx3 => ?_)
      rotate_left
      · refine ⟨_, rfl, _, rfl, _, _, rfl, rfl, _, rfl, ?_⟩
        exact ite2 (fun c => nx3 _ _ ⟨rfl, rfl⟩) (fun c => by have := dF c; omega)
      obtain ⟨rfl, rfl⟩ := pp
      refine ⟨_, rfl, t, _, 3, _, rfl, rfl, SqT.of ht', rfl, _, rfl, p0, _, _, _, rfl, rfl, SqL.of (eH _ _ hp), atI_nat hxp, ?_⟩
      refine ⟨_, rfl, t2, _, 3, _, rfl, rfl, SqT.of ht2', rfl, _, rfl, p2, _, _, _, rfl, rfl, SqL.of (eH _ _ hq), atI_nat hxq, ?_⟩
      refine ⟨_, rfl, .inl ⟨rfl, _, SqL.of hz⟩, _, rfl, tp, _, 0, _, rfl, rfl, SqT.of (eH _ _ htp), rfl, _, _, rfl, rfl, _, rfl, tp, _, 1, _, rfl, rfl, SqT.of (eH _ _ htp), rfl, _, rfl, _, rfl, tq, _, 0, _, rfl, rfl, SqT.of (eH _ _ htq), rfl, _, _, rfl, rfl, _, rfl, tq, _, 1, _, rfl, rfl, SqT.of (eH _ _ htq), rfl, _, rfl, _, _, _, _, "alike", rfl, fun r ys H6 e6 hr6 t6 => ?_⟩
      obtain ⟨g1, g2, g3, g4⟩ := ext "alike" (sd_alike (rb := ⟨wy, pv, qv⟩) hel hcut) r ys H6 e6 hr6 t6
      exact ⟨du, r, _, _, rfl, rfl, g1, hr6, g2, _, _, _, _, _, rfl, g3, upd_same, g4, hlt⟩

theorem ok_alike7 (T : Tx K mg a) : FnOk P w K mg base CX0 2 a.f_l_alike a.d_l_alike ["_law_found", "_law_due"] spAlike3 := by
  have G_l_whole := ok_whole (P := P) (w := w) (base := base) T
  refine T.F_l_alike.ok sc_l_alike (fun vs H Q E h => ?_) (fun cdv A outer s H vs Q E hr h => ?_)
  · obtain ⟨_, _, _, _, _, rfl, _⟩ := h; rfl
  obtain ⟨l, l2, ys, zs, B, rfl, hl, hl2, hB, hB2, Bl, q⟩ := h
  refine ⟨_, (@pss_cons _ _ _ _ _ (@ps_if _ _ _ _ _ _ _ _ ((@pw_or _ _ _ _ _ _ _ (@pt_not _ _ _ _ (@pt_val _ _ _ (@pe_callB _ _ _ _ _ _ _ _ _ call_isi (by rfl) T.z_isinstance bt_isinstance (@pa_cons _ _ _ _ _ (pv 0) (@pa_cons _ _ _ _ _ (@pe_bltn _ _ (.ty "list") _ _ (by rfl) T.z_list bt_list rfl (by decide) (by decide)) pa_nil (by rfl)) (by rfl)) (by decide) (by decide) (by rfl) (by rfl)) (by intro _ ; rfl))) (@pw_or1 _ _ _ _ (@pt_cmpR _ _ _ _ _ _ _ _ op_ne (@pe_callB _ _ _ _ _ _ _ _ _ call_len_seq (by rfl) T.z_len bt_len (@pa_cons _ _ _ _ _ (pv 0) pa_nil (by rfl)) (by decide) (by decide) (by rfl) (by rfl)) (@pe_callB _ _ _ _ _ _ _ _ _ call_len_seq (by rfl) T.z_len bt_len (@pa_cons _ _ _ _ _ (pv 1) pa_nil (by rfl)) (by decide) (by decide) (by rfl) (by rfl)) (@nomark _ _ (by decide) (by decide)))))).pt (@pss_one _ _ _ (@ps_ret _ _ _ _ pe_bl)) pss_nil) (@pss_cons _ _ _ _ _ (@ps_for _ _ _ _ _ _ _ _ PassesOwn.never rfl (@pi_list _ _ _ _ (pv 0)) (pg_name (i := 2) sc_l_alike.nd rfl (Or.inl rfl)) (@pss_cons _ _ _ _ _ (@ps_if _ _ _ _ _ _ _ _ ((@pw_or _ _ _ _ _ _ _ (@pt_not _ _ _ _ (@pt_val _ _ _ (@pe_callB _ _ _ _ _ _ _ _ _ call_isi (by rfl) T.z_isinstance bt_isinstance (@pa_cons _ _ _ _ _ (pv 2) (@pa_cons _ _ _ _ _ (@pe_bltn _ _ (.ty "tuple") _ _ (by rfl) T.z_tuple bt_tuple rfl (by decide) (by decide)) pa_nil (by rfl)) (by rfl)) (by decide) (by decide) (by rfl) (by rfl)) (by intro _ ; rfl))) (@pw_or1 _ _ _ _ (@pt_cmpR _ _ _ _ _ _ _ _ op_ne (@pe_callB _ _ _ _ _ _ _ _ _ call_len_seq (by rfl) T.z_len bt_len (@pa_cons _ _ _ _ _ (pv 2) pa_nil (by rfl)) (by decide) (by decide) (by rfl) (by rfl)) pe_int (@nomark _ _ (by decide) (by decide)))))).pt (@pss_one _ _ _ (@ps_ret _ _ _ _ pe_bl)) pss_nil) (@pss_one _ _ _ (@ps_if _ _ _ _ _ _ _ _ ((@pw_or _ _ _ _ _ _ _ (@pt_not _ _ _ _ (@pt_val _ _ _ (@pe_call _ _ _ _ _ _ _ _ _ _ _ _ _ _ _ _ G_l_whole (hr.mono (by omega)) (by rfl) T.m_l_whole T.F_l_whole.kp T.b_l_whole .nil pass0 (@pa_cons _ _ _ _ _ (@pe_ix _ _ _ _ _ _ _ ix_tup (pv 2) pe_int (fun _ _ => rfl)) pa_nil (by rfl)) (by decide) (by rfl) (by rfl)) (by intro _ ; rfl))) (@pw_or _ _ _ _ _ _ _ (@pt_not _ _ _ _ (@pt_val _ _ _ (@pe_call _ _ _ _ _ _ _ _ _ _ _ _ _ _ _ _ G_l_whole (hr.mono (by omega)) (by rfl) T.m_l_whole T.F_l_whole.kp T.b_l_whole .nil pass0 (@pa_cons _ _ _ _ _ (@pe_ix _ _ _ _ _ _ _ ix_tup (pv 2) pe_int (fun _ _ => rfl)) pa_nil (by rfl)) (by decide) (by rfl) (by rfl)) (by intro _ ; rfl))) (@pw_or1 _ _ _ _ (@pt_not _ _ _ _ (@pt_val _ _ _ (@pe_call _ _ _ _ _ _ _ _ _ _ _ _ _ _ _ _ G_l_whole (hr.mono (by omega)) (by rfl) T.m_l_whole T.F_l_whole.kp T.b_l_whole .nil pass0 (@pa_cons _ _ _ _ _ (@pe_ix _ _ _ _ _ _ _ ix_tup (pv 2) pe_int (fun _ _ => rfl)) pa_nil (by rfl)) (by decide) (by rfl) (by rfl)) (by intro _ ; rfl))))))).pt (@pss_one _ _ _ (@ps_ret _ _ _ _ pe_bl)) pss_nil))) (by intro _ ; rfl)) (@pss_one _ _ _ (@ps_ret _ _ _ _ (@pe_cmpR _ _ _ _ _ _ _ _ (@op_eqS _ (@hu64 _ _ hr)) (pv 0) (pv 1) (@nomark _ _ (by decide) (by decide))))))), ?_⟩
  try dsimp only [cxK, noxK]
  have y1 := hB.1
  have z1 := hB2.1
  refine ⟨_, rfl, _, _, _, _, _, rfl, rfl, .lst hl, rfl, _, rfl, iteF ?_⟩
  refine ⟨_, rfl, l, _, rfl, .inl (SqL.of hl), _, rfl, l2, _, rfl, .inl (SqL.of hl2), rfl, _, rfl, ?_⟩
  rw [y1, z1]
  refine iteE (ndF rfl) (iteF ?_)
  refine ⟨_, rfl, l, rfl, ⟨_, SqL.of hl⟩, ?_⟩
  refine for_list (xs := ys) (fun i σ' H' => H' = H ∧ ∃ o2, σ' = [some (.ref l), some (.ref l2), o2]) ⟨rfl, _, rfl⟩ (fun i σ' H' _ pp => by rw [pp.1]; exact SqL.of hl) (fun i x σ' H' hx pp => ?_) (fun σ' H' pp => ?_)
  · obtain ⟨rfl, o2, rfl⟩ := pp
    have hi : i < B.length := by have := (List.getElem?_eq_some_iff.mp hx).1; omega
    obtain ⟨t, rfl, ht⟩ := hB.2 i x _ hx (List.getElem?_eq_getElem hi)
    refine seq_any (fun σ' H2 => H2 = H' ∧ σ' = [some (.ref l), some (.ref l2), some (.ref t)]) (fun σ' H2 pp => ?_) (fun nx => ?_)
    · obtain ⟨rfl, rfl⟩ := pp
      refine ⟨_, rfl, t, _, 0, _, rfl, rfl, SqT.of ht, rfl, _, rfl, rfl, _, rfl, iteF ?_⟩
      refine ⟨_, rfl, t, _, 1, _, rfl, rfl, SqT.of ht, rfl, _, rfl, rfl, _, rfl, iteF ?_⟩
      refine ⟨_, rfl, t, _, 2, _, rfl, rfl, SqT.of ht, rfl, _, rfl, rfl, _, rfl, iteF ?_⟩
      exact ⟨rfl, _, rfl⟩
    · refine ⟨_, rfl, _, _, _, _, _, rfl, rfl, .tup ht, rfl, _, rfl, iteF ?_⟩
      refine ⟨_, rfl, t, _, rfl, .inr (SqT.of ht), rfl, _, rfl, iteE (ndF rfl) (iteF ?_)⟩
      exact nx _ _ ⟨rfl, rfl⟩
  · obtain ⟨rfl, o2, rfl⟩ := pp
    have t1 := TrIs.lst (K := K) (SqL.of hl) (tri_tr (K := K) hB)
    have t2 := TrIs.lst (K := K) (SqL.of hl2) (tri_tr (K := K) hB2)
    refine ⟨_, rfl, _, rfl, _, _, t1, t2, ⟨_, rfl⟩, ⟨_, rfl⟩, simT_refl _, by rw [depT]; have := tri_dep B; omega, ?_⟩
    rw [show (if false = true then !eqT (.lst (B.map triT)) (.lst (B.map triT)) else eqT (.lst (B.map triT)) (.lst (B.map triT))) = true from eqT_refl _ t1.ok]
    exact q _ (Same.refl _)

theorem ok_turns7 (T : Tx K mg a) : FnOk P w K mg base CX0 2 a.f_l_turns a.d_l_turns ["_law_script", "_law_mine", "_law_theirs", "_law_depths"] (spTurns7 K) := by
  have G_l_cell_at := ok_cell_at (P := P) (w := w) (base := base) T
  have G_l_mixed := ok_mixed (P := P) (w := w) (base := base) T
  refine T.F_l_turns.ok sc_l_turns (fun vs H Q E h => ?_) (fun cdv A outer s H vs Q E hr h => ?_)
  · obtain ⟨_, _, _, _, _, _, _, _, _, rfl, _⟩ := h; rfl
  obtain ⟨sc, dl, x, y, ns, b, c, d1, d2, rfl, hsc, ⟨t, w0, p0, rfl, ht, _, ⟨px, hp, hap⟩⟩, ⟨t2, w2, p2, rfl, ht2, _, ⟨qx, hq, haq⟩⟩, hdl, d10, d13, d20, d23, b6, c6, hb, hc, q⟩ := h
  refine ⟨_, (@pss_cons _ _ _ _ _ (@ps_setcompB _ _ _ _ _ _ _ _ _ (4) _ ["_law_e", "_law_script"] [none, some 0] _ _ _ _ sc_l_turns.nd rfl (Or.inl rfl) (by rfl) (@pi_range1 _ _ _ _ _ _ (by rfl) T.z_range (@pa_cons _ _ _ _ _ (@pe_ix _ _ _ _ _ _ _ ix_list (pv 3) pe_int (fun _ _ => rfl)) pa_nil (by rfl)) (by rfl)) c_l_turns_0 (fun _ _ _ _ _ _ => ⟨(pg_name (i := 0) c_l_turns_0n rfl (Or.inl rfl)), @pts_nil _, (@pe_op _ _ _ _ _ _ _ _ op_sub (@pe_op _ _ _ _ _ _ _ _ op_mod (@pe_call _ _ _ _ _ _ _ _ _ _ _ _ _ _ _ _ G_l_cell_at (hr.mono (by omega)) (by rfl) T.m_l_cell_at T.F_l_cell_at.kp T.b_l_cell_at .nil pass0 (@pa_cons _ _ _ _ _ (pv 1) (@pa_cons _ _ _ _ _ (@pe_op _ _ _ _ _ _ _ _ op_add pe_int (pv 0)) pa_nil (by rfl)) (by rfl)) (by decide) (by rfl) (by rfl)) (@pe_op _ _ _ _ _ _ _ _ op_pow pe_int pe_int)) (@pe_op _ _ _ _ _ _ _ _ op_pow pe_int pe_int))⟩) (by rfl) (by intro _ ; rfl) (by first | exact .inl rfl | exact .inr rfl | assumption)) (@pss_cons _ _ _ _ _ (@ps_setcompB _ _ _ _ _ _ _ _ _ (5) _ ["_law_e", "_law_script"] [none, some 0] _ _ _ _ sc_l_turns.nd rfl (Or.inl rfl) (by rfl) (@pi_range1 _ _ _ _ _ _ (by rfl) T.z_range (@pa_cons _ _ _ _ _ (@pe_ix _ _ _ _ _ _ _ ix_list (pv 3) pe_int (fun _ _ => rfl)) pa_nil (by rfl)) (by rfl)) c_l_turns_1 (fun _ _ _ _ _ _ => ⟨(pg_name (i := 0) c_l_turns_1n rfl (Or.inl rfl)), @pts_nil _, (@pe_op _ _ _ _ _ _ _ _ op_sub (@pe_op _ _ _ _ _ _ _ _ op_mod (@pe_call _ _ _ _ _ _ _ _ _ _ _ _ _ _ _ _ G_l_cell_at (hr.mono (by omega)) (by rfl) T.m_l_cell_at T.F_l_cell_at.kp T.b_l_cell_at .nil pass0 (@pa_cons _ _ _ _ _ (pv 1) (@pa_cons _ _ _ _ _ (@pe_op _ _ _ _ _ _ _ _ op_add pe_int (pv 0)) pa_nil (by rfl)) (by rfl)) (by decide) (by rfl) (by rfl)) (@pe_op _ _ _ _ _ _ _ _ op_pow pe_int pe_int)) (@pe_op _ _ _ _ _ _ _ _ op_pow pe_int pe_int))⟩) (by rfl) (by intro _ ; rfl) (by first | exact .inl rfl | exact .inr rfl | assumption)) (@pss_cons _ _ _ _ _ (@ps_for _ _ _ _ _ _ _ _ PassesOwn.never rfl (@pi_range1 _ _ _ _ _ _ (by rfl) T.z_range (@pa_cons _ _ _ _ _ (@pe_callB _ _ _ _ _ _ _ _ _ (@call_min2 _ rfl) (by rfl) T.z_min bt_min (@pa_cons _ _ _ _ _ (@pe_callB _ _ _ _ _ _ _ _ _ call_len_seq (by rfl) T.z_len bt_len (@pa_cons _ _ _ _ _ (@pe_ix _ _ _ _ _ _ _ ix_tup (pv 1) pe_int (fun _ _ => rfl)) pa_nil (by rfl)) (by decide) (by decide) (by rfl) (by rfl)) (@pa_cons _ _ _ _ _ (@pe_callB _ _ _ _ _ _ _ _ _ call_len_seq (by rfl) T.z_len bt_len (@pa_cons _ _ _ _ _ (@pe_ix _ _ _ _ _ _ _ ix_tup (pv 2) pe_int (fun _ _ => rfl)) pa_nil (by rfl)) (by decide) (by decide) (by rfl) (by rfl)) pa_nil (by rfl)) (by rfl)) (by decide) (by decide) (by rfl) (by rfl)) pa_nil (by rfl)) (by rfl)) (pg_name (i := 6) sc_l_turns.nd rfl (Or.inl rfl)) (@pss_cons _ _ _ _ _ (@ps_set _ _ (7) _ _ _ _ sc_l_turns.nd rfl (Or.inl rfl) (@pe_ix _ _ _ _ _ _ _ ix_tup (@pe_tupq _ _ _ _ _ (@paq_cons _ _ _ _ _ pe_int (@paq_cons _ _ _ _ _ pe_int (@paq_cons _ _ _ _ _ pe_int (@paq_cons _ _ _ _ _ pe_int (@paq_cons _ _ _ _ _ (@pe_un _ _ _ _ _ _ un_neg pe_int) (@paq_cons _ _ _ _ _ pe_int (@paq_cons _ _ _ _ _ pe_int paq_nil star_C) star_C) star_U) star_C) star_C) star_C) star_C)) (@pe_op _ _ _ _ _ _ _ _ op_mod (@pe_call _ _ _ _ _ _ _ _ _ _ _ _ _ _ _ _ G_l_mixed (hr.mono (by omega)) (by rfl) T.m_l_mixed T.F_l_mixed.kp T.b_l_mixed .nil pass0 (@pa_cons _ _ _ _ _ (@pe_call _ _ _ _ _ _ _ _ _ _ _ _ _ _ _ _ G_l_cell_at (hr.mono (by omega)) (by rfl) T.m_l_cell_at T.F_l_cell_at.kp T.b_l_cell_at .nil pass0 (@pa_cons _ _ _ _ _ (pv 0) (@pa_cons _ _ _ _ _ pe_int pa_nil (by rfl)) (by rfl)) (by decide) (by rfl) (by rfl)) (@pa_cons _ _ _ _ _ (pv 6) pa_nil (by rfl)) (by rfl)) (by decide) (by rfl) (by rfl)) pe_int) (fun _ _ => rfl)) (by rfl) (by first | exact .inl rfl | exact .inr rfl | assumption)) (@pss_cons _ _ _ _ _ (@ps_set _ _ (8) _ _ _ _ sc_l_turns.nd rfl (Or.inl rfl) (@pe_ix _ _ _ _ _ _ _ ix_list (@pe_ix _ _ _ _ _ _ _ ix_tup (pv 1) pe_int (fun _ _ => rfl)) (pv 6) (fun _ _ => rfl)) (by rfl) (by first | exact .inl rfl | exact .inr rfl | assumption)) (@pss_cons _ _ _ _ _ (@ps_set _ _ (9) _ _ _ _ sc_l_turns.nd rfl (Or.inl rfl) (@pe_ix _ _ _ _ _ _ _ ix_list (@pe_ix _ _ _ _ _ _ _ ix_tup (pv 2) pe_int (fun _ _ => rfl)) (pv 6) (fun _ _ => rfl)) (by rfl) (by first | exact .inl rfl | exact .inr rfl | assumption)) (@pss_one _ _ _ (@ps_asg _ _ _ _ _ _ (@pe_op _ _ _ _ _ _ _ _ op_add (@pe_op _ _ _ _ _ _ _ _ op_sub (@pe_op _ _ _ _ _ _ _ _ op_add (@pe_ix _ _ _ _ _ _ _ ix_list (pv 4) (@pe_ix _ _ _ _ _ _ _ ix_tup (pv 8) pe_int (fun _ _ => rfl)) (fun _ _ => rfl)) (@pe_ix _ _ _ _ _ _ _ ix_tup (pv 8) pe_int (fun _ _ => rfl))) (@pe_ix _ _ _ _ _ _ _ ix_tup (pv 9) pe_int (fun _ _ => rfl))) (pv 7)) (pg_sub (pv 5) (@pe_ix _ _ _ _ _ _ _ ix_tup (pv 9) pe_int (fun _ _ => rfl)) set_list) (by rfl) (by rfl) (by rfl)))))) (by intro _ ; rfl)) (@pss_one _ _ _ (@ps_ret _ _ _ _ (@pe_op _ _ _ _ _ _ _ _ op_cat (@pe_op _ _ _ _ _ _ _ _ op_cat (@pe_lst _ _ _ _ (@pa_cons _ _ _ _ _ pe_int pa_nil (by rfl))) (pv 4)) (pv 5))))))), ?_⟩
  try dsimp only [cxK, noxK]
  obtain ⟨n1, rfl⟩ : ∃ n : Nat, d1 = (n : Int) := ⟨d1.toNat, (Int.toNat_of_nonneg d10).symm⟩
  obtain ⟨n2, rfl⟩ : ∃ n : Nat, d2 = (n : Int) := ⟨d2.toNat, (Int.toNat_of_nonneg d20).symm⟩
  refine ⟨_, rfl, dl, _, 0, _, rfl, rfl, SqL.of hdl, rfl, _, rfl, by omega, by omega, ?_⟩
  refine comp_range (lo := 0) (n := n1) (fun i ys H' => H' = H ∧ ∃ L : List Int, ys = L.map V.int ∧ L.length = i) ⟨rfl, [], rfl, rfl⟩ (szl (by omega)) (fun i ys H' hi pp => by obtain ⟨_, L, rfl, h⟩ := pp; rw [List.length_map]; omega) (fun i ys H' hi pp => ?_) (fun ys H1 pp on hon => ?_)
  · obtain ⟨rfl, L, rfl, Ll⟩ := pp
    exact ⟨_, rfl, _, rfl, _, _, rfl, rfl, sc, ns, _, rfl, hsc, (Int.add_nonneg (by decide) (Int.add_nonneg (Int.le_refl 0) (Int.natCast_nonneg i))), _, _, rfl, rfl, ⟨by decide, by decide, by decide⟩, _, _, rfl, rfl, (by show (0 : Int) < 10 ^ (18 : Int).toNat; decide), _, _, rfl, rfl, ⟨by decide, by decide, by decide⟩, _, _, rfl, rfl, rfl, L ++ [_], by rw [List.map_append]; rfl, by rw [List.length_append, Ll]; rfl⟩
  obtain ⟨rfl, L, rfl, Ll⟩ := pp
  have s1 := same_new hon (.lst (L.map V.int))
  have hon1 : (upd H1 on (.lst (L.map V.int))) on = some (.lst (L.map V.int)) := upd_same
  generalize upd H1 on (.lst (L.map V.int)) = H2 at s1 hon1
  refine ⟨_, rfl, dl, _, 1, _, rfl, rfl, SqL.of (s1 _ _ hdl), rfl, _, rfl, by omega, by omega, ?_⟩
  refine comp_range (lo := 0) (n := n2) (fun i ys H' => H' = H2 ∧ ∃ L : List Int, ys = L.map V.int ∧ L.length = i) ⟨rfl, [], rfl, rfl⟩ (szl (by omega)) (fun i ys H' hi pp => by obtain ⟨_, L, rfl, h⟩ := pp; rw [List.length_map]; omega) (fun i ys H' hi pp => ?_) (fun ys H3 pp ot hot => ?_)
  · obtain ⟨rfl, L, rfl, Ll⟩ := pp
    exact ⟨_, rfl, _, rfl, _, _, rfl, rfl, sc, ns, _, rfl, s1.seq hsc, (Int.add_nonneg (by decide) (Int.add_nonneg (Int.le_refl 0) (Int.natCast_nonneg i))), _, _, rfl, rfl, ⟨by decide, by decide, by decide⟩, _, _, rfl, rfl, (by show (0 : Int) < 10 ^ (18 : Int).toNat; decide), _, _, rfl, rfl, ⟨by decide, by decide, by decide⟩, _, _, rfl, rfl, rfl, L ++ [_], by rw [List.map_append]; rfl, by rw [List.length_append, Ll]; rfl⟩
  obtain ⟨rfl, O, rfl, Ol⟩ := pp
  have s3 := same_new hot (.lst (O.map V.int))
  have hot3 : (upd H3 ot (.lst (O.map V.int))) ot = some (.lst (O.map V.int)) := upd_same
  have ot0 := s1.free hot
  have nno : on ≠ ot := fun z => by rw [← z, hon1] at hot; cases hot
  have e3 := s1.trans s3
  have hon3 := s3 _ _ hon1
  generalize upd H3 ot (.lst (O.map V.int)) = H4 at s3 hot3 e3 hon3
  have pxl := hap.1
  have qxl := haq.1
  have hmin : (if ((qx.length : Nat) : Int) < ((px.length : Nat) : Int) then ((qx.length : Nat) : Int) else ((px.length : Nat) : Int)) = ((min b.pl.length c.pl.length : Nat) : Int) := by split <;> omega
  refine ⟨_, rfl, t, _, 3, _, rfl, rfl, SqT.of (e3 _ _ ht), rfl, p0, _, rfl, .inl (SqL.of (e3 _ _ hp)), _, rfl, t2, _, 3, _, rfl, rfl, SqT.of (e3 _ _ ht2), rfl, p2, _, rfl, .inl (SqL.of (e3 _ _ hq)), _, _, rfl, _, rfl, by rw [hmin]; omega, by rw [hmin]; omega, ?_⟩
  rw [hmin, Int.toNat_natCast]
  refine for_range (lo := 0) (n := min b.pl.length c.pl.length) (fun e σ' H' => ∃ (O : List Int) (o6 o7 o8 o9 : Option V), σ' = [some (.ref sc), some (.ref t), some (.ref t2), some (.ref dl), some (.ref on), some (.ref ot), o6, o7, o8, o9] ∧ (∀ a o, a ≠ ot → H4 a = some o → H' a = some o) ∧ H' ot = some (.lst (O.map V.int)) ∧ O.length = n2) ⟨O, _, _, _, _, rfl, fun _ _ _ h => h, hot3, Ol⟩ (fun e σ' H' he pp => ?_) (fun σ' H' pp => ?_)
  rotate_left
  · obtain ⟨O, o6, o7, o8, o9, rfl, k, hO, Ol⟩ := pp
    have hon5 := k _ _ nno hon3
    refine ⟨szl (by show 1 ≤ 1000000; decide), fun z hz => ⟨_, rfl, ?_⟩⟩
    have s5 := same_new hz (.lst [V.int 0])
    refine ⟨z, on, _, _, rfl, rfl, upd_same, s5 _ _ hon5, szl (by rw [List.length_map, List.length_singleton]; omega), fun c1 hc1 => ⟨_, rfl, ?_⟩⟩
    have s6 := s5.trans (same_new hc1 (.lst ([V.int 0] ++ L.map V.int)))
    refine ⟨c1, ot, _, _, rfl, rfl, upd_same, s6 _ _ hO, szl (by rw [List.length_append, List.length_map, List.length_map, List.length_singleton]; omega), fun c2 hc2 => ?_⟩
    have s7 := s6.trans (same_new hc2 (.lst (([V.int 0] ++ L.map V.int) ++ O.map V.int)))
    refine q c2 (([0] ++ L) ++ O) _ (fun a o ha => s7 _ _ (k a o (ne_of_none ha ot0) (e3 _ _ ha))) ?_ ?_
    · rw [upd_same, List.map_append, List.map_append]
      rfl
    · rw [List.length_append, List.length_append, Ll, Ol]
      show ((1 + n1 + n2 : Nat) : Int) = _
      omega
  obtain ⟨O, o6, o7, o8, o9, rfl, k, hO, Ol⟩ := pp
  have z0 : (0 + (e : Int)) = (e : Int) := Int.zero_add _
  have tkk : ∀ {l : Addr} {xs : List V}, H4 l = some (.tup xs) → H' l = some (.tup xs) := fun {l xs} h => k l _ (ne_of h hot3 (by intro z; cases z)) h
  have eHH : Same _ H' := (fun a o ha => k a o (ne_of_none ha ot0) (e3 _ _ ha) : Same H1 H')
  rw [z0]
  refine ⟨_, rfl, szl (by show 7 ≤ 1000000; decide), fun t0 ht0 => ?_⟩
  have s5 := same_new ht0 (.tup [V.int 0, V.int 0, V.int 1, V.int 0, V.int (-1), V.int 0, V.int 5])
  refine ⟨_, rfl, sc, ns, 11, rfl, (eHH.trans s5).seq hsc, by decide, _, rfl, _, _, rfl, fun mm hmm => ?_⟩
  obtain ⟨nr, _, enr⟩ := pickN (L := [0, 0, 1, 0, -1, 0, 5]) (i := mm % 7) 7 rfl (Int.emod_nonneg _ (by decide)) (Int.emod_lt_of_pos _ (by decide))
  refine ⟨_, _, rfl, rfl, (by show (0 : Int) < 7; decide), t0, _, _, _, rfl, rfl, SqT.of upd_same, enr, ?_⟩
  have e5 := eHH.trans s5
  have hO5 := s5 _ _ hO
  have hon5 := s5 _ _ (k _ _ nno hon3)
  have k5 : ∀ a o, a ≠ ot → H4 a = some o → (upd H' t0 (.tup [V.int 0, V.int 0, V.int 1, V.int 0, V.int (-1), V.int 0, V.int 5])) a = some o := fun a o ha h => s5 _ _ (k a o ha h)
  generalize upd H' t0 (.tup [V.int 0, V.int 0, V.int 1, V.int 0, V.int (-1), V.int 0, V.int 5]) = H5 at s5 e5 hO5 hon5 k5
  have hpe : e < b.pl.length := Nat.lt_of_lt_of_le he (Nat.min_le_left _ _)
  have hqe : e < c.pl.length := Nat.lt_of_lt_of_le he (Nat.min_le_right _ _)
  obtain ⟨xp, hxp, tp, rfl, htp⟩ := hap.get (List.getElem?_eq_getElem hpe)
  obtain ⟨xq, hxq, tq, rfl, htq⟩ := haq.get (List.getElem?_eq_getElem hqe)
  obtain ⟨pb0, pb1⟩ := hb b.pl[e] (List.getElem_mem hpe)
  obtain ⟨qb0, qb1⟩ := hc c.pl[e] (List.getElem_mem hqe)
  generalize b.pl[e] = pv at htp pb0 pb1
  generalize c.pl[e] = qv at htq qb0 qb1
  refine ⟨_, rfl, t, _, 3, _, rfl, rfl, SqT.of (e5 _ _ ht), rfl, _, rfl, p0, _, _, _, rfl, rfl, SqL.of (e5 _ _ hp), atI_nat hxp, ?_⟩
  refine ⟨_, rfl, t2, _, 3, _, rfl, rfl, SqT.of (e5 _ _ ht2), rfl, _, rfl, p2, _, _, _, rfl, rfl, SqL.of (e5 _ _ hq), atI_nat hxq, ?_⟩
  have at1 : atI (L.map V.int) pv.1 = some (.int (L.getD pv.1.toNat 0)) := cell_in pb0 (by omega)
  refine ⟨_, rfl, _, rfl, tp, _, 0, _, rfl, rfl, SqT.of (e5 _ _ htp), rfl, on, _, _, _, rfl, rfl, SqL.of hon5, at1, _, rfl, tp, _, 1, _, rfl, rfl, SqT.of (e5 _ _ htp), rfl, _, _, rfl, rfl, _, rfl, tq, _, 1, _, rfl, rfl, SqT.of (e5 _ _ htq), rfl, _, _, rfl, rfl, _, rfl, _, _, rfl, rfl, _, rfl, _, rfl, tq, _, 0, _, rfl, rfl, SqT.of (e5 _ _ htq), rfl, ?_⟩
  have qn : ((qv.1.toNat : Nat) : Int) = qv.1 := Int.toNat_of_nonneg qb0
  refine ⟨ot, _, _, qv.1.toNat, rfl, rfl, hO5, (show ixN (O.map V.int).length qv.1 = some qv.1.toNat from by
    have := ixN_nat (n := (O.map V.int).length) (x := qv.1.toNat) (by rw [List.length_map, Ol]; omega)
    rwa [qn] at this), ?_⟩
  refine ⟨O.set qv.1.toNat (L.getD pv.1.toNat 0 + pv.2 - qv.2 + nr), _, _, _, _, rfl, fun a o ha h => by rw [upd_ne ha]; exact k5 a o ha h, ?_, by rw [List.length_set]; exact Ol⟩
  rw [upd_same, List.map_set]

theorem ok_hold7 (T : Tx K mg a) : FnOk P w K mg base CX0 1 a.f_l_hold a.d_l_hold ["_law_bonds", "_law_values"] spHold7 := by
  refine T.F_l_hold.ok sc_l_hold (fun vs H Q E h => ?_) (fun cdv A outer s H vs Q E hr h => ?_)
  · obtain ⟨_, _, _, _, _, rfl, _⟩ := h; rfl
  obtain ⟨l, v, ys, B, W, rfl, hl, hB, hv, hk, q⟩ := h
  refine ⟨_, (@pss_cons _ _ _ _ _ (@ps_for _ _ _ _ _ _ _ _ PassesOwn.never rfl (@pi_list _ _ _ _ (pv 0)) (pg_name (i := 2) sc_l_hold.nd rfl (Or.inl rfl)) (@pss_one _ _ _ (@ps_if _ _ _ _ _ _ _ _ (@pt_cmpR _ _ _ _ _ _ _ _ op_gt (@pe_op _ _ _ _ _ _ _ _ op_sub (@pe_ix _ _ _ _ _ _ _ ix_list (pv 1) (@pe_ix _ _ _ _ _ _ _ ix_tup (pv 2) pe_int (fun _ _ => rfl)) (fun _ _ => rfl)) (@pe_ix _ _ _ _ _ _ _ ix_list (pv 1) (@pe_ix _ _ _ _ _ _ _ ix_tup (pv 2) pe_int (fun _ _ => rfl)) (fun _ _ => rfl))) (@pe_ix _ _ _ _ _ _ _ ix_tup (pv 2) pe_int (fun _ _ => rfl)) (@nomark _ _ (by decide) (by decide))) (@pss_one _ _ _ (@ps_ret _ _ _ _ pe_bl)) pss_nil)) (by intro _ ; rfl)) (@pss_one _ _ _ (@ps_ret _ _ _ _ pe_bl))), ?_⟩
  try dsimp only [cxK, noxK]
  refine ⟨_, rfl, l, rfl, ⟨_, SqL.of hl⟩, ?_⟩
  refine for_list (xs := ys) (fun i σ' H2 => H2 = H ∧ (∃ o2, σ' = [some (.ref l), some (.ref v), o2]) ∧ ∀ j < i, ∀ b, B[j]? = some b → hold7 W b = true) ⟨rfl, ⟨_, rfl⟩, fun j hj => by omega⟩ (fun i σ' H2 _ pp => by rw [pp.1]; exact SqL.of hl) (fun i x σ' H2 hx pp => ?_) (fun σ' H2 pp => ?_)
  · obtain ⟨rfl, ⟨o2, rfl⟩, hall⟩ := pp
    have hi : i < B.length := by have := (List.getElem?_eq_some_iff.mp hx).1; have := hB.1; omega
    have Bi : B[i]? = some B[i] := List.getElem?_eq_getElem hi
    have mem := List.getElem_mem hi
    generalize B[i] = b at Bi mem
    obtain ⟨t, rfl, ht⟩ := hB.2 i x b hx Bi
    obtain ⟨⟨k1, k1'⟩, ⟨k2, k2'⟩⟩ := hk b mem
    have at1 : atI (W.map V.int) b.1 = some (.int (W.getD b.1.toNat 0)) := cell_in k1 k1'
    have at2 : atI (W.map V.int) b.2.1 = some (.int (W.getD b.2.1.toNat 0)) := cell_in k2 k2'
    refine ⟨_, rfl, _, rfl, t, _, 0, _, rfl, rfl, SqT.of ht, rfl, v, _, _, _, rfl, rfl, SqL.of hv, at1, _, rfl, _, rfl, t, _, 1, _, rfl, rfl, SqT.of ht, rfl, v, _, _, _, rfl, rfl, SqL.of hv, at2, _, _, rfl, rfl, _, rfl, t, _, 2, _, rfl, rfl, SqT.of ht, rfl, _, _, rfl, rfl, _, rfl, ?_⟩
    refine ite2 (fun c => ?_) (fun c => ?_)
    · have c := dT c
      have hf : B.all (hold7 W) = false := by
        rw [List.all_eq_false]
        exact ⟨b, mem, by unfold hold7; rw [decide_eq_false (by omega)]; decide⟩
      rw [hf] at q
      exact q
    · have c := dF c
      refine ⟨rfl, ⟨_, rfl⟩, fun j hj b' hb' => ?_⟩
      by_cases z : j = i
      · subst z
        rw [Bi] at hb'
        cases hb'
        exact decide_eq_true (by omega)
      · exact hall j (by omega) b' hb'
  · obtain ⟨rfl, ⟨o2, rfl⟩, hall⟩ := pp
    have ht : B.all (hold7 W) = true := by
      rw [List.all_eq_true]
      intro b hb'
      obtain ⟨j, hj⟩ := List.mem_iff_getElem?.mp hb'
      have := (List.getElem?_eq_some_iff.mp hj).1
      exact hall j (by have := hB.1; omega) b hj
    rw [ht] at q
    exact q

theorem ok_meant (T : Tx K mg a) : FnOk P w K mg base CX0 1 a.f_l_meant a.d_l_meant ["_law_mine", "_law_theirs", "_law_behind", "_law_values", "_law_level", "_law_side"] spMeant := by
  refine T.F_l_meant.ok sc_l_meant (fun vs H Q E h => ?_) (fun cdv A outer s H vs Q E hr h => ?_)
  · obtain ⟨_, _, _, _, _, _, _, _, _, rfl, _⟩ := h; rfl
  obtain ⟨x, y, v, beh, level, side, b, c, W, rfl, hb, hc, hv, hside, hb1, bpl, hc1, bw, lev, hbW, hcW, q⟩ := h
  refine ⟨_, (@pss_cons _ _ _ _ _ (@ps_for _ _ _ _ _ _ _ _ PassesOwn.never rfl (@pi_range1 _ _ _ _ _ _ (by rfl) T.z_range (@pa_cons _ _ _ _ _ (@pe_op _ _ _ _ _ _ _ _ op_add (pv 4) pe_int) pa_nil (by rfl)) (by rfl)) (pg_name (i := 6) sc_l_meant.nd rfl (Or.inl rfl)) (@pss_cons _ _ _ _ _ (@ps_if _ _ _ _ _ _ _ _ ((@pw_and _ _ _ _ _ _ _ (@pt_cmpR _ _ _ _ _ _ _ _ op_eq (pv 6) (pv 4) (@nomark _ _ (by decide) (by decide))) (@pw_and1 _ _ _ _ (@pt_cmpR _ _ _ _ _ _ _ _ op_eq (pv 5) pe_str (@nomark _ _ (by decide) (by decide)))))).pt (@pss_one _ _ _ (@ps_ret _ _ _ _ pe_bl)) pss_nil) (@pss_cons _ _ _ _ _ (@ps_set _ _ (7) _ _ _ _ sc_l_meant.nd rfl (Or.inl rfl) (@pe_op _ _ _ _ _ _ _ _ op_add (@pe_ix _ _ _ _ _ _ _ ix_list (pv 3) (@pe_op _ _ _ _ _ _ _ _ op_add pe_int (@pe_ix _ _ _ _ _ _ _ ix_tup (@pe_ix _ _ _ _ _ _ _ ix_list (@pe_ix _ _ _ _ _ _ _ ix_tup (pv 0) pe_int (fun _ _ => rfl)) (pv 6) (fun _ _ => rfl)) pe_int (fun _ _ => rfl))) (fun _ _ => rfl)) (@pe_ix _ _ _ _ _ _ _ ix_tup (@pe_ix _ _ _ _ _ _ _ ix_list (@pe_ix _ _ _ _ _ _ _ ix_tup (pv 0) pe_int (fun _ _ => rfl)) (pv 6) (fun _ _ => rfl)) pe_int (fun _ _ => rfl))) (by rfl) (by first | exact .inl rfl | exact .inr rfl | assumption)) (@pss_cons _ _ _ _ _ (@ps_set _ _ (8) _ _ _ _ sc_l_meant.nd rfl (Or.inl rfl) (@pe_op _ _ _ _ _ _ _ _ op_add (@pe_ix _ _ _ _ _ _ _ ix_list (pv 3) (@pe_op _ _ _ _ _ _ _ _ op_add (pv 2) (@pe_ix _ _ _ _ _ _ _ ix_tup (@pe_ix _ _ _ _ _ _ _ ix_list (@pe_ix _ _ _ _ _ _ _ ix_tup (pv 1) pe_int (fun _ _ => rfl)) (pv 6) (fun _ _ => rfl)) pe_int (fun _ _ => rfl))) (fun _ _ => rfl)) (@pe_ix _ _ _ _ _ _ _ ix_tup (@pe_ix _ _ _ _ _ _ _ ix_list (@pe_ix _ _ _ _ _ _ _ ix_tup (pv 1) pe_int (fun _ _ => rfl)) (pv 6) (fun _ _ => rfl)) pe_int (fun _ _ => rfl))) (by rfl) (by first | exact .inl rfl | exact .inr rfl | assumption)) (@pss_cons _ _ _ _ _ (@ps_if _ _ _ _ _ _ _ _ ((@pw_and _ _ _ _ _ _ _ (@pt_cmpR _ _ _ _ _ _ _ _ op_eq (pv 6) (pv 4) (@nomark _ _ (by decide) (by decide))) (@pw_and1 _ _ _ _ (@pt_cmpR _ _ _ _ _ _ _ _ op_eq (pv 5) pe_str (@nomark _ _ (by decide) (by decide)))))).pt (@pss_one _ _ _ (@ps_ret _ _ _ _ (@pe_cmpR _ _ _ _ _ _ _ _ op_lt (pv 7) (pv 8) (@nomark _ _ (by decide) (by decide))))) pss_nil) (@pss_cons _ _ _ _ _ (@ps_if _ _ _ _ _ _ _ _ (@pt_cmpR _ _ _ _ _ _ _ _ op_eq (pv 6) (pv 4) (@nomark _ _ (by decide) (by decide))) (@pss_one _ _ _ (@ps_ret _ _ _ _ (@pe_cmpR _ _ _ _ _ _ _ _ op_gt (pv 7) (pv 8) (@nomark _ _ (by decide) (by decide))))) pss_nil) (@pss_one _ _ _ (@ps_if _ _ _ _ _ _ _ _ ((@pw_and _ _ _ _ _ _ _ (@pt_not _ _ _ _ (@pt_val _ _ _ (@pe_ix _ _ _ _ _ _ _ ix_tup (@pe_ix _ _ _ _ _ _ _ ix_list (@pe_ix _ _ _ _ _ _ _ ix_tup (pv 0) pe_int (fun _ _ => rfl)) (pv 6) (fun _ _ => rfl)) pe_int (fun _ _ => rfl)) (by intro _ ; rfl))) (@pw_and1 _ _ _ _ (@pt_cmpR _ _ _ _ _ _ _ _ op_ne (pv 7) (pv 8) (@nomark _ _ (by decide) (by decide)))))).pt (@pss_one _ _ _ (@ps_ret _ _ _ _ pe_bl)) pss_nil))))))) (by intro _ ; rfl)) (@pss_one _ _ _ (@ps_ret _ _ _ _ pe_bl))), ?_⟩
  try dsimp only [cxK, noxK]
  obtain ⟨t, w0, p0, rfl, ht, ⟨wx, hw, haw⟩, ⟨px, hp, hap⟩⟩ := hb
  obtain ⟨t2, w2, p2, rfl, ht2, _, ⟨qx, hq, haq⟩⟩ := hc
  refine ⟨_, rfl, _, _, rfl, rfl, _, rfl, by omega, by omega, ?_⟩
  rw [show ((level : Int) + 1).toNat = level + 1 from rfl]
  refine for_range (lo := 0) (n := level + 1) (fun e σ' H' => H' = H ∧ (∃ o6 o7 o8, σ' = [some (.ref t), some (.ref t2), some (.int beh), some (.ref v), some (.int (level : Int)), some (.str side), o6, o7, o8]) ∧ e ≤ level ∧ ∀ e' < e, (sdAt beh level side e' ⟨b.ways.getD e' (false, ""), b.pl.getD e' (0, 0), c.pl.getD e' (0, 0)⟩).all (hold7 W) = true) ⟨rfl, ⟨_, _, _, rfl⟩, Nat.zero_le _, fun e' he => by omega⟩ (fun e σ' H' he pp => ?_) (fun σ' H' pp => by obtain ⟨_, _, h, _⟩ := pp; omega)
  obtain ⟨rfl, ⟨o6, o7, o8, rfl⟩, hel, hall⟩ := pp
  have z0 : (0 + (e : Int)) = (e : Int) := Int.zero_add _
  dsimp only [gName]
  rw [z0]
  refine seq_any (fun σ' H4 => H4 = H' ∧ σ' = [some (.ref t), some (.ref t2), some (.int beh), some (.ref v), some (.int (level : Int)), some (.str side), some (.int (e : Int)), o7, o8] ∧ e < hi1 side level) (fun σ' H4 pp => ?_) (fun nx2 => ?_)
  rotate_left
  · refine ⟨_, rfl, _, rfl, rfl, _, rfl, ?_⟩
    by_cases c1 : e = level
    · refine iteE (v := true) (decide_eq_true (congrArg V.int (zeq c1))) (iteT ?_)
      refine ⟨_, rfl, rfl, _, rfl, ?_⟩
      by_cases c2 : side = "text"
      · refine iteE (v := true) (decide_eq_true (congrArg V.str c2)) (iteT ?_)
        have : (sdL beh level side 0 (rbs b c (hi1 side level))).all (hold7 W) = true := by
          rw [show hi1 side level = e by unfold hi1; rw [if_pos c2, c1]]
          exact (sdL_all e).mpr hall
        rw [this] at q
        exact q
      · refine iteE (v := false) (dS c2) (iteF (nx2 _ _ ⟨rfl, rfl, ?_⟩))
        unfold hi1
        rw [if_neg c2]
        omega
    · refine iteE (v := false) (decide_eq_false fun z => c1 (ninj z)) (iteF (nx2 _ _ ⟨rfl, rfl, ?_⟩))
      unfold hi1
      split <;> omega
  obtain ⟨rfl, rfl, hlt⟩ := pp
  have hew : e < b.ways.length := by omega
  have hpe : e < b.pl.length := by omega
  have hqe : e < c.pl.length := by omega
  obtain ⟨xw, hxw, tw, rfl, htw⟩ := haw.get (List.getElem?_eq_getElem hew)
  obtain ⟨xp, hxp, tp, rfl, htp⟩ := hap.get (List.getElem?_eq_getElem hpe)
  obtain ⟨xq, hxq, tq, rfl, htq⟩ := haq.get (List.getElem?_eq_getElem hqe)
  have gw : b.ways.getD e (false, "") = b.ways[e] := by rw [List.getD_eq_getElem?_getD, List.getElem?_eq_getElem hew]; rfl
  have gp : b.pl.getD e (0, 0) = b.pl[e] := by rw [List.getD_eq_getElem?_getD, List.getElem?_eq_getElem hpe]; rfl
  have gq : c.pl.getD e (0, 0) = c.pl[e] := by rw [List.getD_eq_getElem?_getD, List.getElem?_eq_getElem hqe]; rfl
  obtain ⟨b0, b1⟩ := hbW b.pl[e] (List.getElem_mem hpe)
  obtain ⟨q0, q1⟩ := hcW c.pl[e] (List.getElem_mem hqe)
  generalize b.ways[e] = wy at htw gw
  generalize b.pl[e] = pv at htp gp b0 b1
  generalize c.pl[e] = qv at htq gq q0 q1
  have at1 : atI (W.map V.int) (1 + pv.1) = some (.int (W.getD (1 + pv.1).toNat 0)) := cell_in b0 b1
  have at2 : atI (W.map V.int) (beh + qv.1) = some (.int (W.getD (beh + qv.1).toNat 0)) := cell_in q0 q1
  refine ⟨_, rfl, _, rfl, t, _, 3, _, rfl, rfl, SqT.of ht, rfl, _, rfl, p0, _, _, _, rfl, rfl, SqL.of hp, atI_nat hxp, tp, _, 0, _, rfl, rfl, SqT.of htp, rfl, _, _, rfl, rfl, v, _, _, _, rfl, rfl, SqL.of hv, at1, _, rfl, t, _, 3, _, rfl, rfl, SqT.of ht, rfl, _, rfl, p0, _, _, _, rfl, rfl, SqL.of hp, atI_nat hxp, tp, _, 1, _, rfl, rfl, SqT.of htp, rfl, _, _, rfl, rfl, ?_⟩
  refine ⟨_, rfl, _, rfl, _, rfl, t2, _, 3, _, rfl, rfl, SqT.of ht2, rfl, _, rfl, p2, _, _, _, rfl, rfl, SqL.of hq, atI_nat hxq, tq, _, 0, _, rfl, rfl, SqT.of htq, rfl, _, _, rfl, rfl, v, _, _, _, rfl, rfl, SqL.of hv, at2, _, rfl, t2, _, 3, _, rfl, rfl, SqT.of ht2, rfl, _, rfl, p2, _, _, _, rfl, rfl, SqL.of hq, atI_nat hxq, tq, _, 1, _, rfl, rfl, SqT.of htq, rfl, _, _, rfl, rfl, ?_⟩
  dsimp only [gName]
  have at' : ∀ n, n = e → (⟨b.ways.getD n (false, ""), b.pl.getD n (0, 0), c.pl.getD n (0, 0)⟩ : Rb) = ⟨wy, pv, qv⟩ := fun n hn => by subst hn; rw [gw, gp, gq]
  have lastB : side ≠ "text" → e = level → (sdL beh level side 0 (rbs b c (hi1 side level))).all (hold7 W) = (sdAt beh level side level ⟨wy, pv, qv⟩).all (hold7 W) := fun c2 c1 => by
    rw [show hi1 side level = level + 1 by unfold hi1; rw [if_neg c2], rbs_succ, sdL_snoc, Nat.zero_add, rbs_len, at' level c1.symm, List.all_append, (sdL_all level).mpr (fun e' he' => hall e' (by omega)), Bool.true_and]
  have notext : e = level → side ≠ "text" := fun c1 z => by unfold hi1 at hlt; rw [if_pos z] at hlt; omega
  refine seq_any (fun σ' H5 => H5 = H4 ∧ σ' = [some (.ref t), some (.ref t2), some (.int beh), some (.ref v), some (.int (level : Int)), some (.str side), some (.int (e : Int)), some (.int (W.getD (1 + pv.1).toNat 0 + pv.2)), some (.int (W.getD (beh + qv.1).toNat 0 + qv.2))] ∧ (e = level → side = "more")) (fun σ' H5 pp => ?_) (fun nx3 => ?_)
  rotate_left
  · refine ⟨_, rfl, _, rfl, rfl, _, rfl, ?_⟩
    by_cases c1 : e = level
    · refine iteE (v := true) (decide_eq_true (congrArg V.int (zeq c1))) (iteT ?_)
      refine ⟨_, rfl, rfl, _, rfl, ?_⟩
      by_cases c2 : side = "less"
      · refine iteE (v := true) (decide_eq_true (congrArg V.str c2)) (iteT ?_)
        rw [lastB (notext c1) c1, c2, hold_less] at q
        exact ⟨_, rfl, _, rfl, _, _, rfl, rfl, q⟩
      · refine iteE (v := false) (dS c2) (iteF (nx3 _ _ ⟨rfl, rfl, fun _ => ?_⟩))
        rcases hside with h | h | h
        · exact absurd h c2
        · exact h
        · exact absurd h (notext c1)
    · exact iteE (v := false) (decide_eq_false fun z => c1 (ninj z)) (iteF (nx3 _ _ ⟨rfl, rfl, fun z => absurd z c1⟩))
  obtain ⟨rfl, rfl, hmore⟩ := pp
  refine seq_any (fun σ' H6 => H6 = H5 ∧ σ' = [some (.ref t), some (.ref t2), some (.int beh), some (.ref v), some (.int (level : Int)), some (.str side), some (.int (e : Int)), some (.int (W.getD (1 + pv.1).toNat 0 + pv.2)), some (.int (W.getD (beh + qv.1).toNat 0 + qv.2))] ∧ e < level) (fun σ' H6 pp => ?_) (fun nx4 => ?_)
  rotate_left
  · refine ⟨_, rfl, _, rfl, rfl, _, rfl, ?_⟩
    by_cases c1 : e = level
    · refine iteE (v := true) (decide_eq_true (congrArg V.int (zeq c1))) (iteT ?_)
      rw [lastB (notext c1) c1, hmore c1, hold_more] at q
      exact ⟨_, rfl, _, rfl, _, _, rfl, rfl, q⟩
    · exact iteE (v := false) (decide_eq_false fun z => c1 (ninj z)) (iteF (nx4 _ _ ⟨rfl, rfl, by omega⟩))
  obtain ⟨rfl, rfl, hlv⟩ := pp
  refine ⟨_, rfl, t, _, 2, _, rfl, rfl, SqT.of ht, rfl, _, rfl, w0, _, _, _, rfl, rfl, SqL.of hw, atI_nat hxw, tw, _, 0, _, rfl, rfl, SqT.of htw, rfl, _, rfl, ?_⟩
  cases hcut : wy.1 with
  | true =>
    refine iteF ⟨rfl, ⟨_, _, _, rfl⟩, hlv, fun e' he' => ?_⟩
    by_cases z : e' < e
    · exact hall e' z
    · rw [at' e' (by omega), show e' = e by omega, sd_none (rb := ⟨wy, pv, qv⟩) hlv hcut]
      rfl
  | false =>
    refine iteT ⟨_, rfl, _, rfl, rfl, _, rfl, ?_⟩
    have hal := hold_alike (beh := beh) (level := level) (e := e) (side := side) (rb := ⟨wy, pv, qv⟩) (W := W) hlv hcut
    by_cases c3 : W.getD (1 + pv.1).toNat 0 + pv.2 = W.getD (beh + qv.1).toNat 0 + qv.2
    · refine iteE (ndF (congrArg V.int c3)) (iteF ⟨rfl, ⟨_, _, _, rfl⟩, hlv, fun e' he' => ?_⟩)
      by_cases z : e' < e
      · exact hall e' z
      · rw [at' e' (by omega), show e' = e by omega, hal]
        exact decide_eq_true c3
    · refine iteE (ndT (fun z => c3 (V.int.inj z))) (iteT ?_)
      have : (sdL beh level side 0 (rbs b c (hi1 side level))).all (hold7 W) = false := by
        rw [← Bool.not_eq_true, sdL_all]
        intro h
        have := h e hlt
        rw [at' e rfl, hal, decide_eq_true_iff] at this
        exact c3 this
      rw [this] at q
      exact q

theorem ok_pstands (T : Tx K mg a) : FnOk P w K mg base CX0 13 a.f_l_pair_stands a.d_l_pair_stands ["_law_script", "_law_program", "_law_boughs_here", "_law_depths", "_law_k", "_law_l"] (spPStands K a.c_Program a.c_Deed) := by
  have G_l_at := ok_at (P := P) (w := w) (base := base) T
  have G_l_turns := ok_turns7 (P := P) (w := w) (base := base) T
  have G_l_sides := ok_sides7 (P := P) (w := w) (base := base) T
  have G_side_bonds := ok_sideb (P := P) (w := w) (base := base) T
  have G_l_side_bonds := ok_sidel (P := P) (w := w) (base := base) T
  have G_l_alike := ok_alike7 (P := P) (w := w) (base := base) T
  have G_l_meant := ok_meant (P := P) (w := w) (base := base) T
  have G_l_hold := ok_hold7 (P := P) (w := w) (base := base) T
  have G_l_items := ok_items (P := P) (w := w) (base := base) T 7
  refine T.F_l_pair_stands.ok sc_l_pair_stands (fun vs H Q E h => ?_) (fun cdv A outer s H vs Q E hr h => ?_)
  · obtain ⟨_, _, _, _, _, _, _, _, _, _, _, rfl, _⟩ := h; rfl
  obtain ⟨sc, pr, l, dl, ns, D, B, i, j, b, c, rfl, hsc, nl, hpr, hB, hdl, hD, g, nd, hb, hc, hbD, hcD, hpp, q⟩ := h
  refine ⟨_, (@pss_cons _ _ _ _ _ (@ps_set _ _ (6) _ _ _ _ sc_l_pair_stands.nd rfl (Or.inl rfl) (@pe_call _ _ _ _ _ _ _ _ _ _ _ _ _ _ _ _ G_l_items (hr.mono (by omega)) (by rfl) T.m_l_items T.F_l_items.kp T.b_l_items .nil pass0 (@pa_cons _ _ _ _ _ (pv 2) (@pa_cons _ _ _ _ _ pe_int pa_nil (by rfl)) (by rfl)) (by decide) (by rfl) (by rfl)) (by rfl) (by first | exact .inl rfl | exact .inr rfl | assumption)) (@pss_cons _ _ _ _ _ (@ps_set _ _ (7) _ _ _ _ sc_l_pair_stands.nd rfl (Or.inl rfl) (@pe_ix _ _ _ _ _ _ _ ix_list (pv 2) (@pe_call _ _ _ _ _ _ _ _ _ _ _ _ _ _ _ _ G_l_at (hr.mono (by omega)) (by rfl) T.m_l_at T.F_l_at.kp T.b_l_at .nil pass0 (@pa_cons _ _ _ _ _ (pv 2) (@pa_cons _ _ _ _ _ (pv 4) pa_nil (by rfl)) (by rfl)) (by decide) (by rfl) (by rfl)) (fun _ _ => rfl)) (by rfl) (by first | exact .inl rfl | exact .inr rfl | assumption)) (@pss_cons _ _ _ _ _ (@ps_set _ _ (8) _ _ _ _ sc_l_pair_stands.nd rfl (Or.inl rfl) (@pe_ix _ _ _ _ _ _ _ ix_list (pv 2) (@pe_call _ _ _ _ _ _ _ _ _ _ _ _ _ _ _ _ G_l_at (hr.mono (by omega)) (by rfl) T.m_l_at T.F_l_at.kp T.b_l_at .nil pass0 (@pa_cons _ _ _ _ _ (pv 2) (@pa_cons _ _ _ _ _ (pv 5) pa_nil (by rfl)) (by rfl)) (by decide) (by rfl) (by rfl)) (fun _ _ => rfl)) (by rfl) (by first | exact .inl rfl | exact .inr rfl | assumption)) (@pss_cons _ _ _ _ _ (@ps_set _ _ (9) _ _ _ _ sc_l_pair_stands.nd rfl (Or.inl rfl) (@pe_call _ _ _ _ _ _ _ _ _ _ _ _ _ _ _ _ G_l_turns (hr.mono (by omega)) (by rfl) T.m_l_turns T.F_l_turns.kp T.b_l_turns .nil pass0 (@pa_cons _ _ _ _ _ (pv 0) (@pa_cons _ _ _ _ _ (pv 7) (@pa_cons _ _ _ _ _ (pv 8) (@pa_cons _ _ _ _ _ (@pe_lst _ _ _ _ (@pa_cons _ _ _ _ _ (@pe_ix _ _ _ _ _ _ _ ix_list (pv 3) (pv 4) (fun _ _ => rfl)) (@pa_cons _ _ _ _ _ (@pe_ix _ _ _ _ _ _ _ ix_list (pv 3) (pv 5) (fun _ _ => rfl)) pa_nil (by rfl)) (by rfl))) pa_nil (by rfl)) (by rfl)) (by rfl)) (by rfl)) (by decide) (by rfl) (by rfl)) (by rfl) (by first | exact .inl rfl | exact .inr rfl | assumption)) (@pss_cons _ _ _ _ _ (@ps_set _ _ (10) _ _ _ _ sc_l_pair_stands.nd rfl (Or.inl rfl) (@pe_op _ _ _ _ _ _ _ _ op_add pe_int (@pe_ix _ _ _ _ _ _ _ ix_list (pv 3) (pv 4) (fun _ _ => rfl))) (by rfl) (by first | exact .inl rfl | exact .inr rfl | assumption)) (@pss_cons _ _ _ _ _ (@ps_for _ _ _ _ _ _ _ _ PassesOwn.never rfl (@pi_list _ _ _ _ (@pe_call _ _ _ _ _ _ _ _ _ _ _ _ _ _ _ _ G_l_sides (hr.mono (by omega)) (by rfl) T.m_l_sides T.F_l_sides.kp T.b_l_sides .nil pass0 (@pa_cons _ _ _ _ _ (pv 2) (@pa_cons _ _ _ _ _ (pv 4) (@pa_cons _ _ _ _ _ (pv 5) pa_nil (by rfl)) (by rfl)) (by rfl)) (by decide) (by rfl) (by rfl))) (pg_name (i := 11) sc_l_pair_stands.nd rfl (Or.inl rfl)) (@pss_cons _ _ _ _ _ (@ps_set _ _ (12) _ _ _ _ sc_l_pair_stands.nd rfl (Or.inl rfl) (@pe_call _ _ _ _ _ _ _ _ _ _ _ _ _ _ _ _ G_side_bonds (hr.mono (by omega)) (by rfl) T.m_side_bonds T.F_side_bonds.kp T.b_side_bonds .nil pass0 (@pa_cons _ _ _ _ _ (pv 1) (@pa_cons _ _ _ _ _ (pv 6) (@pa_cons _ _ _ _ _ (pv 4) (@pa_cons _ _ _ _ _ (pv 5) (@pa_cons _ _ _ _ _ (@pe_ix _ _ _ _ _ _ _ ix_tup (pv 11) pe_int (fun _ _ => rfl)) (@pa_cons _ _ _ _ _ (@pe_ix _ _ _ _ _ _ _ ix_tup (pv 11) pe_int (fun _ _ => rfl)) pa_nil (by rfl)) (by rfl)) (by rfl)) (by rfl)) (by rfl)) (by rfl)) (by decide) (by rfl) (by rfl)) (by rfl) (by first | exact .inl rfl | exact .inr rfl | assumption)) (@pss_cons _ _ _ _ _ (@ps_set _ _ (13) _ _ _ _ sc_l_pair_stands.nd rfl (Or.inl rfl) (@pe_call _ _ _ _ _ _ _ _ _ _ _ _ _ _ _ _ G_l_side_bonds (hr.mono (by omega)) (by rfl) T.m_l_side_bonds T.F_l_side_bonds.kp T.b_l_side_bonds .nil pass0 (@pa_cons _ _ _ _ _ (pv 2) (@pa_cons _ _ _ _ _ (pv 10) (@pa_cons _ _ _ _ _ (pv 4) (@pa_cons _ _ _ _ _ (pv 5) (@pa_cons _ _ _ _ _ (@pe_ix _ _ _ _ _ _ _ ix_tup (pv 11) pe_int (fun _ _ => rfl)) (@pa_cons _ _ _ _ _ (@pe_ix _ _ _ _ _ _ _ ix_tup (pv 11) pe_int (fun _ _ => rfl)) pa_nil (by rfl)) (by rfl)) (by rfl)) (by rfl)) (by rfl)) (by rfl)) (by decide) (by rfl) (by rfl)) (by rfl) (by first | exact .inl rfl | exact .inr rfl | assumption)) (@pss_cons _ _ _ _ _ (@ps_if _ _ _ _ _ _ _ _ (@pt_not _ _ _ _ (@pt_val _ _ _ (@pe_call _ _ _ _ _ _ _ _ _ _ _ _ _ _ _ _ G_l_alike (hr.mono (by omega)) (by rfl) T.m_l_alike T.F_l_alike.kp T.b_l_alike .nil pass0 (@pa_cons _ _ _ _ _ (pv 12) (@pa_cons _ _ _ _ _ (pv 13) pa_nil (by rfl)) (by rfl)) (by decide) (by rfl) (by rfl)) (by intro _ ; rfl))) (@pss_one _ _ _ (@ps_ret _ _ _ _ pe_bl)) pss_nil) (@pss_cons _ _ _ _ _ (@ps_set _ _ (14) _ _ _ _ sc_l_pair_stands.nd rfl (Or.inl rfl) (@pe_call _ _ _ _ _ _ _ _ _ _ _ _ _ _ _ _ G_l_meant (hr.mono (by omega)) (by rfl) T.m_l_meant T.F_l_meant.kp T.b_l_meant .nil pass0 (@pa_cons _ _ _ _ _ (pv 7) (@pa_cons _ _ _ _ _ (pv 8) (@pa_cons _ _ _ _ _ (pv 10) (@pa_cons _ _ _ _ _ (pv 9) (@pa_cons _ _ _ _ _ (@pe_ix _ _ _ _ _ _ _ ix_tup (pv 11) pe_int (fun _ _ => rfl)) (@pa_cons _ _ _ _ _ (@pe_ix _ _ _ _ _ _ _ ix_tup (pv 11) pe_int (fun _ _ => rfl)) pa_nil (by rfl)) (by rfl)) (by rfl)) (by rfl)) (by rfl)) (by rfl)) (by decide) (by rfl) (by rfl)) (by rfl) (by first | exact .inl rfl | exact .inr rfl | assumption)) (@pss_one _ _ _ (@ps_if _ _ _ _ _ _ _ _ (@pt_cmpR _ _ _ _ _ _ _ _ op_ne (@pe_call _ _ _ _ _ _ _ _ _ _ _ _ _ _ _ _ G_l_hold (hr.mono (by omega)) (by rfl) T.m_l_hold T.F_l_hold.kp T.b_l_hold .nil pass0 (@pa_cons _ _ _ _ _ (pv 12) (@pa_cons _ _ _ _ _ (pv 9) pa_nil (by rfl)) (by rfl)) (by decide) (by rfl) (by rfl)) (pv 14) (@nomark _ _ (by decide) (by decide))) (@pss_one _ _ _ (@ps_ret _ _ _ _ pe_bl)) pss_nil)))))) (by intro _ ; rfl)) (@pss_one _ _ _ (@ps_ret _ _ _ _ pe_bl)))))))), ?_⟩
  try dsimp only [cxK, noxK]
  have gb := g.all b (List.mem_of_getElem? hb)
  have gc := g.all c (List.mem_of_getElem? hc)
  have bw := gb.len
  have cw := gc.len
  refine ⟨_, rfl, l, 0, 6, B, rfl, hB, From.of g, by decide, by decide, fun pt H1 f e1 hf hI => ?_⟩
  obtain ⟨xs, hl, aB⟩ := id hB
  obtain ⟨x, hx, bx⟩ := aB.get hb
  obtain ⟨y, hy, by'⟩ := aB.get hc
  refine ⟨_, rfl, _, rfl, _, rfl, l, B, i, b, rfl, hB.over e1, g.len, nd, hb, fun H2 e2 => ⟨l, _, _, _, rfl, rfl, SqL.of ((e1.trans e2) _ _ hl), atI_nat hx, ?_⟩⟩
  have e12 := e2
  have e2 := e1.trans e2
  refine ⟨_, rfl, _, rfl, _, rfl, l, B, j, c, rfl, hB.over e2, g.len, nd, hc, fun H3 e3 => ⟨l, _, _, _, rfl, rfl, SqL.of ((e2.trans e3) _ _ hl), atI_nat hy, ?_⟩⟩
  dsimp only [gName]
  have e13 : Same H1 H3 := e12.trans e3
  have e3 := e2.trans e3
  have hPl : PlanIs H3 pt B := ⟨f, hf.over e13, hI, g, nd⟩
  obtain ⟨s, hm⟩ := many_ex (List.getElem?_eq_some_iff.mp hb).1 (List.getElem?_eq_some_iff.mp hc).1
  obtain ⟨xx, hxx, _, _⟩ := en_at hI hb
  obtain ⟨yy, hyy, _, _⟩ := en_at hI hc
  obtain ⟨sb, sc', _⟩ := paths hI g hb hc hxx hyy hm
  have bk : ((b.k.toNat : Nat) : Int) = b.k := Int.toNat_of_nonneg gb.k0
  have ck : ((c.k.toNat : Nat) : Int) = c.k := Int.toNat_of_nonneg gc.k0
  have D1 : D[b.k.toNat]? = some D[b.k.toNat] := List.getElem?_eq_getElem hbD
  have D2 : D[c.k.toNat]? = some D[c.k.toNat] := List.getElem?_eq_getElem hcD
  have bd1 := hD _ (List.getElem_mem hbD)
  have bd2 := hD _ (List.getElem_mem hcD)
  have pb : ∀ p ∈ b.pl, 0 ≤ p.1 ∧ p.1 < D[b.k.toNat] := fun p hp => by
    have := hpp b (List.mem_of_getElem? hb) p hp
    rw [List.getD_eq_getElem?_getD, D1] at this
    exact ⟨(gb.pr p hp).1, this⟩
  have pc : ∀ p ∈ c.pl, 0 ≤ p.1 ∧ p.1 < D[c.k.toNat] := fun p hp => by
    have := hpp c (List.mem_of_getElem? hc) p hp
    rw [List.getD_eq_getElem?_getD, D2] at this
    exact ⟨(gc.pr p hp).1, this⟩
  have gD : D.getD b.k.toNat 0 = D[b.k.toNat] := by rw [List.getD_eq_getElem?_getD, D1]; rfl
  have at1 : atI (D.map V.int) b.k = some (.int D[b.k.toNat]) := by
    have := atI_nat (xs := D.map V.int) (j := b.k.toNat) (v := .int D[b.k.toNat]) (by rw [List.getElem?_map, D1]; rfl)
    rwa [bk] at this
  have at2 : atI (D.map V.int) c.k = some (.int D[c.k.toNat]) := by
    have := atI_nat (xs := D.map V.int) (j := c.k.toNat) (v := .int D[c.k.toNat]) (by rw [List.getElem?_map, D2]; rfl)
    rwa [ck] at this
  generalize D[b.k.toNat] = d1 at *
  generalize D[c.k.toNat] = d2 at *
  refine ⟨_, rfl, _, rfl, _, rfl, _, rfl, _, rfl, dl, _, _, _, rfl, rfl, SqL.of (e3 _ _ hdl), at1, _, rfl, _, rfl, dl, _, _, _, rfl, rfl, SqL.of (e3 _ _ hdl), at2, szl (by show 2 ≤ 1000000; decide), fun dl2 hdl2 => ?_⟩
  have s4 := same_new hdl2 (.lst [V.int d1, V.int d2])
  refine ⟨sc, dl2, x, y, ns, b, c, d1, d2, rfl, (e3.trans s4).seq hsc, bx.over (e3.trans s4), by'.over (e3.trans s4), upd_same, bd1.1, bd1.2, bd2.1, bd2.2, by rw [gb.pll]; exact bw, by rw [gc.pll]; exact cw, pb, pc, fun vv W H5 e5 hvv Wl => ?_⟩
  have e35 := s4.trans e5
  have eH5 := e3.trans e35
  refine ⟨_, rfl, _, rfl, dl, _, _, _, rfl, rfl, SqL.of (eH5 _ _ hdl), at1, _, _, rfl, rfl, ?_⟩
  refine ⟨_, rfl, _, rfl, _, rfl, l, B, i, j, s, b, c, rfl, hB.over eH5, g, nd, hb, hc, hm, sb, fun sl ys H6 e6 hsl ay => ?_⟩
  have eH6 := eH5.trans e6
  refine ⟨sl, rfl, ⟨_, SqL.of hsl⟩, ?_⟩
  refine for_list (xs := ys) (fun m σ' H' => Same H6 H' ∧ ∃ (o11 o12 o13 o14 : Option V), σ' = [some (.ref sc), some (.ref pr), some (.ref l), some (.ref dl), some (.int b.k), some (.int c.k), some (.ref pt), some x, some y, some (.ref vv), some (.int (1 + d1)), o11, o12, o13, o14]) ⟨Same.refl _, _, _, _, _, rfl⟩ (fun m σ' H' _ pp => SqL.of (pp.1 _ _ hsl)) (fun m z σ' H' hz pp => ?_) (fun σ' H' pp => ?_)
  rotate_left
  · obtain ⟨e7, o11, o12, o13, o14, rfl⟩ := pp
    exact q _ (eH6.trans e7)
  obtain ⟨e7, o11, o12, o13, o14, rfl⟩ := pp
  obtain ⟨⟨level, side⟩, hmem, tq, rfl, htq⟩ := ay.get' hz
  have htq7 := e7 _ _ htq
  have eH7 := eH6.trans e7
  obtain ⟨h1, h2, h3, h4⟩ := sides_same (b := b) (c := c) (1 + d1) (sides_mem (List.mem_of_getElem? hmem))
  refine ⟨_, rfl, _, rfl, _, rfl, _, rfl, _, rfl, tq, _, 0, _, rfl, rfl, SqT.of htq7, rfl, _, rfl, tq, _, 1, _, rfl, rfl, SqT.of htq7, rfl, pr, pt, B, D, i, j, s, level, side, b, c, rfl, hpr.over eH7, hPl.over ((e35.trans e6).trans e7), hb, hc, hm, hbD, fun fl zs H8 e8 hfl tf => ?_⟩
  rw [gD] at tf
  rw [h2] at tf
  have eH8 := eH7.trans e8
  refine ⟨_, rfl, _, rfl, _, rfl, _, rfl, _, rfl, tq, _, 0, _, rfl, rfl, SqT.of (e8 _ _ htq7), rfl, _, rfl, tq, _, 1, _, rfl, rfl, SqT.of (e8 _ _ htq7), rfl, l, B, 1 + d1, level, side, i, j, b, c, rfl, hB.over eH8, g, nd, hb, hc, h3, by omega, by omega, fun du zs2 H9 e9 hdu td => ?_⟩
  dsimp only [gName]
  have eH9 := eH8.trans e9
  have blen := sdL_len (1 + d1) level side (rbs b c (hi1 side level)) 0
  rw [rbs_len] at blen
  refine ⟨_, rfl, _, rfl, fl, du, zs, zs2, _, rfl, e9 _ _ hfl, hdu, tf.over e9, td, by omega, fun H10 e10 => ⟨_, rfl, iteF ?_⟩⟩
  have eH10 := eH9.trans e10
  have k810 := e9.trans e10
  have k5_10 : Same H5 H10 := (e6.trans e7).trans (e8.trans k810)
  have htq10 := k810 _ _ (e8 _ _ htq7)
  have inb : ∀ p ∈ b.pl, InW W (1 + p.1) := fun p hp => by have := pb p hp; unfold InW; omega
  have inc : ∀ p ∈ c.pl, InW W (1 + d1 + p.1) := fun p hp => by have := pc p hp; unfold InW; omega
  refine ⟨_, rfl, _, rfl, _, rfl, _, rfl, _, rfl, tq, _, 0, _, rfl, rfl, SqT.of htq10, rfl, _, rfl, tq, _, 1, _, rfl, rfl, SqT.of htq10, rfl, x, y, vv, 1 + d1, level, side, b, c, W, rfl, bx.over eH10, by'.over eH10, k5_10 _ _ hvv, h3, by omega, gb.pll, by rw [gc.pll]; omega, bw, by omega, inb, inc, ?_⟩
  refine ⟨_, rfl, _, rfl, fl, vv, zs, _, W, rfl, k810 _ _ hfl, tf.over k810, k5_10 _ _ hvv, fun t ht => ?_, _, rfl, rfl, _, rfl, ?_⟩
  · obtain ⟨p, hp, qq, hqq, h⟩ := sdL_mem (hi1 side level) (by rw [gb.pll]; omega) (by rw [gc.pll]; omega) ht
    have a1 := inb p hp
    have a2 := inc qq hqq
    rcases h with ⟨u1, u2⟩ | ⟨u1, u2⟩
    · rw [u1, u2]; exact ⟨a1, a2⟩
    · rw [u1, u2]; exact ⟨a2, a1⟩
  refine iteE (v := false) (by rw [decide_eq_true rfl]; rfl) (iteF ?_)
  exact ⟨e7.trans (e8.trans k810), _, _, _, _, rfl⟩

theorem ok_law (T : Tx K mg a) : FnOk P w K mg base CX0 14 a.f_law a.d_law ["_law_script"] (spLaw K) := by
  have G_l_cell_at := ok_cell_at (P := P) (w := w) (base := base) T
  have G_l_mixed := ok_mixed (P := P) (w := w) (base := base) T
  have G_l_boughs := ok_boughs (P := P) (w := w) (base := base) T
  have G_l_deed := ok_deed7 (P := P) (w := w) (base := base) T
  have G_Program_init := ok_pinit (P := P) (w := w) (base := base) T
  have G_l_pair_stands := ok_pstands (P := P) (w := w) (base := base) T
  refine T.F_law.ok sc_law (fun vs H Q E h => ?_) (fun cdv A outer s H vs Q E hr h => ?_)
  · obtain ⟨_, _, rfl, _⟩ := h; rfl
  obtain ⟨p, ns, rfl, hp, h63, _, q⟩ := h
  refine ⟨_, (@pss_cons _ _ _ _ _ (@ps_set _ _ (1) _ _ _ _ sc_law.nd rfl (Or.inr rfl) (@pe_compB _ _ _ _ _ _ _ ["_law_k", "_law_script"] [none, some 0] _ _ _ _ (by rfl) (@pi_range1 _ _ _ _ _ _ (by rfl) T.z_range (@pa_cons _ _ _ _ _ pe_int pa_nil (by rfl)) (by rfl)) c_law_0 (fun _ _ _ _ _ _ => ⟨(pg_name (i := 0) c_law_0n rfl (Or.inl rfl)), @pts_nil _, (@pe_op _ _ _ _ _ _ _ _ op_mod (@pe_call _ _ _ _ _ _ _ _ _ _ _ _ _ _ _ _ G_l_mixed (hr.mono (by omega)) (by rfl) T.m_l_mixed T.F_l_mixed.kp T.b_l_mixed .nil pass0 (@pa_cons _ _ _ _ _ (@pe_call _ _ _ _ _ _ _ _ _ _ _ _ _ _ _ _ G_l_cell_at (hr.mono (by omega)) (by rfl) T.m_l_cell_at T.F_l_cell_at.kp T.b_l_cell_at .nil pass0 (@pa_cons _ _ _ _ _ (pv 1) (@pa_cons _ _ _ _ _ (pv 0) pa_nil (by rfl)) (by rfl)) (by decide) (by rfl) (by rfl)) (@pa_cons _ _ _ _ _ pe_int pa_nil (by rfl)) (by rfl)) (by decide) (by rfl) (by rfl)) pe_int)⟩) (by intro _ ; rfl)) (by rfl) (by first | exact .inl rfl | exact .inr rfl | assumption)) (@pss_cons _ _ _ _ _ (@ps_set _ _ (2) _ _ _ _ sc_law.nd rfl (Or.inl rfl) (@pe_op _ _ _ _ _ _ _ _ op_mul (@pe_op _ _ _ _ _ _ _ _ op_add pe_int (@pe_op _ _ _ _ _ _ _ _ op_mod (@pe_call _ _ _ _ _ _ _ _ _ _ _ _ _ _ _ _ G_l_cell_at (hr.mono (by omega)) (by rfl) T.m_l_cell_at T.F_l_cell_at.kp T.b_l_cell_at .nil pass0 (@pa_cons _ _ _ _ _ (pv 0) (@pa_cons _ _ _ _ _ pe_int pa_nil (by rfl)) (by rfl)) (by decide) (by rfl) (by rfl)) (@pe_op _ _ _ _ _ _ _ _ op_pow pe_int pe_int))) (@pe_ix _ _ _ _ _ _ _ ix_tup (@pe_tup _ _ _ _ _ (@pa_cons _ _ _ _ _ pe_int (@pa_cons _ _ _ _ _ (@pe_un _ _ _ _ _ _ un_neg pe_int) pa_nil (by rfl)) (by rfl))) (@pe_op _ _ _ _ _ _ _ _ op_mod (@pe_call _ _ _ _ _ _ _ _ _ _ _ _ _ _ _ _ G_l_cell_at (hr.mono (by omega)) (by rfl) T.m_l_cell_at T.F_l_cell_at.kp T.b_l_cell_at .nil pass0 (@pa_cons _ _ _ _ _ (pv 0) (@pa_cons _ _ _ _ _ pe_int pa_nil (by rfl)) (by rfl)) (by decide) (by rfl) (by rfl)) pe_int) (fun _ _ => rfl))) (by rfl) (by first | exact .inl rfl | exact .inr rfl | assumption)) (@pss_cons _ _ _ _ _ (@ps_set _ _ (3) _ _ _ _ sc_law.nd rfl (Or.inl rfl) (@pe_call _ _ _ _ _ _ _ _ _ _ _ _ _ _ _ _ G_l_boughs (hr.mono (by omega)) (by rfl) T.m_l_boughs T.F_l_boughs.kp T.b_l_boughs .nil pass0 (@pa_cons _ _ _ _ _ (pv 1) (@pa_cons _ _ _ _ _ (pv 0) (@pa_cons _ _ _ _ _ pe_int (@pa_cons _ _ _ _ _ (pv 2) pa_nil (by rfl)) (by rfl)) (by rfl)) (by rfl)) (by decide) (by rfl) (by rfl)) (by rfl) (by first | exact .inl rfl | exact .inr rfl | assumption)) (@pss_cons _ _ _ _ _ (@ps_set _ _ (4) _ _ _ _ sc_law.nd rfl (Or.inl rfl) (@pe_make _ _ _ _ _ _ _ _ _ _ _ _ _ _ _ _ _ T.mk_Program G_Program_init (hr.mono (by omega)) (by rfl) T.mc_Program T.b_Program_init .nil pass0 (@pa_cons _ _ _ _ _ pe_int (@pa_cons _ _ _ _ _ (@pe_compB _ _ _ _ _ _ _ ["_law_k", "_law_depths"] [none, some 1] _ _ _ _ (by rfl) (@pi_range1 _ _ _ _ _ _ (by rfl) T.z_range (@pa_cons _ _ _ _ _ pe_int pa_nil (by rfl)) (by rfl)) c_law_1 (fun _ _ _ _ _ _ => ⟨(pg_name (i := 0) c_law_1n rfl (Or.inl rfl)), @pts_nil _, (@pe_call _ _ _ _ _ _ _ _ _ _ _ _ _ _ _ _ G_l_deed (hr.mono (by omega)) (by rfl) T.m_l_deed T.F_l_deed.kp T.b_l_deed .nil pass0 (@pa_cons _ _ _ _ _ (pv 0) (@pa_cons _ _ _ _ _ (@pe_ix _ _ _ _ _ _ _ (show IxR _ (rIxL K) from ix_list) (pv 1) (pv 0) (fun _ _ => rfl)) pa_nil (by rfl)) (by rfl)) (by decide) (by rfl) (by rfl))⟩) (by intro _ ; rfl)) pa_nil (by rfl)) (by rfl)) (by decide) (by rfl) (by rfl)) (by rfl) (by first | exact .inl rfl | exact .inr rfl | assumption)) (@pss_cons _ _ _ _ _ (@ps_for _ _ _ _ _ _ _ _ PassesOwn.never rfl (@pi_range1 _ _ _ _ _ _ (by rfl) T.z_range (@pa_cons _ _ _ _ _ pe_int pa_nil (by rfl)) (by rfl)) (pg_name (i := 5) sc_law.nd rfl (Or.inl rfl)) (@pss_one _ _ _ (@ps_for _ _ _ _ _ _ _ _ PassesOwn.never rfl (@pi_range1 _ _ _ _ _ _ (by rfl) T.z_range (@pa_cons _ _ _ _ _ pe_int pa_nil (by rfl)) (by rfl)) (pg_name (i := 6) sc_law.nd rfl (Or.inl rfl)) (@pss_one _ _ _ (@ps_if _ _ _ _ _ _ _ _ (@pt_not _ _ _ _ (@pt_val _ _ _ (@pe_call _ _ _ _ _ _ _ _ _ _ _ _ _ _ _ _ G_l_pair_stands (hr.mono (by omega)) (by rfl) T.m_l_pair_stands T.F_l_pair_stands.kp T.b_l_pair_stands .nil pass0 (@pa_cons _ _ _ _ _ (pv 0) (@pa_cons _ _ _ _ _ (pv 4) (@pa_cons _ _ _ _ _ (pv 3) (@pa_cons _ _ _ _ _ (pv 1) (@pa_cons _ _ _ _ _ (pv 5) (@pa_cons _ _ _ _ _ (pv 6) pa_nil (by rfl)) (by rfl)) (by rfl)) (by rfl)) (by rfl)) (by rfl)) (by decide) (by rfl) (by rfl)) (by intro _ ; rfl))) (@pss_one _ _ _ (@ps_ret _ _ _ _ pe_bl)) pss_nil)) (by intro _ ; rfl))) (by intro _ ; rfl)) (@pss_one _ _ _ (@ps_ret _ _ _ _ pe_bl))))))), ?_⟩
  try dsimp only [cxK, noxK]
  refine ⟨2, rfl, by decide, by decide, ?_⟩
  refine comp_range (lo := 0) (n := 2) (fun i ys H' => H' = H ∧ ∃ D : List Int, ys = D.map V.int ∧ D.length = i ∧ ∀ d ∈ D, 0 ≤ d ∧ d ≤ 3) ⟨rfl, [], rfl, rfl, fun d hd => by cases hd⟩ (szl (by decide)) (fun i ys H' hi pp => by obtain ⟨_, D, rfl, h, _⟩ := pp; rw [List.length_map]; omega) (fun i ys H' hi pp => ?_) (fun ys H1 pp dl hdl => ?_)
  · obtain ⟨rfl, D, rfl, Dl, hD⟩ := pp
    refine ⟨_, rfl, _, rfl, p, ns, _, rfl, hp, (Int.add_nonneg (Int.le_refl 0) (Int.natCast_nonneg i)), _, _, rfl, fun mm hmm => ⟨_, _, rfl, rfl, (by show (0 : Int) < 4; decide), rfl, D ++ [mm % 4], by rw [List.map_append]; rfl, by rw [List.length_append, Dl]; rfl, fun d hd => ?_⟩⟩
    rcases List.mem_append.mp hd with hd | hd
    · exact hD d hd
    · rw [List.mem_singleton] at hd
      have := Int.emod_nonneg mm (show (4 : Int) ≠ 0 by decide)
      have := Int.emod_lt_of_pos mm (show (0 : Int) < 4 by decide)
      omega
  obtain ⟨rfl, D, rfl, Dl, hD⟩ := pp
  have s1 := same_new hdl (.lst (D.map V.int))
  have hdl1 : (upd H1 dl (.lst (D.map V.int))) dl = some (.lst (D.map V.int)) := upd_same
  generalize upd H1 dl (.lst (D.map V.int)) = H2 at s1 hdl1
  have p17 : (10 : Int) ^ (17 : Int).toNat = 100000000000000000 := by decide
  have p64 : (2 : Int) ^ 64 = 18446744073709551616 := by decide
  have hfar : farB = 100000000000000000 := rfl
  have k0 := Int.emod_nonneg (ns.getD (4 : Int).toNat 0) (show (10 : Int) ^ (17 : Int).toNat ≠ 0 by decide)
  have k1 := Int.emod_lt_of_pos (ns.getD (4 : Int).toNat 0) (show (0 : Int) < 10 ^ (17 : Int).toNat by decide)
  refine ⟨_, rfl, p, ns, 4, rfl, s1.seq hp, by decide, _, _, rfl, rfl, ⟨by decide, by decide, by decide⟩, _, _, rfl, rfl, (by show (0 : Int) < 10 ^ (17 : Int).toNat; decide), _, _, rfl, rfl, _, rfl, szl (by show 2 ≤ 1000000; decide), fun t0 ht0 => ?_⟩
  have s2 := same_new ht0 (.tup [V.int 1, V.int (-1)])
  obtain ⟨sg, hsg, esg⟩ := pickN (L := [1, -1]) (i := ns.getD (11 : Int).toNat 0 % 2) 2 rfl (Int.emod_nonneg _ (by decide)) (Int.emod_lt_of_pos _ (by decide))
  have hsg : sg = 1 ∨ sg = -1 := by
    simp only [List.mem_cons, List.not_mem_nil, or_false] at hsg
    exact hsg
  refine ⟨_, rfl, p, ns, 11, rfl, (s1.trans s2).seq hp, by decide, _, _, rfl, rfl, (by show (0 : Int) < 2; decide), t0, _, _, _, rfl, rfl, SqT.of upd_same, esg, _, _, rfl, rfl, .inr ⟨by omega, by omega⟩, ?_⟩
  have hdl2 := s2 _ _ hdl1
  have e2 := s1.trans s2
  dsimp only [gName]
  generalize upd H2 t0 (.tup [V.int 1, V.int (-1)]) = H3 at s2 hdl2 e2
  have fb : -farB ≤ (1 + ns.getD (4 : Int).toNat 0 % 10 ^ (17 : Int).toNat) * sg ∧ (1 + ns.getD (4 : Int).toNat 0 % 10 ^ (17 : Int).toNat) * sg ≤ farB := by
    rw [p17] at k0 k1 ⊢
    rcases hsg with rfl | rfl
    · rw [Int.mul_one]; omega
    · rw [Int.mul_neg, Int.mul_one]; omega
  generalize (1 + ns.getD (4 : Int).toNat 0 % 10 ^ (17 : Int).toNat) * sg = far at fb
  refine ⟨_, rfl, _, rfl, _, rfl, dl, p, D, ns, 2, far, rfl, hdl2, hD, by omega, e2.seq hp, h63, by decide, by decide, fb.1, fb.2, fun bl H4 B e4 hB g pm pp => ?_⟩
  have e4' := e2.trans e4
  have hdl4 := e4 _ _ hdl2
  -- the program
  refine ⟨2, rfl, by decide, by decide, ?_⟩
  refine comp_range (lo := 0) (n := 2) (fun i ys H' => Same H4 H' ∧ All2 (DeedN a.c_Deed H') ys (D.take i)) ⟨Same.refl _, .nil⟩ (szl (by decide)) (fun i ys H' hi pp => by rw [pp.2.1, List.length_take]; omega) (fun i ys H' hi pp => ?_) (fun ys H5 pp lst hlst => ?_)
  · obtain ⟨e5, ay⟩ := pp
    have z0 : (0 + (i : Int)) = (i : Int) := Int.zero_add _
    have Di : D[i]? = some (D[i]'(Dl ▸ hi)) := List.getElem?_eq_getElem (Dl ▸ hi)
    have bd := hD D[i] (List.getElem_mem _)
    have atD : atI (D.map V.int) (0 + (i : Int)) = some (.int D[i]) := by rw [z0]; exact atI_nat (by rw [List.getElem?_map, Di]; rfl)
    refine ⟨_, rfl, _, rfl, _, rfl, dl, _, _, _, rfl, rfl, SqL.of (e5 _ _ hdl4), atD, _, D[i], rfl, bd.1, bd.2, fun r H6 e6 hdn => ⟨e5.trans e6, ?_⟩⟩
    rw [take_snoc Di]
    exact (ay.mono fun x n z => z.over e6).snoc hdn
  obtain ⟨e5, ay⟩ := pp
  rw [List.take_of_length_le (Nat.le_of_eq Dl)] at ay
  have s6 := same_new hlst (.lst ys)
  have hl6 : (upd H5 lst (.lst ys)) lst = some (.lst ys) := upd_same
  have ay6 := ay.mono fun x n z => z.over s6
  generalize upd H5 lst (.lst ys) = H6 at s6 hl6 ay6
  intro x dx hx hdx hne
  have nlx : lst ≠ x := ne_of_none hl6 hx
  have nld : lst ≠ dx := ne_of_none hl6 hdx
  refine ⟨x, dx, lst, _, ys, rfl, upd_same, by rw [upd_ne nlx, upd_ne nld]; exact hl6, by rw [ay.1]; omega, fun H7 dl7 k7 hx7 hdl7 => ⟨rfl, ?_⟩⟩
  have e67 := made_same hx hdx k7
  obtain ⟨dx7, hx7⟩ := hx7
  have hPr : ProgIs a.c_Program a.c_Deed H7 x D := ⟨dx7, dl7, _, ys, hx7, hdl7, ay6.mono fun u n z => z.over e67⟩
  have e47 := (e5.trans s6).trans e67
  have eH7 := e4'.trans e47
  dsimp only [gName]
  have nd : (B.map (·.k)).Nodup := by
    refine (pm.nodup_iff).mpr ?_
    rw [List.nodup_iff_pairwise_ne, List.pairwise_map]
    exact List.Pairwise.imp (fun {i j} h z => h (Int.ofNat.inj z)) (List.nodup_range : (List.range D.length).Nodup)
  have find : ∀ k : Nat, k < 2 → ∃ (i : Nat) (b : Bgh), B[i]? = some b ∧ b.k = (k : Int) := fun k hk => by
    have : ((k : Nat) : Int) ∈ B.map (·.k) := pm.symm.subset (List.mem_map.mpr ⟨k, List.mem_range.mpr (Dl ▸ hk), rfl⟩)
    obtain ⟨b, hb, e⟩ := List.mem_map.mp this
    obtain ⟨i, hi⟩ := List.mem_iff_getElem?.mp hb
    exact ⟨i, b, hi, e⟩
  refine ⟨2, rfl, by decide, by decide, ?_⟩
  refine for_range (lo := 0) (n := 2) (fun i σ' H' => Same H7 H' ∧ ∃ o5 o6, σ' = [some (.ref p), some (.ref dl), some (.int far), some (.ref bl), some (.ref x), o5, o6]) ⟨Same.refl _, _, _, rfl⟩ (fun i σ' H' hi pp' => ?_) (fun σ' H' pp' => q _)
  obtain ⟨e8, o5, o6, rfl⟩ := pp'
  obtain ⟨ib, b, hb, hbk⟩ := find i hi
  rw [show (0 + (i : Int)) = b.k from (Int.zero_add _).trans hbk.symm]
  refine ⟨2, rfl, by decide, by decide, ?_⟩
  refine for_range (lo := 0) (n := 2) (fun j σ' H' => Same H7 H' ∧ ∃ o6, σ' = [some (.ref p), some (.ref dl), some (.int far), some (.ref bl), some (.ref x), some (.int b.k), o6]) ⟨e8, _, rfl⟩ (fun j σ' H' hj pp' => ?_) (fun σ' H' pp' => by obtain ⟨a1, a2, a3⟩ := pp'; exact ⟨a1, _, _, a3⟩)
  obtain ⟨e9, o6', rfl⟩ := pp'
  obtain ⟨ic, c, hc, hck⟩ := find j hj
  rw [show (0 + (j : Int)) = c.k from (Int.zero_add _).trans hck.symm]
  refine ⟨_, rfl, _, rfl, _, rfl, _, rfl, _, rfl, _, rfl, p, x, bl, dl, ns, D, B, ib, ic, b, c, rfl, (eH7.trans e9).seq hp, h63, hPr.over e9, hB.over (e47.trans e9), (e47.trans e9) _ _ hdl4, hD, g, nd, hb, hc, by omega, by omega, pp, fun H10 e10 => ?_⟩
  exact ⟨_, rfl, iteF ⟨e9.trans e10, _, rfl⟩⟩

end
theorem len_1 {us : List Value} (h : us.length = 1) : ∃ x0, us = [x0] := by
  rcases us with _ | ⟨x0, us⟩
  · cases h
  rcases us with _ | ⟨y, us⟩
  · exact ⟨x0, rfl⟩
  · simp only [List.length_cons] at h; omega
theorem len_2 {us : List Value} (h : us.length = 2) : ∃ x0 x1, us = [x0, x1] := by
  rcases us with _ | ⟨x0, us⟩
  · cases h
  rcases us with _ | ⟨x1, us⟩
  · cases h
  rcases us with _ | ⟨y, us⟩
  · exact ⟨x0, x1, rfl⟩
  · simp only [List.length_cons] at h; omega
theorem len_3 {us : List Value} (h : us.length = 3) : ∃ x0 x1 x2, us = [x0, x1, x2] := by
  rcases us with _ | ⟨x0, us⟩
  · cases h
  rcases us with _ | ⟨x1, us⟩
  · cases h
  rcases us with _ | ⟨x2, us⟩
  · cases h
  rcases us with _ | ⟨y, us⟩
  · exact ⟨x0, x1, x2, rfl⟩
  · simp only [List.length_cons] at h; omega
theorem len_4 {us : List Value} (h : us.length = 4) : ∃ x0 x1 x2 x3, us = [x0, x1, x2, x3] := by
  rcases us with _ | ⟨x0, us⟩
  · cases h
  rcases us with _ | ⟨x1, us⟩
  · cases h
  rcases us with _ | ⟨x2, us⟩
  · cases h
  rcases us with _ | ⟨x3, us⟩
  · cases h
  rcases us with _ | ⟨y, us⟩
  · exact ⟨x0, x1, x2, x3, rfl⟩
  · simp only [List.length_cons] at h; omega
theorem len_5 {us : List Value} (h : us.length = 5) : ∃ x0 x1 x2 x3 x4, us = [x0, x1, x2, x3, x4] := by
  rcases us with _ | ⟨x0, us⟩
  · cases h
  rcases us with _ | ⟨x1, us⟩
  · cases h
  rcases us with _ | ⟨x2, us⟩
  · cases h
  rcases us with _ | ⟨x3, us⟩
  · cases h
  rcases us with _ | ⟨x4, us⟩
  · cases h
  rcases us with _ | ⟨y, us⟩
  · exact ⟨x0, x1, x2, x3, x4, rfl⟩
  · simp only [List.length_cons] at h; omega
theorem len_6 {us : List Value} (h : us.length = 6) : ∃ x0 x1 x2 x3 x4 x5, us = [x0, x1, x2, x3, x4, x5] := by
  rcases us with _ | ⟨x0, us⟩
  · cases h
  rcases us with _ | ⟨x1, us⟩
  · cases h
  rcases us with _ | ⟨x2, us⟩
  · cases h
  rcases us with _ | ⟨x3, us⟩
  · cases h
  rcases us with _ | ⟨x4, us⟩
  · cases h
  rcases us with _ | ⟨x5, us⟩
  · cases h
  rcases us with _ | ⟨y, us⟩
  · exact ⟨x0, x1, x2, x3, x4, x5, rfl⟩
  · simp only [List.length_cons] at h; omega
theorem len_8 {us : List Value} (h : us.length = 8) : ∃ x0 x1 x2 x3 x4 x5 x6 x7, us = [x0, x1, x2, x3, x4, x5, x6, x7] := by
  rcases us with _ | ⟨x0, us⟩
  · cases h
  rcases us with _ | ⟨x1, us⟩
  · cases h
  rcases us with _ | ⟨x2, us⟩
  · cases h
  rcases us with _ | ⟨x3, us⟩
  · cases h
  rcases us with _ | ⟨x4, us⟩
  · cases h
  rcases us with _ | ⟨x5, us⟩
  · cases h
  rcases us with _ | ⟨x6, us⟩
  · cases h
  rcases us with _ | ⟨x7, us⟩
  · cases h
  rcases us with _ | ⟨y, us⟩
  · exact ⟨x0, x1, x2, x3, x4, x5, x6, x7, rfl⟩
  · simp only [List.length_cons] at h; omega
theorem bd_deeds_within {kV doc pm : Value} {an : Option Addr} {cdv ct : Value} {us : List Value} (h : us.length = 3) : bindArgs (PySem.W.fnOf "deeds_within" "deeds_within" (defArgs s_deeds_within) (defBody s_deeds_within) (defScope s_deeds_within) .none kV doc pm an cdv ct) ⟨us, []⟩ = pure ((["items", "path", "cuts"] : List Str).zip us) := by
  obtain ⟨_, _, _, rfl⟩ := len_3 h
  rfl
theorem bd_stand {kV doc pm : Value} {an : Option Addr} {cdv ct : Value} {us : List Value} (h : us.length = 2) : bindArgs (PySem.W.fnOf "stand" "stand" (defArgs s_stand) (defBody s_stand) (defScope s_stand) .none kV doc pm an cdv ct) ⟨us, []⟩ = pure ((["plan", "k"] : List Str).zip us) := by
  obtain ⟨_, _, rfl⟩ := len_2 h
  rfl
theorem bd_round_both {kV doc pm : Value} {an : Option Addr} {cdv ct : Value} {us : List Value} (h : us.length = 3) : bindArgs (PySem.W.fnOf "round_both" "round_both" (defArgs s_round_both) (defBody s_round_both) (defScope s_round_both) .none kV doc pm an cdv ct) ⟨us, []⟩ = pure ((["plan", "k", "l"] : List Str).zip us) := by
  obtain ⟨_, _, _, rfl⟩ := len_3 h
  rfl
theorem bd_alike_numbers {kV doc pm : Value} {an : Option Addr} {cdv ct : Value} {us : List Value} (h : us.length = 3) : bindArgs (PySem.W.fnOf "alike_numbers" "alike_numbers" (defArgs s_alike_numbers) (defBody s_alike_numbers) (defScope s_alike_numbers) .none kV doc pm an cdv ct) ⟨us, []⟩ = pure ((["path", "other", "most"] : List Str).zip us) := by
  obtain ⟨_, _, _, rfl⟩ := len_3 h
  rfl
theorem bd_side_bonds {kV doc pm : Value} {an : Option Addr} {cdv ct : Value} {us : List Value} (h : us.length = 6) : bindArgs (PySem.W.fnOf "side_bonds" "side_bonds" (defArgs s_side_bonds) (defBody s_side_bonds) (defScope s_side_bonds) .none kV doc pm an cdv ct) ⟨us, []⟩ = pure ((["program", "plan", "k", "l", "level", "side"] : List Str).zip us) := by
  obtain ⟨_, _, _, _, _, _, rfl⟩ := len_6 h
  rfl
theorem bd_Number_init {kV doc pm : Value} {an : Option Addr} {cdv ct : Value} {us : List Value} (h : us.length = 2) : bindArgs (PySem.W.fnOf "__init__" "Number.__init__" (defArgs s_Number_init) (defBody s_Number_init) (defScope s_Number_init) .none kV doc pm an cdv ct) ⟨us, []⟩ = pure ((["self", "n"] : List Str).zip us) := by
  obtain ⟨_, _, rfl⟩ := len_2 h
  rfl
theorem bd_Deed_init {kV doc pm : Value} {an : Option Addr} {cdv ct : Value} {us : List Value} (h : us.length = 8) : bindArgs (PySem.W.fnOf "__init__" "Deed.__init__" (defArgs s_Deed_init) (defBody s_Deed_init) (defScope s_Deed_init) .none kV doc pm an cdv ct) ⟨us, []⟩ = pure ((["self", "names", "lows", "highs", "table", "spots", "term", "path"] : List Str).zip us) := by
  obtain ⟨_, _, _, _, _, _, _, _, rfl⟩ := len_8 h
  rfl
theorem bd_Program_init {kV doc pm : Value} {an : Option Addr} {cdv ct : Value} {us : List Value} (h : us.length = 3) : bindArgs (PySem.W.fnOf "__init__" "Program.__init__" (defArgs s_Program_init) (defBody s_Program_init) (defScope s_Program_init) .none kV doc pm an cdv ct) ⟨us, []⟩ = pure ((["self", "size", "deeds"] : List Str).zip us) := by
  obtain ⟨_, _, _, rfl⟩ := len_3 h
  rfl
theorem bd_l_cell_at {kV doc pm : Value} {an : Option Addr} {cdv ct : Value} {us : List Value} (h : us.length = 2) : bindArgs (PySem.W.fnOf "_law_cell_at" "_law_cell_at" (defArgs s_l_cell_at) (defBody s_l_cell_at) (defScope s_l_cell_at) .none kV doc pm an cdv ct) ⟨us, []⟩ = pure ((["_law_script", "_law_k"] : List Str).zip us) := by
  obtain ⟨_, _, rfl⟩ := len_2 h
  rfl
theorem bd_l_mixed {kV doc pm : Value} {an : Option Addr} {cdv ct : Value} {us : List Value} (h : us.length = 2) : bindArgs (PySem.W.fnOf "_law_mixed" "_law_mixed" (defArgs s_l_mixed) (defBody s_l_mixed) (defScope s_l_mixed) .none kV doc pm an cdv ct) ⟨us, []⟩ = pure ((["_law_cell", "_law_k"] : List Str).zip us) := by
  obtain ⟨_, _, rfl⟩ := len_2 h
  rfl
theorem bd_l_items {kV doc pm : Value} {an : Option Addr} {cdv ct : Value} {us : List Value} (h : us.length = 2) : bindArgs (PySem.W.fnOf "_law_items" "_law_items" (defArgs s_l_items) (defBody s_l_items) (defScope s_l_items) .none kV doc pm an cdv ct) ⟨us, []⟩ = pure ((["_law_boughs_here", "_law_depth"] : List Str).zip us) := by
  obtain ⟨_, _, rfl⟩ := len_2 h
  rfl
theorem bd_l_pair {kV doc pm : Value} {an : Option Addr} {cdv ct : Value} {us : List Value} (h : us.length = 5) : bindArgs (PySem.W.fnOf "_law_pair" "_law_pair" (defArgs s_l_pair) (defBody s_l_pair) (defScope s_l_pair) .none kV doc pm an cdv ct) ⟨us, []⟩ = pure ((["_law_split", "_law_left", "_law_loops", "_law_q", "_law_far"] : List Str).zip us) := by
  obtain ⟨_, _, _, _, _, rfl⟩ := len_5 h
  rfl
theorem bd_l_bough {kV doc pm : Value} {an : Option Addr} {cdv ct : Value} {us : List Value} (h : us.length = 5) : bindArgs (PySem.W.fnOf "_law_bough" "_law_bough" (defArgs s_l_bough) (defBody s_l_bough) (defScope s_l_bough) .none kV doc pm an cdv ct) ⟨us, []⟩ = pure ((["_law_k", "_law_loops", "_law_prior", "_law_cell", "_law_far"] : List Str).zip us) := by
  obtain ⟨_, _, _, _, _, rfl⟩ := len_5 h
  rfl
theorem bd_l_boughs {kV doc pm : Value} {an : Option Addr} {cdv ct : Value} {us : List Value} (h : us.length = 4) : bindArgs (PySem.W.fnOf "_law_boughs" "_law_boughs" (defArgs s_l_boughs) (defBody s_l_boughs) (defScope s_l_boughs) .none kV doc pm an cdv ct) ⟨us, []⟩ = pure ((["_law_depths", "_law_script", "_law_first", "_law_far"] : List Str).zip us) := by
  obtain ⟨_, _, _, _, rfl⟩ := len_4 h
  rfl
theorem bd_l_at {kV doc pm : Value} {an : Option Addr} {cdv ct : Value} {us : List Value} (h : us.length = 2) : bindArgs (PySem.W.fnOf "_law_at" "_law_at" (defArgs s_l_at) (defBody s_l_at) (defScope s_l_at) .none kV doc pm an cdv ct) ⟨us, []⟩ = pure ((["_law_boughs_here", "_law_k"] : List Str).zip us) := by
  obtain ⟨_, _, rfl⟩ := len_2 h
  rfl
theorem bd_l_shared {kV doc pm : Value} {an : Option Addr} {cdv ct : Value} {us : List Value} (h : us.length = 3) : bindArgs (PySem.W.fnOf "_law_shared" "_law_shared" (defArgs s_l_shared) (defBody s_l_shared) (defScope s_l_shared) .none kV doc pm an cdv ct) ⟨us, []⟩ = pure ((["_law_boughs_here", "_law_p", "_law_q"] : List Str).zip us) := by
  obtain ⟨_, _, _, rfl⟩ := len_3 h
  rfl
theorem bd_l_sides {kV doc pm : Value} {an : Option Addr} {cdv ct : Value} {us : List Value} (h : us.length = 3) : bindArgs (PySem.W.fnOf "_law_sides" "_law_sides" (defArgs s_l_sides) (defBody s_l_sides) (defScope s_l_sides) .none kV doc pm an cdv ct) ⟨us, []⟩ = pure ((["_law_boughs_here", "_law_k", "_law_l"] : List Str).zip us) := by
  obtain ⟨_, _, _, rfl⟩ := len_3 h
  rfl
theorem bd_l_deed {kV doc pm : Value} {an : Option Addr} {cdv ct : Value} {us : List Value} (h : us.length = 2) : bindArgs (PySem.W.fnOf "_law_deed" "_law_deed" (defArgs s_l_deed) (defBody s_l_deed) (defScope s_l_deed) .none kV doc pm an cdv ct) ⟨us, []⟩ = pure ((["_law_k", "_law_depth"] : List Str).zip us) := by
  obtain ⟨_, _, rfl⟩ := len_2 h
  rfl
theorem bd_l_time_bonds {kV doc pm : Value} {an : Option Addr} {cdv ct : Value} {us : List Value} (h : us.length = 5) : bindArgs (PySem.W.fnOf "_law_time_bonds" "_law_time_bonds" (defArgs s_l_time_bonds) (defBody s_l_time_bonds) (defScope s_l_time_bonds) .none kV doc pm an cdv ct) ⟨us, []⟩ = pure ((["_law_u", "_law_r", "_law_w", "_law_m", "_law_side"] : List Str).zip us) := by
  obtain ⟨_, _, _, _, _, rfl⟩ := len_5 h
  rfl
theorem bd_l_side_bonds {kV doc pm : Value} {an : Option Addr} {cdv ct : Value} {us : List Value} (h : us.length = 6) : bindArgs (PySem.W.fnOf "_law_side_bonds" "_law_side_bonds" (defArgs s_l_side_bonds) (defBody s_l_side_bonds) (defScope s_l_side_bonds) .none kV doc pm an cdv ct) ⟨us, []⟩ = pure ((["_law_boughs_here", "_law_behind", "_law_k", "_law_l", "_law_level", "_law_side"] : List Str).zip us) := by
  obtain ⟨_, _, _, _, _, _, rfl⟩ := len_6 h
  rfl
theorem bd_l_whole {kV doc pm : Value} {an : Option Addr} {cdv ct : Value} {us : List Value} (h : us.length = 1) : bindArgs (PySem.W.fnOf "_law_whole" "_law_whole" (defArgs s_l_whole) (defBody s_l_whole) (defScope s_l_whole) .none kV doc pm an cdv ct) ⟨us, []⟩ = pure ((["_law_found"] : List Str).zip us) := by
  obtain ⟨_, rfl⟩ := len_1 h
  rfl
theorem bd_l_alike {kV doc pm : Value} {an : Option Addr} {cdv ct : Value} {us : List Value} (h : us.length = 2) : bindArgs (PySem.W.fnOf "_law_alike" "_law_alike" (defArgs s_l_alike) (defBody s_l_alike) (defScope s_l_alike) .none kV doc pm an cdv ct) ⟨us, []⟩ = pure ((["_law_found", "_law_due"] : List Str).zip us) := by
  obtain ⟨_, _, rfl⟩ := len_2 h
  rfl
theorem bd_l_turns {kV doc pm : Value} {an : Option Addr} {cdv ct : Value} {us : List Value} (h : us.length = 4) : bindArgs (PySem.W.fnOf "_law_turns" "_law_turns" (defArgs s_l_turns) (defBody s_l_turns) (defScope s_l_turns) .none kV doc pm an cdv ct) ⟨us, []⟩ = pure ((["_law_script", "_law_mine", "_law_theirs", "_law_depths"] : List Str).zip us) := by
  obtain ⟨_, _, _, _, rfl⟩ := len_4 h
  rfl
theorem bd_l_hold {kV doc pm : Value} {an : Option Addr} {cdv ct : Value} {us : List Value} (h : us.length = 2) : bindArgs (PySem.W.fnOf "_law_hold" "_law_hold" (defArgs s_l_hold) (defBody s_l_hold) (defScope s_l_hold) .none kV doc pm an cdv ct) ⟨us, []⟩ = pure ((["_law_bonds", "_law_values"] : List Str).zip us) := by
  obtain ⟨_, _, rfl⟩ := len_2 h
  rfl
theorem bd_l_meant {kV doc pm : Value} {an : Option Addr} {cdv ct : Value} {us : List Value} (h : us.length = 6) : bindArgs (PySem.W.fnOf "_law_meant" "_law_meant" (defArgs s_l_meant) (defBody s_l_meant) (defScope s_l_meant) .none kV doc pm an cdv ct) ⟨us, []⟩ = pure ((["_law_mine", "_law_theirs", "_law_behind", "_law_values", "_law_level", "_law_side"] : List Str).zip us) := by
  obtain ⟨_, _, _, _, _, _, rfl⟩ := len_6 h
  rfl
theorem bd_l_pair_stands {kV doc pm : Value} {an : Option Addr} {cdv ct : Value} {us : List Value} (h : us.length = 6) : bindArgs (PySem.W.fnOf "_law_pair_stands" "_law_pair_stands" (defArgs s_l_pair_stands) (defBody s_l_pair_stands) (defScope s_l_pair_stands) .none kV doc pm an cdv ct) ⟨us, []⟩ = pure ((["_law_script", "_law_program", "_law_boughs_here", "_law_depths", "_law_k", "_law_l"] : List Str).zip us) := by
  obtain ⟨_, _, _, _, _, _, rfl⟩ := len_6 h
  rfl
theorem bd_law {kV doc pm : Value} {an : Option Addr} {cdv ct : Value} {us : List Value} (h : us.length = 1) : bindArgs (PySem.W.fnOf "law" "law" (defArgs s_law) (defBody s_law) (defScope s_law) .none kV doc pm an cdv ct) ⟨us, []⟩ = pure ((["_law_script"] : List Str).zip us) := by
  obtain ⟨_, rfl⟩ := len_1 h
  rfl
theorem txt_mk {K : PySem.W.Frag} {h : Heap} {mg : Str → Option Value} {fa : Addr} (X : K.In h) (G : h.Ns mainGlobals mg) (hfa : mg "law" = some (.ref fa))
    {C_Number : Addr} {C_Deed : Addr} {C_Program : Addr} {f1 : Addr} {od1 an1 : Option Addr} {sl1 : Array (Option Value)} {oc1 kV1 dc1 pm1 cd1 ct1 : Value} {f2 : Addr} {od2 an2 : Option Addr} {sl2 : Array (Option Value)} {oc2 kV2 dc2 pm2 cd2 ct2 : Value} {f3 : Addr} {od3 an3 : Option Addr} {sl3 : Array (Option Value)} {oc3 kV3 dc3 pm3 cd3 ct3 : Value} {f4 : Addr} {od4 an4 : Option Addr} {sl4 : Array (Option Value)} {oc4 kV4 dc4 pm4 cd4 ct4 : Value} {f5 : Addr} {od5 an5 : Option Addr} {sl5 : Array (Option Value)} {oc5 kV5 dc5 pm5 cd5 ct5 : Value} {f6 : Addr} {od6 an6 : Option Addr} {sl6 : Array (Option Value)} {oc6 kV6 dc6 pm6 cd6 ct6 : Value} {f7 : Addr} {od7 an7 : Option Addr} {sl7 : Array (Option Value)} {oc7 kV7 dc7 pm7 cd7 ct7 : Value} {f8 : Addr} {od8 an8 : Option Addr} {sl8 : Array (Option Value)} {oc8 kV8 dc8 pm8 cd8 ct8 : Value} {f9 : Addr} {od9 an9 : Option Addr} {sl9 : Array (Option Value)} {oc9 kV9 dc9 pm9 cd9 ct9 : Value} {f10 : Addr} {od10 an10 : Option Addr} {sl10 : Array (Option Value)} {oc10 kV10 dc10 pm10 cd10 ct10 : Value} {f11 : Addr} {od11 an11 : Option Addr} {sl11 : Array (Option Value)} {oc11 kV11 dc11 pm11 cd11 ct11 : Value} {f12 : Addr} {od12 an12 : Option Addr} {sl12 : Array (Option Value)} {oc12 kV12 dc12 pm12 cd12 ct12 : Value} {f13 : Addr} {od13 an13 : Option Addr} {sl13 : Array (Option Value)} {oc13 kV13 dc13 pm13 cd13 ct13 : Value} {f14 : Addr} {od14 an14 : Option Addr} {sl14 : Array (Option Value)} {oc14 kV14 dc14 pm14 cd14 ct14 : Value} {f15 : Addr} {od15 an15 : Option Addr} {sl15 : Array (Option Value)} {oc15 kV15 dc15 pm15 cd15 ct15 : Value} {f16 : Addr} {od16 an16 : Option Addr} {sl16 : Array (Option Value)} {oc16 kV16 dc16 pm16 cd16 ct16 : Value} {f17 : Addr} {od17 an17 : Option Addr} {sl17 : Array (Option Value)} {oc17 kV17 dc17 pm17 cd17 ct17 : Value} {f18 : Addr} {od18 an18 : Option Addr} {sl18 : Array (Option Value)} {oc18 kV18 dc18 pm18 cd18 ct18 : Value} {f19 : Addr} {od19 an19 : Option Addr} {sl19 : Array (Option Value)} {oc19 kV19 dc19 pm19 cd19 ct19 : Value} {f20 : Addr} {od20 an20 : Option Addr} {sl20 : Array (Option Value)} {oc20 kV20 dc20 pm20 cd20 ct20 : Value} {f21 : Addr} {od21 an21 : Option Addr} {sl21 : Array (Option Value)} {oc21 kV21 dc21 pm21 cd21 ct21 : Value} {f22 : Addr} {od22 an22 : Option Addr} {sl22 : Array (Option Value)} {oc22 kV22 dc22 pm22 cd22 ct22 : Value} {f23 : Addr} {od23 an23 : Option Addr} {sl23 : Array (Option Value)} {oc23 kV23 dc23 pm23 cd23 ct23 : Value} {f24 : Addr} {od24 an24 : Option Addr} {sl24 : Array (Option Value)} {oc24 kV24 dc24 pm24 cd24 ct24 : Value} {f25 : Addr} {od25 an25 : Option Addr} {sl25 : Array (Option Value)} {oc25 kV25 dc25 pm25 cd25 ct25 : Value} {f26 : Addr} {od26 an26 : Option Addr} {sl26 : Array (Option Value)} {oc26 kV26 dc26 pm26 cd26 ct26 : Value} {f27 : Addr} {od27 an27 : Option Addr} {sl27 : Array (Option Value)} {oc27 kV27 dc27 pm27 cd27 ct27 : Value}
    (a_Number : PySem.W.nsIn K mainGlobals "Number" = some (some (.ref C_Number)))
    (a_Deed : PySem.W.nsIn K mainGlobals "Deed" = some (some (.ref C_Deed)))
    (a_Program : PySem.W.nsIn K mainGlobals "Program" = some (some (.ref C_Program)))
    (a1 : PySem.W.nsIn K mainGlobals "deeds_within" = some (some (.ref f1)))
    (l1 : K.lookup f1 = some ⟨oc1, od1, .func (PySem.W.fnOf "deeds_within" "deeds_within" (defArgs s_deeds_within) (defBody s_deeds_within) (defScope s_deeds_within) .none kV1 dc1 pm1 an1 cd1 ct1), sl1⟩) (c1 : PySem.W.codeIn K cd1 "deeds_within" = true) (k1 : PySem.W.keepIn K (.ref f1) = true)
    (a2 : PySem.W.nsIn K mainGlobals "stand" = some (some (.ref f2)))
    (l2 : K.lookup f2 = some ⟨oc2, od2, .func (PySem.W.fnOf "stand" "stand" (defArgs s_stand) (defBody s_stand) (defScope s_stand) .none kV2 dc2 pm2 an2 cd2 ct2), sl2⟩) (c2 : PySem.W.codeIn K cd2 "stand" = true) (k2 : PySem.W.keepIn K (.ref f2) = true)
    (a3 : PySem.W.nsIn K mainGlobals "round_both" = some (some (.ref f3)))
    (l3 : K.lookup f3 = some ⟨oc3, od3, .func (PySem.W.fnOf "round_both" "round_both" (defArgs s_round_both) (defBody s_round_both) (defScope s_round_both) .none kV3 dc3 pm3 an3 cd3 ct3), sl3⟩) (c3 : PySem.W.codeIn K cd3 "round_both" = true) (k3 : PySem.W.keepIn K (.ref f3) = true)
    (a4 : PySem.W.nsIn K mainGlobals "alike_numbers" = some (some (.ref f4)))
    (l4 : K.lookup f4 = some ⟨oc4, od4, .func (PySem.W.fnOf "alike_numbers" "alike_numbers" (defArgs s_alike_numbers) (defBody s_alike_numbers) (defScope s_alike_numbers) .none kV4 dc4 pm4 an4 cd4 ct4), sl4⟩) (c4 : PySem.W.codeIn K cd4 "alike_numbers" = true) (k4 : PySem.W.keepIn K (.ref f4) = true)
    (a5 : PySem.W.nsIn K mainGlobals "side_bonds" = some (some (.ref f5)))
    (l5 : K.lookup f5 = some ⟨oc5, od5, .func (PySem.W.fnOf "side_bonds" "side_bonds" (defArgs s_side_bonds) (defBody s_side_bonds) (defScope s_side_bonds) .none kV5 dc5 pm5 an5 cd5 ct5), sl5⟩) (c5 : PySem.W.codeIn K cd5 "side_bonds" = true) (k5 : PySem.W.keepIn K (.ref f5) = true)
    (a6 : PySem.W.findIn K (.ref C_Number) "__init__" = some (some (.ref f6))) (i6 : PySem.W.isFn K (.ref f6) = true)
    (l6 : K.lookup f6 = some ⟨oc6, od6, .func (PySem.W.fnOf "__init__" "Number.__init__" (defArgs s_Number_init) (defBody s_Number_init) (defScope s_Number_init) .none kV6 dc6 pm6 an6 cd6 ct6), sl6⟩) (c6 : PySem.W.codeIn K cd6 "Number.__init__" = true) (k6 : PySem.W.keepIn K (.ref f6) = true)
    (a7 : PySem.W.findIn K (.ref C_Deed) "__init__" = some (some (.ref f7))) (i7 : PySem.W.isFn K (.ref f7) = true)
    (l7 : K.lookup f7 = some ⟨oc7, od7, .func (PySem.W.fnOf "__init__" "Deed.__init__" (defArgs s_Deed_init) (defBody s_Deed_init) (defScope s_Deed_init) .none kV7 dc7 pm7 an7 cd7 ct7), sl7⟩) (c7 : PySem.W.codeIn K cd7 "Deed.__init__" = true) (k7 : PySem.W.keepIn K (.ref f7) = true)
    (a8 : PySem.W.findIn K (.ref C_Program) "__init__" = some (some (.ref f8))) (i8 : PySem.W.isFn K (.ref f8) = true)
    (l8 : K.lookup f8 = some ⟨oc8, od8, .func (PySem.W.fnOf "__init__" "Program.__init__" (defArgs s_Program_init) (defBody s_Program_init) (defScope s_Program_init) .none kV8 dc8 pm8 an8 cd8 ct8), sl8⟩) (c8 : PySem.W.codeIn K cd8 "Program.__init__" = true) (k8 : PySem.W.keepIn K (.ref f8) = true)
    (a9 : PySem.W.nsIn K mainGlobals "_law_cell_at" = some (some (.ref f9)))
    (l9 : K.lookup f9 = some ⟨oc9, od9, .func (PySem.W.fnOf "_law_cell_at" "_law_cell_at" (defArgs s_l_cell_at) (defBody s_l_cell_at) (defScope s_l_cell_at) .none kV9 dc9 pm9 an9 cd9 ct9), sl9⟩) (c9 : PySem.W.codeIn K cd9 "_law_cell_at" = true) (k9 : PySem.W.keepIn K (.ref f9) = true)
    (a10 : PySem.W.nsIn K mainGlobals "_law_mixed" = some (some (.ref f10)))
    (l10 : K.lookup f10 = some ⟨oc10, od10, .func (PySem.W.fnOf "_law_mixed" "_law_mixed" (defArgs s_l_mixed) (defBody s_l_mixed) (defScope s_l_mixed) .none kV10 dc10 pm10 an10 cd10 ct10), sl10⟩) (c10 : PySem.W.codeIn K cd10 "_law_mixed" = true) (k10 : PySem.W.keepIn K (.ref f10) = true)
    (a11 : PySem.W.nsIn K mainGlobals "_law_items" = some (some (.ref f11)))
    (l11 : K.lookup f11 = some ⟨oc11, od11, .func (PySem.W.fnOf "_law_items" "_law_items" (defArgs s_l_items) (defBody s_l_items) (defScope s_l_items) .none kV11 dc11 pm11 an11 cd11 ct11), sl11⟩) (c11 : PySem.W.codeIn K cd11 "_law_items" = true) (k11 : PySem.W.keepIn K (.ref f11) = true)
    (a12 : PySem.W.nsIn K mainGlobals "_law_pair" = some (some (.ref f12)))
    (l12 : K.lookup f12 = some ⟨oc12, od12, .func (PySem.W.fnOf "_law_pair" "_law_pair" (defArgs s_l_pair) (defBody s_l_pair) (defScope s_l_pair) .none kV12 dc12 pm12 an12 cd12 ct12), sl12⟩) (c12 : PySem.W.codeIn K cd12 "_law_pair" = true) (k12 : PySem.W.keepIn K (.ref f12) = true)
    (a13 : PySem.W.nsIn K mainGlobals "_law_bough" = some (some (.ref f13)))
    (l13 : K.lookup f13 = some ⟨oc13, od13, .func (PySem.W.fnOf "_law_bough" "_law_bough" (defArgs s_l_bough) (defBody s_l_bough) (defScope s_l_bough) .none kV13 dc13 pm13 an13 cd13 ct13), sl13⟩) (c13 : PySem.W.codeIn K cd13 "_law_bough" = true) (k13 : PySem.W.keepIn K (.ref f13) = true)
    (a14 : PySem.W.nsIn K mainGlobals "_law_boughs" = some (some (.ref f14)))
    (l14 : K.lookup f14 = some ⟨oc14, od14, .func (PySem.W.fnOf "_law_boughs" "_law_boughs" (defArgs s_l_boughs) (defBody s_l_boughs) (defScope s_l_boughs) .none kV14 dc14 pm14 an14 cd14 ct14), sl14⟩) (c14 : PySem.W.codeIn K cd14 "_law_boughs" = true) (k14 : PySem.W.keepIn K (.ref f14) = true)
    (a15 : PySem.W.nsIn K mainGlobals "_law_at" = some (some (.ref f15)))
    (l15 : K.lookup f15 = some ⟨oc15, od15, .func (PySem.W.fnOf "_law_at" "_law_at" (defArgs s_l_at) (defBody s_l_at) (defScope s_l_at) .none kV15 dc15 pm15 an15 cd15 ct15), sl15⟩) (c15 : PySem.W.codeIn K cd15 "_law_at" = true) (k15 : PySem.W.keepIn K (.ref f15) = true)
    (a16 : PySem.W.nsIn K mainGlobals "_law_shared" = some (some (.ref f16)))
    (l16 : K.lookup f16 = some ⟨oc16, od16, .func (PySem.W.fnOf "_law_shared" "_law_shared" (defArgs s_l_shared) (defBody s_l_shared) (defScope s_l_shared) .none kV16 dc16 pm16 an16 cd16 ct16), sl16⟩) (c16 : PySem.W.codeIn K cd16 "_law_shared" = true) (k16 : PySem.W.keepIn K (.ref f16) = true)
    (a17 : PySem.W.nsIn K mainGlobals "_law_sides" = some (some (.ref f17)))
    (l17 : K.lookup f17 = some ⟨oc17, od17, .func (PySem.W.fnOf "_law_sides" "_law_sides" (defArgs s_l_sides) (defBody s_l_sides) (defScope s_l_sides) .none kV17 dc17 pm17 an17 cd17 ct17), sl17⟩) (c17 : PySem.W.codeIn K cd17 "_law_sides" = true) (k17 : PySem.W.keepIn K (.ref f17) = true)
    (a18 : PySem.W.nsIn K mainGlobals "_law_deed" = some (some (.ref f18)))
    (l18 : K.lookup f18 = some ⟨oc18, od18, .func (PySem.W.fnOf "_law_deed" "_law_deed" (defArgs s_l_deed) (defBody s_l_deed) (defScope s_l_deed) .none kV18 dc18 pm18 an18 cd18 ct18), sl18⟩) (c18 : PySem.W.codeIn K cd18 "_law_deed" = true) (k18 : PySem.W.keepIn K (.ref f18) = true)
    (a19 : PySem.W.nsIn K mainGlobals "_law_time_bonds" = some (some (.ref f19)))
    (l19 : K.lookup f19 = some ⟨oc19, od19, .func (PySem.W.fnOf "_law_time_bonds" "_law_time_bonds" (defArgs s_l_time_bonds) (defBody s_l_time_bonds) (defScope s_l_time_bonds) .none kV19 dc19 pm19 an19 cd19 ct19), sl19⟩) (c19 : PySem.W.codeIn K cd19 "_law_time_bonds" = true) (k19 : PySem.W.keepIn K (.ref f19) = true)
    (a20 : PySem.W.nsIn K mainGlobals "_law_side_bonds" = some (some (.ref f20)))
    (l20 : K.lookup f20 = some ⟨oc20, od20, .func (PySem.W.fnOf "_law_side_bonds" "_law_side_bonds" (defArgs s_l_side_bonds) (defBody s_l_side_bonds) (defScope s_l_side_bonds) .none kV20 dc20 pm20 an20 cd20 ct20), sl20⟩) (c20 : PySem.W.codeIn K cd20 "_law_side_bonds" = true) (k20 : PySem.W.keepIn K (.ref f20) = true)
    (a21 : PySem.W.nsIn K mainGlobals "_law_whole" = some (some (.ref f21)))
    (l21 : K.lookup f21 = some ⟨oc21, od21, .func (PySem.W.fnOf "_law_whole" "_law_whole" (defArgs s_l_whole) (defBody s_l_whole) (defScope s_l_whole) .none kV21 dc21 pm21 an21 cd21 ct21), sl21⟩) (c21 : PySem.W.codeIn K cd21 "_law_whole" = true) (k21 : PySem.W.keepIn K (.ref f21) = true)
    (a22 : PySem.W.nsIn K mainGlobals "_law_alike" = some (some (.ref f22)))
    (l22 : K.lookup f22 = some ⟨oc22, od22, .func (PySem.W.fnOf "_law_alike" "_law_alike" (defArgs s_l_alike) (defBody s_l_alike) (defScope s_l_alike) .none kV22 dc22 pm22 an22 cd22 ct22), sl22⟩) (c22 : PySem.W.codeIn K cd22 "_law_alike" = true) (k22 : PySem.W.keepIn K (.ref f22) = true)
    (a23 : PySem.W.nsIn K mainGlobals "_law_turns" = some (some (.ref f23)))
    (l23 : K.lookup f23 = some ⟨oc23, od23, .func (PySem.W.fnOf "_law_turns" "_law_turns" (defArgs s_l_turns) (defBody s_l_turns) (defScope s_l_turns) .none kV23 dc23 pm23 an23 cd23 ct23), sl23⟩) (c23 : PySem.W.codeIn K cd23 "_law_turns" = true) (k23 : PySem.W.keepIn K (.ref f23) = true)
    (a24 : PySem.W.nsIn K mainGlobals "_law_hold" = some (some (.ref f24)))
    (l24 : K.lookup f24 = some ⟨oc24, od24, .func (PySem.W.fnOf "_law_hold" "_law_hold" (defArgs s_l_hold) (defBody s_l_hold) (defScope s_l_hold) .none kV24 dc24 pm24 an24 cd24 ct24), sl24⟩) (c24 : PySem.W.codeIn K cd24 "_law_hold" = true) (k24 : PySem.W.keepIn K (.ref f24) = true)
    (a25 : PySem.W.nsIn K mainGlobals "_law_meant" = some (some (.ref f25)))
    (l25 : K.lookup f25 = some ⟨oc25, od25, .func (PySem.W.fnOf "_law_meant" "_law_meant" (defArgs s_l_meant) (defBody s_l_meant) (defScope s_l_meant) .none kV25 dc25 pm25 an25 cd25 ct25), sl25⟩) (c25 : PySem.W.codeIn K cd25 "_law_meant" = true) (k25 : PySem.W.keepIn K (.ref f25) = true)
    (a26 : PySem.W.nsIn K mainGlobals "_law_pair_stands" = some (some (.ref f26)))
    (l26 : K.lookup f26 = some ⟨oc26, od26, .func (PySem.W.fnOf "_law_pair_stands" "_law_pair_stands" (defArgs s_l_pair_stands) (defBody s_l_pair_stands) (defScope s_l_pair_stands) .none kV26 dc26 pm26 an26 cd26 ct26), sl26⟩) (c26 : PySem.W.codeIn K cd26 "_law_pair_stands" = true) (k26 : PySem.W.keepIn K (.ref f26) = true)
    (a27 : PySem.W.nsIn K mainGlobals "law" = some (some (.ref f27)))
    (l27 : K.lookup f27 = some ⟨oc27, od27, .func (PySem.W.fnOf "law" "law" (defArgs s_law) (defBody s_law) (defScope s_law) .none kV27 dc27 pm27 an27 cd27 ct27), sl27⟩) (c27 : PySem.W.codeIn K cd27 "law" = true) (k27 : PySem.W.keepIn K (.ref f27) = true)
    (pg_Number : PySem.W.plainGet K C_Number Str.empty = true) (hd_Number : PySem.W.hasDictIn K C_Number = true) (po_Number : PySem.W.plainOver K C_Number = true) (sa_Number : PySem.W.findIn K (.ref C_Number) "__setattr__" = some (some (.builtin "object.__setattr__"))) (mk_Number : PySem.W.makesIn K C_Number = true) (kc_Number : PySem.W.keepIn K (.ref C_Number) = true)
    (n_Number_n : PySem.W.findIn K (.ref C_Number) "n" = some none)
    (pg_Deed : PySem.W.plainGet K C_Deed Str.empty = true) (hd_Deed : PySem.W.hasDictIn K C_Deed = true) (po_Deed : PySem.W.plainOver K C_Deed = true) (sa_Deed : PySem.W.findIn K (.ref C_Deed) "__setattr__" = some (some (.builtin "object.__setattr__"))) (mk_Deed : PySem.W.makesIn K C_Deed = true) (kc_Deed : PySem.W.keepIn K (.ref C_Deed) = true)
    (n_Deed_names : PySem.W.findIn K (.ref C_Deed) "names" = some none)
    (n_Deed_lows : PySem.W.findIn K (.ref C_Deed) "lows" = some none)
    (n_Deed_highs : PySem.W.findIn K (.ref C_Deed) "highs" = some none)
    (n_Deed_table : PySem.W.findIn K (.ref C_Deed) "table" = some none)
    (n_Deed_spots : PySem.W.findIn K (.ref C_Deed) "spots" = some none)
    (n_Deed_term : PySem.W.findIn K (.ref C_Deed) "term" = some none)
    (n_Deed_path : PySem.W.findIn K (.ref C_Deed) "path" = some none)
    (pg_Program : PySem.W.plainGet K C_Program Str.empty = true) (hd_Program : PySem.W.hasDictIn K C_Program = true) (po_Program : PySem.W.plainOver K C_Program = true) (sa_Program : PySem.W.findIn K (.ref C_Program) "__setattr__" = some (some (.builtin "object.__setattr__"))) (mk_Program : PySem.W.makesIn K C_Program = true) (kc_Program : PySem.W.keepIn K (.ref C_Program) = true)
    (n_Program_size : PySem.W.findIn K (.ref C_Program) "size" = some none)
    (n_Program_deeds : PySem.W.findIn K (.ref C_Program) "deeds" = some none)
    (z_bool : PySem.W.nsIn K mainGlobals "bool" = some none)
    (z_enumerate : PySem.W.nsIn K mainGlobals "enumerate" = some none)
    (z_int : PySem.W.nsIn K mainGlobals "int" = some none)
    (z_isinstance : PySem.W.nsIn K mainGlobals "isinstance" = some none)
    (z_len : PySem.W.nsIn K mainGlobals "len" = some none)
    (z_list : PySem.W.nsIn K mainGlobals "list" = some none)
    (z_max : PySem.W.nsIn K mainGlobals "max" = some none)
    (z_min : PySem.W.nsIn K mainGlobals "min" = some none)
    (z_range : PySem.W.nsIn K mainGlobals "range" = some none)
    (z_tuple : PySem.W.nsIn K mainGlobals "tuple" = some none) :
    ∃ a : Ad, Tx K mg a ∧ fa = a.f_law ∧ (∀ (s : Shared) (v : Value), BindsTo s a.d_law ⟨[v], []⟩ [("_law_script", v)]) := by
  have e := hfa.symm.trans (PySem.W.mg_of X G a27)
  cases e
  exact ⟨⟨f1, PySem.W.fnOf "deeds_within" "deeds_within" (defArgs s_deeds_within) (defBody s_deeds_within) (defScope s_deeds_within) .none kV1 dc1 pm1 an1 cd1 ct1, f2, PySem.W.fnOf "stand" "stand" (defArgs s_stand) (defBody s_stand) (defScope s_stand) .none kV2 dc2 pm2 an2 cd2 ct2, f3, PySem.W.fnOf "round_both" "round_both" (defArgs s_round_both) (defBody s_round_both) (defScope s_round_both) .none kV3 dc3 pm3 an3 cd3 ct3, f4, PySem.W.fnOf "alike_numbers" "alike_numbers" (defArgs s_alike_numbers) (defBody s_alike_numbers) (defScope s_alike_numbers) .none kV4 dc4 pm4 an4 cd4 ct4, f5, PySem.W.fnOf "side_bonds" "side_bonds" (defArgs s_side_bonds) (defBody s_side_bonds) (defScope s_side_bonds) .none kV5 dc5 pm5 an5 cd5 ct5, f6, PySem.W.fnOf "__init__" "Number.__init__" (defArgs s_Number_init) (defBody s_Number_init) (defScope s_Number_init) .none kV6 dc6 pm6 an6 cd6 ct6, f7, PySem.W.fnOf "__init__" "Deed.__init__" (defArgs s_Deed_init) (defBody s_Deed_init) (defScope s_Deed_init) .none kV7 dc7 pm7 an7 cd7 ct7, f8, PySem.W.fnOf "__init__" "Program.__init__" (defArgs s_Program_init) (defBody s_Program_init) (defScope s_Program_init) .none kV8 dc8 pm8 an8 cd8 ct8, f9, PySem.W.fnOf "_law_cell_at" "_law_cell_at" (defArgs s_l_cell_at) (defBody s_l_cell_at) (defScope s_l_cell_at) .none kV9 dc9 pm9 an9 cd9 ct9, f10, PySem.W.fnOf "_law_mixed" "_law_mixed" (defArgs s_l_mixed) (defBody s_l_mixed) (defScope s_l_mixed) .none kV10 dc10 pm10 an10 cd10 ct10, f11, PySem.W.fnOf "_law_items" "_law_items" (defArgs s_l_items) (defBody s_l_items) (defScope s_l_items) .none kV11 dc11 pm11 an11 cd11 ct11, f12, PySem.W.fnOf "_law_pair" "_law_pair" (defArgs s_l_pair) (defBody s_l_pair) (defScope s_l_pair) .none kV12 dc12 pm12 an12 cd12 ct12, f13, PySem.W.fnOf "_law_bough" "_law_bough" (defArgs s_l_bough) (defBody s_l_bough) (defScope s_l_bough) .none kV13 dc13 pm13 an13 cd13 ct13, f14, PySem.W.fnOf "_law_boughs" "_law_boughs" (defArgs s_l_boughs) (defBody s_l_boughs) (defScope s_l_boughs) .none kV14 dc14 pm14 an14 cd14 ct14, f15, PySem.W.fnOf "_law_at" "_law_at" (defArgs s_l_at) (defBody s_l_at) (defScope s_l_at) .none kV15 dc15 pm15 an15 cd15 ct15, f16, PySem.W.fnOf "_law_shared" "_law_shared" (defArgs s_l_shared) (defBody s_l_shared) (defScope s_l_shared) .none kV16 dc16 pm16 an16 cd16 ct16, f17, PySem.W.fnOf "_law_sides" "_law_sides" (defArgs s_l_sides) (defBody s_l_sides) (defScope s_l_sides) .none kV17 dc17 pm17 an17 cd17 ct17, f18, PySem.W.fnOf "_law_deed" "_law_deed" (defArgs s_l_deed) (defBody s_l_deed) (defScope s_l_deed) .none kV18 dc18 pm18 an18 cd18 ct18, f19, PySem.W.fnOf "_law_time_bonds" "_law_time_bonds" (defArgs s_l_time_bonds) (defBody s_l_time_bonds) (defScope s_l_time_bonds) .none kV19 dc19 pm19 an19 cd19 ct19, f20, PySem.W.fnOf "_law_side_bonds" "_law_side_bonds" (defArgs s_l_side_bonds) (defBody s_l_side_bonds) (defScope s_l_side_bonds) .none kV20 dc20 pm20 an20 cd20 ct20, f21, PySem.W.fnOf "_law_whole" "_law_whole" (defArgs s_l_whole) (defBody s_l_whole) (defScope s_l_whole) .none kV21 dc21 pm21 an21 cd21 ct21, f22, PySem.W.fnOf "_law_alike" "_law_alike" (defArgs s_l_alike) (defBody s_l_alike) (defScope s_l_alike) .none kV22 dc22 pm22 an22 cd22 ct22, f23, PySem.W.fnOf "_law_turns" "_law_turns" (defArgs s_l_turns) (defBody s_l_turns) (defScope s_l_turns) .none kV23 dc23 pm23 an23 cd23 ct23, f24, PySem.W.fnOf "_law_hold" "_law_hold" (defArgs s_l_hold) (defBody s_l_hold) (defScope s_l_hold) .none kV24 dc24 pm24 an24 cd24 ct24, f25, PySem.W.fnOf "_law_meant" "_law_meant" (defArgs s_l_meant) (defBody s_l_meant) (defScope s_l_meant) .none kV25 dc25 pm25 an25 cd25 ct25, f26, PySem.W.fnOf "_law_pair_stands" "_law_pair_stands" (defArgs s_l_pair_stands) (defBody s_l_pair_stands) (defScope s_l_pair_stands) .none kV26 dc26 pm26 an26 cd26 ct26, fa, PySem.W.fnOf "law" "law" (defArgs s_law) (defBody s_law) (defScope s_law) .none kV27 dc27 pm27 an27 cd27 ct27, C_Number, C_Deed, C_Program⟩, ⟨fun_mk (st := s_deeds_within) l1 c1 k1, 
    (fun_mk (st := s_deeds_within) l1 c1 k1).binds (ps := ["items", "path", "cuts"]) (fun _ _ _ _ _ _ us hl => bd_deeds_within hl), 
    PySem.W.mg_of X G a1, 
    fun_mk (st := s_stand) l2 c2 k2, 
    (fun_mk (st := s_stand) l2 c2 k2).binds (ps := ["plan", "k"]) (fun _ _ _ _ _ _ us hl => bd_stand hl), 
    PySem.W.mg_of X G a2, 
    fun_mk (st := s_round_both) l3 c3 k3, 
    (fun_mk (st := s_round_both) l3 c3 k3).binds (ps := ["plan", "k", "l"]) (fun _ _ _ _ _ _ us hl => bd_round_both hl), 
    PySem.W.mg_of X G a3, 
    fun_mk (st := s_alike_numbers) l4 c4 k4, 
    (fun_mk (st := s_alike_numbers) l4 c4 k4).binds (ps := ["path", "other", "most"]) (fun _ _ _ _ _ _ us hl => bd_alike_numbers hl), 
    PySem.W.mg_of X G a4, 
    fun_mk (st := s_side_bonds) l5 c5 k5, 
    (fun_mk (st := s_side_bonds) l5 c5 k5).binds (ps := ["program", "plan", "k", "l", "level", "side"]) (fun _ _ _ _ _ _ us hl => bd_side_bonds hl), 
    PySem.W.mg_of X G a5, 
    fun_mk (st := s_Number_init) l6 c6 k6, 
    (fun_mk (st := s_Number_init) l6 c6 k6).binds (ps := ["self", "n"]) (fun _ _ _ _ _ _ us hl => bd_Number_init hl), 
    fun_mk (st := s_Deed_init) l7 c7 k7, 
    (fun_mk (st := s_Deed_init) l7 c7 k7).binds (ps := ["self", "names", "lows", "highs", "table", "spots", "term", "path"]) (fun _ _ _ _ _ _ us hl => bd_Deed_init hl), 
    fun_mk (st := s_Program_init) l8 c8 k8, 
    (fun_mk (st := s_Program_init) l8 c8 k8).binds (ps := ["self", "size", "deeds"]) (fun _ _ _ _ _ _ us hl => bd_Program_init hl), 
    fun_mk (st := s_l_cell_at) l9 c9 k9, 
    (fun_mk (st := s_l_cell_at) l9 c9 k9).binds (ps := ["_law_script", "_law_k"]) (fun _ _ _ _ _ _ us hl => bd_l_cell_at hl), 
    PySem.W.mg_of X G a9, 
    fun_mk (st := s_l_mixed) l10 c10 k10, 
    (fun_mk (st := s_l_mixed) l10 c10 k10).binds (ps := ["_law_cell", "_law_k"]) (fun _ _ _ _ _ _ us hl => bd_l_mixed hl), 
    PySem.W.mg_of X G a10, 
    fun_mk (st := s_l_items) l11 c11 k11, 
    (fun_mk (st := s_l_items) l11 c11 k11).binds (ps := ["_law_boughs_here", "_law_depth"]) (fun _ _ _ _ _ _ us hl => bd_l_items hl), 
    PySem.W.mg_of X G a11, 
    fun_mk (st := s_l_pair) l12 c12 k12, 
    (fun_mk (st := s_l_pair) l12 c12 k12).binds (ps := ["_law_split", "_law_left", "_law_loops", "_law_q", "_law_far"]) (fun _ _ _ _ _ _ us hl => bd_l_pair hl), 
    PySem.W.mg_of X G a12, 
    fun_mk (st := s_l_bough) l13 c13 k13, 
    (fun_mk (st := s_l_bough) l13 c13 k13).binds (ps := ["_law_k", "_law_loops", "_law_prior", "_law_cell", "_law_far"]) (fun _ _ _ _ _ _ us hl => bd_l_bough hl), 
    PySem.W.mg_of X G a13, 
    fun_mk (st := s_l_boughs) l14 c14 k14, 
    (fun_mk (st := s_l_boughs) l14 c14 k14).binds (ps := ["_law_depths", "_law_script", "_law_first", "_law_far"]) (fun _ _ _ _ _ _ us hl => bd_l_boughs hl), 
    PySem.W.mg_of X G a14, 
    fun_mk (st := s_l_at) l15 c15 k15, 
    (fun_mk (st := s_l_at) l15 c15 k15).binds (ps := ["_law_boughs_here", "_law_k"]) (fun _ _ _ _ _ _ us hl => bd_l_at hl), 
    PySem.W.mg_of X G a15, 
    fun_mk (st := s_l_shared) l16 c16 k16, 
    (fun_mk (st := s_l_shared) l16 c16 k16).binds (ps := ["_law_boughs_here", "_law_p", "_law_q"]) (fun _ _ _ _ _ _ us hl => bd_l_shared hl), 
    PySem.W.mg_of X G a16, 
    fun_mk (st := s_l_sides) l17 c17 k17, 
    (fun_mk (st := s_l_sides) l17 c17 k17).binds (ps := ["_law_boughs_here", "_law_k", "_law_l"]) (fun _ _ _ _ _ _ us hl => bd_l_sides hl), 
    PySem.W.mg_of X G a17, 
    fun_mk (st := s_l_deed) l18 c18 k18, 
    (fun_mk (st := s_l_deed) l18 c18 k18).binds (ps := ["_law_k", "_law_depth"]) (fun _ _ _ _ _ _ us hl => bd_l_deed hl), 
    PySem.W.mg_of X G a18, 
    fun_mk (st := s_l_time_bonds) l19 c19 k19, 
    (fun_mk (st := s_l_time_bonds) l19 c19 k19).binds (ps := ["_law_u", "_law_r", "_law_w", "_law_m", "_law_side"]) (fun _ _ _ _ _ _ us hl => bd_l_time_bonds hl), 
    PySem.W.mg_of X G a19, 
    fun_mk (st := s_l_side_bonds) l20 c20 k20, 
    (fun_mk (st := s_l_side_bonds) l20 c20 k20).binds (ps := ["_law_boughs_here", "_law_behind", "_law_k", "_law_l", "_law_level", "_law_side"]) (fun _ _ _ _ _ _ us hl => bd_l_side_bonds hl), 
    PySem.W.mg_of X G a20, 
    fun_mk (st := s_l_whole) l21 c21 k21, 
    (fun_mk (st := s_l_whole) l21 c21 k21).binds (ps := ["_law_found"]) (fun _ _ _ _ _ _ us hl => bd_l_whole hl), 
    PySem.W.mg_of X G a21, 
    fun_mk (st := s_l_alike) l22 c22 k22, 
    (fun_mk (st := s_l_alike) l22 c22 k22).binds (ps := ["_law_found", "_law_due"]) (fun _ _ _ _ _ _ us hl => bd_l_alike hl), 
    PySem.W.mg_of X G a22, 
    fun_mk (st := s_l_turns) l23 c23 k23, 
    (fun_mk (st := s_l_turns) l23 c23 k23).binds (ps := ["_law_script", "_law_mine", "_law_theirs", "_law_depths"]) (fun _ _ _ _ _ _ us hl => bd_l_turns hl), 
    PySem.W.mg_of X G a23, 
    fun_mk (st := s_l_hold) l24 c24 k24, 
    (fun_mk (st := s_l_hold) l24 c24 k24).binds (ps := ["_law_bonds", "_law_values"]) (fun _ _ _ _ _ _ us hl => bd_l_hold hl), 
    PySem.W.mg_of X G a24, 
    fun_mk (st := s_l_meant) l25 c25 k25, 
    (fun_mk (st := s_l_meant) l25 c25 k25).binds (ps := ["_law_mine", "_law_theirs", "_law_behind", "_law_values", "_law_level", "_law_side"]) (fun _ _ _ _ _ _ us hl => bd_l_meant hl), 
    PySem.W.mg_of X G a25, 
    fun_mk (st := s_l_pair_stands) l26 c26 k26, 
    (fun_mk (st := s_l_pair_stands) l26 c26 k26).binds (ps := ["_law_script", "_law_program", "_law_boughs_here", "_law_depths", "_law_k", "_law_l"]) (fun _ _ _ _ _ _ us hl => bd_l_pair_stands hl), 
    PySem.W.mg_of X G a26, 
    fun_mk (st := s_law) l27 c27 k27, 
    (fun_mk (st := s_law) l27 c27 k27).binds (ps := ["_law_script"]) (fun _ _ _ _ _ _ us hl => bd_law hl), 
    PySem.W.mg_of X G a27, 
    ⟨pg_Number, hd_Number, po_Number, sa_Number⟩, 
    PySem.W.mg_of X G a_Number, 
    ⟨mk_Number, a6, i6, kc_Number⟩, 
    n_Number_n, 
    ⟨pg_Deed, hd_Deed, po_Deed, sa_Deed⟩, 
    PySem.W.mg_of X G a_Deed, 
    ⟨mk_Deed, a7, i7, kc_Deed⟩, 
    n_Deed_names, 
    n_Deed_lows, 
    n_Deed_highs, 
    n_Deed_table, 
    n_Deed_spots, 
    n_Deed_term, 
    n_Deed_path, 
    ⟨pg_Program, hd_Program, po_Program, sa_Program⟩, 
    PySem.W.mg_of X G a_Program, 
    ⟨mk_Program, a8, i8, kc_Program⟩, 
    n_Program_size, 
    n_Program_deeds, 
    PySem.W.mg_none_of X G z_bool, 
    PySem.W.mg_none_of X G z_enumerate, 
    PySem.W.mg_none_of X G z_int, 
    PySem.W.mg_none_of X G z_isinstance, 
    PySem.W.mg_none_of X G z_len, 
    PySem.W.mg_none_of X G z_list, 
    PySem.W.mg_none_of X G z_max, 
    PySem.W.mg_none_of X G z_min, 
    PySem.W.mg_none_of X G z_range, 
    PySem.W.mg_none_of X G z_tuple⟩, rfl, fun s v => .of_eq rfl⟩
end Fw
open PySem PySem.W PyProof.Rows
theorem PySem.W.Fast.te5078654051395863477 : True := True.intro
def PySem.W.Fast.tw5078654051395863477 : Nat := 0
set_option maxRecDepth 100000 in
set_option maxHeartbeats 0 in
theorem PySem.Challenge.cw_furrow_k72_bonds_of_sides_holds : PySem.Challenge.rw_furrow_k72_bonds_of_sides.Holds := by
  w_on; o_law; k_head; (case hw => w_witness2)
  k_fill
  refine L2.law_walk (l := PySem.Challenge.rw_furrow_k72_bonds_of_sides) (x := "_law_script") 14 (by decide) rfl rfl (fun w h Y => PySem.W.kIn_of Y) ?F
  case F =>
    intro w mg fa h KX G hmg
    suffices hh : ∃ a : Fw.Ad, Fw.Tx _ mg a ∧ fa = a.f_law ∧ (∀ (s : Shared) (v : Value), BindsTo s a.d_law ⟨[v], []⟩ [("_law_script", v)]) by
      obtain ⟨a, T, e, b⟩ := hh
      subst e
      exact ⟨a.d_law, b, fun base _ _ => Fw.ok_law T⟩
    refine' Fw.txt_mk KX G hmg ?a_Number ?a_Deed ?a_Program ?a1 ?l1 ?c1 ?k1 ?a2 ?l2 ?c2 ?k2 ?a3 ?l3 ?c3 ?k3 ?a4 ?l4 ?c4 ?k4 ?a5 ?l5 ?c5 ?k5 ?a6 ?i6 ?l6 ?c6 ?k6 ?a7 ?i7 ?l7 ?c7 ?k7 ?a8 ?i8 ?l8 ?c8 ?k8 ?a9 ?l9 ?c9 ?k9 ?a10 ?l10 ?c10 ?k10 ?a11 ?l11 ?c11 ?k11 ?a12 ?l12 ?c12 ?k12 ?a13 ?l13 ?c13 ?k13 ?a14 ?l14 ?c14 ?k14 ?a15 ?l15 ?c15 ?k15 ?a16 ?l16 ?c16 ?k16 ?a17 ?l17 ?c17 ?k17 ?a18 ?l18 ?c18 ?k18 ?a19 ?l19 ?c19 ?k19 ?a20 ?l20 ?c20 ?k20 ?a21 ?l21 ?c21 ?k21 ?a22 ?l22 ?c22 ?k22 ?a23 ?l23 ?c23 ?k23 ?a24 ?l24 ?c24 ?k24 ?a25 ?l25 ?c25 ?k25 ?a26 ?l26 ?c26 ?k26 ?a27 ?l27 ?c27 ?k27 ?pg_Number ?hd_Number ?po_Number ?sa_Number ?mk_Number ?kc_Number ?n_Number_n ?pg_Deed ?hd_Deed ?po_Deed ?sa_Deed ?mk_Deed ?kc_Deed ?n_Deed_names ?n_Deed_lows ?n_Deed_highs ?n_Deed_table ?n_Deed_spots ?n_Deed_term ?n_Deed_path ?pg_Program ?hd_Program ?po_Program ?sa_Program ?mk_Program ?kc_Program ?n_Program_size ?n_Program_deeds ?z_bool ?z_enumerate ?z_int ?z_isinstance ?z_len ?z_list ?z_max ?z_min ?z_range ?z_tuple
    (case a_Number => k_is)
    (case a_Deed => k_is)
    (case a_Program => k_is)
    (case a1 => k_is)
    (case l1 => k_is)
    (case c1 => k_is)
    (case k1 => k_is)
    (case a2 => k_is)
    (case l2 => k_is)
    (case c2 => k_is)
    (case k2 => k_is)
    (case a3 => k_is)
    (case l3 => k_is)
    (case c3 => k_is)
    (case k3 => k_is)
    (case a4 => k_is)
    (case l4 => k_is)
    (case c4 => k_is)
    (case k4 => k_is)
    (case a5 => k_is)
    (case l5 => k_is)
    (case c5 => k_is)
    (case k5 => k_is)
    (case a6 => k_is)
    (case i6 => k_is)
    (case l6 => k_is)
    (case c6 => k_is)
    (case k6 => k_is)
    (case a7 => k_is)
    (case i7 => k_is)
    (case l7 => k_is)
    (case c7 => k_is)
    (case k7 => k_is)
    (case a8 => k_is)
    (case i8 => k_is)
    (case l8 => k_is)
    (case c8 => k_is)
    (case k8 => k_is)
    (case a9 => k_is)
    (case l9 => k_is)
    (case c9 => k_is)
    (case k9 => k_is)
    (case a10 => k_is)
    (case l10 => k_is)
    (case c10 => k_is)
    (case k10 => k_is)
    (case a11 => k_is)
    (case l11 => k_is)
    (case c11 => k_is)
    (case k11 => k_is)
    (case a12 => k_is)
    (case l12 => k_is)
    (case c12 => k_is)
    (case k12 => k_is)
    (case a13 => k_is)
    (case l13 => k_is)
    (case c13 => k_is)
    (case k13 => k_is)
    (case a14 => k_is)
    (case l14 => k_is)
    (case c14 => k_is)
    (case k14 => k_is)
    (case a15 => k_is)
    (case l15 => k_is)
    (case c15 => k_is)
    (case k15 => k_is)
    (case a16 => k_is)
    (case l16 => k_is)
    (case c16 => k_is)
    (case k16 => k_is)
    (case a17 => k_is)
    (case l17 => k_is)
    (case c17 => k_is)
    (case k17 => k_is)
    (case a18 => k_is)
    (case l18 => k_is)
    (case c18 => k_is)
    (case k18 => k_is)
    (case a19 => k_is)
    (case l19 => k_is)
    (case c19 => k_is)
    (case k19 => k_is)
    (case a20 => k_is)
    (case l20 => k_is)
    (case c20 => k_is)
    (case k20 => k_is)
    (case a21 => k_is)
    (case l21 => k_is)
    (case c21 => k_is)
    (case k21 => k_is)
    (case a22 => k_is)
    (case l22 => k_is)
    (case c22 => k_is)
    (case k22 => k_is)
    (case a23 => k_is)
    (case l23 => k_is)
    (case c23 => k_is)
    (case k23 => k_is)
    (case a24 => k_is)
    (case l24 => k_is)
    (case c24 => k_is)
    (case k24 => k_is)
    (case a25 => k_is)
    (case l25 => k_is)
    (case c25 => k_is)
    (case k25 => k_is)
    (case a26 => k_is)
    (case l26 => k_is)
    (case c26 => k_is)
    (case k26 => k_is)
    (case a27 => k_is)
    (case l27 => k_is)
    (case c27 => k_is)
    (case k27 => k_is)
    (case pg_Number => k_is)
    (case hd_Number => k_is)
    (case po_Number => k_is)
    (case sa_Number => k_is)
    (case mk_Number => k_is)
    (case kc_Number => k_is)
    (case n_Number_n => k_is)
    (case pg_Deed => k_is)
    (case hd_Deed => k_is)
    (case po_Deed => k_is)
    (case sa_Deed => k_is)
    (case mk_Deed => k_is)
    (case kc_Deed => k_is)
    (case n_Deed_names => k_is)
    (case n_Deed_lows => k_is)
    (case n_Deed_highs => k_is)
    (case n_Deed_table => k_is)
    (case n_Deed_spots => k_is)
    (case n_Deed_term => k_is)
    (case n_Deed_path => k_is)
    (case pg_Program => k_is)
    (case hd_Program => k_is)
    (case po_Program => k_is)
    (case sa_Program => k_is)
    (case mk_Program => k_is)
    (case kc_Program => k_is)
    (case n_Program_size => k_is)
    (case n_Program_deeds => k_is)
    (case z_bool => k_is)
    (case z_enumerate => k_is)
    (case z_int => k_is)
    (case z_isinstance => k_is)
    (case z_len => k_is)
    (case z_list => k_is)
    (case z_max => k_is)
    (case z_min => k_is)
    (case z_range => k_is)
    (case z_tuple => k_is)
#print axioms PySem.Challenge.cw_furrow_k72_bonds_of_sides_holds
