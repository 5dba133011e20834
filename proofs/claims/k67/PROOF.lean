import PyProof.Rows.All
import Wide.All
import OpenK.AllK
import Wide.FinOn
import Lean
import PyProof.EqAt
import PyProof.EqKinds
import PyProof.TupleCall
import PyProof.ListMulRoad
import PySem.Challenge.RW_furrow_k67_own_plan_is_plain
set_option Elab.async false
set_option linter.all false
set_option maxRecDepth 100000
namespace L2
open PySem PySem.Spec PyProof.Rows

noncomputable abbrev Key := Sum Int Str
noncomputable def keyIs : Key → Value → Bool
  | .inl k, v => Value.isInt k v
  | .inr x, v => Value.isStrOf x v
noncomputable def keyH (w : World) : Key → Int
  | .inl k => hashInt k
  | .inr x => hashStr w x
theorem keyIs_shape : ∀ {k : Key} {v : Value}, keyIs k v = true → (∃ i t, k = Sum.inl i ∧ v = Value.int i t) ∨ (∃ x t, k = Sum.inr x ∧ v = Value.str x t)
  | .inl i, v, h => by
    obtain ⟨t, e⟩ := Value.isInt_shape (k := i) (v := v) h
    exact .inl ⟨i, t, rfl, e⟩
  | .inr x, v, h => by
    obtain ⟨t, e⟩ := Value.isStrOf_shape (x := x) (v := v) h
    exact .inr ⟨x, t, rfl, e⟩
theorem keyIs_int (i : Int) (t : Tok) : keyIs (.inl i) (.int i t) = true := by simp [keyIs, Value.isInt]
theorem keyIs_str (x : Str) (t : Tok) : keyIs (.inr x) (.str x t) = true := by simp [keyIs, Value.isStrOf]
theorem key_ll (a b : Int) : decide ((Sum.inl a : Key) = Sum.inl b) = (a == b) := by
  by_cases e : a = b
  · subst e; simp
  · have h : ¬ (Sum.inl a : Key) = Sum.inl b := fun q => e (Sum.inl.inj q)
    rw [decide_eq_false h]
    exact (beq_eq_false_iff_ne.mpr e).symm
theorem key_rr (a b : Str) : decide ((Sum.inr a : Key) = Sum.inr b) = decide (a = b) := by
  by_cases e : a = b
  · subst e; simp
  · have h : ¬ (Sum.inr a : Key) = Sum.inr b := fun q => e (Sum.inr.inj q)
    rw [decide_eq_false h, decide_eq_false e]
theorem key_lr (a : Int) (b : Str) : decide ((Sum.inl a : Key) = Sum.inr b) = false := decide_eq_false (fun q => nomatch q)
theorem key_rl (a : Str) (b : Int) : decide ((Sum.inr a : Key) = Sum.inl b) = false := decide_eq_false (fun q => nomatch q)

noncomputable def mixKind (prog : Program) (w : World) : PySem.KeyKind prog w Key where
  is := keyIs
  hash := keyH w
  inj := fun v a b ha hb => by
    rcases keyIs_shape ha with ⟨i, t, rfl, rfl⟩ | ⟨x, t, rfl, rfl⟩
    · rcases keyIs_shape hb with ⟨j, u, rfl, e⟩ | ⟨y, u, rfl, e⟩
      · injection e with e1 _; rw [e1]
      · exact nomatch e
    · rcases keyIs_shape hb with ⟨j, u, rfl, e⟩ | ⟨y, u, rfl, e⟩
      · exact nomatch e
      · injection e with e1 _; rw [e1]
  byValue := fun k v h => by
    rcases keyIs_shape h with ⟨i, t, rfl, rfl⟩ | ⟨x, t, rfl, rfl⟩ <;> rfl
  pyHash := fun hv h => by
    rcases keyIs_shape hv with ⟨i, t, rfl, rfl⟩ | ⟨x, t, rfl, rfl⟩
    · exact wpAny_pyHash_int h
    · exact wpAny_pyHash_str h
  eqBool := fun hu hv h => by
    rcases keyIs_shape hu with ⟨i, t, rfl, rfl⟩ | ⟨x, t, rfl, rfl⟩
    · rcases keyIs_shape hv with ⟨j, u, rfl, rfl⟩ | ⟨y, u, rfl, rfl⟩
      · rw [key_ll] at h; exact wpAny_eqBool_int h
      · rw [key_lr] at h; exact SeqAt.EqAt.int_str i t y u _ _ _ _ h
    · rcases keyIs_shape hv with ⟨j, u, rfl, rfl⟩ | ⟨y, u, rfl, rfl⟩
      · rw [key_rl] at h; exact SeqAt.EqAt.str_int x t j u _ _ _ _ h
      · rw [key_rr] at h; exact wpAny_eqBool_str h
  «strs» := fun k x t v h => by
    rcases keyIs_shape h with ⟨i, u, rfl, e⟩ | ⟨y, u, rfl, e⟩
    · exact nomatch e
    · injection e with e1 _
      subst e1
      cases v <;> rfl

theorem mixKind_int (prog : Program) (w : World) (i : Int) (t : Tok) : (mixKind prog w).is (.inl i) (.int i t) = true := keyIs_int i t
theorem mixKind_str (prog : Program) (w : World) (x : Str) (t : Tok) : (mixKind prog w).is (.inr x) (.str x t) = true := keyIs_str x t
end L2

namespace L2
open PySem PySem.Spec PyProof.Rows

inductive V where
  | non | bl (b : Bool) | int (i : Int) | str (x : Str) | byt (b : Array UInt8) | flt (b : UInt64) | ref (a : Addr) | ty (n : String)
  deriving DecidableEq

noncomputable def RelV : V → Value → Prop
  | .non, u => u = Value.none
  | .bl b, u => u = Value.bool b
  | .int i, u => ∃ t, u = Value.int i t
  | .str x, u => ∃ t, u = Value.str x t
  | .byt b, u => ∃ t, u = Value.bytes b t
  | .flt b, u => ∃ t, u = Value.float b t
  | .ref a, u => u = Value.ref a
  | .ty n, u => u = Value.type n

noncomputable abbrev Vals : List V → List Value → Prop := Paired RelV
theorem Vals.length {xs : List V} {us : List Value} (r : Vals xs us) : xs.length = us.length := Paired.length r
theorem Vals.get : ∀ {xs : List V} {us : List Value} {i : Nat} {x : V}, Vals xs us → xs[i]? = some x → ∃ u, us[i]? = some u ∧ RelV x u
  | _, _, _, _, .nil, e => by simp at e
  | _, _, 0, _, .cons r _, e => by simp at e; subst e; exact ⟨_, rfl, r⟩
  | _, _, i + 1, x, .cons _ t, e => by
    obtain ⟨u, h1, h2⟩ := Vals.get (i := i) (x := x) t (by simpa using e)
    exact ⟨u, by simpa using h1, h2⟩
theorem Vals.append : ∀ {xs ys : List V} {us ws : List Value}, Vals xs us → Vals ys ws → Vals (xs ++ ys) (us ++ ws)
  | _, _, _, _, .nil, s => s
  | _, _, _, _, .cons r t, s => .cons r (Vals.append t s)
theorem Vals.take : ∀ {xs : List V} {us : List Value} (n : Nat), Vals xs us → Vals (xs.take n) (us.take n)
  | _, _, 0, _ => .nil
  | _, _, _ + 1, .nil => .nil
  | _, _, n + 1, .cons r t => .cons r (Vals.take n t)
theorem Vals.drop : ∀ {xs : List V} {us : List Value} (n : Nat), Vals xs us → Vals (xs.drop n) (us.drop n)
  | _, _, 0, r => r
  | _, _, _ + 1, .nil => .nil
  | _, _, n + 1, .cons _ t => Vals.drop n t
noncomputable def RelO : Option V → Option Value → Prop
  | some v, some u => RelV v u
  | none, none => True
  | _, _ => False
noncomputable def KV {κ : Type} : List (κ × V) → List (κ × Value) → Prop := Paired fun (p : κ × V) (q : κ × Value) => p.1 = q.1 ∧ RelV p.2 q.2

noncomputable def kV : Key → V
  | .inl i => .int i
  | .inr x => .str x

inductive HO where
  /-- a list -/
  | lst (xs : List V)
  /-- a tuple (never changes) -/
  | tup (xs : List V)
  /-- a dict whose keys are ints and texts; one whose keys are tuples of ints and texts (the empty one is both) -/
  | dK (kvs : List (Key × V)) | dT (kvs : List (List Key × V))
  /-- a set of ints: its members, its size -/
  | set (S : Int → Bool) (n : Nat)
  /-- an instance of the class at C, its dict at dx, its attributes -/
  | ins (C dx : Addr) (fs : List (Str × V))
  /-- the dict of the instance at x -/
  | own (x : Addr)
  /-- the dict of an exception -/
  | xd (fs : List (Str × V))
  /-- a bound method, f of x -/
  | met (f x : Addr)
  /-- a range object lo, lo + 1, .. below hi -/
  | rng (lo hi : Int)
  /-- a thing that is known to the object (the script; a dict while a loop walks it): read, never written while it is so -/
  | frz (o : Obj) (u : HO)
  /-- a code object's table -/
  | tbl (ps : Array Value)
  /-- any other thing, by what is true of its one object (a def of one's own: SetO a S n := HO.ext fun h => ..) -/
  | ext (φ : Heap → Prop)

noncomputable abbrev Hp := Addr → Option HO
noncomputable def upd (H : Hp) (a : Addr) (o : HO) : Hp := fun b => if b = a then some o else H b
theorem upd_same {H : Hp} {a : Addr} {o : HO} : upd H a o a = some o := by unfold upd; rw [if_pos rfl]
theorem upd_ne {H : Hp} {a b : Addr} {o : HO} (h : b ≠ a) : upd H a o b = H b := by unfold upd; rw [if_neg h]
theorem ne_of {H : Hp} {a b : Addr} {o u : HO} (h : H a = some o) (h' : H b = some u) (d : o ≠ u) : a ≠ b := by
  intro e; subst e; rw [h] at h'; exact d (Option.some.inj h')
theorem ne_of_none {H : Hp} {a b : Addr} {o : HO} (h : H a = some o) (h' : H b = none) : a ≠ b := by
  intro e; subst e; rw [h] at h'; cases h'

section
variable (P : Program) (w : World)
noncomputable def IsTupN (h : Heap) (a : Addr) (its : Array Value) : Prop := ∃ o, h.get? a = some o ∧ o.cls = .type "tuple" ∧ (∃ n, o.data = .seq its n) ∧ o.dict = none
theorem IsTupN.tup {h : Heap} {a : Addr} {its : Array Value} (x : IsTupN h a its) : IsTup h a its := let ⟨o, e, c, d, _⟩ := x; ⟨o, e, c, d⟩
theorem IsTupN.new (h : Heap) (its : Array Value) : IsTupN (h.push { cls := .type "tuple", data := .seq its }) h.objs.size its := ⟨_, Heap.get?_push_size _ rfl, rfl, ⟨_, rfl⟩, rfl⟩
noncomputable def ObjOk (H : Hp) (h : Heap) (a : Addr) : HO → Prop
  | .lst xs => xs.length ≤ sizeLine ∧ ∃ (its : List Value) (n : Nat), Vals xs its ∧ h.get? a = some { cls := .type "list", data := .seq its.toArray n }
  | .tup xs => xs.length ≤ sizeLine ∧ ∃ its : List Value, Vals xs its ∧ IsTupN h a its.toArray
  | .dK kvs => kvs.length ≤ sizeLine ∧ (a == sysModules) = false ∧ ∃ vs, KV kvs vs ∧ h.DictOf (mixKind P w) a vs
  | .dT kvs => kvs.length ≤ sizeLine ∧ (a == sysModules) = false ∧ ∃ xs : List (List Key × Addr × Value),
      Paired (fun (p : List Key × V) (q : List Key × Addr × Value) => p.1 = q.1 ∧ H q.2.1 = some (.tup (p.1.map kV)) ∧ RelV p.2 q.2.2) kvs xs ∧
      ∃ o es ep, h.get? a = some o ∧ o.ExactDict ∧ o.data = .dict es ep ∧ es.toList = xs.map (entryOfKey (tupleKind (mixKind P w))) ∧ (xs.map (·.1)).Nodup
  | .set S n => h.SetOf (intKind P w) a S n
  | .ins C dx fs => H dx = some (.own a) ∧ fs.length ≤ 1000 ∧ dx ≠ a ∧ h.get? a = some (PySem.W.instObj C dx) ∧
      ∃ mA, h.Ns1 dx mA ∧ (∀ f, RelO (fs.lookup f) (mA f)) ∧ PySem.Within mA (fs.map (·.1))
  | .own _ => ∃ o, h.get? a = some o
  | .xd fs => ∃ mA, h.Ns1 a mA ∧ ∀ f, RelO (fs.lookup f) (mA f)
  | .rng lo hi => ∃ t u v, h.get? a = some { cls := .type "range", data := .fields #[.int lo t, .int hi u, .int 1 v] }
  | .frz o u => h.get? a = some o ∧ ObjOk H h a u
  | .tbl ps => h.get? a = some { cls := .none, data := .fields ps }
  | .met f x => h.get? a = some (PySem.W.methodObj (.ref f) (.ref x))
  | .ext φ => φ h ∧ (∃ o, h.get? a = some o) ∧ ∀ h1 h2 : Heap, φ h1 → (∀ o, h1.get? a = some o → h2.get? a = some o) → φ h2
noncomputable def HOk (H : Hp) (h : Heap) : Prop := ∀ a o, H a = some o → ObjOk P w H h a o
end

section
variable {P : Program} {w : World} {H H' : Hp} {h h' : Heap} {a : Addr} {o : HO}
theorem ObjOk.lt (x : ObjOk P w H h a o) : a < h.objs.size := by
  cases o with
  | lst xs => obtain ⟨_, _, _, _, e⟩ := x; exact Heap.lt_size e
  | tup xs => obtain ⟨_, _, _, p⟩ := x; exact p.tup.lt
  | dK kvs => obtain ⟨_, _, _, _, o, _, _, e, _⟩ := x; exact Heap.lt_size e
  | dT kvs => obtain ⟨_, _, _, _, o, _, _, e, _⟩ := x; exact Heap.lt_size e
  | set S n => obtain ⟨o, _, _, _, e, _⟩ := x; exact Heap.lt_size e
  | ins C dx fs => obtain ⟨_, _, _, e, _⟩ := x; exact Heap.lt_size e
  | own y => obtain ⟨_, e⟩ := x; exact Heap.lt_size e
  | xd fs => obtain ⟨_, ⟨_, _, _, e, _⟩, _⟩ := x; exact Heap.lt_size e
  | rng lo hi => obtain ⟨_, _, _, e⟩ := x; exact Heap.lt_size e
  | frz ob u => obtain ⟨e, _⟩ := x; exact Heap.lt_size e
  | tbl ps => exact Heap.lt_size (show h.get? a = some _ from x)
  | met f y => exact Heap.lt_size (show h.get? a = some _ from x)
  | ext φ => obtain ⟨_, ⟨_, e⟩, _⟩ := x; exact Heap.lt_size e
theorem Paired.mapP {α β : Type} {F G : α → β → Prop} : ∀ {l₁ : List α} {l₂ : List β}, Paired F l₁ l₂ → (∀ a b, F a b → G a b) → Paired G l₁ l₂
  | _, _, .nil, _ => .nil
  | _, _, .cons r t, f => .cons (f _ _ r) (Paired.mapP t f)
theorem ObjOk.stay (x : ObjOk P w H h a o) (k : ∀ b u, (b = a ∨ H b = some (.own a)) → h.get? b = some u → h'.get? b = some u)
    (ho : ∀ b, H b = some (.own a) → H' b = some (.own a)) (ht : ∀ b xs, H b = some (.tup xs) → H' b = some (.tup xs)) : ObjOk P w H' h' a o := by
  induction o with
  | lst xs => obtain ⟨z, its, n, r, e⟩ := x; exact ⟨z, its, n, r, k _ _ (.inl rfl) e⟩
  | tup xs => obtain ⟨z, its, r, ob, e, c⟩ := x; exact ⟨z, its, r, ob, k _ _ (.inl rfl) e, c⟩
  | dK kvs => obtain ⟨z, y, vs, r, ob, es, ep, e, c⟩ := x; exact ⟨z, y, vs, r, ob, es, ep, k _ _ (.inl rfl) e, c⟩
  | dT kvs =>
    obtain ⟨z, y, xs, r, ob, es, ep, e, c⟩ := x
    exact ⟨z, y, xs, Paired.mapP r fun p q z => ⟨z.1, ht _ _ z.2.1, z.2.2⟩, ob, es, ep, k _ _ (.inl rfl) e, c⟩
  | set S n => obtain ⟨ob, es, ep, t, e, c⟩ := x; exact ⟨ob, es, ep, t, k _ _ (.inl rfl) e, c⟩
  | ins C dx fs =>
    obtain ⟨d, z, ne, e, mA, ⟨od, es, ep, e2, c⟩, r⟩ := x
    exact ⟨ho _ d, z, ne, k _ _ (.inl rfl) e, mA, ⟨od, es, ep, k _ _ (.inr d) e2, c⟩, r⟩
  | own y => obtain ⟨ob, e⟩ := x; exact ⟨ob, k _ _ (.inl rfl) e⟩
  | xd fs => obtain ⟨mA, ⟨od, es, ep, e, c⟩, r⟩ := x; exact ⟨mA, ⟨od, es, ep, k _ _ (.inl rfl) e, c⟩, r⟩
  | rng lo hi => obtain ⟨t, u, v, e⟩ := x; exact ⟨t, u, v, k _ _ (.inl rfl) e⟩
  | frz ob u ih => obtain ⟨e, q⟩ := x; exact ⟨k _ _ (.inl rfl) e, ih q⟩
  | tbl ps =>
    have e : h.get? a = some { cls := .none, data := .fields ps } := x
    show h'.get? a = some { cls := .none, data := .fields ps }
    exact k a _ (.inl rfl) e
  | met f y =>
    have e : h.get? a = some (PySem.W.methodObj (.ref f) (.ref y)) := x
    show h'.get? a = some (PySem.W.methodObj (.ref f) (.ref y))
    exact k a _ (.inl rfl) e
  | ext φ => obtain ⟨p, ⟨o, e⟩, st⟩ := x; exact ⟨st _ _ p fun o q => k _ _ (.inl rfl) q, ⟨o, k _ _ (.inl rfl) e⟩, st⟩
theorem HOk.lt (x : HOk P w H h) (e : H a = some o) : a < h.objs.size := (x a o e).lt
theorem HOk.fresh (x : HOk P w H h) (e : h.objs.size ≤ a) : H a = none := by
  cases q : H a with
  | none => rfl
  | some u => exact absurd (Nat.lt_of_lt_of_le (x.lt q) e) (Nat.lt_irrefl _)
theorem HOk.kept (x : HOk P w H h) (k : ∀ b u, h.get? b = some u → h'.get? b = some u) : HOk P w H h' := fun a o e =>
  (x a o e).stay (fun b u _ q => k b u q) (fun _ q => q) fun _ _ q => q
theorem HOk.laid (x : HOk P w H h) (k : ∀ b u, h.get? b = some u → h'.get? b = some u) (hp : h.objs.size ≤ a) (new : ObjOk P w (upd H a o) h' a o) : HOk P w (upd H a o) h' := fun b u e => by
  have hn := x.fresh hp
  by_cases hb : b = a
  · subst hb; rw [upd_same] at e; cases e; exact new
  · rw [upd_ne hb] at e
    exact (x b u e).stay (fun c v _ q => k c v q) (fun c q => by rw [upd_ne (ne_of_none q hn)]; exact q) fun c xs q => by rw [upd_ne (ne_of_none q hn)]; exact q
end

noncomputable def Rd (H : Hp) (a : Addr) (u : HO) : Prop := H a = some u ∨ ∃ o, H a = some (.frz o u)
theorem Rd.ok {P : Program} {w : World} {H : Hp} {h : Heap} {a : Addr} {u : HO} (r : Rd H a u) (x : HOk P w H h) : ObjOk P w H h a u := by
  rcases r with r | ⟨o, r⟩
  · exact x a u r
  · obtain ⟨_, q⟩ := x a _ r
    exact q
noncomputable def Mut : Option HO → Prop
  | some (.lst _) => True
  | some (.dK _) => True
  | some (.dT _) => True
  | some (.set _ _) => True
  | some (.ins _ _ _) => True
  | some (.ext _) => True
  | _ => False
section
variable {P : Program} {w : World} {H : Hp} {h h' : Heap} {x e : Addr} {o' : HO}
theorem HOk.write (ok : HOk P w H h) (mu : Mut (H x)) (he : e = x ∨ H e = some (.own x)) (k : ∀ b u, b ≠ e → h.get? b = some u → h'.get? b = some u) (heo : ∃ u, h'.get? e = some u)
    (new : ObjOk P w (upd H x o') h' x o') : HOk P w (upd H x o') h' := fun b u q => by
  have nown : ∀ c y, H c = some (.own y) → c ≠ x := fun c y r z => by subst z; rw [r] at mu; exact mu
  have ntup : ∀ c xs, H c = some (.tup xs) → c ≠ x := fun c xs r z => by subst z; rw [r] at mu; exact mu
  by_cases hb : b = x
  · subst hb; rw [upd_same] at q; cases q; exact new
  · rw [upd_ne hb] at q
    by_cases hbe : b = e
    · have q' : H b = some (.own x) := by
        rcases he with z | z
        · exact absurd (hbe.trans z) hb
        · rw [hbe]; exact z
      rw [q] at q'; cases q'
      obtain ⟨v, hv⟩ := heo
      exact ⟨v, by rw [hbe]; exact hv⟩
    · refine (ok b u q).stay (fun c v hc r => k c v ?_ r) (fun c r => by rw [upd_ne (nown c b r)]; exact r) fun c xs r => by rw [upd_ne (ntup c xs r)]; exact r
      rcases hc with rfl | hc
      · exact hbe
      · rintro rfl
        rcases he with z | z
        · exact nown c b hc z
        · rw [hc] at z; cases z; exact hb rfl
end

structure Un (fs ex : List Addr) (H H' : Hp) (h h' : Heap) : Prop where
  keep : ∀ b o, h.get? b = some o → H b = none → b ∉ fs → b ∉ ex → h'.get? b = some o
  slot : ∀ b o, h.get? b = some o → H b = none → b ∈ fs → b ∉ ex → ∃ sl, h'.get? b = some { o with slots := sl }
  free : ∀ b o, h.get? b = some o → H b = none → b ∉ ex → H' b = none
  there : ∀ b o, h.get? b = some o → b ∉ ex → ∃ o', h'.get? b = some o'
  tups : ∀ b xs, H b = some (.tup xs) → H' b = some (.tup xs)
  frzs : ∀ b o u, H b = some (.frz o u) → H' b = some (.frz o u)
  tbls : ∀ b ps, H b = some (.tbl ps) → ∃ more, H' b = some (.tbl (ps ++ more))
section
variable {fs fs' ex ex' : List Addr} {H H1 H2 : Hp} {h h1 h2 h' : Heap} {a x e : Addr} {o : HO}
theorem Un.any (u : Un fs ex H H1 h h1) {b : Addr} {ob : Obj} (q : h.get? b = some ob) (n : H b = none) (hx : b ∉ ex) : ∃ sl, h1.get? b = some { ob with slots := sl } := by
  by_cases hb : b ∈ fs
  · exact u.slot b ob q n hb hx
  · exact ⟨ob.slots, u.keep b ob q n hb hx⟩
theorem Un.kept (k : ∀ b u, h.get? b = some u → h'.get? b = some u) : Un fs ex H H h h' :=
  ⟨fun b ob q _ _ _ => k b ob q, fun b ob q _ _ _ => ⟨ob.slots, k b ob q⟩, fun _ _ _ n _ => n, fun b ob q _ => ⟨ob, k b ob q⟩, fun _ _ q => q, fun _ _ _ q => q, fun _ ps q => ⟨#[], by rw [q]; simp⟩⟩
theorem Un.refl : Un fs ex H H h h := Un.kept fun _ _ q => q
theorem Un.laid (k : ∀ b u, h.get? b = some u → h'.get? b = some u) (hp : h.objs.size ≤ a) (hn : H a = none) : Un fs ex H (upd H a o) h h' where
  keep := fun b u q _ _ _ => k b u q
  slot := fun b u q _ _ _ => ⟨u.slots, k b u q⟩
  free := fun b u q n _ => by rw [upd_ne (Nat.ne_of_lt (Nat.lt_of_lt_of_le (Heap.lt_size q) hp))]; exact n
  there := fun b u q _ => ⟨u, k b u q⟩
  tups := fun b xs q => by rw [upd_ne (ne_of_none q hn)]; exact q
  frzs := fun b u xs q => by rw [upd_ne (ne_of_none q hn)]; exact q
  tbls := fun b ps q => ⟨#[], by rw [upd_ne (ne_of_none q hn), q]; simp⟩
theorem Un.write (mu : Mut (H x)) (he : e = x ∨ H e = some (.own x)) (k : ∀ b u, b ≠ e → h.get? b = some u → h'.get? b = some u) (heo : ∃ u, h'.get? e = some u) : Un fs ex H (upd H x o) h h' := by
  have hx : ∀ b, H b = none → b ≠ x := fun b n z => by subst z; rw [n] at mu; exact mu
  have hb : ∀ b, H b = none → b ≠ e := fun b n z => by
    subst z
    rcases he with r | r
    · exact hx b n r
    · rw [n] at r; cases r
  have hm : ∀ b u, H b = some u → ¬ Mut (some u) → b ≠ x := fun b u q nm z => by subst z; rw [q] at mu; exact nm mu
  refine ⟨fun b u q n _ _ => k b u (hb b n) q, fun b u q n _ _ => ⟨u.slots, k b u (hb b n) q⟩, fun b u q n _ => by rw [upd_ne (hx b n)]; exact n, fun b u q _ => ?_,
    fun b xs q => by rw [upd_ne (hm b _ q fun z => z)]; exact q, fun b u xs q => by rw [upd_ne (hm b _ q fun z => z)]; exact q, fun b ps q => ⟨#[], by rw [upd_ne (hm b _ q fun z => z), q]; simp⟩⟩
  by_cases hbe : b = e
  · subst hbe; exact heo
  · exact ⟨u, k b u hbe q⟩
end

noncomputable def trk (h : Heap) (H : Hp) : List Addr := (List.range h.objs.size).filter fun a => (H a).isSome
noncomputable def hidT (h : Heap) (H : Hp) : Heap := PySem.W.hideAll h (trk h H)
theorem hidT_size (h : Heap) (H : Hp) : (hidT h H).objs.size = h.objs.size := PySem.W.hideAll_size _ _
theorem hidT_get {h : Heap} {H : Hp} {b : Addr} {o : Obj} (e : h.get? b = some o) (n : H b = none) : (hidT h H).get? b = some o :=
  PySem.W.hideAll_get _ e fun hm => by
    have q : (H b).isSome = true := (List.mem_filter.mp hm).2
    rw [n] at q; simp at q
theorem of_hidT {h : Heap} {H : Hp} {b : Addr} {o : Obj} (e : (hidT h H).get? b = some o) : h.get? b = some o ∧ H b = none := by
  have e' : h.get? b = some o := PySem.W.of_hideAll (trk h H) e
  refine ⟨e', ?_⟩
  cases q : H b with
  | none => rfl
  | some x =>
    have hm : b ∈ trk h H := List.mem_filter.mpr ⟨List.mem_range.mpr (Heap.lt_size e'), by simp [q]⟩
    have z : (hidT h H).get? b = none := PySem.W.hideAll_none (trk h H) hm
    rw [z] at e; cases e

end L2

namespace L2
open PySem PySem.Spec PyProof.Rows

structure Mod (K : PySem.W.Frag) (mg : Str → Option Value) (base : Heap) : Prop where
  kin : K.In base
  glob : base.Ns mainGlobals mg
  blt : ∃ mb, base.Ns builtinsNs mb ∧ ∀ x : Str, x ≠ "__name__" → mb x = bootBuiltins x
  nolimit : base.NoLimit

structure Cx where
  prog : Program
  w : World
  K : PySem.W.Frag
  mg : Str → Option Value
  base : Heap
  A : Around
  N : List Str
  s₀ : Shared
  H₀ : Hp
  env : Env
  outer : List Env
  stack : List Env
  ex : List Addr
  fn : Str → Bool
  calm : Bool
  pn : List (Addr × Obj)
  xe : Value → Shared → Prop
noncomputable def frs (l : List Env) : List Addr := l.filterMap (·.frame)
noncomputable abbrev Cx.fs (X : Cx) : List Addr := frs X.outer

noncomputable def Vis (sc : Scope) (x : Str) : Prop := sc.names.lookup x = some .local ∨ sc.names.lookup x = some .cell ∨ sc.names.lookup x = some .free
noncomputable def Loc (sc : Scope) (x : Str) : Prop := sc.names.lookup x = some .local ∨ sc.names.lookup x = some .cell
noncomputable def Look (env : Env) (h : Heap) (m : Str → Option Value) (x : Str) (u : Value) : Prop :=
  (env.kindOf x = some .local ∧ m x = some u) ∨ ((env.kindOf x = some .cell ∨ env.kindOf x = some .free) ∧ ∃ c, env.cells.lookup x = some c ∧ h.IsCell c (some u))

structure Cx.Ok (X : Cx) : Prop where
  mod : Mod X.K X.mg X.base
  kind : X.env.scope.kind = .function
  glob : X.env.globals = mainGlobals
  blt : X.env.builtins = builtinsNs
  above : X.s₀.heap.objs.size ≤ X.env.locals
  inj : ∀ x y c, X.env.cells.lookup x = some c → X.env.cells.lookup y = some c → x = y
  has : ∀ x, (X.env.kindOf x = some .cell ∨ X.env.kindOf x = some .free) → ∃ c, X.env.cells.lookup x = some c
  cab : ∀ x c, X.fn x = true → X.env.cells.lookup x = some c → X.s₀.heap.objs.size ≤ c
  hd : X.calm = true → X.A.handled = none
  frames : X.A.frames = some X.stack
  stk : X.stack = X.outer ∨ (X.stack = X.env :: X.outer ∧ X.env.frame = some X.env.locals)
  exf : ∀ b ∈ X.ex, b ≠ X.env.locals ∧ ∀ x c, X.env.cells.lookup x = some c → c ≠ b
  bs : ∀ b o, X.base.get? b = some o → X.s₀.heap.get? b = some o ∧ X.H₀ b = none
  bsz : X.base.objs.size ≤ X.s₀.heap.objs.size
  noex : ∀ b o, X.base.get? b = some o → b ∉ X.ex
  exfs : ∀ b ∈ X.ex, b ∉ X.fs
  funs : X.s₀.heap.FunFrames X.base X.outer
  frf : ∀ b ∈ X.fs, X.H₀ b = none

structure Inv (X : Cx) (pins : List (Addr × Obj)) (σ : List (Option V)) (H : Hp) (s : Shared) : Prop where
  ok : X.Ok
  os : s.os = X.s₀.os
  bare : AllBare s.gens
  base : Un X.fs X.ex X.H₀ H X.s₀.heap s.heap
  loc : ∃ m, s.heap.Ns X.env.locals m ∧ ∀ (i : Nat) (x : Str) (v : V), X.N[i]? = some x → σ[i]? = some (some v) → Vis X.env.scope x → ∃ u, RelV v u ∧ Look X.env s.heap m x u
  cell : ∀ x c, X.env.cells.lookup x = some c → ∃ v, s.heap.IsCell c v
  free : H X.env.locals = none
  freeC : ∀ x c, X.env.cells.lookup x = some c → H c = none
  pin : ∀ p ∈ X.pn ++ pins, s.heap.get? p.1 = some p.2 ∧ H p.1 = none ∧ p.1 ≠ X.env.locals ∧ p.1 ∉ X.fs ∧ ∀ v, p.2.data ≠ .cell v
  hok : HOk X.prog X.w H s.heap
  len : σ.length = X.N.length

section
variable {X : Cx} {pins : List (Addr × Obj)} {σ : List (Option V)} {H H' : Hp} {s : Shared} {h' : Heap}

theorem Cx.Ok.nofr (ok : X.Ok) {b : Addr} {o : Obj} (e : X.base.get? b = some o) : b ∉ X.fs := fun hb => by
  have := (ok.funs.mem hb).1
  rw [e] at this; cases this
theorem Inv.bs (I : Inv X pins σ H s) : ∀ b o, X.base.get? b = some o → s.heap.get? b = some o ∧ H b = none := fun b o e =>
  ⟨I.base.keep b o (I.ok.bs b o e).1 (I.ok.bs b o e).2 (I.ok.nofr e) (I.ok.noex b o e), I.base.free b o (I.ok.bs b o e).1 (I.ok.bs b o e).2 (I.ok.noex b o e)⟩
theorem Inv.bk (I : Inv X pins σ H s) : ∀ b o, X.base.get? b = some o → s.heap.get? b = some o := fun b o e => (I.bs b o e).1
theorem Inv.mod (I : Inv X pins σ H s) : Mod X.K X.mg X.base := I.ok.mod
theorem Inv.kIn (I : Inv X pins σ H s) : X.K.In s.heap := I.ok.mod.kin.keeps I.bk
theorem Inv.lt (I : Inv X pins σ H s) : X.env.locals < s.heap.objs.size := let ⟨_, hn, _⟩ := I.loc; hn.lt
theorem Inv.sz (I : Inv X pins σ H s) : X.s₀.heap.objs.size ≤ s.heap.objs.size := Nat.le_trans I.ok.above (Nat.le_of_lt I.lt)
theorem Inv.nofs (I : Inv X pins σ H s) {a : Addr} (h : s.heap.objs.size ≤ a) : a ∉ X.fs := fun hb => by
  obtain ⟨_, o, ho, _⟩ := I.ok.funs.mem hb
  exact absurd (Nat.lt_of_lt_of_le (Heap.lt_size ho) (Nat.le_trans I.sz h)) (Nat.lt_irrefl _)
theorem Inv.cne (I : Inv X pins σ H s) : ∀ x c, X.env.cells.lookup x = some c → c ≠ X.env.locals := fun x c e z => by
  obtain ⟨v, o, ho, hd⟩ := I.cell x c e
  obtain ⟨m, ⟨o', es, ep, ho', hd', _⟩, _⟩ := I.loc
  rw [z, ho'] at ho; cases ho; rw [hd'] at hd; cases hd
theorem Inv.funs (I : Inv X pins σ H s) : s.heap.FunFrames X.base X.outer := by
  have all : ∀ (l : List Env), (∀ b ∈ frs l, b ∈ X.fs) → X.s₀.heap.FunFrames X.base l → s.heap.FunFrames X.base l := by
    intro l
    induction l with
    | nil => intro _ _; trivial
    | cons env r ih =>
      intro hs hl
      obtain ⟨hk, ⟨L, o, hf, hn, ho, hd⟩, hr⟩ := hl
      have hL : L ∈ X.fs := hs L (by unfold frs; rw [List.filterMap_cons, hf]; exact List.mem_cons_self)
      obtain ⟨sl, e⟩ := I.base.slot L o ho (I.ok.frf L hL) hL fun z => I.ok.exfs L z hL
      exact ⟨hk, ⟨L, _, hf, hn, e, hd⟩, ih (fun b hb => hs b (by unfold frs; rw [List.filterMap_cons, hf]; exact List.mem_cons_of_mem _ hb)) hr⟩
  exact all X.outer (fun _ hb => hb) I.ok.funs

theorem Inv.stack (I : Inv X pins σ H s) : s.heap.FunFrames X.base X.stack := by
  rcases I.ok.stk with e | ⟨e, hf⟩
  · rw [e]; exact I.funs
  · rw [e]
    obtain ⟨m, hn, _⟩ := I.loc
    refine .cons (by rw [I.ok.kind]; decide) hf hn ?_ I.funs
    exact Heap.get?_none_of_le (Nat.le_trans I.ok.bsz I.ok.above)
theorem Inv.stkSub (I : Inv X pins σ H s) : ∀ b ∈ frs X.stack, b ∈ X.env.locals :: X.fs := fun b hb => by
  rcases I.ok.stk with e | ⟨e, hf⟩
  · rw [e] at hb; exact List.mem_cons_of_mem _ hb
  · rw [e] at hb
    unfold frs at hb
    rw [List.filterMap_cons, hf] at hb
    exact hb
theorem Inv.stkFree (I : Inv X pins σ H s) : ∀ b ∈ frs X.stack, H b = none := fun b hb => by
  rcases List.mem_cons.mp (I.stkSub b hb) with e | hb
  · rw [e]; exact I.free
  · obtain ⟨_, o, ho, _⟩ := I.ok.funs.mem hb
    exact I.base.free b o ho (I.ok.frf b hb) fun z => I.ok.exfs b z hb

theorem Inv.step {g' : Array GenState} {t' : Nat} {d' : Drawn} {ch : List Addr} (I : Inv X pins σ H s)
    (hch : ∀ b ∈ ch, (b ∈ X.ex ∨ X.s₀.heap.objs.size ≤ b) ∧ b ≠ X.env.locals ∧ (∀ x c, X.env.cells.lookup x = some c → c ≠ b) ∧ ∀ p ∈ X.pn ++ pins, p.1 ≠ b)
    (keep : ∀ b o, b ≠ X.env.locals → b ∉ X.fs → b ∉ ch → s.heap.get? b = some o → H b = none → h'.get? b = some o)
    (slot : ∀ b o, b ≠ X.env.locals → b ∈ X.fs → b ∉ ch → s.heap.get? b = some o → H b = none → ∃ sl, h'.get? b = some { o with slots := sl }) (free : ∀ b o, b ∉ ch → s.heap.get? b = some o → H b = none → H' b = none)
    (there : ∀ b o, b ∉ ch → s.heap.get? b = some o → ∃ o', h'.get? b = some o')
    (tups : ∀ b xs, H b = some (.tup xs) → H' b = some (.tup xs)) (frzs : ∀ b o u, H b = some (.frz o u) → H' b = some (.frz o u)) (tbls : ∀ b ps, H b = some (.tbl ps) → ∃ more, H' b = some (.tbl (ps ++ more)))
    (ns : ∀ m, s.heap.Ns X.env.locals m → h'.Ns X.env.locals m) (hok : HOk X.prog X.w H' h') (hg : AllBare g') :
    Inv X pins σ H' { s with heap := h', gens := g', drawn := d', toks := t' } := by
  have neL : ∀ b o, X.s₀.heap.get? b = some o → b ≠ X.env.locals := fun b o e => Nat.ne_of_lt (Nat.lt_of_lt_of_le (Heap.lt_size e) I.ok.above)
  have neC : ∀ b o, X.s₀.heap.get? b = some o → b ∉ X.ex → b ∉ ch := fun b o e hx hb => by
    rcases (hch b hb).1 with z | z
    · exact hx z
    · exact absurd (Nat.lt_of_lt_of_le (Heap.lt_size e) z) (Nat.lt_irrefl _)
  have cellK : ∀ x c, X.env.cells.lookup x = some c → ∀ v, s.heap.IsCell c v → h'.IsCell c v := fun x c e v ⟨o, ho, hd⟩ => by
    have nch : c ∉ ch := fun z => (hch c z).2.2.1 x c e rfl
    by_cases hc : c ∈ X.fs
    · obtain ⟨sl, q⟩ := slot c o (I.cne x c e) hc nch ho (I.freeC x c e)
      exact ⟨_, q, hd⟩
    · exact ⟨o, keep c o (I.cne x c e) hc nch ho (I.freeC x c e), hd⟩
  refine ⟨I.ok, I.os, hg, ⟨fun b o e n hb hx => ?_, fun b o e n hb hx => ?_, fun b o e n hx => ?_, fun b o e hx => ?_, fun b xs e => tups b xs (I.base.tups b xs e), fun b o xs e => frzs b o xs (I.base.frzs b o xs e), fun b ps e => ?_⟩, ?_, fun x c e => ?_, ?_, fun x c e => ?_, fun p hp => ?_, hok, I.len⟩
  · exact keep b o (neL b o e) hb (neC b o e hx) (I.base.keep b o e n hb hx) (I.base.free b o e n hx)
  · obtain ⟨sl, e1⟩ := I.base.slot b o e n hb hx
    obtain ⟨sl', e2⟩ := slot b _ (neL b o e) hb (neC b o e hx) e1 (I.base.free b o e n hx)
    exact ⟨sl', e2⟩
  · obtain ⟨o', e1⟩ := I.base.there b o e hx
    exact free b o' (neC b o e hx) e1 (I.base.free b o e n hx)
  · obtain ⟨o', e1⟩ := I.base.there b o e hx
    exact there b o' (neC b o e hx) e1
  · obtain ⟨m1, e1⟩ := I.base.tbls b ps e
    obtain ⟨m2, e2⟩ := tbls b _ e1
    exact ⟨m1 ++ m2, by rw [e2, Array.append_assoc]⟩
  · obtain ⟨m, hn, hl⟩ := I.loc
    refine ⟨m, ns m hn, fun i x v e1 e2 e3 => ?_⟩
    obtain ⟨u, r, l⟩ := hl i x v e1 e2 e3
    refine ⟨u, r, ?_⟩
    rcases l with l | ⟨k, c, e, z⟩
    · exact .inl l
    · exact .inr ⟨k, c, e, cellK x c e _ z⟩
  · obtain ⟨v, z⟩ := I.cell x c e
    exact ⟨v, cellK x c e v z⟩
  · obtain ⟨m, ⟨o, _, _, ho, _⟩, _⟩ := I.loc
    exact free _ o (fun z => (hch _ z).2.1 rfl) ho I.free
  · obtain ⟨v, o, ho, hd⟩ := I.cell x c e
    exact free c o (fun z => (hch c z).2.2.1 x c e rfl) ho (I.freeC x c e)
  · obtain ⟨e, n, ne, nf, d⟩ := I.pin p hp
    have nch : p.1 ∉ ch := fun z => (hch p.1 z).2.2.2 p hp rfl
    exact ⟨keep p.1 p.2 ne nf nch e n, free p.1 p.2 nch e n, ne, nf, d⟩
theorem Inv.un {t' : Nat} (I : Inv X pins σ H s) (u : Un X.fs [] H H' s.heap h') (hok : HOk X.prog X.w H' h') : Inv X pins σ H' { s with heap := h', toks := t' } := by
  obtain ⟨m, ⟨o, es, ep, ho, r⟩, _⟩ := id I.loc
  obtain ⟨sl, hL⟩ := u.any ho I.free (by simp)
  exact I.step (g' := s.gens) (d' := s.drawn) (ch := []) (fun _ z => nomatch z) (fun b o _ hb _ e n => u.keep b o e n hb (by simp)) (fun b o _ hb _ e n => u.slot b o e n hb (by simp)) (fun b o _ e n => u.free b o e n (by simp)) (fun b o _ e => u.there b o e (by simp)) u.tups u.frzs u.tbls (fun m' hm => by
    obtain ⟨o', es', ep', ho', r'⟩ := hm
    rw [ho] at ho'; cases ho'
    exact ⟨_, es', ep', hL, r'⟩) hok I.bare
theorem Inv.call {g' : Array GenState} {t' : Nat} {d' : Drawn} {ch : List Addr} (I : Inv X pins σ H s) (u : Un (frs X.stack) ch H H' s.heap h') (hok : HOk X.prog X.w H' h') (hg : AllBare g')
    (hch : ∀ b ∈ ch, (b ∈ X.ex ∨ X.s₀.heap.objs.size ≤ b) ∧ b ≠ X.env.locals ∧ (∀ x c, X.env.cells.lookup x = some c → c ≠ b) ∧ ∀ p ∈ X.pn ++ pins, p.1 ≠ b) :
    Inv X pins σ H' { s with heap := h', gens := g', drawn := d', toks := t' } := by
  obtain ⟨m, ⟨o, es, ep, ho, r⟩, _⟩ := id I.loc
  obtain ⟨sl, hL⟩ := u.any ho I.free fun z => (hch _ z).2.1 rfl
  exact I.step (ch := ch) hch (fun b o hL hb hc e n => u.keep b o e n (fun z => (List.mem_cons.mp (I.stkSub b z)).elim hL hb) hc) (fun b o _ _ hc e n => u.any e n hc) (fun b o hc e n => u.free b o e n hc) (fun b o hc e => u.there b o e hc) u.tups u.frzs u.tbls (fun m' hm => by
    obtain ⟨o', es', ep', ho', r'⟩ := hm
    rw [ho] at ho'; cases ho'
    exact ⟨_, es', ep', hL, r'⟩) hok hg
theorem Inv.turned {t' : Nat} {it : Addr} (I : Inv X pins σ H s) (k : ∀ b o, b ≠ it → s.heap.get? b = some o → h'.get? b = some o) (hn : H it = none) (hL : it ≠ X.env.locals)
    (h1 : it ∈ X.ex ∨ X.s₀.heap.objs.size ≤ it) (h2 : ∀ x c, X.env.cells.lookup x = some c → c ≠ it) (h3 : ∀ p ∈ X.pn ++ pins, p.1 ≠ it) : Inv X pins σ H { s with heap := h', toks := t' } := by
  have nit : ∀ b u, H b = some u → b ≠ it := fun b u e z => by rw [z, hn] at e; cases e
  refine I.step (g' := s.gens) (d' := s.drawn) (ch := [it]) (fun b hb => ?_) (fun b o _ _ hc e _ => k b o (fun z => hc (by simp [z])) e) (fun b o _ _ hc e _ => ⟨o.slots, k b o (fun z => hc (by simp [z])) e⟩) (fun _ _ _ _ n => n)
    (fun b o hc e => ⟨o, k b o (fun z => hc (by simp [z])) e⟩) (fun _ _ e => e) (fun _ _ _ e => e) (fun b ps e => ⟨#[], by rw [e]; simp⟩) (fun m hm => ?_) (fun b u e => ?_) I.bare
  · have e : b = it := by simpa using hb
    subst e
    exact ⟨h1, hL, h2, h3⟩
  · obtain ⟨o, es, ep, ho, r⟩ := hm
    exact ⟨o, es, ep, k _ o (Ne.symm hL) ho, r⟩
  · refine (I.hok b u e).stay (fun c v hc q => k c v ?_ q) (fun _ q => q) fun _ _ q => q
    rcases hc with z | z
    · rw [z]; exact nit b u e
    · exact nit c _ z
theorem Inv.tok (I : Inv X pins σ H s) (t : Nat) : Inv X pins σ H { s with toks := t } := I.un (h' := s.heap) (t' := t) Un.refl I.hok
theorem Inv.kept {t' : Nat} (I : Inv X pins σ H s) (k : ∀ b u, s.heap.get? b = some u → h'.get? b = some u) : Inv X pins σ H { s with heap := h', toks := t' } := I.un (Un.kept k) (I.hok.kept k)
theorem Inv.laid {a : Addr} {o : HO} {t' : Nat} (I : Inv X pins σ H s) (k : ∀ b u, s.heap.get? b = some u → h'.get? b = some u) (hp : s.heap.objs.size ≤ a) (new : ObjOk X.prog X.w (upd H a o) h' a o) :
    Inv X pins σ (upd H a o) { s with heap := h', toks := t' } := I.un (Un.laid k hp (I.hok.fresh hp)) (I.hok.laid k hp new)
theorem Inv.write {x e : Addr} {o : HO} {t' : Nat} (I : Inv X pins σ H s) (mu : Mut (H x)) (he : e = x ∨ H e = some (.own x)) (k : ∀ b u, b ≠ e → s.heap.get? b = some u → h'.get? b = some u) (heo : ∃ u, h'.get? e = some u)
    (new : ObjOk X.prog X.w (upd H x o) h' x o) : Inv X pins σ (upd H x o) { s with heap := h', toks := t' } := I.un (Un.write mu he k heo) (I.hok.write mu he k heo new)
theorem Inv.weak {σ' : List (Option V)} (I : Inv X pins σ H s) (hl : σ'.length = σ.length) (w : ∀ (i : Nat) v, σ'[i]? = some (some v) → σ[i]? = some (some v)) : Inv X pins σ' H s :=
  ⟨I.ok, I.os, I.bare, I.base, let ⟨m, hn, hl'⟩ := I.loc; ⟨m, hn, fun i x v e1 e2 e3 => hl' i x v e1 (w i v e2) e3⟩, I.cell, I.free, I.freeC, I.pin, I.hok, hl.trans I.len⟩
theorem Inv.pins_of {pins' : List (Addr × Obj)} (I : Inv X pins σ H s) (h : ∀ p ∈ pins', s.heap.get? p.1 = some p.2 ∧ H p.1 = none ∧ p.1 ≠ X.env.locals ∧ p.1 ∉ X.fs ∧ ∀ v, p.2.data ≠ .cell v) : Inv X pins' σ H s :=
  ⟨I.ok, I.os, I.bare, I.base, I.loc, I.cell, I.free, I.freeC, fun p hp => (List.mem_append.mp hp).elim (fun z => I.pin p (List.mem_append_left _ z)) (h p), I.hok, I.len⟩

theorem nodup_ix {N : List Str} (hN : N.Nodup) {i j : Nat} {x : Str} (a : N[i]? = some x) (b : N[j]? = some x) : i = j := by
  obtain ⟨h1, e1⟩ := List.getElem?_eq_some_iff.mp a
  obtain ⟨h2, e2⟩ := List.getElem?_eq_some_iff.mp b
  exact (List.getElem_inj hN).mp (e1.trans e2.symm)

theorem store_ok2 {M : Model} {A : Around} {E : Value → Shared → Prop} {i : Nat} {x : Str} {v : V} {u : Value} {Q : Unit → Shared → Prop} (I : Inv X pins σ H s) (hN : X.N.Nodup) (hi : X.N[i]? = some x) (hx : Loc X.env.scope x) (r : RelV v u)
    (h : ∀ s', Inv X pins (σ.set i (some v)) H s' → (∃ a, Heap.SameBut a s.heap s'.heap ∧ (a = X.env.locals ∨ X.env.cells.lookup x = some a)) → Q () s') (hf : X.fn x = true ∨ X.env.scope.names.lookup x = some .local := by first | exact .inl rfl | exact .inr rfl | assumption) : wpAny M A (storeName X.env x u) Q E s := by
  obtain ⟨m, hn, hl⟩ := id I.loc
  have hcls : (X.env.scope.kind == .class || (X.env.scope.kind == .module && X.env.locals != X.env.globals)) = false := by rw [I.ok.kind]; rfl
  have hiσ : i < σ.length := by rw [I.len]; exact (List.getElem?_eq_some_iff.mp hi).1
  have cne := I.cne
  have tracked : ∀ {a : Addr} {h' : Heap}, (∃ o, s.heap.get? a = some o ∧ H a = none) → Heap.SameBut a s.heap h' → HOk X.prog X.w H h' := fun {a h'} ha hs b ob e => by
    obtain ⟨_, _, hfree⟩ := ha
    refine (I.hok b ob e).stay (fun c w' hc q => (hs.2 c ?_).trans q) (fun _ q => q) fun _ _ q => q
    rintro rfl
    rcases hc with rfl | hc
    · rw [hfree] at e; cases e
    · rw [hfree] at hc; cases hc
  rcases hx with hk | hk
  · refine wpAny_storeName_local hk hn (fun h' hn' hs => ?_) hcls
    obtain ⟨oL, _, _, hoL, _⟩ := id hn
    refine h _ ⟨I.ok, I.os, I.bare, ⟨fun b o e n hb hx => ?_, fun b o e n hb hx => ?_, I.base.free, fun b o e hx => ?_, I.base.tups, I.base.frzs, I.base.tbls⟩, ⟨_, hn', fun j y v' e1 e2 e3 => ?_⟩, fun y c e => ?_, I.free, I.freeC, fun p hp => ?_, tracked ⟨oL, hoL, I.free⟩ hs, by simpa using I.len⟩ ⟨_, hs, .inl rfl⟩
    · exact (hs.2 b (Nat.ne_of_lt (Nat.lt_of_lt_of_le (Heap.lt_size e) I.ok.above))).trans (I.base.keep b o e n hb hx)
    · obtain ⟨sl, e1⟩ := I.base.slot b o e n hb hx
      exact ⟨sl, (hs.2 b (Nat.ne_of_lt (Nat.lt_of_lt_of_le (Heap.lt_size e) I.ok.above))).trans e1⟩
    · obtain ⟨o', e1⟩ := I.base.there b o e hx
      exact ⟨o', (hs.2 b (Nat.ne_of_lt (Nat.lt_of_lt_of_le (Heap.lt_size e) I.ok.above))).trans e1⟩
    · by_cases hj : j = i
      · subst hj
        rw [hi] at e1; cases e1
        rw [List.getElem?_set_self hiσ] at e2
        cases e2
        exact ⟨u, r, .inl ⟨hk, by simp⟩⟩
      · rw [List.getElem?_set_ne (Ne.symm hj)] at e2
        obtain ⟨u', r', q⟩ := hl j y v' e1 e2 e3
        refine ⟨u', r', ?_⟩
        rcases q with ⟨k, e⟩ | ⟨k, c, e, z⟩
        · refine .inl ⟨k, ?_⟩
          have : y ≠ x := fun e => hj (nodup_ix hN e1 (e ▸ hi))
          simp [this, e]
        · exact .inr ⟨k, c, e, z.sameBut hs (cne y c e)⟩
    · obtain ⟨w', z⟩ := I.cell y c e
      exact ⟨w', z.sameBut hs (cne y c e)⟩
    · obtain ⟨e, n, ne, nf, d⟩ := I.pin p hp
      exact ⟨(hs.2 p.1 ne).trans e, n, ne, nf, d⟩
  · have hfn : X.fn x = true := by
      rcases hf with z | z
      · exact z
      · rw [z] at hk; cases hk
    obtain ⟨c, hc⟩ := I.ok.has x (.inl hk)
    obtain ⟨w', z⟩ := I.cell x c hc
    refine wpAny_storeName_cell I.ok.kind hk hc z (fun h' hc' hs => ?_)
    obtain ⟨oc, hoc, hocd⟩ := id z
    refine h { s with heap := h' } ⟨I.ok, I.os, I.bare, ⟨fun b o e n hb hx => ?_, fun b o e n hb hx => ?_, I.base.free, fun b o e hx => ?_, I.base.tups, I.base.frzs, I.base.tbls⟩, ⟨m, hn.sameBut hs (Ne.symm (cne x c hc)), fun j y v' e1 e2 e3 => ?_⟩, fun y c' e => ?_, I.free, I.freeC, fun p hp => ?_, tracked ⟨oc, hoc, I.freeC x c hc⟩ hs, by simpa using I.len⟩ ⟨c, hs, .inr hc⟩
    · exact (hs.2 b (Nat.ne_of_lt (Nat.lt_of_lt_of_le (Heap.lt_size e) (I.ok.cab x c hfn hc)))).trans (I.base.keep b o e n hb hx)
    · obtain ⟨sl, e1⟩ := I.base.slot b o e n hb hx
      exact ⟨sl, (hs.2 b (Nat.ne_of_lt (Nat.lt_of_lt_of_le (Heap.lt_size e) (I.ok.cab x c hfn hc)))).trans e1⟩
    · obtain ⟨o', e1⟩ := I.base.there b o e hx
      exact ⟨o', (hs.2 b (Nat.ne_of_lt (Nat.lt_of_lt_of_le (Heap.lt_size e) (I.ok.cab x c hfn hc)))).trans e1⟩
    · by_cases hj : j = i
      · subst hj
        rw [hi] at e1; cases e1
        rw [List.getElem?_set_self hiσ] at e2
        cases e2
        exact ⟨u, r, .inr ⟨.inl hk, c, hc, hc'⟩⟩
      · rw [List.getElem?_set_ne (Ne.symm hj)] at e2
        obtain ⟨u', r', q⟩ := hl j y v' e1 e2 e3
        refine ⟨u', r', ?_⟩
        rcases q with q | ⟨k, c', e, z'⟩
        · exact .inl q
        · refine .inr ⟨k, c', e, z'.sameBut hs ?_⟩
          rintro rfl
          exact hj (nodup_ix hN e1 (I.ok.inj _ _ _ e hc ▸ hi))
    · by_cases hcc : c' = c
      · subst hcc; exact ⟨_, hc'⟩
      · obtain ⟨w2, z2⟩ := I.cell y c' e
        exact ⟨w2, z2.sameBut hs hcc⟩
    · obtain ⟨e, n, ne, nf, d⟩ := I.pin p hp
      refine ⟨(hs.2 p.1 ?_).trans e, n, ne, nf, d⟩
      intro q
      rw [q, hoc] at e
      have q' : oc = p.2 := Option.some.inj e
      exact d w' (by rw [← q']; exact hocd)
theorem store_ok {M : Model} {A : Around} {E : Value → Shared → Prop} {i : Nat} {x : Str} {v : V} {u : Value} {Q : Unit → Shared → Prop} (I : Inv X pins σ H s) (hN : X.N.Nodup) (hi : X.N[i]? = some x) (hx : Loc X.env.scope x) (r : RelV v u)
    (h : ∀ s', Inv X pins (σ.set i (some v)) H s' → Q () s') (hf : X.fn x = true ∨ X.env.scope.names.lookup x = some .local := by first | exact .inl rfl | exact .inr rfl | assumption) : wpAny M A (storeName X.env x u) Q E s :=
  store_ok2 I hN hi hx r (fun s' I' _ => h s' I') hf
theorem Inv.call' {s' : Shared} {ch : List Addr} (I : Inv X pins σ H s) (ho : s'.os = s.os) (u : Un (frs X.stack) ch H H' s.heap s'.heap) (hok : HOk X.prog X.w H' s'.heap) (hg : AllBare s'.gens)
    (hch : ∀ b ∈ ch, (b ∈ X.ex ∨ X.s₀.heap.objs.size ≤ b) ∧ b ≠ X.env.locals ∧ (∀ x c, X.env.cells.lookup x = some c → c ≠ b) ∧ ∀ p ∈ X.pn ++ pins, p.1 ≠ b) : Inv X pins σ H' s' := by
  obtain ⟨h', g', d', t', o'⟩ := s'
  have e : o' = s.os := ho
  subst e
  exact I.call (g' := g') (t' := t') (d' := d') u hok hg hch
end

noncomputable abbrev XK := Value → Option Addr → Hp → Prop
noncomputable abbrev St := List (Option V)
noncomputable abbrev VK := V → Hp → Prop
noncomputable abbrev TE := St → Hp → VK → Prop
noncomputable abbrev TT := St → Hp → (Bool → Hp → Prop) → Prop
noncomputable abbrev TA := St → Hp → (List V → Hp → Prop) → Prop
structure Ends where
  nx : St → Hp → Prop
  rt : VK
  bk : St → Hp → Prop := fun _ _ => False
  ct : St → Hp → Prop := fun _ _ => False
noncomputable abbrev TS := Ends → St → Hp → Prop

noncomputable def EP (X : Cx) (pins : List (Addr × Obj)) (σ : St) (Q : VK) (u : Value) (s' : Shared) : Prop := ∃ v H', Inv X pins σ H' s' ∧ RelV v u ∧ Q v H'
noncomputable def TP (X : Cx) (pins : List (Addr × Obj)) (σ : St) (Q : Bool → Hp → Prop) (b : Bool) (s' : Shared) : Prop := ∃ H', Inv X pins σ H' s' ∧ Q b H'
noncomputable def AP (X : Cx) (pins : List (Addr × Obj)) (σ : St) (Q : List V → Hp → Prop) (us : List Value) (s' : Shared) : Prop := ∃ vs H', Inv X pins σ H' s' ∧ Vals vs us ∧ Q vs H'
noncomputable def SP (X : Cx) (pins : List (Addr × Obj)) (D : Ends) (f : Flow) (s' : Shared) : Prop :=
  match f with
  | .next => ∃ σ' H', Inv X pins σ' H' s' ∧ D.nx σ' H'
  | .brk => ∃ σ' H', Inv X pins σ' H' s' ∧ D.bk σ' H'
  | .cont => ∃ σ' H', Inv X pins σ' H' s' ∧ D.ct σ' H'
  | .ret u => ∃ v σ' H', Inv X pins σ' H' s' ∧ RelV v u ∧ D.rt v H'

noncomputable def PE (X : Cx) (e : Expr) (t : TE) : Prop :=
  ∀ (pins : List (Addr × Obj)) (s : Shared) (σ : St) (H : Hp) (Q : VK), Inv X pins σ H s → t σ H Q → wpAny (model X.prog X.w) X.A (eval e X.env) (EP X pins σ Q) X.xe s
noncomputable def PT (X : Cx) (e : Expr) (t : TT) : Prop :=
  ∀ (pins : List (Addr × Obj)) (s : Shared) (σ : St) (H : Hp) (Q : Bool → Hp → Prop), Inv X pins σ H s → t σ H Q → wpAny (model X.prog X.w) X.A (isTrue e X.env (eval e X.env)) (TP X pins σ Q) X.xe s
noncomputable def PW (X : Cx) (e : Expr) (t : TT) : Prop :=
  ∀ (whole : Sem Value) (pins : List (Addr × Obj)) (s : Shared) (σ : St) (H : Hp) (Q : Bool → Hp → Prop), Inv X pins σ H s → t σ H Q → wpAny (model X.prog X.w) X.A (isTrue e X.env whole) (TP X pins σ Q) X.xe s
theorem PW.pt {X : Cx} {e : Expr} {t : TT} (h : PW X e t) : PT X e t := h _
noncomputable def PA (X : Cx) (es : List Expr) (t : TA) : Prop :=
  ∀ (pos : Pos) (pins : List (Addr × Obj)) (s : Shared) (σ : St) (H : Hp) (Q : List V → Hp → Prop), Inv X pins σ H s → t σ H Q → wpAny (model X.prog X.w) X.A (spliced (backTo pos (starEach es X.env))) (AP X pins σ Q) X.xe s
noncomputable def PS (X : Cx) (st : Stmt) (t : TS) : Prop :=
  ∀ (pins : List (Addr × Obj)) (s : Shared) (σ : St) (H : Hp) (D : Ends), Inv X pins σ H s → t D σ H → wpAny (model X.prog X.w) X.A (exec st X.env) (SP X pins D) X.xe s
noncomputable def PSs (X : Cx) (st : List Stmt) (t : TS) : Prop :=
  ∀ (pins : List (Addr × Obj)) (s : Shared) (σ : St) (H : Hp) (D : Ends), Inv X pins σ H s → t D σ H → wpAny (model X.prog X.w) X.A (execs st X.env) (SP X pins D) X.xe s
theorem thn {α : Type} {t : Sem α} {Q Q' : α → Shared → Prop} {M : Model} {A : Around} {E : Value → Shared → Prop} {s : Shared} (h : wpAny M A t Q E s) (hQ : ∀ a s, Q a s → Q' a s) : wpAny M A t Q' E s := wpAny_mono h hQ fun _ _ x => x
end L2

namespace L2
open PySem PySem.Spec PyProof.Rows
section
variable {X : Cx}

noncomputable def tVar (i : Nat) : TE := fun σ H Q => ∃ v, σ[i]? = some (some v) ∧ Q v H
noncomputable def tC (v : V) : TE := fun _ H Q => Q v H
theorem pe_var {i : Nat} {x : Str} {pos : Pos} (hN : X.N[i]? = some x) (hv : Vis X.env.scope x) (hd : (x == ("__debug__" : Str)) = false := by decide) (hcd : (x == ("__classdict__" : Str)) = false := by decide) : PE X (.Name x pos) (tVar i) := by
  intro pins s σ H Q I h
  obtain ⟨v, e, h⟩ := h
  obtain ⟨m, hn, hl⟩ := I.loc
  obtain ⟨u, r, l⟩ := hl i x v hN e hv
  have fin : EP X pins σ Q u s := ⟨v, H, I, r, h⟩
  rcases l with ⟨hk, hm⟩ | ⟨hk, c, hc, hcell⟩
  · exact wpAny_Name (wpAny_loadName_local I.ok.kind hk hn hm fin) hd
  · rcases hk with hk | hk
    · exact wpAny_Name (wpAny_loadName_cell I.ok.kind hk hc hcell fin) hd
    · exact wpAny_Name (wpAny_loadName_free I.ok.kind hk hc hcell fin hcd) hd
theorem pe_int {i j pos} : PE X (.Constant (.int i) j pos) (tC (.int i)) := fun _ _ _ H _ I h => wpAny_Constant_int ⟨.int i, H, I.tok _, ⟨_, rfl⟩, h⟩
theorem pe_bl {b j pos} : PE X (.Constant (.bool b) j pos) (tC (.bl b)) := fun _ _ _ H _ I h => Constant_bool ⟨.bl b, H, I, rfl, h⟩
theorem pe_non {j pos} : PE X (.Constant .none j pos) (tC .non) := fun _ _ _ H _ I h => Constant_none ⟨.non, H, I, rfl, h⟩
theorem pe_str {x j pos} : PE X (.Constant (.str x) j pos) (tC (.str x)) := fun _ _ _ H _ I h => Calls.Constant_str ⟨.str x, H, I.tok _, ⟨_, rfl⟩, h⟩

noncomputable def Gl (X : Cx) (x : Str) : Prop := X.env.kindOf x = some .globalImplicit
theorem ld_glob {E : Value → Shared → Prop} {pins : List (Addr × Obj)} {s : Shared} {σ : St} {H : Hp} {x : Str} {u : Value} {pos : Pos} {Q : Value → Shared → Prop} (I : Inv X pins σ H s) (hg : Gl X x) (hm : X.mg x = some u) (h : Q u s)
    (hd : (x == ("__debug__" : Str)) = false := by decide) : wpAny (model X.prog X.w) X.A (eval (.Name x pos) X.env) Q E s :=
  Calls.Name_function_global I.ok.kind hg (Calls.loadGlobal_global (by rw [I.ok.glob]; exact I.mod.glob.keeps I.bk) hm h) hd
theorem ld_blt {E : Value → Shared → Prop} {pins : List (Addr × Obj)} {s : Shared} {σ : St} {H : Hp} {x : Str} {u : Value} {pos : Pos} {Q : Value → Shared → Prop} (I : Inv X pins σ H s) (hg : Gl X x) (hm : X.mg x = none) (hv : bootBuiltins x = some u) (h : Q u s)
    (hn : x ≠ "__name__" := by decide) (hd : (x == ("__debug__" : Str)) = false := by decide) : wpAny (model X.prog X.w) X.A (eval (.Name x pos) X.env) Q E s := by
  obtain ⟨mb, h1, h2⟩ := I.mod.blt
  exact Calls.Name_function_global I.ok.kind hg (Calls.loadGlobal_builtin (by rw [I.ok.glob]; exact I.mod.glob.keeps I.bk) hm (by rw [I.ok.blt]; exact h1.keeps I.bk) ((h2 x hn).trans hv) h) hd
theorem pe_bltn {x : Str} {v : V} {u : Value} {pos : Pos} (hg : Gl X x) (hm : X.mg x = none) (hv : bootBuiltins x = some u) (r : RelV v u) (hn : x ≠ "__name__" := by decide) (hd : (x == ("__debug__" : Str)) = false := by decide) : PE X (.Name x pos) (tC v) :=
  fun _ _ _ H _ I h => ld_blt I hg hm hv ⟨v, H, I, r, h⟩ hn hd

variable {a b : Expr} {ta tb : TE} {pos : Pos}
noncomputable def tB (t : TE) : TT := fun σ H Q => t σ H fun x H1 => ∃ c, x = .bl c ∧ Q c H1
theorem pt_val {e : Expr} {t : TE} (h : PE X e t) (he : ∀ whole, isTrue e X.env whole = (do let v ← whole; standAt e.pos; holding [v] (truthy v)) := by intro _; rfl) : PT X e (tB t) := by
  intro pins s σ H Q I hw
  refine isTrue_plain (thn (h pins s σ H _ I hw) fun v s1 ⟨x, H1, I1, r1, q1⟩ => ?_) (he _)
  obtain ⟨d, rfl, q⟩ := q1
  cases r1
  exact wpAny_truthy_bool ⟨H1, I1, q⟩

variable {tA tB' : TT} {rest : List Expr}
noncomputable def tAnd (t u : TT) : TT := fun σ H Q => t σ H fun c H1 => if c = true then u σ H1 Q else Q false H1
noncomputable def tOr (t u : TT) : TT := fun σ H Q => t σ H fun c H1 => if c = true then Q true H1 else u σ H1 Q
noncomputable def tNot (t : TT) : TT := fun σ H Q => t σ H fun c H1 => Q (!c) H1
theorem pw_and1 (ha : PT X a tA) : PW X (.BoolOp .And [a] pos) tA := by
  intro wh pins s σ H Q I h
  refine isTrue_and (thn (ha pins s σ H Q I h) fun c s1 e => ?_)
  cases c with
  | true => exact isTrue_and_nil e
  | false => exact e
theorem pw_or1 (ha : PT X a tA) : PW X (.BoolOp .Or [a] pos) tA := by
  intro wh pins s σ H Q I h
  refine isTrue_or (thn (ha pins s σ H Q I h) fun c s1 e => ?_)
  cases c with
  | false => exact isTrue_or_nil e
  | true => exact e
theorem pw_and (ha : PT X a tA) (hb : PW X (.BoolOp .And (b :: rest) pos) tB') : PW X (.BoolOp .And (a :: b :: rest) pos) (tAnd tA tB') := by
  intro wh pins s σ H Q I h
  refine isTrue_and (thn (ha pins s σ H _ I h) fun c s1 ⟨H1, I1, q1⟩ => ?_)
  cases c with
  | true => exact hb wh pins s1 σ H1 Q I1 q1
  | false => exact ⟨H1, I1, q1⟩
theorem pw_or (ha : PT X a tA) (hb : PW X (.BoolOp .Or (b :: rest) pos) tB') : PW X (.BoolOp .Or (a :: b :: rest) pos) (tOr tA tB') := by
  intro wh pins s σ H Q I h
  refine isTrue_or (thn (ha pins s σ H _ I h) fun c s1 ⟨H1, I1, q1⟩ => ?_)
  cases c with
  | true => exact ⟨H1, I1, q1⟩
  | false => exact hb wh pins s1 σ H1 Q I1 q1
theorem pt_not (ha : PT X a tA) : PT X (.UnaryOp .Not a pos) (tNot tA) := by
  intro pins s σ H Q I h
  exact isTrue_not (ha pins s σ H (fun c H1 => Q (!c) H1) I h)
noncomputable def tAndV (ta tb : TE) : TE := fun σ H Q => ta σ H fun x H1 => ∃ c, x = .bl c ∧ if c = true then tb σ H1 Q else Q (.bl false) H1
theorem pe_one {op} {t : TE} (h : PE X a t) : PE X (.BoolOp op [a] pos) t := fun pins s σ H Q I hw => BoolOp_one (h pins s σ H Q I hw)
theorem pe_and (ha : PE X a ta) (hb : PE X (.BoolOp .And (b :: rest) pos) tb) : PE X (.BoolOp .And (a :: b :: rest) pos) (tAndV ta tb) := by
  intro pins s σ H Q I h
  refine BoolOp_and (thn (ha pins s σ H _ I h) fun v s1 ⟨x, H1, I1, r1, q1⟩ => ?_)
  obtain ⟨c, rfl, q1⟩ := q1
  cases r1
  refine wpAny_truthy_bool ?_
  cases c with
  | true => exact hb pins s1 σ H1 Q I1 q1
  | false => exact ⟨.bl false, H1, I1, rfl, q1⟩
noncomputable def tIf (t : TT) (ta tb : TE) : TE := fun σ H Q => t σ H fun c H1 => if c = true then ta σ H1 Q else tb σ H1 Q
theorem pe_ifExp {c : Expr} (hc : PT X c tA) (ha : PE X a ta) (hb : PE X b tb) : PE X (.IfExp c a b pos) (tIf tA ta tb) := by
  intro pins s σ H Q I h
  refine wpAny_IfExp (thn (hc pins s σ H _ I h) fun d s1 ⟨H1, I1, q1⟩ => ?_)
  cases d with
  | true => exact ha pins s1 σ H1 Q I1 q1
  | false => exact hb pins s1 σ H1 Q I1 q1
end
end L2

namespace L2
open PySem PySem.Spec PyProof.Rows

noncomputable def SqL (K : PySem.W.Frag) (H : Hp) (a : Addr) (xs : List V) : Prop :=
  Rd H a (.lst xs) ∨
    ∃ (o : Obj) (its : Array Value) (n : Nat), K.lookup a = some o ∧ o.cls = .type "list" ∧ o.dict = none ∧ o.data = .seq its n ∧ its.size ≤ sizeLine ∧ Vals xs its.toList
noncomputable def SqT (K : PySem.W.Frag) (H : Hp) (a : Addr) (xs : List V) : Prop :=
  Rd H a (.tup xs) ∨
    ∃ (o : Obj) (its : Array Value) (n : Nat), K.lookup a = some o ∧ o.cls = .type "tuple" ∧ o.data = .seq its n ∧ its.size ≤ sizeLine ∧ Vals xs its.toList
noncomputable def absV : Value → Option V
  | .none => some .non
  | .bool b => some (.bl b)
  | .int i _ => some (.int i)
  | .str x _ => some (.str x)
  | .bytes b _ => some (.byt b)
  | .float b _ => some (.flt b)
  | .ref a => some (.ref a)
  | .type n => some (.ty n)
  | _ => none
theorem RelV.abs {x : V} {u : Value} (r : RelV x u) : absV u = some x := by
  cases x with
  | non => cases r; rfl
  | bl _ => cases r; rfl
  | int _ => obtain ⟨t, rfl⟩ := r; rfl
  | str _ => obtain ⟨t, rfl⟩ := r; rfl
  | byt _ => obtain ⟨t, rfl⟩ := r; rfl
  | flt _ => obtain ⟨t, rfl⟩ := r; rfl
  | ref _ => cases r; rfl
  | ty _ => cases r; rfl
theorem RelV.inj {x y : V} {u : Value} (r : RelV x u) (q : RelV y u) : x = y := Option.some.inj (r.abs.symm.trans q.abs)
theorem Vals.inj : ∀ {xs ys : List V} {us : List Value}, Vals xs us → Vals ys us → xs = ys
  | _, _, _, .nil, .nil => rfl
  | _, _, _, .cons r t, .cons r' t' => by rw [r.inj r', Vals.inj t t']
section
variable {X : Cx} {pins : List (Addr × Obj)} {σ : St} {H : Hp} {s : Shared} {a : Addr} {xs ys : List V}
theorem SqL.of {K : PySem.W.Frag} (h : H a = some (.lst xs)) : SqL K H a xs := .inl (.inl h)
theorem SqT.of {K : PySem.W.Frag} (h : H a = some (.tup xs)) : SqT K H a xs := .inl (.inl h)
theorem Inv.list (I : Inv X pins σ H s) (h : SqL X.K H a xs) : ∃ its : List Value, Vals xs its ∧ PlainL s.heap a its.toArray ∧ xs.length ≤ sizeLine := by
  rcases h with h | ⟨o, its, n, hk, hc, hd, hs, hz, r⟩
  · obtain ⟨z, its, n, r, e⟩ := h.ok I.hok
    exact ⟨its, r, ⟨_, n, e, rfl, rfl, rfl⟩, z⟩
  · refine ⟨its.toList, r, ⟨o, n, I.kIn a o hk, hc, hd, by simpa using hs⟩, ?_⟩
    have e := r.length
    simp only [Array.length_toList] at e
    omega
theorem Inv.tuple (I : Inv X pins σ H s) (h : SqT X.K H a xs) : ∃ its : List Value, Vals xs its ∧ IsTup s.heap a its.toArray ∧ xs.length ≤ sizeLine := by
  rcases h with h | ⟨o, its, n, hk, hc, hs, hz, r⟩
  · obtain ⟨z, its, r, p⟩ := h.ok I.hok
    exact ⟨its, r, p.tup, z⟩
  · refine ⟨its.toList, r, ⟨o, I.kIn a o hk, hc, n, by simpa using hs⟩, ?_⟩
    have e := r.length
    simp only [Array.length_toList] at e
    omega
theorem Inv.list_inj (I : Inv X pins σ H s) (h : SqL X.K H a xs) (h' : SqL X.K H a ys) : xs = ys := by
  obtain ⟨its, r, ⟨o, n, e, _, _, d⟩, _⟩ := I.list h
  obtain ⟨its', r', ⟨o', n', e', _, _, d'⟩, _⟩ := I.list h'
  rw [e] at e'; cases e'
  rw [d] at d'
  injection d' with d1 _
  have : its = its' := by simpa using congrArg Array.toList d1
  subst this
  exact r.inj r'
theorem Inv.tuple_inj (I : Inv X pins σ H s) (h : SqT X.K H a xs) (h' : SqT X.K H a ys) : xs = ys := by
  obtain ⟨its, r, ⟨o, e, _, n, d⟩, _⟩ := I.tuple h
  obtain ⟨its', r', ⟨o', e', _, n', d'⟩, _⟩ := I.tuple h'
  rw [e] at e'; cases e'
  rw [d] at d'
  injection d' with d1 _
  have : its = its' := by simpa using congrArg Array.toList d1
  subst this
  exact r.inj r'
end

noncomputable abbrev Cx.wish (X : Cx) (E : Value → Shared → Prop) : Cx := { X with xe := E }
noncomputable abbrev Cx.nox (X : Cx) : Cx := X.wish fun _ _ => False
theorem Cx.Ok.wish {X : Cx} (ok : X.Ok) (E : Value → Shared → Prop) : (X.wish E).Ok :=
  ⟨ok.mod, ok.kind, ok.glob, ok.blt, ok.above, ok.inj, ok.has, ok.cab, ok.hd, ok.frames, ok.stk, ok.exf, ok.bs, ok.bsz, ok.noex, ok.exfs, ok.funs, ok.frf⟩
theorem Cx.Ok.unwish {X : Cx} {E : Value → Shared → Prop} (ok : (X.wish E).Ok) : X.Ok :=
  ⟨ok.mod, ok.kind, ok.glob, ok.blt, ok.above, ok.inj, ok.has, ok.cab, ok.hd, ok.frames, ok.stk, ok.exf, ok.bs, ok.bsz, ok.noex, ok.exfs, ok.funs, ok.frf⟩
section
variable {X : Cx} {pins : List (Addr × Obj)} {σ : St} {H : Hp} {s : Shared} {E : Value → Shared → Prop}
theorem Inv.wish (I : Inv X pins σ H s) (E : Value → Shared → Prop) : Inv (X.wish E) pins σ H s := ⟨I.ok.wish E, I.os, I.bare, I.base, I.loc, I.cell, I.free, I.freeC, I.pin, I.hok, I.len⟩
theorem Inv.unwish (I : Inv (X.wish E) pins σ H s) : Inv X pins σ H s := ⟨I.ok.unwish, I.os, I.bare, I.base, I.loc, I.cell, I.free, I.freeC, I.pin, I.hok, I.len⟩
theorem SP.unwish {D : Ends} {f : Flow} {s' : Shared} (h : SP (X.wish E) pins D f s') : SP X pins D f s' := by
  cases f with
  | next => obtain ⟨σ', H', I, q⟩ := h; exact ⟨σ', H', I.unwish, q⟩
  | brk => obtain ⟨σ', H', I, q⟩ := h; exact ⟨σ', H', I.unwish, q⟩
  | cont => obtain ⟨σ', H', I, q⟩ := h; exact ⟨σ', H', I.unwish, q⟩
  | ret u => obtain ⟨v, σ', H', I, r, q⟩ := h; exact ⟨v, σ', H', I.unwish, r, q⟩
theorem PSs.nox {st : List Stmt} {t : TS} (h : PSs X.nox st t) : PSs X st t := fun pins s σ H D I hw =>
  wpAny_mono (h pins s σ H D (I.wish _) hw) (fun _ _ q => q.unwish) fun _ _ z => False.elim z
end

section
variable {X : Cx} {st : Stmt} {rest : List Stmt} {t u : TS} {e : Expr} {te : TE} {pos : Pos}
noncomputable def tNext : TS := fun D σ H => D.nx σ H
noncomputable def tSeq (t u : TS) : TS := fun D σ H => t { D with nx := u D } σ H
theorem pss_nil : PSs X [] tNext := fun _ _ σ H _ I h => wpAny_execs_nil ⟨σ, H, I, h⟩
theorem pss_cons (h1 : PS X st t) (h2 : PSs X rest u) : PSs X (st :: rest) (tSeq t u) := by
  intro pins s σ H D I h
  refine wpAny_execs_cons (thn (h1 pins s σ H { D with nx := u D } I h) fun f s1 q => ?_)
  cases f with
  | next =>
    obtain ⟨σ', H', I', q⟩ := q
    exact h2 pins s1 σ' H' D I' q
  | ret v => exact q
  | brk => exact q
  | cont => exact q
theorem pss_one (h1 : PS X st t) : PSs X [st] t := by
  intro pins s σ H D I h
  refine wpAny_execs_cons (thn (h1 pins s σ H D I h) fun f s1 q => ?_)
  cases f with
  | next => exact wpAny_execs_nil q
  | ret v => exact q
  | brk => exact q
  | cont => exact q
theorem Inv.quiet {pins : List (Addr × Obj)} {σ : St} {H : Hp} {s : Shared} (I : Inv X pins σ H s) : interactive X.env = false := by simp [interactive, I.ok.kind]
noncomputable def tDrop (te : TE) : TS := fun D σ H => te σ H fun _ H1 => D.nx σ H1
theorem ps_expr (he : PE X e te) (hs : swapsWith e none pos.line X.env = pure false := by rfl) : PS X (.Expr e pos) (tDrop te) := by
  intro pins s σ H D I h
  exact wpAny_Expr_any (thn (he pins s σ H _ I h) fun v s1 ⟨x, H1, I1, r1, q1⟩ => ⟨σ, H1, I1, q1⟩) I.quiet hs
noncomputable def tRet (te : TE) : TS := fun D σ H => te σ H D.rt
theorem ps_ret (he : PE X e te) : PS X (.Return (some e) pos) (tRet te) := by
  intro pins s σ H D I h
  exact wpAny_Return_some (thn (he pins s σ H _ I h) fun v s1 ⟨x, H1, I1, r1, q1⟩ => ⟨x, σ, H1, I1, r1, q1⟩)
noncomputable def tIfS (c : TT) (t u : TS) : TS := fun D σ H => c σ H fun b H1 => if b = true then t D σ H1 else u D σ H1
theorem ps_if {c : Expr} {a b : List Stmt} {tc : TT} (hc : PT X c tc) (ha : PSs X a t) (hb : PSs X b u) : PS X (.If c a b pos) (tIfS tc t u) := by
  intro pins s σ H D I h
  refine wpAny_If (thn (hc pins s σ H _ I h) fun d s1 ⟨H1, I1, q1⟩ => ?_)
  cases d with
  | true => exact ha pins s1 σ H1 D I1 q1
  | false => exact hb pins s1 σ H1 D I1 q1
end

noncomputable abbrev TG := V → St → Hp → (St → Hp → Prop) → Prop
noncomputable abbrev TGs := List V → St → Hp → (St → Hp → Prop) → Prop
noncomputable def PG (X : Cx) (target : Expr) (t : TG) : Prop :=
  ∀ (pins : List (Addr × Obj)) (s : Shared) (σ : St) (H : Hp) (v : V) (u : Value) (Q : St → Hp → Prop), Inv X pins σ H s → RelV v u → t v σ H Q →
    wpAny (model X.prog X.w) X.A (assign target X.env u) (fun _ s' => ∃ σ' H', Inv X pins σ' H' s' ∧ Q σ' H') X.xe s
noncomputable def PGs (X : Cx) (ts : List Expr) (t : TGs) : Prop :=
  ∀ (pins : List (Addr × Obj)) (s : Shared) (σ : St) (H : Hp) (vs : List V) (us : List Value) (Q : St → Hp → Prop), Inv X pins σ H s → Vals vs us → t vs σ H Q →
    wpAny (model X.prog X.w) X.A (assignInOrder ((assignEach ts X.env).map (·.2)) us) (fun _ s' => ∃ σ' H', Inv X pins σ' H' s' ∧ Q σ' H') X.xe s
section
variable {X : Cx} {pos : Pos}
noncomputable def gName (i : Nat) : TG := fun v σ H Q => Q (σ.set i (some v)) H
theorem pg_name {i : Nat} {x : Str} (hN : X.N.Nodup) (hi : X.N[i]? = some x) (hx : Loc X.env.scope x) (hf : X.fn x = true ∨ X.env.scope.names.lookup x = some .local := by first | exact .inl rfl | exact .inr rfl | assumption) : PG X (.Name x pos) (gName i) := by
  intro pins s σ H v u Q I r h
  exact wpAny_assign_Name (store_ok I hN hi hx r (fun s' I' => ⟨_, H, I', h⟩) hf)
noncomputable def gNil : TGs := fun vs σ H Q => vs = [] ∧ Q σ H
noncomputable def gCons (t : TG) (u : TGs) : TGs := fun vs σ H Q => ∃ v r, vs = v :: r ∧ t v σ H fun σ' H' => u r σ' H' Q
theorem pgs_nil : PGs X [] gNil := by
  intro pins s σ H vs us Q I r h
  obtain ⟨e, h⟩ := h
  subst e
  cases r
  exact assignInOrder_nil ⟨σ, H, I, h⟩
theorem pgs_cons {e : Expr} {es : List Expr} {t : TG} {u : TGs} (h1 : PG X e t) (h2 : PGs X es u)
    (hs : (assignEach (e :: es) X.env).map (·.2) = assign e X.env :: (assignEach es X.env).map (·.2) := by rfl) : PGs X (e :: es) (gCons t u) := by
  intro pins s σ H vs us Q I r h
  obtain ⟨v, vr, e1, h⟩ := h
  subst e1
  cases r with
  | cons r rr =>
    rw [hs]
    refine assignInOrder_cons (thn (h1 pins s σ H _ _ _ I r h) fun _ s1 ⟨σ1, H1, I1, q1⟩ => ?_)
    exact h2 pins s1 σ1 H1 _ _ Q I1 rr q1
noncomputable def gTup (K : PySem.W.Frag) (n : Nat) (t : TGs) : TG := fun v σ H Q => ∃ a xs, v = .ref a ∧ SqT K H a xs ∧ xs.length = n ∧ t xs σ H Q
theorem pg_tup {es : List Expr} {k : Nat} {t : TGs} {n : Nat} (hc : X.calm = true) (h : PGs X es t)
    (hn : (assignEach es X.env).length = n := by rfl) (hst : (assignEach es X.env).findIdx? (·.1) = none := by rfl) : PG X (.Tuple es k pos) (gTup X.K n t) := by
  intro pins s σ H v u Q I r hw
  obtain ⟨a, xs, e1, hq, hl, hw⟩ := hw
  subst e1
  cases r
  obtain ⟨its, rv, ht, hz⟩ := I.tuple hq
  refine assign_Tuple_tuple (I.ok.hd hc) ht (by simp [hn, ← hl, rv.length]) hst fun h' hx => ?_
  have I1 : Inv X pins σ H { s with heap := h' } := I.kept (t' := s.toks) fun b o e => hx b o (Nat.ne_of_lt (Heap.lt_size e)) e
  exact h pins _ σ H xs _ Q I1 (by simpa using rv) hw
noncomputable def tAsg (te : TE) (g : TG) : TS := fun D σ H => te σ H fun x H1 => g x σ H1 D.nx
theorem ps_asg {tg e : Expr} {te : TE} {g : TG} (he : PE X e te) (hg : PG X tg g) (hs : swapsWithSole [tg] e pos.line X.env = pure false := by rfl) (hw : swappedStores [tg] e X.env = pure none := by rfl)
    (h1 : (assignEach [tg] X.env).map (·.2) = [assign tg X.env] := by rfl) : PS X (.Assign [tg] e pos) (tAsg te g) := by
  intro pins s σ H D I h
  refine wpAny_Assign_stores (thn (he pins s σ H _ I h) fun v s1 ⟨x, H1, I1, r1, q1⟩ => ?_) hs hw
  rw [h1]
  exact thn (hg pins s1 σ H1 x v _ I1 r1 q1) fun _ s2 q => q
theorem ps_set {i : Nat} {x : Str} {e : Expr} {te : TE} {pos' : Pos} (hN : X.N.Nodup) (hi : X.N[i]? = some x) (hx : Loc X.env.scope x) (he : PE X e te) (hs : swapsWith e (some (.Name x pos')) pos.line X.env = pure false := by rfl) (hf : X.fn x = true ∨ X.env.scope.names.lookup x = some .local := by first | exact .inl rfl | exact .inr rfl | assumption) :
    PS X (.Assign [.Name x pos'] e pos) (tAsg te (gName i)) := by
  intro pins s σ H D I h
  refine wpAny_Assign_Name (thn (he pins s σ H _ I h) fun v s1 ⟨y, H1, I1, r1, q1⟩ => ?_) hs
  exact store_ok I1 hN hi hx r1 (fun s2 I2 => ⟨_, H1, I2, q1⟩) hf
end

section
variable {X : Cx} {pos : Pos}
noncomputable def tWhile (c : TT) (tb : TS) : TS := fun D σ H => ∃ W : Nat → St → Hp → Prop, (∃ m, W m σ H) ∧ ∀ m σ H, W m σ H →
  c σ H fun b H1 => if b = true then ∃ N : St → Hp → Prop, (∀ σ' H', N σ' H' → ∃ m', m' < m ∧ W m' σ' H') ∧ tb { D with nx := N, ct := N, bk := D.nx } σ H1 else D.nx σ H1
theorem ps_while {c : Expr} {body : List Stmt} {tc : TT} {tb : TS} (hp : PassesOwn (model X.prog X.w) X.A X.env X.xe) (hc : PT X c tc) (hb : PSs X body tb) : PS X (.While c body [] pos) (tWhile tc tb) := by
  intro pins s σ H D I h
  obtain ⟨W, ⟨m0, w0⟩, turn⟩ := h
  refine wpAny_While (codeAny_whileLoop (fun n s' => ∃ σ' H', Inv X pins σ' H' s' ∧ W n σ' H') ?_ m0 ⟨σ, H, I, w0⟩)
  rintro n s1 ⟨σ1, H1, I1, w1⟩
  refine wpAny_passesOwn hp (thn (hc pins s1 σ1 H1 _ I1 (turn n σ1 H1 w1)) fun b s2 ⟨H2, I2, q2⟩ => ?_)
  cases b with
  | true =>
    obtain ⟨N, hN, q2⟩ := q2
    rw [if_pos rfl]
    refine wpAny_passesOwn hp (thn (hb pins s2 σ1 H2 _ I2 q2) fun f s3 q3 => ?_)
    cases f with
    | next =>
      obtain ⟨σ3, H3, I3, n3⟩ := q3
      obtain ⟨m', hm, w3⟩ := hN σ3 H3 n3
      exact ⟨m', hm, σ3, H3, I3, w3⟩
    | cont =>
      obtain ⟨σ3, H3, I3, n3⟩ := q3
      obtain ⟨m', hm, w3⟩ := hN σ3 H3 n3
      exact ⟨m', hm, σ3, H3, I3, w3⟩
    | brk => exact q3
    | ret v => exact q3
  | false =>
    rw [if_neg Bool.false_ne_true]
    exact wpAny_execs_nil ⟨σ1, H2, I2, q2⟩
end

structure It where
  go : Nat → Hp → Prop
  yld : Nat → Hp → V → Hp → Prop
  stop : Nat → Hp → Prop
noncomputable def FpOk (X : Cx) (pins : List (Addr × Obj)) (H : Hp) (b : Addr) : Prop :=
  H b = none ∧ b ≠ X.env.locals ∧ b ∉ X.fs ∧ (b ∈ X.ex ∨ X.s₀.heap.objs.size ≤ b) ∧ (∀ x c, X.env.cells.lookup x = some c → c ≠ b) ∧ ∀ p ∈ X.pn ++ pins, p.1 ≠ b
theorem Inv.fpOk {X : Cx} {pins : List (Addr × Obj)} {σ : St} {H H' : Hp} {s : Shared} {b : Addr} (I : Inv X pins σ H s) (hb : s.heap.objs.size ≤ b) (hn : H' b = none) : FpOk X pins H' b := by
  refine ⟨hn, Nat.ne_of_gt (Nat.lt_of_lt_of_le I.lt hb), I.nofs hb, .inr (Nat.le_trans I.sz hb), fun x c e z => ?_, fun p hp z => ?_⟩
  · obtain ⟨v, q⟩ := I.cell x c e
    exact absurd (Nat.lt_of_lt_of_le q.lt (by rw [z]; exact hb)) (Nat.lt_irrefl _)
  · exact absurd (Nat.lt_of_lt_of_le (Heap.lt_size (I.pin p hp).1) (by rw [z]; exact hb)) (Nat.lt_irrefl _)
structure Turn (P : Program) (w : World) (K : PySem.W.Frag) (tg : Expr) (J : It) (fp : List Addr) (it : Addr) (tn : Nat → Heap → Prop) : Prop where
  mem : it ∈ fp
  obj : ∀ i h, tn i h → ∀ b ∈ fp, ∃ o, h.get? b = some o ∧ ∀ v, o.data ≠ .cell v
  keep : ∀ i h h', tn i h → (∀ b ∈ fp, ∀ o, h.get? b = some o → h'.get? b = some o) → tn i h'
  item : ∀ (X : Cx), X.prog = P → X.w = w → X.K = K → X.calm = true → ∀ (i : Nat) (pins : List (Addr × Obj)) (s : Shared) (σ : St) (H : Hp) (E : Value → Shared → Prop), Inv X pins σ H s → (∀ b ∈ fp, FpOk X pins H b) → tn i s.heap → J.go i H →
    wpAny (model P w) X.A (pyNext (.ref it)) (fun r s1 => ∃ u, r = some u ∧
      wpAny (model P w) X.A (letOwnedTupleGo tg (.ref it) u) (fun _ s2 => ∃ x H', Inv X pins σ H' s2 ∧ RelV x u ∧ J.yld i H x H' ∧ tn (i + 1) s2.heap ∧ ∀ b ∈ fp, H' b = none) E s1) E s
  done : ∀ (X : Cx), X.prog = P → X.w = w → X.K = K → X.calm = true → ∀ (i : Nat) (pins : List (Addr × Obj)) (s : Shared) (σ : St) (H : Hp) (E : Value → Shared → Prop), Inv X pins σ H s → (∀ b ∈ fp, FpOk X pins H b) → tn i s.heap → J.stop i H →
    wpAny (model P w) X.A (pyNext (.ref it)) (fun r s1 => r = none ∧ Inv X pins σ H s1) E s
  self : ∀ (A : Around) (i : Nat) (s : Shared) (Q : Value → Shared → Prop) (E : Value → Shared → Prop), tn i s.heap → Q (.ref it) s → wpAny (model P w) A (pyIter (.ref it)) Q E s
noncomputable abbrev TI := St → Hp → (It → Hp → Prop) → Prop
noncomputable def PIE (X : Cx) (pins : List (Addr × Obj)) (σ : St) (tg : Expr) (R : It → Hp → Prop) (itv : Value) (s2 : Shared) : Prop :=
  ∃ (it : Addr) (fp : List Addr) (tn : Nat → Heap → Prop) (J : It) (H' : Hp), itv = .ref it ∧ Inv X pins σ H' s2 ∧ Turn X.prog X.w X.K tg J fp it tn ∧ tn 0 s2.heap ∧ (∀ b ∈ fp, FpOk X pins H' b) ∧ R J H'
noncomputable def PI (X : Cx) (tg iter : Expr) (wi : TI) : Prop :=
  ∀ (pins : List (Addr × Obj)) (s : Shared) (σ : St) (H : Hp) (R : It → Hp → Prop), Inv X pins σ H s → wi σ H R →
    wpAny (model X.prog X.w) X.A (eval iter X.env) (fun v s1 => wpAny (model X.prog X.w) X.A (pyIter v) (PIE X pins σ tg R) X.xe s1) X.xe s

theorem go_of {M : Model} {A : Around} {E : Value → Shared → Prop} {s : Shared} {tg : Expr} {it : Addr} {u : Value} {o : Obj} {n : String} {vs : Array Value} {Q : Unit → Shared → Prop} (ho : s.heap.get? it = some o) (hc : o.cls = .type n) (hd : o.data = .fields vs)
    (hn : ["enumerate", "zip", "dict_itemiterator", "dict_reverseitemiterator", "odict_iterator", "itertools.zip_longest", "itertools.pairwise"].contains n = false) (hQ : Q () s) : wpAny M A (letOwnedTupleGo tg (.ref it) u) Q E s := by
  unfold letOwnedTupleGo
  cases tg <;> first
    | exact wpAny_pure hQ
    | (cases u <;> first
        | exact wpAny_pure hQ
        | (refine wpAny_bind (wpAny_load ho ?_)
           rw [hc, hd]
           show wpAny M A (if (["enumerate", "zip", "dict_itemiterator", "dict_reverseitemiterator", "odict_iterator", "itertools.zip_longest", "itertools.pairwise"].contains n && vs[0]? == some (rawInt _)) = true then _ else _) Q E s
           rw [if_neg (by intro h; rw [hn, Bool.false_and] at h; cases h)]
           exact wpAny_pure hQ))

noncomputable def Itl (K : PySem.W.Frag) (a : Addr) : It :=
  ⟨fun i H => ∃ xs x, SqL K H a xs ∧ xs[i]? = some x, fun i H x H' => H' = H ∧ ∀ xs, SqL K H a xs → xs[i]? = some x, fun i H => ∃ xs, SqL K H a xs ∧ xs.length ≤ i⟩
noncomputable def Itt (K : PySem.W.Frag) (a : Addr) : It :=
  ⟨fun i H => ∃ xs x, SqT K H a xs ∧ xs[i]? = some x, fun i H x H' => H' = H ∧ ∀ xs, SqT K H a xs → xs[i]? = some x, fun i H => ∃ xs, SqT K H a xs ∧ xs.length ≤ i⟩
noncomputable def Itr (lo : Int) (n : Nat) : It := ⟨fun i _ => i < n, fun i H x H' => H' = H ∧ x = .int (lo + i), fun i _ => n ≤ i⟩
theorem turn_list {P : Program} {w : World} {K : PySem.W.Frag} {tg : Expr} (a it : Addr) : Turn P w K tg (Itl K a) [it] it (fun i h => h.IsListIter it a i) where
  mem := by simp
  obj := fun i h st b hb => by
    have e : b = it := by simpa using hb
    subst e
    obtain ⟨o, e, c, d⟩ := st
    exact ⟨o, e, fun v z => by rw [d] at z; cases z⟩
  keep := fun i h h' st k => st.at fun o e => k it (by simp) o e
  item := by
    intro X hP hw hK hc i pins s σ H E I hf st hg
    subst hP hw hK
    obtain ⟨xs, x, hq, hx⟩ := hg
    obtain ⟨its, rv, p, hz⟩ := I.list hq
    obtain ⟨u, hu, ru⟩ := rv.get hx
    obtain ⟨f0, f1, f2, f3, f4, f5⟩ := hf it (by simp)
    refine wpAny_pyNext_list_item st p.isList (x := u) (by simpa using hu) fun h' st' sb => ?_
    have I1 : Inv X pins σ H { s with heap := h' } := I.turned (t' := s.toks) (fun b o hb e => (sb.2 b hb).trans e) f0 f1 f3 f4 f5
    obtain ⟨o, e, c, d⟩ := id st'
    exact ⟨u, rfl, go_of (s := { s with heap := h' }) e c d (by decide) ⟨x, H, I1, ru, ⟨rfl, fun ys hy => by rw [I.list_inj hy hq]; exact hx⟩, st', fun b hb => (hf b hb).1⟩⟩
  done := by
    intro X hP hw hK hc i pins s σ H E I hf st hg
    subst hP hw hK
    obtain ⟨xs, hq, hx⟩ := hg
    obtain ⟨its, rv, p, hz⟩ := I.list hq
    obtain ⟨f0, f1, f2, f3, f4, f5⟩ := hf it (by simp)
    have hl := rv.length
    exact wpAny_pyNext_list_end (I.ok.hd hc) st p.isList (by simp; omega) fun h' eb => ⟨rfl, I.turned (t' := s.toks) (fun b o hb e => eb b o hb e) f0 f1 f3 f4 f5⟩
  self := fun _ _ _ _ _ st h => wpAny_pyIter_listiter st h
theorem turn_tuple {P : Program} {w : World} {K : PySem.W.Frag} {tg : Expr} (a it : Addr) : Turn P w K tg (Itt K a) [it] it (fun i h => h.IsTupleIter it a i) where
  mem := by simp
  obj := fun i h st b hb => by
    have e : b = it := by simpa using hb
    subst e
    obtain ⟨o, e, c, d⟩ := st
    exact ⟨o, e, fun v z => by rw [d] at z; cases z⟩
  keep := fun i h h' st k => st.at fun o e => k it (by simp) o e
  item := by
    intro X hP hw hK hc i pins s σ H E I hf st hg
    subst hP hw hK
    obtain ⟨xs, x, hq, hx⟩ := hg
    obtain ⟨its, rv, p, hz⟩ := I.tuple hq
    obtain ⟨u, hu, ru⟩ := rv.get hx
    obtain ⟨f0, f1, f2, f3, f4, f5⟩ := hf it (by simp)
    refine wpAny_pyNext_tuple_item st (show s.heap.IsTuple a its.toArray from p) (x := u) (by simpa using hu) fun h' st' sb => ?_
    have I1 : Inv X pins σ H { s with heap := h' } := I.turned (t' := s.toks) (fun b o hb e => (sb.2 b hb).trans e) f0 f1 f3 f4 f5
    obtain ⟨o, e, c, d⟩ := id st'
    exact ⟨u, rfl, go_of (s := { s with heap := h' }) e c d (by decide) ⟨x, H, I1, ru, ⟨rfl, fun ys hy => by rw [I.tuple_inj hy hq]; exact hx⟩, st', fun b hb => (hf b hb).1⟩⟩
  done := by
    intro X hP hw hK hc i pins s σ H E I hf st hg
    subst hP hw hK
    obtain ⟨xs, hq, hx⟩ := hg
    obtain ⟨its, rv, p, hz⟩ := I.tuple hq
    obtain ⟨f0, f1, f2, f3, f4, f5⟩ := hf it (by simp)
    have hl := rv.length
    exact wpAny_pyNext_tuple_end (I.ok.hd hc) st (show s.heap.IsTuple a its.toArray from p) (by simp; omega) fun h' eb => ⟨rfl, I.turned (t' := s.toks) (fun b o hb e => eb b o hb e) f0 f1 f3 f4 f5⟩
  self := fun _ _ _ _ _ st h => wpAny_pyIter_tupleiter st h
theorem turn_range {P : Program} {w : World} {K : PySem.W.Frag} {tg : Expr} (it : Addr) (lo : Int) (n : Nat) : Turn P w K tg (Itr lo n) [it] it (fun i h => IsRangeIter h it (lo + (i : Nat) * 1) ((n : Int) - (i : Nat)) 1) where
  mem := by simp
  obj := fun i h st b hb => by
    have e : b = it := by simpa using hb
    subst e
    exact ⟨_, st, fun v z => by
      have z' : Data.fields _ = Data.cell v := z
      cases z'⟩
  keep := fun i h h' st k => k it (by simp) _ st
  item := by
    intro X hP hw hK hc i pins s σ H E I hf st hg
    subst hP hw hK
    obtain ⟨f0, f1, f2, f3, f4, f5⟩ := hf it (by simp)
    have W := Walks.range (prog := X.prog) (w := X.w) (I.ok.hd hc) it lo 1 n
    refine W.item i s _ _ hg st fun v h' tk hv st' kk => ?_
    obtain ⟨t, rfl⟩ := hv
    have I1 : Inv X pins σ H { s with heap := h', toks := tk } := I.turned (fun b o hb e => kk b o (by simpa using hb) e) f0 f1 f3 f4 f5
    refine ⟨_, rfl, go_of (s := { s with heap := h', toks := tk }) (n := "range_iterator") st' rfl rfl (by decide) ⟨.int (lo + i), H, I1, ⟨t, ?_⟩, ⟨rfl, rfl⟩, st', fun b hb => (hf b hb).1⟩⟩
    rw [Int.mul_one]
  done := by
    intro X hP hw hK hc i pins s σ H E I hf st hg
    subst hP hw hK
    obtain ⟨f0, f1, f2, f3, f4, f5⟩ := hf it (by simp)
    exact wpAny_pyNext_range_end (I.ok.hd hc) st (by have : n ≤ i := hg; omega) fun h' eb => ⟨rfl, I.turned (t' := s.toks) (fun b o hb e => eb b o hb e) f0 f1 f3 f4 f5⟩
  self := fun _ _ _ _ _ st h => wpAny_pyIter_rangeiter st h
end L2

namespace L2
open PySem PySem.Spec PyProof.Rows
section
variable {X : Cx} {tg : Expr}
noncomputable def iList (K : PySem.W.Frag) (tl : TE) : TI := fun σ H R => tl σ H fun x H1 => ∃ a, x = .ref a ∧ (∃ xs, SqL K H1 a xs) ∧ R (Itl K a) H1
noncomputable def iTup (K : PySem.W.Frag) (tl : TE) : TI := fun σ H R => tl σ H fun x H1 => ∃ a, x = .ref a ∧ (∃ xs, SqT K H1 a xs) ∧ R (Itt K a) H1
theorem pi_list {l : Expr} {tl : TE} (hl : PE X l tl) : PI X tg l (iList X.K tl) := by
  intro pins s σ H R I h
  refine thn (hl pins s σ H _ I h) fun v s1 ⟨x, H1, I1, r1, q1⟩ => ?_
  obtain ⟨a, e, ⟨xs, hq⟩, q⟩ := q1
  subst e
  cases r1
  obtain ⟨its, rv, p, hz⟩ := I1.list hq
  refine wpAny_pyIter_list p.isList ?_
  refine ⟨s1.heap.objs.size, [s1.heap.objs.size], _, _, H1, rfl, I1.kept (t' := s1.toks) fun b o e => Heap.get?_push_of_some _ e, turn_list a _, ⟨_, Heap.get?_push_size _ rfl, rfl, rfl⟩, fun b hb => ?_, q⟩
  have e : b = s1.heap.objs.size := by simpa using hb
  subst e
  exact I1.fpOk (Nat.le_refl _) (I1.hok.fresh (Nat.le_refl _))
theorem pi_tup {l : Expr} {tl : TE} (hl : PE X l tl) : PI X tg l (iTup X.K tl) := by
  intro pins s σ H R I h
  refine thn (hl pins s σ H _ I h) fun v s1 ⟨x, H1, I1, r1, q1⟩ => ?_
  obtain ⟨a, e, ⟨xs, hq⟩, q⟩ := q1
  subst e
  cases r1
  obtain ⟨its, rv, p, hz⟩ := I1.tuple hq
  refine wpAny_pyIter_tuple (show s1.heap.IsTuple a its.toArray from p) ?_
  refine ⟨s1.heap.objs.size, [s1.heap.objs.size], _, _, H1, rfl, I1.kept (t' := s1.toks) fun b o e => Heap.get?_push_of_some _ e, turn_tuple a _, ⟨_, Heap.get?_push_size _ rfl, rfl, rfl⟩, fun b hb => ?_, q⟩
  have e : b = s1.heap.objs.size := by simpa using hb
  subst e
  exact I1.fpOk (Nat.le_refl _) (I1.hok.fresh (Nat.le_refl _))
theorem range_it {pins : List (Addr × Obj)} {σ : St} {H : Hp} {s : Shared} {R : It → Hp → Prop} {E : Value → Shared → Prop} {lo hi : Int} {t u v : Tok} {tk : Nat} (I : Inv X pins σ H s) (h1 : -(2 ^ 62) ≤ lo) (h2 : lo < 2 ^ 62) (h3 : -(2 ^ 62) ≤ hi) (h4 : hi < 2 ^ 62)
    (q : R (Itr lo (hi - lo).toNat) H) : wpAny (model X.prog X.w) X.A (pyIter (.ref s.heap.objs.size)) (PIE X pins σ tg R) E { s with heap := s.heap.push { cls := .type "range", data := .fields #[.int lo t, .int hi u, .int 1 v] }, toks := tk } := by
  refine wpAny_pyIter_range (IsRange.new ..) (small_one h1 h2 h3 h4) ?_
  have I1 : Inv X pins σ H { s with heap := s.heap.push { cls := .type "range", data := .fields #[.int lo t, .int hi u, .int 1 v] }, toks := tk } := I.kept fun b o e => Heap.get?_push_of_some _ e
  refine ⟨(s.heap.push { cls := .type "range", data := .fields #[.int lo t, .int hi u, .int 1 v] }).objs.size, [(s.heap.push { cls := .type "range", data := .fields #[.int lo t, .int hi u, .int 1 v] }).objs.size], _, _, H, rfl,
    I1.kept (t' := tk) fun b o e => Heap.get?_push_of_some _ e, turn_range _ lo (hi - lo).toNat, ?_, fun b hb => ?_, q⟩
  · have e1 : lo + ((0 : Nat) : Int) * 1 = lo := by simp
    have e2 : (((hi - lo).toNat : Nat) : Int) - ((0 : Nat) : Int) = Builtin.Range.rangeSize lo hi 1 := by rw [rangeSize_one]; split <;> omega
    show IsRangeIter _ _ (lo + ((0 : Nat) : Int) * 1) ((((hi - lo).toNat : Nat) : Int) - ((0 : Nat) : Int)) 1
    rw [e1, e2]
    exact Heap.get?_push_size _ rfl
  · have e : b = (s.heap.push { cls := .type "range", data := .fields #[.int lo t, .int hi u, .int 1 v] }).objs.size := by simpa using hb
    subst e
    exact I1.fpOk (Nat.le_refl _) (I1.hok.fresh (Nat.le_refl _))
noncomputable def iRng1 (ta : TA) : TI := fun σ H R => ta σ H fun vs H1 => ∃ j : Int, vs = [.int j] ∧ -(2 ^ 62) ≤ j ∧ j < 2 ^ 62 ∧ R (Itr 0 j.toNat) H1
noncomputable def iRng2 (ta : TA) : TI := fun σ H R => ta σ H fun vs H1 => ∃ i j : Int, vs = [.int i, .int j] ∧ (-(2 ^ 62) ≤ i ∧ i < 2 ^ 62 ∧ -(2 ^ 62) ≤ j ∧ j < 2 ^ 62) ∧ R (Itr i (j - i).toNat) H1
theorem pi_range1 {a : Expr} {ta : TA} {p pos : Pos} (hg : Gl X "range") (hm : X.mg "range" = none) (ha : PA X [a] ta) (hs : starEach [a] X.env = [(false, eval a X.env)] := by rfl) : PI X tg (.Call (.Name "range" p) [a] [] pos) (iRng1 ta) := by
  intro pins s σ H R I h
  refine Call_ (ld_blt I hg hm boot_range (PyProof.Rows.callWith_type1 (thn (ha pos pins s σ H _ I h) fun us s1 ⟨vs, H1, I1, r1, q1⟩ => ?_) hs rfl))
  obtain ⟨j, e, q1, q2, q⟩ := q1
  subst e
  cases r1 with
  | cons r rr =>
    cases rr
    obtain ⟨t, rfl⟩ := r
    exact call_range_1 (range_it I1 (by omega) (by omega) q1 q2 (by simpa using q))
theorem pi_range2 {a b : Expr} {ta : TA} {p pos : Pos} (hg : Gl X "range") (hm : X.mg "range" = none) (ha : PA X [a, b] ta) (hs : starEach [a, b] X.env = [(false, eval a X.env), (false, eval b X.env)] := by rfl) (hs2 : starEach [b] X.env = [(false, eval b X.env)] := by rfl) :
    PI X tg (.Call (.Name "range" p) [a, b] [] pos) (iRng2 ta) := by
  intro pins s σ H R I h
  refine Call_ (ld_blt I hg hm boot_range (PyProof.Rows.callWith_type1 (thn (ha pos pins s σ H _ I h) fun us s1 ⟨vs, H1, I1, r1, q1⟩ => ?_) (by rw [hs, hs2]) (by rw [hs2]; rfl)))
  obtain ⟨i, j, e, ⟨q1, q2, q3, q4⟩, q⟩ := q1
  subst e
  cases r1 with
  | cons r rr =>
    cases rr with
    | cons r' rr =>
      cases rr
      obtain ⟨t, rfl⟩ := r
      obtain ⟨t', rfl⟩ := r'
      exact call_range_2 (range_it I1 q1 q2 q3 q4 q)

noncomputable def tFor (wi : TI) (g : TG) (tb : TS) : TS := fun D σ H => wi σ H fun J H1 => ∃ W : Nat → Nat → St → Hp → Prop, (∃ m, W 0 m σ H1) ∧ ∀ i m σ H, W i m σ H →
  (J.stop i H ∧ D.nx σ H) ∨ (J.go i H ∧ ∃ N : St → Hp → Prop, (∀ σ' H', N σ' H' → ∃ m', m' < m ∧ W (i + 1) m' σ' H') ∧ ∀ x H', J.yld i H x H' → g x σ H' fun σ2 H2 => tb { D with nx := N, ct := N, bk := D.nx } σ2 H2)
noncomputable def pinsAt (fp : List Addr) (h : Heap) : List (Addr × Obj) := fp.filterMap fun b => (h.get? b).map fun o => (b, o)
theorem mem_pinsAt {fp : List Addr} {h : Heap} {b : Addr} {o : Obj} (hb : b ∈ fp) (e : h.get? b = some o) : (b, o) ∈ pinsAt fp h := List.mem_filterMap.mpr ⟨b, hb, by rw [e]; rfl⟩
theorem of_pinsAt {fp : List Addr} {h : Heap} {p : Addr × Obj} (hp : p ∈ pinsAt fp h) : p.1 ∈ fp ∧ h.get? p.1 = some p.2 := by
  obtain ⟨b, hb, e⟩ := List.mem_filterMap.mp hp
  cases q : h.get? b with
  | none => rw [q] at e; cases e
  | some o =>
    rw [q] at e
    have e' : (b, o) = p := Option.some.inj e
    subst e'
    exact ⟨hb, q⟩
theorem Inv.pinned {pins : List (Addr × Obj)} {σ : St} {H : Hp} {s : Shared} {fp : List Addr} (I : Inv X pins σ H s) (hf : ∀ b ∈ fp, FpOk X pins H b) (ho : ∀ b ∈ fp, ∃ o, s.heap.get? b = some o ∧ ∀ v, o.data ≠ .cell v) : Inv X (pins ++ pinsAt fp s.heap) σ H s :=
  I.pins_of fun p hp => (List.mem_append.mp hp).elim (fun z => I.pin p (List.mem_append_right _ z)) fun z => by
    obtain ⟨hb, e⟩ := of_pinsAt z
    obtain ⟨f0, f1, f2, _⟩ := hf p.1 hb
    obtain ⟨o, e', d⟩ := ho p.1 hb
    rw [e] at e'; cases e'
    exact ⟨e, f0, f1, f2, d⟩
theorem Inv.unpinned {pins pl : List (Addr × Obj)} {σ : St} {H : Hp} {s : Shared} (I : Inv X (pins ++ pl) σ H s) : Inv X pins σ H s := I.pins_of fun p hp => I.pin p (List.mem_append_right _ (List.mem_append_left _ hp))
theorem ps_for {iter : Expr} {body : List Stmt} {wi : TI} {g : TG} {tb : TS} {pos : Pos} (hp : PassesOwn (model X.prog X.w) X.A X.env X.xe) (hc : X.calm = true) (hi : PI X tg iter wi) (hg : PG X tg g) (hb : PSs X body tb)
    (hs : ∀ x, foldedSetIterable iter X.env x = pure x := by intro _; rfl) : PS X (.For tg iter body [] pos) (tFor wi g tb) := by
  intro pins s σ H D I h
  refine wpAny_For (thn (hi pins s σ H _ I h) fun v s1 h1 => thn h1 fun itv s2 h2 => ?_) hs
  obtain ⟨it, fp, tn, J, H2, e, I2, T, st2, f2, W, ⟨m0, w0⟩, turn⟩ := h2
  subst e
  -- what stays true of the iterator's objects through the loop
  have stat : ∀ {H' : Hp}, (∀ b ∈ fp, H' b = none) → ∀ b ∈ fp, FpOk X pins H' b := fun hn b hb => ⟨hn b hb, (f2 b hb).2⟩
  refine codeAny_forLoop_any (fun n s' => ∃ i σ' H', Inv X pins σ' H' s' ∧ tn i s'.heap ∧ (∀ b ∈ fp, H' b = none) ∧ W i n σ' H') ?_ m0 ⟨0, σ, H2, I2, st2, fun b hb => (f2 b hb).1, w0⟩
  rintro n s3 ⟨i, σ3, H3, I3, st3, fr3, w3⟩
  rcases turn i n σ3 H3 w3 with ⟨stop, qn⟩ | ⟨go, N, hN, step⟩
  · refine wpAny_passesOwn hp (thn (T.done X rfl rfl rfl hc i pins s3 σ3 H3 X.xe I3 (stat fr3) st3 stop) fun r s4 ⟨hr, I4⟩ => ?_)
    subst hr
    exact wpAny_execs_nil ⟨σ3, H3, I4, qn⟩
  · refine wpAny_passesOwn hp (thn (T.item X rfl rfl rfl hc i pins s3 σ3 H3 X.xe I3 (stat fr3) st3 go) fun r s4 ⟨u, hr, h4⟩ => ?_)
    subst hr
    refine wpAny_passesOwn hp (thn h4 fun _ s5 ⟨x, H5, I5, r5, y5, st5, fr5⟩ => ?_)
    have I5' := I5.pinned (stat fr5) (T.obj _ _ st5)
    refine wpAny_passesOwn hp (thn (hg _ s5 σ3 H5 x u _ I5' r5 (step x H5 y5)) fun _ s6 ⟨σ6, H6, I6, q6⟩ => ?_)
    refine wpAny_passesOwn hp (thn (hb _ s6 σ6 H6 _ I6 q6) fun f s7 q7 => ?_)
    have again : ∀ {σ7 : St} {H7 : Hp}, Inv X (pins ++ pinsAt fp s5.heap) σ7 H7 s7 → N σ7 H7 → ∃ m, m < n ∧ ∃ i σ' H', Inv X pins σ' H' s7 ∧ tn i s7.heap ∧ (∀ b ∈ fp, H' b = none) ∧ W i m σ' H' := fun {σ7 H7} I7 n7 => by
      obtain ⟨m', hm, w7⟩ := hN σ7 H7 n7
      refine ⟨m', hm, i + 1, σ7, H7, I7.unpinned, T.keep _ _ _ st5 fun b hb o e => (I7.pin (b, o) (List.mem_append_right _ (List.mem_append_right _ (mem_pinsAt hb e)))).1, fun b hb => ?_, w7⟩
      obtain ⟨o, e, d⟩ := T.obj _ _ st5 b hb
      exact (I7.pin (b, o) (List.mem_append_right _ (List.mem_append_right _ (mem_pinsAt hb e)))).2.1
    cases f with
    | next => obtain ⟨σ7, H7, I7, n7⟩ := q7; exact again I7 n7
    | cont => obtain ⟨σ7, H7, I7, n7⟩ := q7; exact again I7 n7
    | brk => obtain ⟨σ7, H7, I7, q7⟩ := q7; exact ⟨σ7, H7, I7.unpinned, q7⟩
    | ret v => obtain ⟨x7, σ7, H7, I7, r7, q7⟩ := q7; exact ⟨x7, σ7, H7, I7.unpinned, r7, q7⟩
end

theorem for_list {K : PySem.W.Frag} {a : Addr} {xs : List V} {g : TG} {tb : TS} {D : Ends} {σ : St} {H : Hp} (Pv : Nat → St → Hp → Prop) (h0 : Pv 0 σ H) (hl : ∀ i σ H, i ≤ xs.length → Pv i σ H → SqL K H a xs)
    (hs : ∀ i x σ H, xs[i]? = some x → Pv i σ H → g x σ H fun σ2 H2 => tb { D with nx := Pv (i + 1), ct := Pv (i + 1), bk := D.nx } σ2 H2) (hd : ∀ σ H, Pv xs.length σ H → D.nx σ H) :
    ∃ W : Nat → Nat → St → Hp → Prop, (∃ m, W 0 m σ H) ∧ ∀ i m σ H, W i m σ H →
      ((Itl K a).stop i H ∧ D.nx σ H) ∨ ((Itl K a).go i H ∧ ∃ N : St → Hp → Prop, (∀ σ' H', N σ' H' → ∃ m', m' < m ∧ W (i + 1) m' σ' H') ∧ ∀ x H', (Itl K a).yld i H x H' → g x σ H' fun σ2 H2 => tb { D with nx := N, ct := N, bk := D.nx } σ2 H2) := by
  refine ⟨fun i m σ H => m = xs.length - i ∧ i ≤ xs.length ∧ Pv i σ H, ⟨xs.length, by simp, Nat.zero_le _, h0⟩, ?_⟩
  rintro i m σ H ⟨rfl, hi, p⟩
  have q := hl i σ H hi p
  by_cases hlt : i < xs.length
  · refine .inr ⟨⟨xs, xs[i], q, by simp [hlt]⟩, Pv (i + 1), fun σ' H' p' => ⟨xs.length - (i + 1), by omega, rfl, hlt, p'⟩, fun x H' y => ?_⟩
    obtain ⟨e, y⟩ := y
    subst e
    exact hs i x σ _ (y xs q) p
  · have e : i = xs.length := by omega
    subst e
    exact .inl ⟨⟨xs, q, Nat.le_refl _⟩, hd σ H p⟩
theorem for_range {lo : Int} {n : Nat} {g : TG} {tb : TS} {D : Ends} {σ : St} {H : Hp} (Pv : Nat → St → Hp → Prop) (h0 : Pv 0 σ H)
    (hs : ∀ i σ H, i < n → Pv i σ H → g (.int (lo + i)) σ H fun σ2 H2 => tb { D with nx := Pv (i + 1), ct := Pv (i + 1), bk := D.nx } σ2 H2) (hd : ∀ σ H, Pv n σ H → D.nx σ H) :
    ∃ W : Nat → Nat → St → Hp → Prop, (∃ m, W 0 m σ H) ∧ ∀ i m σ H, W i m σ H →
      ((Itr lo n).stop i H ∧ D.nx σ H) ∨ ((Itr lo n).go i H ∧ ∃ N : St → Hp → Prop, (∀ σ' H', N σ' H' → ∃ m', m' < m ∧ W (i + 1) m' σ' H') ∧ ∀ x H', (Itr lo n).yld i H x H' → g x σ H' fun σ2 H2 => tb { D with nx := N, ct := N, bk := D.nx } σ2 H2) := by
  refine ⟨fun i m σ H => m = n - i ∧ i ≤ n ∧ Pv i σ H, ⟨n, by simp, Nat.zero_le _, h0⟩, ?_⟩
  rintro i m σ H ⟨rfl, hi, p⟩
  by_cases hlt : i < n
  · refine .inr ⟨hlt, Pv (i + 1), fun σ' H' p' => ⟨n - (i + 1), by omega, rfl, hlt, p'⟩, fun x H' y => ?_⟩
    obtain ⟨e, y⟩ := y
    subst e y
    exact hs i σ _ hlt p
  · have e : i = n := by omega
    subst e
    exact .inl ⟨Nat.le_refl _, hd σ H p⟩
end L2

namespace L2
open PySem PySem.Spec PyProof.Rows

noncomputable abbrev R2 := V → V → Hp → VK → Prop
noncomputable def OpR (X : Cx) (f : Value → Value → Sem Value) (r : R2) : Prop :=
  ∀ (pins : List (Addr × Obj)) (s : Shared) (σ : St) (H : Hp) (x y : V) (v u : Value) (Q : VK), Inv X pins σ H s → RelV x v → RelV y u → r x y H Q →
    wpAny (model X.prog X.w) X.A (f v u) (EP X pins σ Q) X.xe s
noncomputable def UnR (X : Cx) (f : Value → Sem Value) (r : V → Hp → VK → Prop) : Prop :=
  ∀ (pins : List (Addr × Obj)) (s : Shared) (σ : St) (H : Hp) (x : V) (v : Value) (Q : VK), Inv X pins σ H s → RelV x v → r x H Q →
    wpAny (model X.prog X.w) X.A (f v) (EP X pins σ Q) X.xe s
noncomputable def CallR (X : Cx) (f : Value) (r : List V → Hp → VK → Prop) : Prop :=
  ∀ (pins : List (Addr × Obj)) (s : Shared) (σ : St) (H : Hp) (xs : List V) (us : List Value) (Q : VK), Inv X pins σ H s → Vals xs us → r xs H Q →
    wpAny (model X.prog X.w) X.A (call f us) (EP X pins σ Q) X.xe s
noncomputable def TruR (X : Cx) (r : V → Hp → (Bool → Hp → Prop) → Prop) : Prop :=
  ∀ (pins : List (Addr × Obj)) (s : Shared) (σ : St) (H : Hp) (x : V) (v : Value) (Q : Bool → Hp → Prop), Inv X pins σ H s → RelV x v → r x H Q →
    wpAny (model X.prog X.w) X.A (truthy v) (TP X pins σ Q) X.xe s

noncomputable def tOp (r : R2) (ta tb : TE) : TE := fun σ H Q => ta σ H fun x H1 => tb σ H1 fun y H2 => r x y H2 Q
noncomputable def tUn (r : V → Hp → VK → Prop) (ta : TE) : TE := fun σ H Q => ta σ H fun x H1 => r x H1 Q
noncomputable def rI (C : Int → Int → Prop) (g : Int → Int → V) : R2 := fun x y H Q => ∃ i j, x = .int i ∧ y = .int j ∧ C i j ∧ Q (g i j) H
noncomputable def rI0 (g : Int → Int → V) : R2 := fun x y H Q => ∃ i j, x = .int i ∧ y = .int j ∧ Q (g i j) H
noncomputable def rU (g : Int → V) : V → Hp → VK → Prop := fun x H Q => ∃ i, x = .int i ∧ Q (g i) H

section
variable {X : Cx} {a b c : Expr} {ta tb tc : TE} {pos : Pos}

theorem binT (ha : PE X a ta) (hb : PE X b tb) {pins : List (Addr × Obj)} {s : Shared} {σ : St} {H : Hp} {R : V → V → Hp → Prop} (I : Inv X pins σ H s)
    (h : ta σ H fun x H1 => tb σ H1 fun y H2 => R x y H2) {Q : Value → Shared → Prop} {f : Value → Value → Sem Value}
    (hf : ∀ v u s2 x y H2, Inv X pins σ H2 s2 → RelV x v → RelV y u → R x y H2 → wpAny (model X.prog X.w) X.A (f v u) Q X.xe s2) :
    wpAny (model X.prog X.w) X.A (eval a X.env) (fun v s₁ => wpAny (model X.prog X.w) X.A (eval b X.env) (fun u s₂ => wpAny (model X.prog X.w) X.A (f v u) Q X.xe s₂) X.xe s₁) X.xe s := by
  refine thn (ha pins s σ H _ I h) fun v s1 ⟨x, H1, I1, r1, q1⟩ => ?_
  refine thn (hb pins s1 σ H1 _ I1 q1) fun u s2 ⟨y, H2, I2, r2, q2⟩ => ?_
  exact hf v u s2 x y H2 I2 r1 r2 q2

theorem pe_op {op : Operator} {r : R2} (ho : OpR X (binaryOp op) r) (ha : PE X a ta) (hb : PE X b tb) : PE X (.BinOp a op b pos) (tOp r ta tb) := by
  intro pins s σ H Q I h
  exact wpAny_BinOp (binT ha hb I h fun v u s2 x y H2 I2 rx ry q => ho pins s2 σ H2 x y v u Q I2 rx ry q)
theorem pe_un {op : UnaryOp} {r : V → Hp → VK → Prop} (ho : UnR X (unaryOp op) r) (ha : PE X a ta) : PE X (.UnaryOp op a pos) (tUn r ta) := by
  intro pins s σ H Q I h
  exact UnaryOp_ (thn (ha pins s σ H _ I h) fun v s1 ⟨x, H1, I1, r1, q1⟩ => ho pins s1 σ H1 x v Q I1 r1 q1)
theorem opI {f : Value → Value → Sem Value} {C : Int → Int → Prop} {g : Int → Int → Int}
    (rule : ∀ (i j : Int) (t u : Tok) (s : Shared) (Q : Value → Shared → Prop) (E : Value → Shared → Prop), C i j → Q (.int (g i j) s.toks) { s with toks := s.toks + 1 } → wpAny (model X.prog X.w) X.A (f (.int i t) (.int j u)) Q E s) :
    OpR X f (rI C fun i j => .int (g i j)) := by
  intro pins s σ H x y v u Q I rx ry h
  obtain ⟨i, j, rfl, rfl, hc, q⟩ := h
  obtain ⟨t, rfl⟩ := rx
  obtain ⟨t', rfl⟩ := ry
  exact rule i j t t' s _ _ hc ⟨.int (g i j), H, I.tok _, ⟨_, rfl⟩, q⟩
theorem opI0 {f : Value → Value → Sem Value} {g : Int → Int → Int}
    (rule : ∀ (i j : Int) (t u : Tok) (s : Shared) (Q : Value → Shared → Prop) (E : Value → Shared → Prop), Q (.int (g i j) s.toks) { s with toks := s.toks + 1 } → wpAny (model X.prog X.w) X.A (f (.int i t) (.int j u)) Q E s) :
    OpR X f (rI0 fun i j => .int (g i j)) := by
  intro pins s σ H x y v u Q I rx ry h
  obtain ⟨i, j, rfl, rfl, q⟩ := h
  obtain ⟨t, rfl⟩ := rx
  obtain ⟨t', rfl⟩ := ry
  exact rule i j t t' s _ _ ⟨.int (g i j), H, I.tok _, ⟨_, rfl⟩, q⟩
theorem opB0 {f : Value → Value → Sem Value} {g : Int → Int → Bool}
    (rule : ∀ (i j : Int) (t u : Tok) (s : Shared) (Q : Value → Shared → Prop) (E : Value → Shared → Prop), Q (.bool (g i j)) s → wpAny (model X.prog X.w) X.A (f (.int i t) (.int j u)) Q E s) :
    OpR X f (rI0 fun i j => .bl (g i j)) := by
  intro pins s σ H x y v u Q I rx ry h
  obtain ⟨i, j, rfl, rfl, q⟩ := h
  obtain ⟨t, rfl⟩ := rx
  obtain ⟨t', rfl⟩ := ry
  exact rule i j t t' s _ _ ⟨.bl (g i j), H, I, rfl, q⟩

noncomputable def CDiv (i j : Int) : Prop := 0 < j ∧ j < 1073741824
noncomputable def CPow (i j : Int) : Prop := 0 ≤ j ∧ j ≤ 1000000 ∧ i.natAbs < 2 ^ 64
noncomputable def CMul (i j : Int) : Prop := (-(2 ^ 64) < i ∧ i < 2 ^ 64) ∨ (-(2 ^ 64) < j ∧ j < 2 ^ 64)
theorem CMul.ok {i j : Int} (h : CMul i j) : IntMulOk i j := by
  rcases h with ⟨h1, h2⟩ | ⟨h1, h2⟩
  · exact .of_left (intBits_le_64 h1 h2)
  · exact .of_right (intBits_le_64 h1 h2)
theorem op_add : OpR X (binaryOp .Add) (rI0 fun i j => .int (i + j)) := opI0 fun _ _ _ _ _ _ _ q => add_int q
theorem op_sub : OpR X (binaryOp .Sub) (rI0 fun i j => .int (i - j)) := opI0 fun _ _ _ _ _ _ _ q => sub_int q
theorem op_mul : OpR X (binaryOp .Mult) (rI CMul fun i j => .int (i * j)) := opI fun _ _ _ _ _ _ _ hc q => mul_int q hc.ok
theorem op_fdiv : OpR X (binaryOp .FloorDiv) (rI CDiv fun i j => .int (i / j)) := opI fun i j _ _ _ _ _ hc q => by
  have h1 : (0 : Int) < j := hc.1
  have h2 : j < 1073741824 := hc.2
  exact floordiv_int (by omega) (by rw [Int.fdiv_eq_ediv_of_nonneg i (by omega)]; exact q) (.inl (PyProof.noPylong_small (by omega)))
theorem op_mod : OpR X (binaryOp .Mod) (rI (fun _ j => 0 < j) fun i j => .int (i % j)) := opI fun i j _ _ _ _ _ hc q => by
  have h1 : (0 : Int) < j := hc
  exact mod_int' (by omega) (by rw [Int.fmod_eq_emod_of_nonneg i (by omega)]; exact q)
theorem op_pow : OpR X (binaryOp .Pow) (rI CPow fun i j => .int (i ^ j.toNat)) := opI fun _ _ _ _ _ _ _ hc q => pow_int_small hc.1 hc.2.1 hc.2.2 q
theorem unI {f : Value → Sem Value} {g : Int → Int}
    (rule : ∀ (i : Int) (t : Tok) (s : Shared) (Q : Value → Shared → Prop) (E : Value → Shared → Prop), Q (.int (g i) s.toks) { s with toks := s.toks + 1 } → wpAny (model X.prog X.w) X.A (f (.int i t)) Q E s) :
    UnR X f (rU fun i => .int (g i)) := by
  intro pins s σ H x v Q I rx h
  obtain ⟨i, rfl, q⟩ := h
  obtain ⟨t, rfl⟩ := rx
  exact rule i t s _ _ ⟨.int (g i), H, I.tok _, ⟨_, rfl⟩, q⟩
theorem un_neg : UnR X (unaryOp .USub) (rU fun i => .int (-i)) := unI fun _ _ _ _ _ q => neg_int q
end

noncomputable def scal : V → V → Bool
  | .non, .non => true | .non, .int _ => true | .int _, .non => true | .non, .bl _ => true | .bl _, .non => true | .non, .str _ => true | .str _, .non => true
  | .int _, .int _ => true | .bl _, .bl _ => true | .str _, .str _ => true | .byt _, .byt _ => true
  | .int _, .str _ => true | .str _, .int _ => true | .bl _, .str _ => true | .str _, .bl _ => true
  | _, _ => false
noncomputable def rEq : R2 := fun x y H Q => scal x y = true ∧ Q (.bl (decide (x = y))) H
noncomputable def rNe : R2 := fun x y H Q => scal x y = true ∧ Q (.bl (!decide (x = y))) H

theorem dec_int {i j : Int} : decide (V.int i = V.int j) = (i == j) := by
  rw [Bool.eq_iff_iff]
  simp
theorem dec_bl {i j : Bool} : decide (V.bl i = V.bl j) = (i == j) := by
  rw [Bool.eq_iff_iff]
  simp
theorem dec_str {i j : Str} : decide (V.str i = V.str j) = (i == j) := by
  rw [Bool.eq_iff_iff]
  simp
theorem dec_byt {i j : Array UInt8} : decide (V.byt i = V.byt j) = (i.toList == j.toList) := by
  rw [Bool.eq_iff_iff]
  cases i
  cases j
  simp

section
variable {X : Cx} {a b c : Expr} {ta tb tc : TE} {pos : Pos}
theorem fin_bl {pins : List (Addr × Obj)} {σ : St} {H : Hp} {s : Shared} {Q : VK} {k k' : Bool} (I : Inv X pins σ H s) (q : Q (.bl k) H) (e : k = k') : EP X pins σ Q (.bool k') s := by
  subst e
  exact ⟨.bl k, H, I, rfl, q⟩
theorem op_eq : OpR X (compareOp .Eq) rEq := by
  intro pins s σ H x y v u Q I rx ry h
  obtain ⟨hs, q⟩ := h
  cases x with
  | non =>
    cases rx
    cases y with
    | non => cases ry; exact PySem.EqNone.eq_none_none (fin_bl I q (by simp))
    | bl j => cases ry; exact PySem.EqNone.eq_none_bool (fin_bl I q (by simp))
    | int j => obtain ⟨t', rfl⟩ := ry; exact PySem.EqNone.eq_none_int (fin_bl I q (by simp))
    | str j => obtain ⟨t', rfl⟩ := ry; exact PySem.EqNone.eq_none_str (fin_bl I q (by simp))
    | _ => exact absurd (show false = true from hs) Bool.false_ne_true
  | bl i =>
    cases rx
    cases y with
    | non => cases ry; exact PySem.EqNone.eq_bool_none (fin_bl I q (by simp))
    | bl j => cases ry; exact eq_bool (fin_bl I q dec_bl)
    | str j => obtain ⟨t', rfl⟩ := ry; exact PySem.EqMixed.eq_bool_str (fin_bl I q (by simp))
    | _ => exact absurd (show false = true from hs) Bool.false_ne_true
  | int i =>
    obtain ⟨t, rfl⟩ := rx
    cases y with
    | non => cases ry; exact PySem.EqNone.eq_int_none (fin_bl I q (by simp))
    | int j => obtain ⟨t', rfl⟩ := ry; exact eq_int (fin_bl I q dec_int)
    | str j => obtain ⟨t', rfl⟩ := ry; exact PySem.EqMixed.eq_int_str (fin_bl I q (by simp))
    | _ => exact absurd (show false = true from hs) Bool.false_ne_true
  | str i =>
    obtain ⟨t, rfl⟩ := rx
    cases y with
    | non => cases ry; exact PySem.EqNone.eq_str_none (fin_bl I q (by simp))
    | bl j => cases ry; exact PySem.EqMixed.eq_str_bool (fin_bl I q (by simp))
    | int j => obtain ⟨t', rfl⟩ := ry; exact PySem.EqMixed.eq_str_int (fin_bl I q (by simp))
    | str j => obtain ⟨t', rfl⟩ := ry; exact eq_str (fin_bl I q dec_str)
    | _ => exact absurd (show false = true from hs) Bool.false_ne_true
  | byt i =>
    obtain ⟨t, rfl⟩ := rx
    cases y with
    | byt j => obtain ⟨t', rfl⟩ := ry; exact PySem.W.eq_bytes (fin_bl I q dec_byt)
    | _ => exact absurd (show false = true from hs) Bool.false_ne_true
  | _ => cases y <;> exact absurd (show false = true from hs) Bool.false_ne_true
theorem op_ne : OpR X (compareOp .NotEq) rNe := by
  intro pins s σ H x y v u Q I rx ry h
  obtain ⟨hs, q⟩ := h
  cases x with
  | non =>
    cases rx
    cases y with
    | non => cases ry; exact PySem.EqNone.ne_none_none (fin_bl I q (by simp))
    | bl j => cases ry; exact PySem.EqNone.ne_none_bool (fin_bl I q (by simp))
    | int j => obtain ⟨t', rfl⟩ := ry; exact PySem.EqNone.ne_none_int (fin_bl I q (by simp))
    | str j => obtain ⟨t', rfl⟩ := ry; exact PySem.EqNone.ne_none_str (fin_bl I q (by simp))
    | _ => exact absurd (show false = true from hs) Bool.false_ne_true
  | bl i =>
    cases rx
    cases y with
    | non => cases ry; exact PySem.EqNone.ne_bool_none (fin_bl I q (by simp))
    | bl j => cases ry; exact ne_bool (fin_bl I q (congrArg not dec_bl))
    | str j => obtain ⟨t', rfl⟩ := ry; exact PySem.EqMixed.ne_bool_str (fin_bl I q (by simp))
    | _ => exact absurd (show false = true from hs) Bool.false_ne_true
  | int i =>
    obtain ⟨t, rfl⟩ := rx
    cases y with
    | non => cases ry; exact PySem.EqNone.ne_int_none (fin_bl I q (by simp))
    | int j => obtain ⟨t', rfl⟩ := ry; exact ne_int (fin_bl I q (congrArg not dec_int))
    | str j => obtain ⟨t', rfl⟩ := ry; exact PySem.EqMixed.ne_int_str (fin_bl I q (by simp))
    | _ => exact absurd (show false = true from hs) Bool.false_ne_true
  | str i =>
    obtain ⟨t, rfl⟩ := rx
    cases y with
    | non => cases ry; exact PySem.EqNone.ne_str_none (fin_bl I q (by simp))
    | bl j => cases ry; exact PySem.EqMixed.ne_str_bool (fin_bl I q (by simp))
    | int j => obtain ⟨t', rfl⟩ := ry; exact PySem.EqMixed.ne_str_int (fin_bl I q (by simp))
    | str j => obtain ⟨t', rfl⟩ := ry; exact ne_str (fin_bl I q (congrArg not dec_str))
    | _ => exact absurd (show false = true from hs) Bool.false_ne_true
  | byt i =>
    obtain ⟨t, rfl⟩ := rx
    cases y with
    | byt j => obtain ⟨t', rfl⟩ := ry; exact PySem.W.ne_bytes (fin_bl I q (congrArg not dec_byt))
    | _ => exact absurd (show false = true from hs) Bool.false_ne_true
  | _ => cases y <;> exact absurd (show false = true from hs) Bool.false_ne_true

theorem op_lt : OpR X (compareOp .Lt) (rI0 fun i j => .bl (decide (i < j))) := opB0 fun _ _ _ _ _ _ _ q => lt_int q
theorem op_gt : OpR X (compareOp .Gt) (rI0 fun i j => .bl (decide (j < i))) := opB0 fun _ _ _ _ _ _ _ q => gt_int q
theorem op_isN : OpR X (compareOp .Is) (fun x y H Q => y = .non ∧ Q (.bl (decide (x = .non))) H) := by
  intro pins s σ H x y v u Q I rx ry h
  obtain ⟨rfl, q⟩ := h
  cases ry
  refine is_none_gen (fin_bl I q ?_)
  cases x <;> first
    | (cases rx; rfl)
    | (obtain ⟨t, rfl⟩ := rx; rfl)
theorem nomark (b : Expr) {op : CmpOp} (h : op ≠ .In := by decide) (h2 : op ≠ .NotIn := by decide) : behindInMarks op b = false := by
  have e1 : (op == CmpOp.In) = false := by cases op <;> first | rfl | exact absurd rfl h
  have e2 : (op == CmpOp.NotIn) = false := by cases op <;> first | rfl | exact absurd rfl h2
  cases b <;> simp [behindInMarks, e1, e2]
theorem pe_cmpR {op : CmpOp} {r : R2} (ho : OpR X (compareOp op) r) (ha : PE X a ta) (hb : PE X b tb) (hm : behindInMarks op b = false) : PE X (.Compare a [op] [b] pos) (tOp r ta tb) := by
  intro pins s σ H Q I h
  exact wpAny_Compare1 (binT ha hb I h fun v u s2 x y H2 I2 rx ry q => ho pins s2 σ H2 x y v u Q I2 rx ry q) hm
noncomputable def tTest (t : TE) : TT := fun σ H Q => t σ H fun x H' => ∃ k, x = .bl k ∧ Q k H'
theorem pt_cmpR {op : CmpOp} {r : R2} (ho : OpR X (compareOp op) r) (ha : PE X a ta) (hb : PE X b tb) (hm : behindInMarks op b = false) : PT X (.Compare a [op] [b] pos) (tTest (tOp r ta tb)) := by
  intro pins s σ H Q I h
  refine wpAny_isTrue_Compare1 (thn (ha pins s σ H _ I h) fun v s1 ⟨x, H1, I1, r1, q1⟩ => thn (hb pins s1 σ H1 _ I1 q1) fun u s2 ⟨y, H2, I2, r2, q2⟩ =>
    thn (ho pins s2 σ H2 x y v u _ I2 r1 r2 q2) fun c s3 ⟨z, H3, I3, r3, k, e, q3⟩ => ?_) hm
  subst e
  cases r3
  exact wpAny_truthy_bool ⟨H3, I3, q3⟩
noncomputable def TruV (K : PySem.W.Frag) (x : V) (H : Hp) (k : Bool) : Prop :=
  match x with
  | .non => k = false
  | .bl b => k = b
  | .int i => k = (i != 0)
  | .str y => y.length ≤ sizeLine ∧ k = ((y.length : Int) != 0)
  | .byt y => y.size ≤ sizeLine ∧ k = ((y.size : Int) != 0)
  | .ref p => (∃ xs, SqL K H p xs ∧ k = !xs.isEmpty) ∨ (∃ xs, SqT K H p xs ∧ k = !xs.isEmpty) ∨ ∃ kvs, H p = some (.dK kvs) ∧ k = !kvs.isEmpty
  | _ => False
theorem isEmpty_kv {κ : Type} {kvs : List (κ × V)} {vs : List (κ × Value)} (r : KV kvs vs) : (!vs.isEmpty) = !kvs.isEmpty := by
  cases r <;> rfl
theorem isEmpty_of {xs : List V} {its : List Value} (r : Vals xs its) : (!its.toArray.isEmpty) = !xs.isEmpty := by
  cases r <;> simp
theorem line63 : (sizeLine : Nat) < 2 ^ 63 := by rw [sizeLine_eq]; decide
theorem tru_ok : TruR X (fun x H Q => ∃ k, TruV X.K x H k ∧ Q k H) := by
  intro pins s σ H x v Q I rx h
  obtain ⟨k, e, q⟩ := h
  have hl := line63
  have hs : sizeLine = 16777216 := sizeLine_eq
  cases x with
  | non =>
    cases rx
    have e' : k = false := e
    subst e'
    exact truthy_none ⟨H, I, q⟩
  | bl b =>
    cases rx
    have e' : k = b := e
    subst e'
    exact wpAny_truthy_bool ⟨H, I, q⟩
  | int i =>
    obtain ⟨t, rfl⟩ := rx
    have e' : k = (i != 0) := e
    subst e'
    exact PySem.P.truthy_int ⟨H, I, q⟩
  | str y =>
    obtain ⟨t, rfl⟩ := rx
    obtain ⟨hy, e'⟩ : y.length ≤ sizeLine ∧ k = ((y.length : Int) != 0) := e
    subst e'
    exact PySem.P.truthy_str (by omega) ⟨H, I.tok _, q⟩
  | byt y =>
    obtain ⟨t, rfl⟩ := rx
    obtain ⟨hy, e'⟩ : y.size ≤ sizeLine ∧ k = ((y.size : Int) != 0) := e
    subst e'
    exact PySem.W.truthy_bytes (by omega) ⟨H, I.tok _, q⟩
  | ref p =>
    cases rx
    have e' : (∃ xs, SqL X.K H p xs ∧ k = !xs.isEmpty) ∨ (∃ xs, SqT X.K H p xs ∧ k = !xs.isEmpty) ∨ ∃ kvs, H p = some (.dK kvs) ∧ k = !kvs.isEmpty := e
    rcases e' with ⟨xs, hx, e'⟩ | ⟨xs, hx, e'⟩ | ⟨kvs, hx, e'⟩
    · subst e'
      obtain ⟨its, r, pl, hz⟩ := I.list hx
      have hlen := r.length
      exact wpAny_truthy_list pl.isList (by simp only [List.size_toArray]; omega) ⟨H, I.tok _, by rw [isEmpty_of r]; exact q⟩
    · subst e'
      obtain ⟨its, r, pl, hz⟩ := I.tuple hx
      have hlen := r.length
      exact truthy_tuple pl (by simp only [List.size_toArray]; omega) ⟨H, I.tok _, by rw [isEmpty_of r]; exact q⟩
    · subst e'
      obtain ⟨hz, hS, vs, r, m⟩ : kvs.length ≤ sizeLine ∧ (p == sysModules) = false ∧ ∃ vs, KV kvs vs ∧ s.heap.DictOf (mixKind X.prog X.w) p vs := I.hok p _ hx
      have hlen : kvs.length = vs.length := Paired.length r
      exact wpAny_truthy_dict hS m (by omega) ⟨H, I.tok _, by rw [isEmpty_kv r]; exact q⟩
  | _ => exact (show False from e).elim
theorem pt_truth (ha : PE X a ta) (he : ∀ whole, isTrue a X.env whole = (do let v ← whole; standAt a.pos; holding [v] (truthy v))) :
    PT X a (fun σ H Q => ta σ H fun x H' => ∃ k, TruV X.K x H' k ∧ Q k H') := by
  intro pins s σ H Q I h
  exact isTrue_plain (thn (ha pins s σ H _ I h) fun v s1 ⟨x, H1, I1, r1, q1⟩ => tru_ok pins s1 σ H1 x v Q I1 r1 q1) (he _)

theorem op_add_str : OpR X (binaryOp .Add) (fun x y H Q => ∃ i j, x = .str i ∧ y = .str j ∧ i.length + j.length ≤ sizeLine ∧ Q (.str (i ++ j)) H) := by
  intro pins s σ H x y v u Q I rx ry h
  obtain ⟨i, j, rfl, rfl, hz, q⟩ := h
  obtain ⟨t, rfl⟩ := rx
  obtain ⟨t', rfl⟩ := ry
  exact add_str (fun t' tk => ⟨.str (i ++ j), H, I.tok _, ⟨_, rfl⟩, q⟩) hz
theorem vals1 {x : V} {us : List Value} (r : Vals [x] us) : ∃ u, us = [u] ∧ RelV x u := by
  cases r with
  | cons r1 r2 => cases r2; exact ⟨_, rfl, r1⟩
theorem vals2 {x y : V} {us : List Value} (r : Vals [x, y] us) : ∃ u w', us = [u, w'] ∧ RelV x u ∧ RelV y w' := by
  cases r with
  | cons r1 r2 =>
    cases r2 with
    | cons r3 r4 => cases r4; exact ⟨_, _, rfl, r1, r3⟩
theorem call_max2 (hc : X.calm = true) : CallR X (.builtin "max") (fun xs H Q => ∃ i j, xs = [.int i, .int j] ∧ Q (.int (if j > i then j else i)) H) := by
  intro pins s σ H xs us Q I r h
  obtain ⟨i, j, rfl, q⟩ := h
  obtain ⟨u, w', rfl, ⟨t, rfl⟩, ⟨t', rfl⟩⟩ := vals2 r
  refine max_two_ints (I.ok.hd hc) fun h' tk k => ⟨_, H, I.kept k, ?_, q⟩
  by_cases hj : j > i
  · rw [if_pos hj, if_pos hj]; exact ⟨_, rfl⟩
  · rw [if_neg hj, if_neg hj]; exact ⟨_, rfl⟩
theorem call_min2 (hc : X.calm = true) : CallR X (.builtin "min") (fun xs H Q => ∃ i j, xs = [.int i, .int j] ∧ Q (.int (if j < i then j else i)) H) := by
  intro pins s σ H xs us Q I r h
  obtain ⟨i, j, rfl, q⟩ := h
  obtain ⟨u, w', rfl, ⟨t, rfl⟩, ⟨t', rfl⟩⟩ := vals2 r
  refine min_two_ints (I.ok.hd hc) fun h' tk k => ⟨_, H, I.kept k, ?_, q⟩
  by_cases hj : j < i
  · rw [if_pos hj, if_pos hj]; exact ⟨_, rfl⟩
  · rw [if_neg hj, if_neg hj]; exact ⟨_, rfl⟩
theorem call_int1 : CallR X (.type "int") (fun xs H Q => (∃ i, xs = [.int i] ∧ Q (.int i) H) ∨ ∃ k, xs = [.bl k] ∧ Q (.int (if k then 1 else 0)) H) := by
  intro pins s σ H xs us Q I r h
  rcases h with ⟨i, rfl, q⟩ | ⟨k, rfl, q⟩
  · obtain ⟨u, rfl, t, rfl⟩ := vals1 r
    exact call_int_int ⟨.int i, H, I, ⟨_, rfl⟩, q⟩
  · obtain ⟨u, rfl, r1⟩ := vals1 r
    cases r1
    exact call_int_bool ⟨.int (if k then 1 else 0), H, I.tok _, ⟨_, rfl⟩, q⟩
end
end L2

namespace L2
open PySem PySem.Spec PyProof.Rows

structure ObjM (h : Heap) (x dx C : Addr) (mA : Str → Option Value) : Prop where
  obj : h.get? x = some (PySem.W.instObj C dx)
  ns : h.Ns1 dx mA
  ne : dx ≠ x

theorem lookIn_ns {h : Heap} {dx : Addr} {mA : Str → Option Value} (n : h.Ns1 dx mA) : ∃ od, h.get? dx = some od ∧ ∀ name, PySem.W.lookIn name od = some (mA name) := by
  obtain ⟨o, es, ep, ho, hd, hk, _, hm⟩ := n
  refine ⟨o, ho, fun name => ?_⟩
  have e := hm name
  unfold nsFind findBy at e
  rw [← Array.find?_toList] at e
  unfold PySem.W.lookIn
  rw [hd]
  dsimp only
  split
  · rename_i y q
    rw [q] at e
    exact congrArg some e
  · rename_i q
    rw [q] at e
    have a : es.toList.any (·.refKey) = false := by
      rw [List.any_eq_false]
      intro y hy
      obtain ⟨z, t, hkey⟩ := hk y (Array.mem_toList_iff.mp hy)
      simp [DictEntry.refKey, hkey]
    have a' : ¬ es.toList.any (·.refKey) = true := by rw [a]; exact Bool.false_ne_true
    rw [if_neg a']
    exact congrArg some e

theorem ObjM.look {h : Heap} {x dx C : Addr} {mA : Str → Option Value} (I : ObjM h x dx C mA) : ∃ od, PySem.W.InstAt h x (PySem.W.instObj C dx) C (some od) ∧ ∀ name, PySem.W.lookIn name od = some (mA name) :=
  let ⟨od, ho, hl⟩ := lookIn_ns I.ns
  ⟨od, ⟨I.obj, rfl, rfl, ho⟩, hl⟩

section
variable {prog : Program} {w : World} {A : Around} {E : Value → Shared → Prop} {s : Shared} {K : PySem.W.Frag} {x dx C f : Addr} {mA : Str → Option Value} {name : Str} {v : Value}

theorem get_map {expr : Bool} {Q : Value → Shared → Prop} (X : K.In s.heap) (I : ObjM s.heap x dx C mA) (hg : PySem.W.plainGet K C name = true) (hh : PySem.W.hasDictIn K C = true)
    (ha : PySem.W.findIn K (.ref C) name = some none) (hv : mA name = some v) (hv' : PySem.W.handedIn v = true) (h : Q v { s with toks := s.toks + 1 }) :
    wpAny (model prog w) A (getAttr (.ref x) name expr) Q E s := by
  obtain ⟨od, J, hl⟩ := I.look
  exact PySem.W.get_value X J (PySem.W.plainGet_of hg).1 (PySem.W.findObj_own hh ha rfl (by rw [hl, hv])) hv' h

theorem set_map {ns : List Str} {Q : Unit → Shared → Prop} (X : K.In s.heap) (I : ObjM s.heap x dx C mA)
    (hs : PySem.W.findIn K (.ref C) "__setattr__" = some (some (.builtin "object.__setattr__"))) (hp : PySem.W.plainOver K C = true) (ht : PySem.W.takerIn K C name = some none) (hh : PySem.W.hasDictIn K C = true)
    (hw : PySem.Within mA ns) (hsz : ns.length ≤ sizeLine)
    (h : ∀ h', ObjM h' x dx C (fun y => if y = name then some v else mA y) → Heap.SameBut dx s.heap h' → Q () { s with heap := h', toks := s.toks + 2 }) :
    wpAny (model prog w) A (setAttr (.ref x) name v) Q E s := by
  obtain ⟨od, J, hl⟩ := I.look
  refine PySem.W.set_plain X J hs (PySem.W.osa_open (s := { s with toks := s.toks + 1 }) (r := none) X J hp ht fun b => ?_)
  obtain ⟨cd, hc, hd'⟩ := PySem.W.any_some hh
  have hx : s.heap.get? x = some ⟨.ref C, some dx, .plain, #[]⟩ := I.obj
  refine wpAny_bind (wpAny_pure (wpAny_bind (wpAny_bind (wpAny_loadPart hx (wpAny_bind (PySem.W.Looks.here (s := { s with toks := s.toks + 1 }) (PySem.W.looks_clsIn X hc) ?_))))))
  rw [hd']
  refine wpAny_pure (a := some dx) (wpAny_bind (wpAny_pure (wpAny_bind ?_)))
  refine wpAny_nsSet1 (s := { s with toks := s.toks + 1 }) I.ns fun h' hn2 hs2 => ?_
  obtain ⟨oD, esD, epD, hoD, hdD, hcD⟩ := hn2.count (PySem.Within.cons name v hw)
  refine wpAny_bind (wpAny_lookBehind hoD (by rw [hdD]; exact pastItsLine_dict (Nat.le_trans hcD (by rw [List.length_cons]; omega))) ?_)
  exact wpAny_pure (h _ ⟨(hs2.2 _ (Ne.symm I.ne)).trans I.obj, hn2, I.ne⟩ hs2)

theorem make_map {R : Result → Shared → Prop} {vs : List Value} {kw : List (Str × Value)} (X : K.In s.heap) (hm : PySem.W.makesIn K C = true)
    (hi : PySem.W.findIn K (.ref C) "__init__" = some (some (.ref f))) (hf : PySem.W.typeIn K (.ref f) = some (.type "function"))
    (h : codeAny (model prog w) (A.under (.builtin "type.__call__" ⟨.ref C :: vs, kw⟩)) (.call (.ref f) ⟨.ref (s.heap.objs.size + 1) :: vs, kw⟩) (PySem.W.InitBack (s.heap.objs.size + 1) R)
      { s with heap := (s.heap.push PySem.W.emptyDict).push (PySem.W.instObj C s.heap.objs.size) }) :
    codeAny (model prog w) A (.call (.ref C) ⟨vs, kw⟩) R s := by
  obtain ⟨hh, g, d, t, os⟩ := s
  exact PySem.W.make_core (PySem.W.makes_of X hm) (PySem.W.looks_findIn X hi) (fun self => PySem.W.bind_fn X self hf) (.inl rfl) h
end

noncomputable def putF (f : Str) (v : V) : List (Str × V) → List (Str × V)
  | [] => [(f, v)]
  | (g, x) :: r => if g = f then (g, v) :: r else (g, x) :: putF f v r
theorem lookup_putF (f g : Str) (v : V) : ∀ fs : List (Str × V), (putF f v fs).lookup g = if g = f then some v else fs.lookup g
  | [] => by
    show List.lookup g [(f, v)] = _
    by_cases h : g = f
    · have hb : (g == f) = true := beq_iff_eq.mpr h
      simp only [List.lookup, hb, if_pos h]
    · have hb : (g == f) = false := beq_eq_false_iff_ne.mpr h
      simp only [List.lookup, hb, if_neg h]
  | (k, x) :: r => by
    have ih := lookup_putF f g v r
    rw [show putF f v ((k, x) :: r) = (if k = f then (k, v) :: r else (k, x) :: putF f v r) from rfl]
    by_cases hk : k = f
    · rw [if_pos hk]
      by_cases h : g = k
      · have hb : (g == k) = true := beq_iff_eq.mpr h
        simp only [List.lookup, hb, if_pos (h.trans hk)]
      · have hb : (g == k) = false := beq_eq_false_iff_ne.mpr h
        simp only [List.lookup, hb, if_neg (fun e : g = f => h (e.trans hk.symm))]
    · rw [if_neg hk]
      by_cases h : g = k
      · have hb : (g == k) = true := beq_iff_eq.mpr h
        simp only [List.lookup, hb, if_neg (fun e : g = f => hk (h.symm.trans e))]
      · have hb : (g == k) = false := beq_eq_false_iff_ne.mpr h
        simp only [List.lookup, hb]
        exact ih
theorem keys_putF (f : Str) (v : V) : ∀ fs : List (Str × V), f ∈ (putF f v fs).map (·.1) ∧ ∀ g, g ∈ fs.map (·.1) → g ∈ (putF f v fs).map (·.1)
  | [] => ⟨by simp [putF], fun g h => by simp at h⟩
  | (k, x) :: r => by
    obtain ⟨i1, i2⟩ := keys_putF f v r
    rw [show putF f v ((k, x) :: r) = (if k = f then (k, v) :: r else (k, x) :: putF f v r) from rfl]
    by_cases hk : k = f
    · rw [if_pos hk]
      subst hk
      exact ⟨by simp, fun g h => by simpa using h⟩
    · rw [if_neg hk]
      refine ⟨?_, fun g h => ?_⟩
      · rw [List.map_cons]
        exact List.mem_cons_of_mem _ i1
      · rw [List.map_cons] at h ⊢
        rcases List.mem_cons.mp h with e | e
        · exact List.mem_cons.mpr (.inl e)
        · exact List.mem_cons_of_mem _ (i2 g e)
theorem length_putF (f : Str) (v : V) : ∀ fs : List (Str × V), (putF f v fs).length ≤ fs.length + 1
  | [] => by simp [putF]
  | (k, x) :: r => by
    have ih := length_putF f v r
    rw [show putF f v ((k, x) :: r) = (if k = f then (k, v) :: r else (k, x) :: putF f v r) from rfl]
    by_cases hk : k = f
    · rw [if_pos hk, List.length_cons, List.length_cons]; omega
    · rw [if_neg hk, List.length_cons, List.length_cons]; omega

theorem RelO.some_of {v : V} {o : Option Value} (r : RelO (some v) o) : ∃ u, o = some u ∧ RelV v u := by
  cases o with
  | none => exact (show False from r).elim
  | some u => exact ⟨u, rfl, r⟩
theorem handed_of {v : V} {u : Value} (r : RelV v u) : PySem.W.handedIn u = true := by
  cases v with
  | non => cases (show u = Value.none from r); rfl
  | bl b => cases (show u = Value.bool b from r); rfl
  | int i => obtain ⟨t, e⟩ := (show ∃ t, u = Value.int i t from r); cases e; rfl
  | str x => obtain ⟨t, e⟩ := (show ∃ t, u = Value.str x t from r); cases e; rfl
  | byt b => obtain ⟨t, e⟩ := (show ∃ t, u = Value.bytes b t from r); cases e; rfl
  | flt b => obtain ⟨t, e⟩ := (show ∃ t, u = Value.float b t from r); cases e; rfl
  | ref a => cases (show u = Value.ref a from r); rfl
  | ty n => cases (show u = Value.type n from r); rfl

section
variable {P : Program} {w : World} {H H' : Hp} {h h' : Heap} {a C dx : Addr} {fs fs' : List (Str × V)}
theorem ins_get (hok : HOk P w H h) (e : H a = some (.ins C dx fs)) : ∃ mA, ObjM h a dx C mA ∧ (∀ f, RelO (fs.lookup f) (mA f)) ∧ PySem.Within mA (fs.map (·.1)) ∧ fs.length ≤ 1000 ∧ H dx = some (.own a) := by
  obtain ⟨d, z, ne, ob, mA, n, r, q⟩ := (show ObjOk P w H h a (.ins C dx fs) from hok a _ e)
  exact ⟨mA, ⟨ob, n, ne⟩, r, q, z, d⟩
end

structure Cls (K : PySem.W.Frag) (C : Addr) : Prop where
  pg : PySem.W.plainGet K C Str.empty = true
  hd : PySem.W.hasDictIn K C = true
  po : PySem.W.plainOver K C = true
  sa : PySem.W.findIn K (.ref C) "__setattr__" = some (some (.builtin "object.__setattr__"))
theorem Cls.get {K : PySem.W.Frag} {C : Addr} (c : Cls K C) (f : Str) : PySem.W.plainGet K C f = true := c.pg
noncomputable def NoAttr (K : PySem.W.Frag) (C : Addr) (f : Str) : Prop := PySem.W.findIn K (.ref C) f = some none
theorem NoAttr.taker {K : PySem.W.Frag} {C : Addr} {f : Str} (n : NoAttr K C f) : PySem.W.takerIn K C f = some none := by
  unfold PySem.W.takerIn
  rw [show PySem.W.findIn K (.ref C) f = some none from n]
  rfl
section
variable {X : Cx} {pins : List (Addr × Obj)} {σ : St} {H : Hp} {s : Shared} {a C dx : Addr} {fs : List (Str × V)} {f : Str} {v : V} {A : Around} {E : Value → Shared → Prop}

theorem getattr_ok {b : Bool} {Q : Value → Shared → Prop} (I : Inv X pins σ H s) (e : H a = some (.ins C dx fs)) (c : Cls X.K C) (n : NoAttr X.K C f) (l : fs.lookup f = some v)
    (h : ∀ u s', Inv X pins σ H s' → RelV v u → Q u s') : wpAny (model X.prog X.w) A (getAttr (.ref a) f b) Q E s := by
  obtain ⟨mA, O, r, _, _, _⟩ := ins_get I.hok e
  obtain ⟨u, hu, ru⟩ := RelO.some_of (v := v) (o := mA f) (by rw [← l]; exact r f)
  exact get_map I.kIn O (c.get f) c.hd n hu (handed_of ru) (h u _ (I.tok _) ru)

theorem setattr_ok {y : V} {u : Value} {Q : Unit → Shared → Prop} (I : Inv X pins σ H s) (e : H a = some (.ins C dx fs)) (c : Cls X.K C) (n : NoAttr X.K C f) (hl : fs.length < 1000) (ry : RelV y u)
    (h : ∀ s', Inv X pins σ (upd H a (.ins C dx (putF f y fs))) s' → Q () s') : wpAny (model X.prog X.w) A (setAttr (.ref a) f u) Q E s := by
  obtain ⟨mA, O, r, wi, _, ho⟩ := ins_get I.hok e
  have hz : (fs.map (·.1)).length ≤ sizeLine := by rw [List.length_map, sizeLine_eq]; omega
  refine set_map I.kIn O c.sa c.po n.taker c.hd wi hz fun h' O' sb => h _ ?_
  have hd : ∃ o, h'.get? dx = some o := let ⟨o, _, _, e', _⟩ := O'.ns; ⟨o, e'⟩
  refine I.write (x := a) (e := dx) (by rw [e]; exact True.intro) (.inr ho) (fun b q hb z => (sb.2 b hb).trans z) hd ?_
  refine ⟨by rw [upd_ne O.ne]; exact ho, ?_, O.ne, O'.obj, _, O'.ns, fun g => ?_, fun g hg => ?_⟩
  · have := length_putF f y fs; omega
  · show RelO ((putF f y fs).lookup g) (if g = f then some u else mA g)
    rw [lookup_putF]
    by_cases q : g = f
    · rw [if_pos q, if_pos q]; exact ry
    · rw [if_neg q, if_neg q]; exact r g
  · by_cases q : g = f
    · rw [q]; exact (keys_putF f y fs).1
    · refine (keys_putF f y fs).2 g (wi g fun z => hg ?_)
      show (if g = f then some u else mA g) = none
      rw [if_neg q]; exact z

theorem Inv.made (I : Inv X pins σ H s) : Inv X pins σ (upd (upd H s.heap.objs.size (.own (s.heap.objs.size + 1))) (s.heap.objs.size + 1) (.ins C s.heap.objs.size []))
    { s with heap := (s.heap.push PySem.W.emptyDict).push (PySem.W.instObj C s.heap.objs.size) } := by
  have e1 : (s.heap.push PySem.W.emptyDict).get? s.heap.objs.size = some PySem.W.emptyDict := Heap.get?_push_size s.heap rfl
  have e2 : ((s.heap.push PySem.W.emptyDict).push (PySem.W.instObj C s.heap.objs.size)).get? (s.heap.objs.size + 1) = some (PySem.W.instObj C s.heap.objs.size) := by
    have := Heap.get?_push_size (s.heap.push PySem.W.emptyDict) (o := PySem.W.instObj C s.heap.objs.size) rfl
    rwa [Heap.size_push] at this
  have e3 : (s.heap.push PySem.W.emptyDict).Ns s.heap.objs.size (fun _ => none) := ⟨PySem.W.emptyDict, #[], _, e1, rfl, (fun e he => absurd he (by simp)), fun _ => rfl⟩
  have I1 := I.laid (a := s.heap.objs.size) (o := .own (s.heap.objs.size + 1)) (h' := s.heap.push PySem.W.emptyDict) (t' := s.toks) (fun b u q => Heap.get?_push_of_some _ q) (Nat.le_refl _) ⟨_, e1⟩
  refine I1.laid (a := s.heap.objs.size + 1) (o := .ins C s.heap.objs.size []) (t' := s.toks) (fun b u q => Heap.get?_push_of_some _ q) (Nat.le_of_eq (Heap.size_push _ _)) ?_
  have ne : s.heap.objs.size ≠ s.heap.objs.size + 1 := Nat.ne_of_lt (Nat.lt_succ_self _)
  refine ⟨by rw [upd_ne ne, upd_same], Nat.zero_le _, ne, e2, fun _ => none, (Heap.Ns1.of_empty e3).at fun o q => Heap.get?_push_of_some _ q, fun _ => True.intro, fun y hy => absurd rfl hy⟩

theorem attr_of {prog : Program} {w : World} {env : Env} {e : Expr} {f : Str} {pos : Pos} {s : Shared} {Q : Value → Shared → Prop} (hb : attributeBase e f env (eval e env) = eval e env)
    (h : wpAny (model prog w) A (eval e env) (fun o s₁ => wpAny (model prog w) A (getAttr o f true) Q E s₁) E s) : wpAny (model prog w) A (eval (.Attribute e f pos) env) Q E s :=
  Attribute_any_ h (by rw [arm_eval_Attribute, hb])
end

noncomputable def tFld (K : PySem.W.Frag) (ta : TE) (f : Str) : TE := fun σ H Q => ta σ H fun x H1 => ∃ a C dx fs v, x = .ref a ∧ H1 a = some (.ins C dx fs) ∧ Cls K C ∧ NoAttr K C f ∧ fs.lookup f = some v ∧ Q v H1
noncomputable def sFld (K : PySem.W.Frag) (ta tv : TE) (f : Str) : TS := fun D σ H => tv σ H fun y H1 => ta σ H1 fun x H2 => ∃ a C dx fs, x = .ref a ∧ H2 a = some (.ins C dx fs) ∧ Cls K C ∧ NoAttr K C f ∧ fs.length < 1000 ∧
  D.nx σ (upd H2 a (.ins C dx (putF f y fs)))
section
variable {X : Cx} {o e value : Expr} {f : Str} {pos pos' tpos : Pos} {ta tv : TE}
theorem pe_fld (he : PE X e ta) (hb : attributeBase e f X.env (eval e X.env) = eval e X.env) : PE X (.Attribute e f pos) (tFld X.K ta f) := by
  intro pins s σ H Q I h
  refine attr_of hb (thn (he pins s σ H _ I h) fun u s1 ⟨x, H1, I1, rx, a, C, dx, fs, v, ex, ea, c, n, l, q⟩ => ?_)
  subst ex
  obtain rfl : u = Value.ref a := rx
  exact getattr_ok I1 ea c n l fun u' s2 I2 ru => ⟨v, H1, I2, ru, q⟩
theorem ps_fld (ha : PE X o ta) (hv : PE X value tv) (hs : swapsWith value (some (.Attribute o f pos')) pos.line X.env = pure false) : PS X (.Assign [.Attribute o f pos'] value pos) (sFld X.K ta tv f) := by
  intro pins s σ H D I h
  refine plainObj_wpAny_Assign_Attribute (thn (hv pins s σ H _ I h) fun u s1 ⟨y, H1, I1, ry, q⟩ => thn (ha pins s1 σ H1 _ I1 q) fun ov s2 ⟨x, H2, I2, rx, a, C, dx, fs, ex, ea, c, n, l, q2⟩ => ?_) hs
  subst ex
  obtain rfl : ov = Value.ref a := rx
  exact setattr_ok I2 ea c n l ry fun s3 I3 => ⟨σ, _, I3, q2⟩
end

section
variable {X : Cx} {pins : List (Addr × Obj)} {σ : St} {H : Hp} {s : Shared} {A : Around} {E : Value → Shared → Prop} {Q : Value → Shared → Prop} {c : Value} {b : Bool}
inductive TyOf (K : PySem.W.Frag) (H : Hp) : V → Value → Prop where
  | non : TyOf K H .non (.type "NoneType")
  | bl (x : Bool) : TyOf K H (.bl x) (.type "bool")
  | int (i : Int) : TyOf K H (.int i) (.type "int")
  | str (x : Str) : TyOf K H (.str x) (.type "str")
  | flt (x : UInt64) : TyOf K H (.flt x) (.type "float")
  | lst {a : Addr} {xs : List V} (e : H a = some (.lst xs)) : TyOf K H (.ref a) (.type "list")
  | frz {a : Addr} {o : Obj} {xs : List V} (e : H a = some (.frz o (.lst xs))) : TyOf K H (.ref a) (.type "list")
  | tup {a : Addr} {xs : List V} (e : H a = some (.tup xs)) : TyOf K H (.ref a) (.type "tuple")
  | dK {a : Addr} {kvs : List (Key × V)} (e : H a = some (.dK kvs)) : TyOf K H (.ref a) (.type "dict")
  | dT {a : Addr} {kvs : List (List Key × V)} (e : H a = some (.dT kvs)) : TyOf K H (.ref a) (.type "dict")
  | ins {a C dx : Addr} {fs : List (Str × V)} (e : H a = some (.ins C dx fs)) (cl : Cls K C) (ha : PySem.W.findIn K (.ref C) "__class__" = some (some (.builtin "object.__class__")))
      (hn : PySem.W.specialIn K (.builtin "object.__class__") "__get__" = some (some (.builtin "getset_descriptor.__get__"))) (htk : PySem.W.takesIn K (.builtin "object.__class__") = some true)
      (hm : PySem.W.mroIn K C (.type "object") = some true) : TyOf K H (.ref a) (.ref C)
theorem isinst_ok {x : V} {u t : Value} (I : Inv X pins σ H s) (rx : RelV x u) (ty : TyOf X.K H x t) (e : PySem.W.kitOne X.K t c = some b) (h : ∀ tk, Q (.bool b) { s with toks := tk }) :
    wpAny (model X.prog X.w) A (call (.builtin "isinstance") [u, c]) Q E s := by
  cases ty with
  | non => cases (show u = Value.none from rx); exact PySem.W.kia_one PySem.W.kitx_none I.kIn True.intro e (fun z => nomatch z) h
  | bl y => cases (show u = Value.bool y from rx); exact PySem.W.kia_one PySem.W.kitx_bool I.kIn True.intro e (fun z => nomatch z) h
  | int i => obtain ⟨t, q⟩ := (show ∃ t, u = Value.int i t from rx); cases q; exact PySem.W.kia_one PySem.W.kitx_int I.kIn True.intro e (fun z => nomatch z) h
  | str y => obtain ⟨t, q⟩ := (show ∃ t, u = Value.str y t from rx); cases q; exact PySem.W.kia_one PySem.W.kitx_str I.kIn True.intro e (fun z => nomatch z) h
  | flt y => obtain ⟨t, q⟩ := (show ∃ t, u = Value.float y t from rx); cases q; exact PySem.W.kia_one PySem.W.kitx_float I.kIn True.intro e (fun z => nomatch z) h
  | @lst a xs ea =>
    cases (show u = Value.ref a from rx)
    obtain ⟨_, _, n, _, h1⟩ := (show ObjOk X.prog X.w H s.heap a (.lst xs) from I.hok a _ ea)
    exact PySem.W.kia_one PySem.W.kitx_list I.kIn ⟨_, h1, rfl⟩ e (fun z => nomatch z) h
  | @frz a ob xs ea =>
    cases (show u = Value.ref a from rx)
    obtain ⟨_, _, _, n, _, h1⟩ := (show ObjOk X.prog X.w H s.heap a (.frz ob (.lst xs)) from I.hok a _ ea)
    exact PySem.W.kia_one PySem.W.kitx_list I.kIn ⟨_, h1, rfl⟩ e (fun z => nomatch z) h
  | @tup a xs ea =>
    cases (show u = Value.ref a from rx)
    obtain ⟨_, _, _, p⟩ := (show ObjOk X.prog X.w H s.heap a (.tup xs) from I.hok a _ ea)
    obtain ⟨o, h1, h2, _⟩ := p
    exact PySem.W.kia_one PySem.W.kitx_tuple I.kIn ⟨o, h1, h2⟩ e (fun z => nomatch z) h
  | @dK a kvs ea =>
    cases (show u = Value.ref a from rx)
    obtain ⟨_, _, vs, _, p⟩ := (show ObjOk X.prog X.w H s.heap a (.dK kvs) from I.hok a _ ea)
    obtain ⟨o, es, ep, h1, h2, _⟩ := p
    exact PySem.W.kia_one PySem.W.kitx_dict I.kIn ⟨o, h1, h2.1⟩ e (fun z => nomatch z) h
  | @dT a kvs ea =>
    cases (show u = Value.ref a from rx)
    obtain ⟨_, _, xs, _, o, es, ep, h1, h2, _⟩ := (show ObjOk X.prog X.w H s.heap a (.dT kvs) from I.hok a _ ea)
    exact PySem.W.kia_one PySem.W.kitx_dict I.kIn ⟨o, h1, h2.1⟩ e (fun z => nomatch z) h
  | @ins a C dx fs ea cl ha hn htk hm =>
    cases (show u = Value.ref a from rx)
    obtain ⟨mA, O, _⟩ := ins_get I.hok ea
    obtain ⟨od, J, _⟩ := O.look
    exact PySem.W.kia_one (PySem.W.kitx_own (cl.get _) cl.hd ha hn htk hm) I.kIn J e (fun z => nomatch z) h
end
end L2

namespace L2
open PySem PySem.Spec PyProof.Rows

structure Room (k : Nat) (A : Around) : Prop where
  hd : A.handled = none
  dp : A.depth + 3 * k + 5 < recursionLimit
  un : A.units + 16 * k + 200 < cLine
  gd : A.guards = some []
theorem Room.mono {j k : Nat} {A : Around} (r : Room k A) (h : j ≤ k) : Room j A := ⟨r.hd, by have := r.dp; omega, by have := r.un; omega, r.gd⟩
theorem Room.deeper {k : Nat} {A : Around} (r : Room (k + 1) A) (env : Env) : Room k (A.deeper env) :=
  ⟨r.hd, by have := r.dp; show A.depth + 1 + 3 * k + 5 < _; omega, by have := r.un; show A.units + 3 + 16 * k + 200 < _; omega, r.gd⟩
theorem make_depth {A : Around} {C : Addr} {us : List Value} {kw : List (Str × Value)} : (A.under (.builtin "type.__call__" ⟨.ref C :: us, kw⟩)).depth = A.depth + 1 := by
  first | rfl | simp [Around.under, Code.weight, Code.isCreation, Code.isGuard, Code.isCaller, Code.frames, Code.isFrame, guardIds]
theorem make_units {A : Around} {C : Addr} {us : List Value} {kw : List (Str × Value)} : (A.under (.builtin "type.__call__" ⟨.ref C :: us, kw⟩)).units = A.units + 1 := by
  first | rfl | simp [Around.under, Code.cUnits, Code.frames, Code.isFrame]
theorem make_guards {A : Around} {C : Addr} {us : List Value} {kw : List (Str × Value)} : (A.under (.builtin "type.__call__" ⟨.ref C :: us, kw⟩)).guards = A.guards := by
  have : Code.guards (.builtin "type.__call__" ⟨.ref C :: us, kw⟩) = [] := by first | rfl | simp [Code.guards, Code.isGuard, guardIds]
  show pushGuards (Code.guards (.builtin "type.__call__" ⟨.ref C :: us, kw⟩)) A.guards = A.guards
  rw [this]
  cases A.guards <;> rfl
theorem Room.make {k : Nat} {A : Around} (r : Room (k + 1) A) (C : Addr) (us : List Value) (kw : List (Str × Value)) : Room k (A.under (.builtin "type.__call__" ⟨.ref C :: us, kw⟩)) :=
  ⟨r.hd, by have := r.dp; rw [make_depth]; omega, by have := r.un; rw [make_units]; omega, by rw [make_guards]; exact r.gd⟩
theorem Room.depth {k : Nat} {A : Around} (r : Room k A) : A.depth < recursionLimit := by have := r.dp; omega
theorem Room.units {k : Nat} {A : Around} (r : Room k A) : A.units + 64 < cLine := by have := r.un; omega
noncomputable def tNil : TA := fun _ H Q => Q [] H
noncomputable def tCons (ta : TE) (tr : TA) : TA := fun σ H Q => ta σ H fun x H1 => tr σ H1 fun xs H2 => Q (x :: xs) H2
section
variable {X : Cx} {e : Expr} {es : List Expr} {te : TE} {t : TA} {pos : Pos}
theorem pa_nil : PA X [] tNil := fun _ _ _ _ H Q I h => Calls.spliced_nil ⟨[], H, I, .nil, h⟩
theorem pa_cons (ha : PE X e te) (hr : PA X es t) (hs : starEach (e :: es) X.env = (false, eval e X.env) :: starEach es X.env := by rfl) : PA X (e :: es) (tCons te t) := by
  intro pos pins s σ H Q I h
  rw [hs]
  show wpAny _ _ (spliced ((false, eval e X.env) :: backTo pos (starEach es X.env))) _ _ s
  refine Calls.spliced_cons (thn (ha pins s σ H _ I h) fun u s1 ⟨x, H1, I1, r1, q1⟩ => ?_)
  exact thn (hr pos pins s1 σ H1 _ I1 q1) fun us s2 ⟨xs, H2, I2, r2, q2⟩ => ⟨x :: xs, H2, I2, .cons r1 r2, q2⟩

noncomputable def tTup (t : TA) : TE := fun σ H Q => t σ H fun xs H1 => xs.length ≤ sizeLine ∧ ∀ p, H1 p = none → Q (.ref p) (upd H1 p (.tup xs))
noncomputable def tLst (t : TA) : TE := fun σ H Q => t σ H fun xs H1 => xs.length ≤ sizeLine ∧ ∀ p, H1 p = none → Q (.ref p) (upd H1 p (.lst xs))
theorem pe_tup {x1} (h : PA X es t) : PE X (.Tuple es x1 pos) (tTup t) := by
  intro pins s σ H Q I hq
  refine wpAny_Tuple_spliced (thn (h pos pins s σ H _ I hq) fun us s1 ⟨xs, H1, I1, r, z, q⟩ => ⟨by rw [← r.length]; exact z, ?_⟩)
  have hf : H1 s1.heap.objs.size = none := I1.hok.fresh (Nat.le_refl _)
  refine ⟨.ref s1.heap.objs.size, upd H1 s1.heap.objs.size (.tup xs), I1.laid (t' := s1.toks) (fun b u e => Heap.get?_push_of_some _ e) (Nat.le_refl _) ?_, rfl, q _ hf⟩
  exact ⟨z, us, r, ⟨_, Heap.get?_push_size _ rfl, rfl, ⟨_, rfl⟩, rfl⟩⟩
theorem pe_lst (h : PA X es t) : PE X (.List es pos) (tLst t) := by
  intro pins s σ H Q I hq
  refine wpAny_List_spliced (thn (h pos pins s σ H _ I hq) fun us s1 ⟨xs, H1, I1, r, z, q⟩ => ⟨by rw [← r.length]; exact z, ?_⟩)
  have hf : H1 s1.heap.objs.size = none := I1.hok.fresh (Nat.le_refl _)
  refine ⟨.ref s1.heap.objs.size, upd H1 s1.heap.objs.size (.lst xs), I1.laid (t' := s1.toks) (fun b u e => Heap.get?_push_of_some _ e) (Nat.le_refl _) ?_, rfl, q _ hf⟩
  exact ⟨z, us, 0, r, Heap.get?_push_size _ rfl⟩
end

noncomputable abbrev Sp := List V → Hp → VK → XK → Prop
noncomputable abbrev CXT := List Env → Hp → Shared → XK → Value → Shared → Prop

structure Env0 (P : Program) (w : World) (K : PySem.W.Frag) (mg : Str → Option Value) (base : Heap) (A : Around) (outer : List Env) (s : Shared) (H : Hp) : Prop where
  frames : A.frames = some outer
  mod : Mod K mg base
  bs : ∀ b o, base.get? b = some o → s.heap.get? b = some o ∧ H b = none
  bsz : base.objs.size ≤ s.heap.objs.size
  funs : s.heap.FunFrames base outer
  frf : ∀ b ∈ frs outer, H b = none
  hok : HOk P w H s.heap
  bare : AllBare s.gens
noncomputable def CE (outer : List Env) (P : Program) (w : World) (H : Hp) (s : Shared) (Q : VK) (u : Value) (s' : Shared) : Prop :=
  ∃ v H', s'.os = s.os ∧ AllBare s'.gens ∧ Un (frs outer) [] H H' s.heap s'.heap ∧ HOk P w H' s'.heap ∧ RelV v u ∧ Q v H'
noncomputable def CR (CX : CXT) (outer : List Env) (P : Program) (w : World) (H : Hp) (s : Shared) (Q : VK) (E : XK) (r : Result) (s' : Shared) : Prop :=
  match r with
  | .ok (.ret u) => CE outer P w H s Q u s'
  | .ok _ => False
  | .error e => CX outer H s E e s'
structure FnOk (P : Program) (w : World) (K : PySem.W.Frag) (mg : Str → Option Value) (base : Heap) (CX : CXT) (k : Nat) (f : Addr) (fd : FuncData) (ps : List Str) (sp : Sp) : Prop where
  len : ∀ vs H Q E, sp vs H Q E → vs.length = ps.length
  run : ∀ (A : Around) (outer : List Env) (s : Shared) (H : Hp) (args : Args) (us : List Value) (vs : List V) (Q : VK) (E : XK), Room k A → Env0 P w K mg base A outer s H → BindsTo s fd args (ps.zip us) → Vals vs us → sp vs H Q E →
    codeAny (model P w) A (.call (.ref f) args) (CR CX outer P w H s Q E) s
theorem Env0.make {P : Program} {w : World} {K : PySem.W.Frag} {mg : Str → Option Value} {base : Heap} {A : Around} {outer : List Env} {s : Shared} {H : Hp} (e : Env0 P w K mg base A outer s H) (C : Addr) (us : List Value) (kw : List (Str × Value)) :
    Env0 P w K mg base (A.under (.builtin "type.__call__" ⟨.ref C :: us, kw⟩)) outer s H := ⟨by first | exact e.frames | (simpa [Around.under, Code.envs, Code.isFrame, pushEnvs] using e.frames), e.mod, e.bs, e.bsz, e.funs, e.frf, e.hok, e.bare⟩
section
variable {X : Cx} {pins : List (Addr × Obj)} {σ : St} {H : Hp} {s s' : Shared}
theorem Inv.env0 (I : Inv X pins σ H s) : Env0 X.prog X.w X.K X.mg X.base X.A X.stack s H :=
  ⟨I.ok.frames, I.ok.mod, I.bs, Nat.le_trans I.ok.bsz I.sz, I.stack, I.stkFree, I.hok, I.bare⟩
theorem Inv.after {Q : VK} {u : Value} (I : Inv X pins σ H s) (h : CE X.stack X.prog X.w H s Q u s') : EP X pins σ Q u s' := by
  obtain ⟨v, H', os, bare, un, hok, r, q⟩ := h
  obtain ⟨hh, g, d, t, os'⟩ := s'
  obtain rfl : os' = s.os := os
  exact ⟨v, H', I.call (h' := hh) (g' := g) (d' := d) (t' := t) (ch := []) un hok bare (fun b z => absurd z (by simp)), r, q⟩
end

noncomputable def tCall (sp : Sp) (dvs : List V) (E : XK) (t : TA) : TE := fun σ H Q => t σ H fun vs H1 => sp (vs ++ dvs) H1 Q E
noncomputable def tMake (C : Addr) (sp : Sp) (dvs : List V) (E : XK) (t : TA) : TE := fun σ H Q => t σ H fun vs H1 => ∀ x dx, H1 x = none → H1 dx = none → dx ≠ x →
  sp (.ref x :: (vs ++ dvs)) (upd (upd H1 dx (.own x)) x (.ins C dx [])) (fun v H2 => v = .non ∧ Q (.ref x) H2) E

noncomputable def Binds (K : PySem.W.Frag) (fd : FuncData) (ps : List Str) (ds : List Value) : Prop :=
  ∀ (s : Shared) (us : List Value), K.In s.heap → (us ++ ds).length = ps.length → BindsTo s fd ⟨us, []⟩ (ps.zip (us ++ ds))
theorem Binds.all {K : PySem.W.Frag} {fd : FuncData} {ps : List Str} (h : ∀ us : List Value, us.length = ps.length → bindArgs fd ⟨us, []⟩ = pure (ps.zip us)) : Binds K fd ps [] := fun s us _ hl => by
  rw [List.append_nil] at hl ⊢
  exact .of_eq (h us hl)

noncomputable def Passes (CX : CXT) (X : Cx) (E : XK) : Prop := ∀ (pins : List (Addr × Obj)) (σ : St) (H : Hp) (s : Shared) (e : Value) (s' : Shared), Inv X pins σ H s → CX X.stack H s E e s' → X.xe e s'

section
variable {X : Cx} {CX : CXT} {k : Nat} {f C : Addr} {fd : FuncData} {ps : List Str} {sp : Sp} {dvs : List V} {ds : List Value} {E : XK} {x m : Str} {p pos apos : Pos} {e o : Expr} {es : List Expr} {ta : TE} {t : TA}

theorem run_fn {pins : List (Addr × Obj)} {σ : St} {H : Hp} {s : Shared} {Q : VK} {us : List Value} {vs : List V} (F : FnOk X.prog X.w X.K X.mg X.base CX k f fd ps sp) (hr : Room k X.A) (hb : Binds X.K fd ps ds) (hd : Vals dvs ds) (hx : Passes CX X E)
    (I : Inv X pins σ H s) (r : Vals vs us) (h : sp (vs ++ dvs) H Q E) : wpAny (model X.prog X.w) X.A (call (.ref f) us) (EP X pins σ Q) X.xe s := by
  have r2 : Vals (vs ++ dvs) (us ++ ds) := r.append hd
  have hl : (us ++ ds).length = ps.length := by rw [← r2.length]; exact F.len _ _ _ _ h
  refine wpAny_call (codeAny_mono (F.run X.A X.stack s H ⟨us, []⟩ (us ++ ds) (vs ++ dvs) Q E hr I.env0 (hb s us I.kIn hl) r2 h) fun r s' hq => ?_)
  cases r with
  | error e => exact hx pins σ H s e s' I hq
  | ok fl =>
    cases fl with
    | ret u => exact I.after hq
    | next => exact False.elim hq
    | brk => exact False.elim hq
    | cont => exact False.elim hq

theorem pe_call (F : FnOk X.prog X.w X.K X.mg X.base CX k f fd ps sp) (hr : Room k X.A) (hg : Gl X x) (hm : X.mg x = some (.ref f)) (hk : PySem.W.keepIn X.K (.ref f) = true) (hb : Binds X.K fd ps ds) (hd : Vals dvs ds) (hx : Passes CX X E)
    (ha : PA X (e :: es) t) (hdb : (x == ("__debug__" : Str)) = false := by decide) (he : starEach (e :: es) X.env = (false, eval e X.env) :: starEach es X.env := by rfl) (hpl : (backTo pos (starEach es X.env)).any (·.1) = false := by rfl) :
    PE X (.Call (.Name x p) (e :: es) [] pos) (tCall sp dvs E t) := by
  intro pins s σ H Q I h
  refine wpAny_Call_Name_kw (ld_glob I hg hm ?_ hdb)
  refine PySem.W.callWith_K (h₀ := X.base) I.ok.mod.kin hk (thn (ha pos pins s σ H _ I h) fun us s1 ⟨vs, H1, I1, r, q⟩ => ⟨I1.kIn, ?_⟩) he hpl
  exact run_fn F hr hb hd hx I1 r q
structure Mk (K : PySem.W.Frag) (C f : Addr) : Prop where
  makes : PySem.W.makesIn K C = true
  init : PySem.W.findIn K (.ref C) "__init__" = some (some (.ref f))
  fn : PySem.W.isFn K (.ref f) = true
  kp : PySem.W.keepIn K (.ref C) = true

theorem run_make {pins : List (Addr × Obj)} {σ : St} {H : Hp} {s : Shared} {Q : VK} {us : List Value} {vs : List V} (M : Mk X.K C f) (F : FnOk X.prog X.w X.K X.mg X.base CX k f fd ps sp) (hr : Room (k + 1) X.A) (hb : Binds X.K fd ps ds) (hd : Vals dvs ds)
    (hx : Passes CX X E) (I : Inv X pins σ H s) (r : Vals vs us)
    (h : ∀ x dx, H x = none → H dx = none → dx ≠ x → sp (.ref x :: (vs ++ dvs)) (upd (upd H dx (.own x)) x (.ins C dx [])) (fun v H2 => v = .non ∧ Q (.ref x) H2) E) :
    wpAny (model X.prog X.w) X.A (call (.ref C) us) (EP X pins σ Q) X.xe s := by
  have hq := h (s.heap.objs.size + 1) s.heap.objs.size (I.hok.fresh (Nat.le_succ _)) (I.hok.fresh (Nat.le_refl _)) (Nat.ne_of_lt (Nat.lt_succ_self _))
  have I2 := Inv.made (C := C) I
  have r2 : Vals (V.ref (s.heap.objs.size + 1) :: (vs ++ dvs)) (Value.ref (s.heap.objs.size + 1) :: (us ++ ds)) := .cons rfl (r.append hd)
  have hl : (Value.ref (s.heap.objs.size + 1) :: us ++ ds).length = ps.length := by
    have e := r2.length
    rw [F.len _ _ _ _ hq] at e
    exact e.symm
  refine wpAny_call (make_map (f := f) I.kIn M.makes M.init (beq_iff_eq.mp M.fn) (codeAny_mono (F.run _ X.stack _ _ ⟨Value.ref (s.heap.objs.size + 1) :: us, []⟩ (Value.ref (s.heap.objs.size + 1) :: (us ++ ds)) _ _ E (hr.make C us [])
    (I2.env0.make C us []) (hb _ (Value.ref (s.heap.objs.size + 1) :: us) I2.kIn hl) r2 hq) fun r s' hq' => ?_))
  cases r with
  | error e => exact hx pins σ _ _ e s' I2 hq'
  | ok fl =>
    cases fl with
    | ret u =>
      obtain ⟨v, H', I3, rv, ev, q3⟩ := I2.after hq'
      subst ev
      exact ⟨rv, ⟨V.ref (s.heap.objs.size + 1), H', I3, rfl, q3⟩⟩
    | next => exact False.elim hq'
    | brk => exact False.elim hq'
    | cont => exact False.elim hq'
theorem pe_make (M : Mk X.K C f) (F : FnOk X.prog X.w X.K X.mg X.base CX k f fd ps sp) (hr : Room (k + 1) X.A) (hg : Gl X x) (hm : X.mg x = some (.ref C)) (hb : Binds X.K fd ps ds) (hd : Vals dvs ds) (hx : Passes CX X E)
    (ha : PA X (e :: es) t) (hdb : (x == ("__debug__" : Str)) = false := by decide) (he : starEach (e :: es) X.env = (false, eval e X.env) :: starEach es X.env := by rfl) (hpl : (backTo pos (starEach es X.env)).any (·.1) = false := by rfl) :
    PE X (.Call (.Name x p) (e :: es) [] pos) (tMake C sp dvs E t) := by
  intro pins s σ H Q I h
  refine wpAny_Call_Name_kw (ld_glob I hg hm ?_ hdb)
  refine PySem.W.callWith_K (h₀ := X.base) I.ok.mod.kin M.kp (thn (ha pos pins s σ H _ I h) fun us s1 ⟨vs, H1, I1, r, q⟩ => ⟨I1.kIn, ?_⟩) he hpl
  exact run_make M F hr hb hd hx I1 r q
end

section
variable {X : Cx} {CX : CXT} {k : Nat} {f C : Addr} {fd : FuncData} {ps ks : List Str} {sp : Sp} {E : XK} {x m : Str} {p pos apos kpos : Pos} {e o : Expr} {es : List Expr} {kws : List Keyword} {te ta : TE} {t tk : TA} {nm : Option Str}
variable {g : List Value → List Value → List Value} {gV : List V → List V → List V}
end

structure FnScope (N P : List Str) (sc : Scope) : Prop where
  kind : sc.kind = .function
  co : sc.isCoroutine = false
  gen : sc.isGenerator = false
  nd : N.Nodup
  pre : N.take P.length = P
  par : ∀ x ∈ P, sc.names.lookup x = some .local ∨ sc.names.lookup x = some .cell
  nofree : ∀ y ∈ sc.names, y.2 ≠ .free

theorem bindL_out {kindOf : Str → Option NameKind} {x : Str} : ∀ {binds : List (Str × Value)} {m : Str → Option Value}, (∀ v, (x, v) ∉ binds) → bindL kindOf binds m x = m x
  | [], _, _ => rfl
  | (n, v) :: r, m, h => by
    unfold bindL
    rw [bindL_out fun w hw => h w (List.mem_cons_of_mem _ hw)]
    split
    · have : x ≠ n := by rintro rfl; exact h v List.mem_cons_self
      simp [this]
    · rfl
theorem bindC_out {kindOf : Str → Option NameKind} {x : Str} : ∀ {binds : List (Str × Value)} {m : Str → Option Value}, (∀ v, (x, v) ∉ binds) → bindC kindOf binds m x = m x
  | [], _, _ => rfl
  | (n, v) :: r, m, h => by
    unfold bindC
    rw [bindC_out fun w hw => h w (List.mem_cons_of_mem _ hw)]
    split
    · rfl
    · have : x ≠ n := by rintro rfl; exact h v List.mem_cons_self
      simp [this]
theorem bindL_get {kindOf : Str → Option NameKind} {x : Str} {v : Value} : ∀ {P : List Str} {vs : List Value} {i : Nat} {m : Str → Option Value}, P.Nodup → P[i]? = some x → vs[i]? = some v → kindOf x = some .local →
    bindL kindOf (P.zip vs) m x = some v
  | [], _, _, _, _, h, _, _ => by simp at h
  | _ :: _, [], _, _, _, _, h, _ => by simp at h
  | p :: P, w :: vs, 0, m, nd, h1, h2, hk => by
    simp at h1 h2; subst h1; subst h2
    show bindL kindOf ((p, w) :: P.zip vs) m p = _
    unfold bindL
    rw [bindL_out fun v hv => (List.nodup_cons.mp nd).1 (List.of_mem_zip hv).1, if_pos hk]
    simp
  | p :: P, w :: vs, i + 1, m, nd, h1, h2, hk => by
    show bindL kindOf ((p, w) :: P.zip vs) m x = _
    unfold bindL
    exact bindL_get (i := i) (List.nodup_cons.mp nd).2 (by simpa using h1) (by simpa using h2) hk
theorem bindC_get {kindOf : Str → Option NameKind} {x : Str} {v : Value} : ∀ {P : List Str} {vs : List Value} {i : Nat} {m : Str → Option Value}, P.Nodup → P[i]? = some x → vs[i]? = some v → kindOf x ≠ some .local →
    bindC kindOf (P.zip vs) m x = some v
  | [], _, _, _, _, h, _, _ => by simp at h
  | _ :: _, [], _, _, _, _, h, _ => by simp at h
  | p :: P, w :: vs, 0, m, nd, h1, h2, hk => by
    simp at h1 h2; subst h1; subst h2
    show bindC kindOf ((p, w) :: P.zip vs) m p = _
    unfold bindC
    rw [bindC_out fun v hv => (List.nodup_cons.mp nd).1 (List.of_mem_zip hv).1, if_neg hk]
    simp
  | p :: P, w :: vs, i + 1, m, nd, h1, h2, hk => by
    show bindC kindOf ((p, w) :: P.zip vs) m x = _
    unfold bindC
    exact bindC_get (i := i) (List.nodup_cons.mp nd).2 (by simpa using h1) (by simpa using h2) hk

noncomputable def start (N : List Str) (vs : List V) : St := vs.map some ++ List.replicate (N.length - vs.length) none

noncomputable def cxOf (CX : CXT) (P : Program) (w : World) (K : PySem.W.Frag) (mg : Str → Option Value) (base : Heap) (N : List Str) (qual : Str) (scope : Scope) (f : Addr) (cd : Value) (A : Around) (outer : List Env) (s : Shared) (H : Hp) (E : XK) : Cx where
  prog := P
  w := w
  K := K
  mg := mg
  base := base
  A := A.deeper (envOfC qual scope s.heap.objs.size f cd)
  N := N
  s₀ := s
  H₀ := H
  env := envOfC qual scope s.heap.objs.size f cd
  outer := outer
  stack := envOfC qual scope s.heap.objs.size f cd :: outer
  ex := []
  calm := true
  fn := fun _ => true
  pn := []
  xe := fun e s' => wpAny (model P w) (A.deeper (envOfC qual scope s.heap.objs.size f cd)) (leaving (envOfC qual scope s.heap.objs.size f cd) e) (fun _ s'' => CX outer H s E e s'') (fun e' s'' => CX outer H s E e' s'') s'

theorem cell_has {sc : Scope} {n : Nat} {x : Str} (h : sc.names.lookup x = some .cell) : ∃ c, (cellsFrom n sc.names []).lookup x = some c := by
  have q := PySem.W.cellsFrom_some sc.names n [] (.inl h)
  exact Option.isSome_iff_exists.mp q

theorem inv_start {CX : CXT} {P : Program} {w : World} {K : PySem.W.Frag} {mg : Str → Option Value} {base : Heap} {N ps : List Str} {qual : Str} {scope : Scope} {f : Addr} {cd : Value} {A : Around} {outer : List Env} {s s1 : Shared} {H : Hp} {E : XK} {us : List Value} {vs : List V}
    (S : FnScope N ps scope) (hd : A.handled = none) (e0 : Env0 P w K mg base A outer s H) (hl : vs.length = ps.length) (r : Vals vs us)
    (x : InCallC s s.heap.objs.size (bindL (envOfC qual scope s.heap.objs.size f cd).kindOf (ps.zip us) fun _ => none) (cellsFrom (s.heap.objs.size + 1) scope.names []) (bindC (envOfC qual scope s.heap.objs.size f cd).kindOf (ps.zip us) fun _ => none) s1) :
    Inv (cxOf CX P w K mg base N qual scope f cd A outer s H E) [] (start N vs) H s1 := by
  have hpl : ps.length ≤ N.length := by have := congrArg List.length S.pre; rw [List.length_take] at this; omega
  obtain ⟨h1, tk, rfl, hk⟩ := x.done
  have noA : ∀ b : Addr, b ∉ (cxOf CX P w K mg base N qual scope f cd A outer s H E).ex := fun b z => absurd (show b ∈ ([] : List Addr) from z) (by simp)
  refine ⟨⟨e0.mod, S.kind, rfl, rfl, Nat.le_refl _, fun y z c h1 h2 => ?_, fun y hy => ?_, fun y c _ h => ?_, fun _ => hd, Around.frames_deeper e0.frames, .inr ⟨rfl, rfl⟩, fun b z => absurd z (noA b), e0.bs, e0.bsz, fun b _ _ => noA b, fun b z => absurd z (noA b), e0.funs, e0.frf⟩,
    rfl, e0.bare, Un.kept hk, ⟨_, x.toInCall.ns, fun i y v h1 h2 h3 => ?_⟩, fun y c h => ⟨_, x.cell y c h⟩, e0.hok.fresh (Nat.le_refl _), fun y c h => ?_, fun p hp => absurd (show p ∈ ([] : List (Addr × Obj)) from hp) (by simp), e0.hok.kept hk, ?_⟩
  · exact name_of_addr x.apart (PySem.mem_of_lookup h1) (PySem.mem_of_lookup h2)
  · have hy : scope.names.lookup y = some .cell ∨ scope.names.lookup y = some .free := hy
    rcases hy with hy | hy
    · exact cell_has hy
    · exact absurd rfl (S.nofree _ (PySem.mem_of_lookup hy))
  · exact Nat.le_of_lt (x.above y c (PySem.mem_of_lookup h))
  · have hi : i < vs.length := by
      unfold start at h2
      by_cases hi : i < vs.length
      · exact hi
      · rw [List.getElem?_append_right (by simpa using hi)] at h2
        rw [List.getElem?_replicate] at h2
        split at h2 <;> cases h2
    have ha : vs[i]? = some v := by
      unfold start at h2
      rw [List.getElem?_append_left (by simpa using hi), List.getElem?_map] at h2
      cases e : vs[i]? with
      | none => rw [e] at h2; cases h2
      | some a => rw [e] at h2; cases h2; rfl
    obtain ⟨u, hu, rv⟩ := r.get ha
    have hp : ps[i]? = some y := by
      rw [← S.pre, List.getElem?_take_of_lt (by omega)]; exact h1
    have ndP : ps.Nodup := by rw [← S.pre]; exact S.nd.sublist (List.take_sublist _ _)
    refine ⟨u, rv, ?_⟩
    rcases S.par y (List.mem_of_getElem? hp) with k | k
    · exact .inl ⟨k, bindL_get ndP hp hu k⟩
    · obtain ⟨c, e⟩ := cell_has (n := s.heap.objs.size + 1) k
      refine .inr ⟨.inl k, c, e, ?_⟩
      have q := x.cell y c e
      rw [bindC_get ndP hp hu (by show scope.names.lookup y ≠ _; rw [k]; decide)] at q
      exact q
  · exact e0.hok.fresh (Nat.le_of_lt (x.above y c (PySem.mem_of_lookup h)))
  · unfold start
    show _ = N.length
    rw [List.length_append, List.length_map, List.length_replicate]
    omega

theorem fn_of {CX : CXT} {P : Program} {w : World} {K : PySem.W.Frag} {mg : Str → Option Value} {base : Heap} {k : Nat} {f : Addr} {name qual : Str} {params : Arguments} {body : List Stmt} {scope : Scope} {dV kV doc pm cdv ct oc : Value} {an od : Option Addr}
    {osl : Array (Option Value)} {N ps : List Str} {sp : Sp} (lk : K.lookup f = some ⟨oc, od, .func (PySem.W.fnOf name qual params body scope dV kV doc pm an cdv ct), osl⟩) (hcd : PySem.W.codeIn K cdv qual = true) (S : FnScope N ps scope)
    (len : ∀ vs H Q E, sp vs H Q E → vs.length = ps.length)
    (hbody : ∀ (A : Around) (outer : List Env) (s : Shared) (H : Hp) (vs : List V) (Q : VK) (E : XK), Room k (A.deeper (envOfC qual scope s.heap.objs.size f cdv)) → sp vs H Q E →
      ∃ t, PSs (cxOf CX P w K mg base N qual scope f cdv A outer s H E) body t ∧ t { nx := fun _ H' => Q .non H', rt := Q } (start N vs) H) :
    FnOk P w K mg base CX (k + 1) f (PySem.W.fnOf name qual params body scope dV kV doc pm an cdv ct) ps sp := by
  refine ⟨len, fun A outer s H args us vs Q E hr e0 hb r hsp => ?_⟩
  have hl := len _ _ _ _ hsp
  have KX : K.In s.heap := e0.mod.kin.keeps fun b o e => (e0.bs b o e).1
  have lim : s.heap.NoLimit := e0.mod.nolimit.keeps fun b o e => (e0.bs b o e).1
  have hkind : ∀ y ∈ ps.zip us, scope.names.lookup y.1 = some .local ∨ (scope.names.lookup y.1 = some .cell ∧ ((cellsFrom (s.heap.objs.size + 1) scope.names []).lookup y.1).isSome = true) := fun ⟨n, v⟩ hy => by
    rcases S.par n (List.of_mem_zip hy).1 with q | q
    · exact .inl q
    · exact .inr ⟨q, PySem.W.cellsFrom_some _ _ _ (.inl q)⟩
  refine codeAny_call_function hr.depth (KX _ _ lk) rfl S.co S.gen rfl (PySem.W.codeRec_of KX hcd) (hb _ _ _ _ ?_)
  refine wpAny_newFunctionEnv_cells S.kind hkind fun env he s1 x => ?_
  subst he
  refine ⟨lim.keeps x.toInCall.keep, codeAny_func ?_⟩
  obtain ⟨t, ht, hq⟩ := hbody A outer s H vs Q E (hr.deeper _) hsp
  have I : Inv (cxOf CX P w K mg base N qual scope f cdv A outer s H E) [] (start N vs) H s1 := inv_start S hr.hd e0 hl r x
  refine wpAny_mono (ht [] s1 (start N vs) H _ I hq) (fun fl s' hs => ?_) fun e s' hs => hs
  have fin : ∀ {σ' : St} {H' : Hp} {v : V} {u : Value}, Inv (cxOf CX P w K mg base N qual scope f cdv A outer s H E) [] σ' H' s' → RelV v u → Q v H' → CE outer P w H s Q u s' :=
    fun {σ' H' v u} J rv q => ⟨v, H', J.os, J.bare, J.base, J.hok, rv, q⟩
  cases fl with
  | ret u =>
    obtain ⟨v, σ', H', J, rv, q⟩ := hs
    exact fin J rv q
  | next =>
    obtain ⟨σ', H', J, q⟩ := hs
    exact fin (v := V.non) (u := Value.none) J rfl q
  | brk =>
    obtain ⟨_, _, _, q⟩ := hs
    exact False.elim q
  | cont =>
    obtain ⟨_, _, _, q⟩ := hs
    exact False.elim q
end L2

namespace L2
open PySem PySem.Spec PyProof.Rows
section
variable {X : Cx} {x : Str} {p pos : Pos} {e : Expr} {es : List Expr} {t : TA} {id T : String} {r : List V → Hp → VK → Prop}

noncomputable def tCB (r : List V → Hp → VK → Prop) (t : TA) : TE := fun σ H Q => t σ H fun vs H1 => r vs H1 Q
theorem pe_callB (hc : CallR X (.builtin id) r) (hg : Gl X x) (hm : X.mg x = none) (hv : bootBuiltins x = some (.builtin id)) (ha : PA X (e :: es) t) (hn : x ≠ "__name__" := by decide) (hdb : (x == ("__debug__" : Str)) = false := by decide)
    (he : starEach (e :: es) X.env = (false, eval e X.env) :: starEach es X.env := by rfl) (hpl : (backTo pos (starEach es X.env)).any (·.1) = false := by rfl) : PE X (.Call (.Name x p) (e :: es) [] pos) (tCB r t) := by
  intro pins s σ H Q I h
  refine wpAny_Call_Name_kw (ld_blt I hg hm hv ?_ hn hdb)
  exact PyProof.Rows.callWith_builtin1 (thn (ha pos pins s σ H _ I h) fun us s1 ⟨vs, H1, I1, r1, q1⟩ => hc pins s1 σ H1 vs us Q I1 r1 q1) he hpl
theorem pe_callTy (hc : CallR X (.type T) r) (hg : Gl X x) (hm : X.mg x = none) (hv : bootBuiltins x = some (.type T)) (ha : PA X (e :: es) t) (hn : x ≠ "__name__" := by decide) (hdb : (x == ("__debug__" : Str)) = false := by decide)
    (he : starEach (e :: es) X.env = (false, eval e X.env) :: starEach es X.env := by rfl) (hpl : (backTo pos (starEach es X.env)).any (·.1) = false := by rfl) : PE X (.Call (.Name x p) (e :: es) [] pos) (tCB r t) := by
  intro pins s σ H Q I h
  refine wpAny_Call_Name_kw (ld_blt I hg hm hv ?_ hn hdb)
  exact PyProof.Rows.callWith_type1 (thn (ha pos pins s σ H _ I h) fun us s1 ⟨vs, H1, I1, r1, q1⟩ => hc pins s1 σ H1 vs us Q I1 r1 q1) he hpl
end
end L2

namespace HT
open PySem PyProof.Rows

noncomputable def lexLt : List Int → List Int → Bool
  | [], [] => false
  | [], _ :: _ => true
  | _ :: _, [] => false
  | x :: xs, y :: ys => if x = y then lexLt xs ys else decide (x < y)
theorem lexLt_cons (x y : Int) (xs ys : List Int) : lexLt (x :: xs) (y :: ys) = if x = y then lexLt xs ys else decide (x < y) := rfl
theorem lexLt_nil_nil : lexLt [] [] = false := rfl
theorem lexLt_nil_cons (y : Int) (ys : List Int) : lexLt [] (y :: ys) = true := rfl
theorem lexLt_cons_nil (x : Int) (xs : List Int) : lexLt (x :: xs) [] = false := rfl

theorem eqAt_int (A : Around) (s : Shared) (a : Int) (t : Tok) (c : Int) (u : Tok) : ∃ e, SeqAt.EqAt A s (.int a t) (.int c u) e ∧ (e = true ↔ a = c) :=
  ⟨(a == c), SeqAt.EqAt.int_int a t c u, by simp⟩
theorem rcLt_int (A : Around) (s : Shared) (a : Int) (t : Tok) (c : Int) (u : Tok) (prog : Program) (w : World) (E : Value → Shared → Prop) (Q : Value → Shared → Prop) (h : Q (.bool (decide (a < c))) s) :
    wpAny (model prog w) A (richCompare .Lt (.int a t) (.int c u)) Q E s :=
  (PyProof.Rows.lt_int h : wpAny (model prog w) A (compareOp .Lt (.int a t) (.int c u)) Q E s)

section
open PySem.SeqAt
open PySem.AutoSeq1 (wpAny_loadPart')
open PySem.MeetsSeq PySem.MeetsSeq2 PySem.MeetsSeq3

theorem tuple_lt_ints (l b : Addr) (items items2 : Array Value) (n n2 : Nat) (dd dd2 : Option Addr) (sl sl2 : Array (Option Value)) (ns ms : List Int) (hi : IntsAre items.toList ns) (hj : IntsAre items2.toList ms) :
    Meets (Builtin.«tuple.__lt__» ⟨[.ref l, .ref b], []⟩)
      (fun _ R s => s.heap.get? l = some { cls := .type "tuple", dict := dd, data := .seq items n, slots := sl } ∧ s.heap.get? b = some { cls := .type "tuple", dict := dd2, data := .seq items2 n2, slots := sl2 } ∧
        R (.ok (.ret (.bool (lexLt ns ms)))) s) :=
  .of_wp fun prog w A R s h => by
    obtain ⟨hp, g, d, tk, os⟩ := s; obtain ⟨hl, hb, h⟩ := h
    have f2 := AutoSeq1.sub_tuple_tuple
    have z1 : items.size = ns.length := by rw [← hi.length]; simp
    have z2 : items2.size = ms.length := by rw [← hj.length]; simp
    wp_walk using wpAny_loadPart' hl, wpAny_loadPart' hb, wpAny_forIn_list _ (fun rest b s' => b.1 = none ∧ s' = ⟨hp, g, d, tk, os⟩ ∧ ∃ (vs ws : List Value) (ns' ms' : List Int), rest = vs.zip ws ∧
      IntsAre vs ns' ∧ IntsAre ws ms' ∧ ns'.length + items2.size = ms'.length + items.size ∧ R (.ok (.ret (.bool (lexLt ns' ms')))) ⟨hp, g, d, tk, os⟩) _
    case turn =>
      rintro ⟨y, x⟩ rest b s' ⟨hb', rfl, vs, ws, ns', ms', hz, hvi, hwi, hlen, hR⟩
      cases hvi with
      | nil => rw [List.zip_nil_left] at hz; cases hz
      | cons a t hvi' =>
        cases hwi with
        | nil => rw [List.zip_nil_right] at hz; cases hz
        | cons c u hwi' =>
          rw [List.zip_cons_cons] at hz
          injection hz with hyx hrest
          injection hyx with hy hx
          subst hy hx
          rw [lexLt_cons] at hR
          simp only [List.length_cons] at hlen
          obtain ⟨e, he, hiff⟩ := eqAt_int A.in1 ⟨hp, g, d, tk, os⟩ a t c u
          refine wpAny_bind (he prog w _ _ ?_)
          cases e with
          | true =>
            rw [if_pos (hiff.mp rfl)] at hR
            wp_walk
            exact ⟨rfl, rfl, _, _, _, _, hrest, hvi', hwi', by omega, hR⟩
          | false =>
            rw [if_neg (fun q => absurd (hiff.mpr q) Bool.false_ne_true)] at hR
            have hri := rcLt_int A.in1 ⟨hp, g, d, tk, os⟩ a t c u prog w
            wp_walk using hri
            exact ⟨_, rfl, by simpa using hR⟩
    case fin =>
      rintro ⟨b1, b2⟩ s' ⟨hb', rfl, vs, ws, ns', ms', hz, hvi, hwi, hlen, hR⟩
      simp only at hb'
      subst hb'
      have hv : lexLt ns' ms' = decide (items.size < items2.size) := by
        cases hvi with
        | nil =>
          cases hwi with
          | nil =>
            simp only [List.length_nil] at hlen
            rw [lexLt_nil_nil]
            exact (decide_eq_false (by omega)).symm
          | cons c u hw =>
            simp only [List.length_nil, List.length_cons] at hlen
            rw [lexLt_nil_cons]
            exact (decide_eq_true (by omega)).symm
        | cons a t hv =>
          cases hwi with
          | nil =>
            simp only [List.length_nil, List.length_cons] at hlen
            rw [lexLt_cons_nil]
            exact (decide_eq_false (by omega)).symm
          | cons c u hw =>
            rw [List.zip_cons_cons] at hz
            cases hz
      rw [hv] at hR
      wp_walk
      exact ⟨_, rfl, by simpa [Builtin.Tuple.tupleCompareSizes] using hR⟩
    case h =>
      exact ⟨rfl, rfl, items.toList, items2.toList, ns, ms, rfl, hi, hj, by omega, h⟩
end

section
variable {prog : Program} {w : World} {A : Around} {E : Value → Shared → Prop} {s : Shared}

theorem lt_tupInts {l b : Addr} {items items2 : Array Value} {ns ms : List Int} {Q : Value → Shared → Prop} (hl : IsTup s.heap l items) (hb : IsTup s.heap b items2) (hi : IntsAre items.toList ns) (hj : IntsAre items2.toList ms)
    (hu : A.units < cLine) (h : Q (.bool (lexLt ns ms)) s) : wpAny (model prog w) A (compareOp .Lt (.ref l) (.ref b)) Q E s := by
  obtain ⟨⟨cls, dd, data, sl⟩, ho, hc, n, hd⟩ := id hl
  obtain ⟨⟨cls2, dd2, data2, sl2⟩, ho2, hc2, n2, hd2⟩ := id hb
  simp only at hc hd hc2 hd2
  subst hc hd hc2 hd2
  exact richCompare_meets_room (op := .Lt) ⟨_, ho, rfl⟩ ⟨_, ho2, rfl⟩ PySem.F.slot_tuple_lt PySem.F.entry_tuple_lt (PySem.F.args_tuple_lt_2 _ _) (tuple_lt_ints l b items items2 n n2 dd dd2 sl sl2 ns ms hi hj)
    ⟨ho, ho2, show Value.bool (lexLt ns ms) ≠ Value.notImplemented ∧ Q (.bool (lexLt ns ms)) s from ⟨(fun x => nomatch x), h⟩⟩ hu

theorem cat_tup {t b : Addr} {vs ws : List Value} {Q : Value → Shared → Prop} (ht : IsTup s.heap t vs.toArray) (hb : IsTup s.heap b ws.toArray) (hv : vs ≠ [])
    (h1 : ws = [] → Q (.ref t) s) (h2 : ws ≠ [] → Q (.ref s.heap.objs.size) { s with heap := s.heap.push { cls := .type "tuple", data := .seq (vs ++ ws).toArray } })
    (hsz : vs.length + ws.length ≤ sizeLine) : wpAny (model prog w) A (binaryOp .Add (.ref t) (.ref b)) Q E s := by
  obtain ⟨⟨cls, dd, data, sl⟩, ho, hc, n, hd⟩ := id ht
  obtain ⟨⟨cls2, dd2, data2, sl2⟩, ho2, hc2, n2, hd2⟩ := id hb
  simp only at hc hd hc2 hd2
  subst hc hd hc2 hd2
  have e : vs.toArray ++ ws.toArray = (vs ++ ws).toArray := by simp
  by_cases hw : ws = []
  · exact concat_meets ⟨_, ho, rfl⟩ ⟨_, ho2, rfl⟩ noFill_tuple_add seq_tuple_add PySem.F.slot_tuple_add PySem.F.entry_tuple_add (PySem.F.args_tuple_add_2 _ _)
      (tuple_addW1 t b vs.toArray ws.toArray n n2 dd dd2 sl sl2 (by simpa using hv) (by simp [hw])) ⟨ho, ho2, h1 hw⟩
  · refine concat_meets ⟨_, ho, rfl⟩ ⟨_, ho2, rfl⟩ noFill_tuple_add seq_tuple_add PySem.F.slot_tuple_add PySem.F.entry_tuple_add (PySem.F.args_tuple_add_2 _ _)
      (tuple_addW2 t b vs.toArray ws.toArray n n2 dd dd2 sl sl2 (by simpa using hv) (by simpa using hw) (by rw [List.size_toArray, List.size_toArray]; exact hsz)) ⟨ho, ho2, ?_⟩
    rw [e]
    exact h2 hw

noncomputable def sIx (n d : Nat) : Option Int → Nat
  | none => d
  | some v => if v < 0 then (v + (n : Int)).toNat else min v.toNat n
theorem sIx_none (n d : Nat) : sIx n d none = d := rfl
theorem sIx_nat (n d k : Nat) : sIx n d (some (k : Int)) = min k n := by
  show (if (k : Int) < 0 then ((k : Int) + (n : Int)).toNat else min (k : Int).toNat n) = min k n
  rw [if_neg (by omega), Int.toNat_natCast]
theorem sIx_le (n d : Nat) (hd : d ≤ n) (o : Option Int) : sIx n d o ≤ n := by
  cases o with
  | none => exact hd
  | some v =>
    show (if v < 0 then (v + (n : Int)).toNat else min v.toNat n) ≤ n
    by_cases hv : v < 0
    · rw [if_pos hv]; omega
    · rw [if_neg hv]; exact Nat.min_le_right _ _
theorem clip_eq (v : Int) (n d : Nat) : (if v < 0 then max (v + (n : Int)) 0 else min v (n : Int)) = ((sIx n d (some v) : Nat) : Int) := by
  show (if v < 0 then max (v + (n : Int)) 0 else min v (n : Int)) = (((if v < 0 then (v + (n : Int)).toNat else min v.toNat n) : Nat) : Int)
  by_cases hv : v < 0
  · simp only [if_pos hv]; omega
  · simp only [if_neg hv]; omega
theorem adjust_gen (lo hi : Option Int) (n : Nat) : Builtin.Slice.sliceAdjust lo hi 1 (n : Int) = (((sIx n 0 lo : Nat) : Int), ((sIx n n hi : Nat) : Int)) := by
  have h1 : ¬ ((1 : Int) < 0) := by omega
  unfold Builtin.Slice.sliceAdjust
  simp only [h1, if_false]
  refine Prod.ext ?_ ?_
  · cases lo with
    | none => rfl
    | some v => exact clip_eq v n 0
  · cases hi with
    | none => rfl
    | some v => exact clip_eq v n n
theorem places_gen (i j : Nat) : Builtin.Slice.slicePlaces (i : Int) (j : Int) 1 = j - i := by
  unfold Builtin.Slice.slicePlaces
  have h1 : (1 : Int) > 0 := by omega
  simp only [h1, if_true, Int.ediv_one]
  split <;> omega
theorem slicePart_ {v : Value} {o : Option Int} {Q : Option Int → Shared → Prop} (p : IsPart v o) (h : Q o s) : wpAny (model prog w) A (Builtin.Slice.slicePartIndex v) Q E s := by
  cases p with
  | none => exact slicePart_none h
  | int i t => exact slicePart_int h
theorem sliceApplied_gen {sl : Addr} {vl vu : Value} {lo hi : Option Int} {n : Nat} {Q : Int × Int × Nat → Shared → Prop} (hs : s.heap.IsSliceOf sl vl vu .none) (pl : IsPart vl lo) (pu : IsPart vu hi)
    (h : Q (((sIx n 0 lo : Nat) : Int), 1, sIx n n hi - sIx n 0 lo) s) : wpAny (model prog w) A (Builtin.Slice.sliceApplied (.ref sl) (pure (n : Int))) Q E s := by
  obtain ⟨os, hos, hcs, hds⟩ := id hs
  unfold Builtin.Slice.sliceApplied Builtin.Slice.sliceFields
  refine wpAny_bind (wpAny_bind (wpAny_field hos hds (x := vl) rfl (wpAny_bind (wpAny_field hos hds (x := vu) rfl (wpAny_bind (wpAny_field hos hds (x := .none) rfl (wpAny_pure ?_)))))))
  refine wpAny_bind (slicePart_none ?_)
  show wpAny _ _ (if ((1 : Int) == 0) = true then _ else _) _ _ s
  rw [if_neg (by decide)]
  refine wpAny_bind (slicePart_ pl (wpAny_bind (slicePart_ pu (wpAny_bind (wpAny_pure ?_)))))
  show wpAny _ _ (match Builtin.Slice.sliceAdjust lo hi 1 (n : Int) with | (lo, hi) => pure (lo, (1 : Int), Builtin.Slice.slicePlaces lo hi 1)) _ _ s
  rw [adjust_gen lo hi n]
  show wpAny _ _ (pure (((sIx n 0 lo : Nat) : Int), (1 : Int), Builtin.Slice.slicePlaces ((sIx n 0 lo : Nat) : Int) ((sIx n n hi : Nat) : Int) 1)) _ _ s
  rw [places_gen]
  exact wpAny_pure h
theorem pick_gen (xs : Array Value) (i k : Nat) : ((List.range k).filterMap fun (m : Nat) => xs[((i : Int) + (m : Int) * 1).toNat]?).toArray = ((xs.toList.drop i).take k).toArray := by
  have e : (fun (m : Nat) => xs[((i : Int) + (m : Int) * 1).toNat]?) = fun m => xs[i + m]? := by
    funext m
    have : ((i : Int) + (m : Int) * 1).toNat = i + m := by omega
    rw [this]
  rw [e]
  have := pick_run xs i k
  rw [List.filterMap_map] at this
  have e2 : ((fun x => xs[x]?) ∘ fun x => i + x) = fun m => xs[i + m]? := rfl
  rw [e2] at this
  rw [this]

theorem getItem_tuple_cut {t sl : Addr} {items : Array Value} {vl vu : Value} {lo hi : Option Int} {Q : Value → Shared → Prop} (ht : IsTup s.heap t items) (hs : s.heap.IsSliceOf sl vl vu .none) (pl : IsPart vl lo) (pu : IsPart vu hi)
    (hw : ¬ (sIx items.size 0 lo = 0 ∧ sIx items.size items.size hi = items.size))
    (h : Q (.ref s.heap.objs.size) { s with heap := s.heap.push { cls := .type "tuple", data := .seq ((items.toList.drop (sIx items.size 0 lo)).take (sIx items.size items.size hi - sIx items.size 0 lo)).toArray } })
    (hsz : items.size ≤ sizeLine) : wpAny (model prog w) A (getItem (.ref t) (.ref sl)) Q E s := by
  have htake : sizeOk (.seq ((items.toList.drop (sIx items.size 0 lo)).take (sIx items.size items.size hi - sIx items.size 0 lo)).toArray) := by
    show ((items.toList.drop (sIx items.size 0 lo)).take (sIx items.size items.size hi - sIx items.size 0 lo)).toArray.size ≤ sizeLine
    rw [List.size_toArray, List.length_take, List.length_drop, Array.length_toList]
    omega
  have hj : sIx items.size items.size hi ≤ items.size := sIx_le _ _ (Nat.le_refl _) hi
  obtain ⟨os, hos, hcs, hds⟩ := id hs
  have hTs : s.TypeIs (.ref sl) "slice" := ⟨os, hos, hcs⟩
  unfold getItem
  try with_reducible refine wpAny_holding ?_
  first | refine wpAny_bind (wpAny_pure ?_) | skip
  refine wpAny_bind (wpAny_sequenceKey ht.typeIs (by decide) ?_)
  refine wpAny_bind (wpAny_callSpecial?_slot (name := Str.ofString "__getitem__") ht.typeIs PyProof.Rows.slot_tuple_getitem
    (wpAny_call_entry PyProof.Rows.slot_tuple_getitem ht.typeIs entry_tuple_getitem ?_ (args_tuple_getitem _ _)))
  show wpAny _ _ (Builtin.Tuple.tupleItemsOf (.ref t) >>= _) _ _ s
  refine wpAny_bind (tupleItemsOf_ ht ?_)
  refine wpAny_bind (wpAny_typeOf hTs ?_)
  rw [if_pos (by decide)]
  refine wpAny_bind (sliceApplied_gen hs pl pu ?_)
  have hno : ¬ ((((sIx items.size 0 lo : Nat) : Int) == 0 && (1 : Int) == 1 && (sIx items.size items.size hi - sIx items.size 0 lo) == items.size) = true) := by
    intro q
    rw [Bool.and_eq_true, Bool.and_eq_true] at q
    have q1 : ((sIx items.size 0 lo : Nat) : Int) = 0 := eq_of_beq q.1.1
    have q2 : sIx items.size items.size hi - sIx items.size 0 lo = items.size := eq_of_beq q.2
    exact hw ⟨by omega, by omega⟩
  show wpAny _ _ (if (((sIx items.size 0 lo : Nat) : Int) == 0 && (1 : Int) == 1 && (sIx items.size items.size hi - sIx items.size 0 lo) == items.size) = true then _ else _) _ _ s
  rw [if_neg hno, pick_gen]
  first
    | exact wpAny_bind (m := Builtin.Tuple.tupleExact _) (wpAny_newObj_type (wpAny_pure ⟨_, rfl, wpAny_pure h⟩) htake)
    | exact wpAny_bind (m := Builtin.Tuple.tupleExact _) (wpAny_newObj_type (wpAny_bind (wpAny_pure (wpAny_pure ⟨_, rfl, wpAny_pure h⟩))) htake)
    | exact wpAny_bind (wpAny_bind (m := Builtin.Tuple.tupleExact _) (wpAny_newObj_type (wpAny_pure (wpAny_pure ⟨_, rfl, wpAny_pure h⟩)) htake))
    | exact wpAny_bind (wpAny_bind (m := Builtin.Tuple.tupleExact _) (wpAny_newObj_type (wpAny_pure ⟨_, rfl, wpAny_pure h⟩) htake))
end
end HT

namespace L2
open PySem PySem.Spec PyProof.Rows

noncomputable abbrev TO := St → Hp → (Option Int → Hp → Prop) → Prop
noncomputable def PO (X : Cx) (e : Option Expr) (t : TO) : Prop :=
  ∀ (pins : List (Addr × Obj)) (s : Shared) (σ : St) (H : Hp) (Q : Option Int → Hp → Prop), Inv X pins σ H s → t σ H Q →
    wpAny (model X.prog X.w) X.A (evalPart e X.env) (fun u s' => ∃ o H', Inv X pins σ H' s' ∧ IsPart u o ∧ Q o H') X.xe s
noncomputable def tNoPart : TO := fun _ H Q => Q none H
noncomputable def tPart (t : TE) : TO := fun σ H Q => t σ H fun x H1 => ∃ i, x = .int i ∧ Q (some i) H1

theorem intsAre_of {ns : List Int} : ∀ {us : List Value}, Vals (ns.map V.int) us → IntsAre us ns := by
  induction ns with
  | nil => intro us r; rw [List.map_nil] at r; cases r; exact .nil
  | cons n ns ih =>
    intro us r
    rw [List.map_cons] at r
    cases r with
    | cons r1 r2 =>
      obtain ⟨t, e⟩ := r1
      subst e
      exact .cons n t (ih r2)

section
variable {X : Cx} {e : Expr} {te : TE} {lo hi : Option Expr} {tl th : TO} {pos p2 : Pos}

theorem po_none : PO X none tNoPart := by
  intro pins s σ H Q I h
  rw [evalPart_none]
  exact wpAny_pure ⟨none, H, I, .none, h⟩
theorem po_some (h : PE X e te) : PO X (some e) (tPart te) := by
  intro pins s σ H Q I hw
  rw [evalPart_some]
  refine thn (h pins s σ H _ I hw) fun u s1 ⟨x, H1, I1, r1, q1⟩ => ?_
  obtain ⟨i, rfl, q⟩ := q1
  obtain ⟨t, rfl⟩ := r1
  exact ⟨some i, H1, I1, .int i t, q⟩

noncomputable def SlR (X : Cx) (r : V → Option Int → Option Int → Hp → VK → Prop) : Prop :=
  ∀ (pins : List (Addr × Obj)) (s : Shared) (σ : St) (H : Hp) (x : V) (v vl vu : Value) (lo hi : Option Int) (sl : Addr) (Q : VK), Inv X pins σ H s → RelV x v → s.heap.IsSliceOf sl vl vu .none → IsPart vl lo → IsPart vu hi → r x lo hi H Q →
    ∃ T id, typeLookup (.type T) "__getitem__" = pure (some (.builtin id)) ∧ s.TypeIs v T ∧ wpAny (model X.prog X.w) X.A (getItem v (.ref sl)) (EP X pins σ Q) X.xe s
noncomputable def tSl (r : V → Option Int → Option Int → Hp → VK → Prop) (te : TE) (tl th : TO) : TE := fun σ H Q => te σ H fun x H1 => tl σ H1 fun l H2 => th σ H2 fun u H3 => r x l u H3 Q
theorem pe_slice {r : V → Option Int → Option Int → Hp → VK → Prop} (hr : SlR X r) (he : PE X e te) (hl : PO X lo tl) (hu : PO X hi th) : PE X (.Subscript e (.Slice lo hi none p2) pos) (tSl r te tl th) := by
  intro pins s σ H Q I h
  refine Subscript_ (thn (he pins s σ H _ I h) fun v s1 ⟨x, H1, I1, r1, q1⟩ => ?_)
  refine wpAny_Slice (thn (hl pins s1 σ H1 _ I1 q1) fun vl s2 ⟨l, H2, I2, pl, q2⟩ => thn (hu pins s2 σ H2 _ I2 q2) fun vu s3 ⟨u, H3, I3, pu, q3⟩ => ?_)
  rw [evalPart_none]
  refine wpAny_pure ?_
  have I4 : Inv X pins σ H3 { s3 with heap := s3.heap.push { cls := .type "slice", data := .fields #[vl, vu, .none] } } := I3.kept (t' := s3.toks) fun b ob q => Heap.get?_push_of_some _ q
  obtain ⟨T, id, hT, ht, hg⟩ := hr pins { s3 with heap := s3.heap.push { cls := .type "slice", data := .fields #[vl, vu, .none] } } σ H3 x v vl vu l u s3.heap.objs.size Q I4 r1 (Heap.IsSliceOf.new ..) pl pu q3
  show wpAny (model X.prog X.w) X.A (subscriptTail e (.Slice lo hi none p2) v (.ref s3.heap.objs.size)) (EP X pins σ Q) X.xe { s3 with heap := s3.heap.push { cls := .type "slice", data := .fields #[vl, vu, .none] } }
  exact tail_any (ops := [.ref s3.heap.objs.size, v]) ht hT hg (by with_unfolding_all rfl)

noncomputable def cutV (xs : List V) (lo hi : Option Int) : List V := (xs.drop (HT.sIx xs.length 0 lo)).take (HT.sIx xs.length xs.length hi - HT.sIx xs.length 0 lo)
theorem cutV_length (xs : List V) (lo hi : Option Int) : (cutV xs lo hi).length ≤ xs.length := by
  unfold cutV
  rw [List.length_take, List.length_drop]
  omega
noncomputable def rSlT (K : PySem.W.Frag) : V → Option Int → Option Int → Hp → VK → Prop := fun x lo hi H Q => ∃ a xs, x = .ref a ∧ SqT K H a xs ∧
  ¬ (HT.sIx xs.length 0 lo = 0 ∧ HT.sIx xs.length xs.length hi = xs.length) ∧ ∀ p, H p = none → Q (.ref p) (upd H p (.tup (cutV xs lo hi)))
theorem sl_tup : SlR X (rSlT X.K) := by
  intro pins s σ H x v vl vu lo hi sl Q I rx hs pl pu h
  obtain ⟨a, xs, rfl, hx, hw, q⟩ := h
  cases rx
  obtain ⟨its, r, ht, hz⟩ := I.tuple hx
  have hlen : its.toArray.size = xs.length := by rw [List.size_toArray]; exact r.length.symm
  refine ⟨"tuple", _, PyProof.Rows.slot_tuple_getitem.lookup, ht.typeIs, ?_⟩
  refine HT.getItem_tuple_cut ht hs pl pu (by rw [hlen]; exact hw) ?_ (by rw [hlen]; exact hz)
  rw [hlen]
  refine ⟨.ref s.heap.objs.size, _, I.laid (t' := s.toks) (o := .tup (cutV xs lo hi)) (fun b ob q => Heap.get?_push_of_some _ q) (Nat.le_refl _) ?_, rfl, q _ (I.hok.fresh (Nat.le_refl _))⟩
  exact ⟨Nat.le_trans (cutV_length xs lo hi) hz, _, (r.drop (HT.sIx xs.length 0 lo)).take (HT.sIx xs.length xs.length hi - HT.sIx xs.length 0 lo), IsTupN.new _ _⟩

noncomputable def rLtT (K : PySem.W.Frag) : R2 := fun x y H Q => ∃ a b ns ms, x = .ref a ∧ y = .ref b ∧ SqT K H a (ns.map V.int) ∧ SqT K H b (ms.map V.int) ∧ Q (.bl (HT.lexLt ns ms)) H
theorem op_ltT (hu : X.A.units < cLine) : OpR X (compareOp .Lt) (rLtT X.K) := by
  intro pins s σ H x y v u Q I rx ry h
  obtain ⟨a, b, ns, ms, rfl, rfl, ha, hb, q⟩ := h
  cases rx
  cases ry
  obtain ⟨its, r1, p1, _⟩ := I.tuple ha
  obtain ⟨its2, r2, p2, _⟩ := I.tuple hb
  have i1 : IntsAre its.toArray.toList ns := intsAre_of r1
  have i2 : IntsAre its2.toArray.toList ms := intsAre_of r2
  exact HT.lt_tupInts p1 p2 i1 i2 hu ⟨.bl (HT.lexLt ns ms), H, I, rfl, q⟩
noncomputable def rCatT (K : PySem.W.Frag) : R2 := fun x y H Q => ∃ a b xs ys, x = .ref a ∧ y = .ref b ∧ SqT K H a xs ∧ SqT K H b ys ∧ xs ≠ [] ∧ xs.length + ys.length ≤ sizeLine ∧
  (ys = [] → Q (.ref a) H) ∧ (ys ≠ [] → ∀ p, H p = none → Q (.ref p) (upd H p (.tup (xs ++ ys))))
theorem Vals.nil_iff {xs : List V} {us : List Value} (r : Vals xs us) : us = [] ↔ xs = [] := by
  cases r with
  | nil => simp
  | cons _ _ => simp
theorem op_catT : OpR X (binaryOp .Add) (rCatT X.K) := by
  intro pins s σ H x y v u Q I rx ry h
  obtain ⟨a, b, xs, ys, rfl, rfl, ha, hb, hx, hz, q1, q2⟩ := h
  cases rx
  cases ry
  obtain ⟨its, r1, p1, _⟩ := I.tuple ha
  obtain ⟨its2, r2, p2, _⟩ := I.tuple hb
  refine HT.cat_tup p1 p2 (fun z => hx (r1.nil_iff.mp z)) (fun z => ⟨.ref a, H, I, rfl, q1 (r2.nil_iff.mp z)⟩) (fun z => ?_) (by rw [← r1.length, ← r2.length]; exact hz)
  refine ⟨.ref s.heap.objs.size, _, I.laid (t' := s.toks) (o := .tup (xs ++ ys)) (fun b ob q => Heap.get?_push_of_some _ q) (Nat.le_refl _) ?_, rfl, q2 (fun w => z (r2.nil_iff.mpr w)) _ (I.hok.fresh (Nat.le_refl _))⟩
  exact ⟨by rw [List.length_append]; exact hz, _, r1.append r2, IsTupN.new _ _⟩
end
end L2

namespace L2
open PySem PySem.Spec PyProof.Rows

noncomputable def ixN (n : Nat) (i : Int) : Option Nat := if 0 ≤ i then (if i < n then some i.toNat else none) else if -(n : Int) ≤ i then some (i + n).toNat else none
noncomputable def atI {α : Type} (xs : List α) (i : Int) : Option α := (ixN xs.length i).bind fun j => xs[j]?
theorem ixN_seq {n : Nat} {i : Int} {j : Nat} (h : ixN n i = some j) : seqIndex? i n = some j ∧ j < n ∧ -(n : Int) ≤ i ∧ i < n := by
  unfold ixN at h
  by_cases h0 : 0 ≤ i
  · rw [if_pos h0] at h
    by_cases h1 : i < n
    · rw [if_pos h1] at h
      have e : i.toNat = j := Option.some.inj h
      exact ⟨by rw [seqIndex_of h0 h1, e], by omega, by omega, h1⟩
    · rw [if_neg h1] at h; cases h
  · rw [if_neg h0] at h
    by_cases h1 : -(n : Int) ≤ i
    · rw [if_pos h1] at h
      have e : (i + n).toNat = j := Option.some.inj h
      exact ⟨by rw [seqIndex_neg (by omega) h1, e], by omega, h1, by omega⟩
    · rw [if_neg h1] at h; cases h
theorem atI_get {α : Type} {xs : List α} {i : Int} {v : α} (h : atI xs i = some v) : ∃ j, seqIndex? i xs.length = some j ∧ xs[j]? = some v ∧ j < xs.length ∧ -(xs.length : Int) ≤ i ∧ i < xs.length := by
  unfold atI at h
  cases e : ixN xs.length i with
  | none => rw [e] at h; cases h
  | some j =>
    rw [e] at h
    obtain ⟨h1, h2, h3, h4⟩ := ixN_seq e
    exact ⟨j, h1, h, h2, h3, h4⟩
theorem atI_nat {α : Type} {xs : List α} {j : Nat} {v : α} (h : xs[j]? = some v) : atI xs (j : Int) = some v := by
  have hj : j < xs.length := (List.getElem?_eq_some_iff.mp h).1
  have e : ixN xs.length (j : Int) = some j := by
    unfold ixN
    rw [if_pos (by omega), if_pos (by omega)]; simp
  unfold atI; rw [e]; exact h
noncomputable def PlainIx (b : Expr) : Prop := ∀ o i, subscripted b false o i = operate [o, i] (getItem o i)
noncomputable def IxR (X : Cx) (r : R2) : Prop :=
  ∀ (value slice : Expr) (pins : List (Addr × Obj)) (s : Shared) (σ : St) (H : Hp) (x y : V) (v u : Value) (Q : VK), Inv X pins σ H s → RelV x v → RelV y u → r x y H Q →
    subscripted slice false v u = operate [v, u] (getItem v u) → wpAny (model X.prog X.w) X.A (subscriptTail value slice v u) (EP X pins σ Q) X.xe s
noncomputable def MtR (X : Cx) (id : String) (r : V → List V → Hp → VK → Prop) : Prop :=
  ∀ (pins : List (Addr × Obj)) (s : Shared) (σ : St) (H : Hp) (x : V) (xs : List V) (v : Value) (us : List Value) (Q : VK), Inv X pins σ H s → RelV x v → Vals xs us → r x xs H Q →
    wpAny (model X.prog X.w) X.A (call (.builtin id) (v :: us)) (EP X pins σ Q) X.xe s
section
variable {X : Cx} {a b : Expr} {ta tb : TE} {pos : Pos}
theorem IxR.or {r r' : R2} (h : IxR X r) (h' : IxR X r') : IxR X (fun x y H Q => r x y H Q ∨ r' x y H Q) := by
  intro value slice pins s σ H x y v u Q I rx ry q hs
  rcases q with q | q
  · exact h value slice pins s σ H x y v u Q I rx ry q hs
  · exact h' value slice pins s σ H x y v u Q I rx ry q hs
theorem pe_ix {r : R2} (hr : IxR X r) (ha : PE X a ta) (hb : PE X b tb) (hs : PlainIx b) : PE X (.Subscript a b pos) (tOp r ta tb) := by
  intro pins s σ H Q I h
  exact Subscript_ (binT ha hb I h fun v u s2 x y H2 I2 rx ry q => hr a b pins s2 σ H2 x y v u Q I2 rx ry q (hs _ _))

noncomputable def rIxL (K : PySem.W.Frag) : R2 := fun x y H Q => ∃ p xs i v, x = .ref p ∧ y = .int i ∧ SqL K H p xs ∧ atI xs i = some v ∧ Q v H
noncomputable def rIxT (K : PySem.W.Frag) : R2 := fun x y H Q => ∃ p xs i v, x = .ref p ∧ y = .int i ∧ SqT K H p xs ∧ atI xs i = some v ∧ Q v H
noncomputable def rIxS : R2 := fun x y H Q => ∃ z i c, x = .str z ∧ y = .int i ∧ z.length ≤ sizeLine ∧ atI z.cps.toList i = some c ∧ Q (.str ⟨#[c]⟩) H
theorem ix_list : IxR X (rIxL X.K) := by
  intro value slice pins s σ H x y v u Q I rx ry h hs
  obtain ⟨p, xs, i, z, rfl, rfl, hq, he, q⟩ := h
  cases rx
  obtain ⟨t, rfl⟩ := ry
  obtain ⟨its, r, pl, hz⟩ := I.list hq
  obtain ⟨j, h1, h2, h3, h4, h5⟩ := atI_get he
  obtain ⟨w, ew, rw'⟩ := r.get h2
  have hl := r.length
  have hn := line63
  have fin : EP X pins σ Q w s := ⟨z, H, I, rw', q⟩
  by_cases h0 : 0 ≤ i
  · have hj : i.toNat = j := by
      rw [seqIndex_of h0 h5] at h1
      exact Option.some.inj h1
    exact item_listR pl.isList h0 (by omega) (by rw [hj]; simpa using ew) fin hs
  · have hj : (i + (its.toArray.size : Int)).toNat = j := by
      rw [seqIndex_neg (by omega) h4] at h1
      rw [List.size_toArray, ← hl]
      exact Option.some.inj h1
    exact subscriptTail_builtinR (x := w) pl.isList.typeIs slot_list_getitem.lookup
      (wpAny_getItem_list_neg (Q := fun r s' => r = w ∧ EP X pins σ Q r s') pl.isList (by omega) (by rw [List.size_toArray] <;> omega) (by omega) (by rw [hj]; simpa using ew) ⟨rfl, fin⟩) hs
theorem ix_tup : IxR X (rIxT X.K) := by
  intro value slice pins s σ H x y v u Q I rx ry h hs
  obtain ⟨p, xs, i, z, rfl, rfl, hq, he, q⟩ := h
  cases rx
  obtain ⟨t, rfl⟩ := ry
  obtain ⟨its, r, pl, hz⟩ := I.tuple hq
  obtain ⟨j, h1, h2, h3, h4, h5⟩ := atI_get he
  obtain ⟨w, ew, rw'⟩ := r.get h2
  have hl := r.length
  have hn := line63
  have fin : EP X pins σ Q w s := ⟨z, H, I, rw', q⟩
  exact subscriptTail_builtinR (x := w) pl.typeIs slot_tuple_getitem.lookup
    (getItem_tuple (j := j) (Q := fun r s' => r = w ∧ EP X pins σ Q r s') pl (by omega) (by omega) (by rw [List.size_toArray, ← hl]; exact h1) (by simpa using ew) ⟨rfl, fin⟩) hs
theorem ix_str : IxR X rIxS := by
  intro value slice pins s σ H x y v u Q I rx ry h hs
  obtain ⟨z, i, c, rfl, rfl, hz, he, q⟩ := h
  obtain ⟨t, rfl⟩ := rx
  obtain ⟨t', rfl⟩ := ry
  obtain ⟨j, h1, h2, h3, h4, h5⟩ := atI_get he
  have hl : z.cps.toList.length = z.length := by simp [Str.length]
  rw [hl] at h1 h4 h5
  have hn := line63
  exact tail_any (typeIs_str s z t) slot_str_getitem.lookup (getItem_str (c := c) (by
    have e1 : decide (i < -(2 ^ 63 : Int)) = false := decide_eq_false (by omega)
    have e2 : decide (i ≥ 2 ^ 63) = false := decide_eq_false (by omega)
    rw [e1, e2, Bool.or_false]) (by rw [h1]; simpa using h2) ⟨.str ⟨#[c]⟩, H, I.tok _, ⟨_, rfl⟩, q⟩) hs
noncomputable def rIx (K : PySem.W.Frag) : R2 := fun x y H Q => rIxL K x y H Q ∨ rIxT K x y H Q ∨ rIxS x y H Q
theorem ix_seq : IxR X (rIx X.K) := ix_list.or (ix_tup.or ix_str)

theorem slice_bounds (lo hi : Option Int) (n : Nat) : (sliceBounds lo hi none n).1 = ((HT.sIx n 0 lo : Nat) : Int) ∧ (sliceBounds lo hi none n).2.1 = ((HT.sIx n n hi : Nat) : Int) ∧ (sliceBounds lo hi none n).2.2 = 1 := by
  refine ⟨?_, ?_, rfl⟩
  · cases lo with
    | none => simp [sliceBounds, HT.sIx]
    | some i =>
      simp only [sliceBounds, HT.sIx, Option.getD_none, show (1 : Int) > 0 by decide, if_true]
      by_cases h : i < 0
      · simp only [h, if_true] <;> omega
      · simp only [h, if_false] <;> omega
  · cases hi with
    | none => simp [sliceBounds, HT.sIx]
    | some i =>
      simp only [sliceBounds, HT.sIx, Option.getD_none, show (1 : Int) > 0 by decide, if_true]
      by_cases h : i < 0
      · simp only [h, if_true] <;> omega
      · simp only [h, if_false] <;> omega
theorem slicePick_cut (its : List Value) (lo hi : Option Int) : slicePick its.toArray lo hi none = ((its.drop (HT.sIx its.length 0 lo)).take (HT.sIx its.length its.length hi - HT.sIx its.length 0 lo)).toArray := by
  obtain ⟨h1, h2, h3⟩ := slice_bounds lo hi its.toArray.size
  unfold slicePick
  rw [h1, h2, h3]
  simp only [sliceRange_one, pick_run, List.size_toArray] <;> rfl
noncomputable def rSlL (K : PySem.W.Frag) : V → Option Int → Option Int → Hp → VK → Prop := fun x lo hi H Q => ∃ a xs, x = .ref a ∧ SqL K H a xs ∧ ∀ p, H p = none → Q (.ref p) (upd H p (.lst (cutV xs lo hi)))
theorem sl_list : SlR X (rSlL X.K) := by
  intro pins s σ H x v vl vu lo hi sl Q I rx hs pl pu h
  obtain ⟨a, xs, rfl, hx, q⟩ := h
  cases rx
  obtain ⟨its, r, ht, hz⟩ := I.list hx
  have hlen := r.length
  refine ⟨"list", _, slot_list_getitem.lookup, ht.isList.typeIs, ?_⟩
  refine wpAny_getItem_list_slice ht.isList hs pl pu .none (by simp) ?_ (by rw [List.size_toArray] <;> omega)
  rw [slicePick_cut, ← hlen]
  refine ⟨.ref s.heap.objs.size, _, I.laid (t' := s.toks) (o := .lst (cutV xs lo hi)) (fun b ob q => Heap.get?_push_of_some _ q) (Nat.le_refl _) ?_, rfl, q _ (I.hok.fresh (Nat.le_refl _))⟩
  exact ⟨Nat.le_trans (cutV_length xs lo hi) hz, _, 0, (r.drop (HT.sIx xs.length 0 lo)).take (HT.sIx xs.length xs.length hi - HT.sIx xs.length 0 lo), Heap.get?_push_size _ rfl⟩

noncomputable def flatV : V → Bool
  | .non => true
  | .bl _ => true
  | .int _ => true
  | .str _ => true
  | _ => false
noncomputable def eqV : V → V → Bool
  | .non, .non => true
  | .bl a, .bl b => a == b
  | .bl a, .int b => (if a then 1 else 0) == b
  | .int a, .bl b => a == (if b then 1 else 0)
  | .int a, .int b => a == b
  | .str a, .str b => a == b
  | _, _ => false
theorem eqAt_V {A : Around} {s : Shared} {y x : V} {u v : Value} (ry : RelV y u) (rx : RelV x v) (fy : flatV y = true) (fx : flatV x = true) : SeqAt.EqAt A s u v (eqV y x) := by
  cases y with
  | non =>
    cases ry
    cases x with
    | non => cases rx; exact SeqAt.EqAt.same _
    | bl b => cases rx; exact SeqAt.EqAt.none_bool b
    | int b => obtain ⟨t, rfl⟩ := rx; exact SeqAt.EqAt.none_int b t
    | str b => obtain ⟨t, rfl⟩ := rx; exact SeqAt.EqAt.none_str b t
    | _ => exact absurd (show false = true from fx) Bool.false_ne_true
  | bl a =>
    cases ry
    cases x with
    | non => cases rx; exact SeqAt.EqAt.bool_none a
    | bl b => cases rx; exact SeqAt.EqAt.bool_bool a b
    | int b => obtain ⟨t, rfl⟩ := rx; exact SeqAt.EqAt.bool_int a b t
    | str b => obtain ⟨t, rfl⟩ := rx; exact SeqAt.EqAt.bool_str a b t
    | _ => exact absurd (show false = true from fx) Bool.false_ne_true
  | int a =>
    obtain ⟨t', rfl⟩ := ry
    cases x with
    | non => cases rx; exact SeqAt.EqAt.int_none a t'
    | bl b => cases rx; exact SeqAt.EqAt.int_bool a t' b
    | int b => obtain ⟨t, rfl⟩ := rx; exact SeqAt.EqAt.int_int a t' b t
    | str b => obtain ⟨t, rfl⟩ := rx; exact SeqAt.EqAt.int_str a t' b t
    | _ => exact absurd (show false = true from fx) Bool.false_ne_true
  | str a =>
    obtain ⟨t', rfl⟩ := ry
    cases x with
    | non => cases rx; exact SeqAt.EqAt.str_none a t'
    | bl b => cases rx; exact SeqAt.EqAt.str_bool a t' b
    | int b => obtain ⟨t, rfl⟩ := rx; exact SeqAt.EqAt.str_int a t' b t
    | str b => obtain ⟨t, rfl⟩ := rx; exact SeqAt.EqAt.str_str a t' b t
    | _ => exact absurd (show false = true from fx) Bool.false_ne_true
  | _ => exact absurd (show false = true from fy) Bool.false_ne_true
noncomputable def eqU (x : V) (u : Value) : Bool := match u with
  | .none => eqV .non x
  | .bool b => eqV (.bl b) x
  | .int i _ => eqV (.int i) x
  | .str z _ => eqV (.str z) x
  | _ => false
theorem eqU_of {x y : V} {u : Value} (r : RelV y u) (f : flatV y = true) : eqU x u = eqV y x := by
  cases y with
  | non => cases r; rfl
  | bl b => cases r; rfl
  | int i => obtain ⟨t, rfl⟩ := r; rfl
  | str z => obtain ⟨t, rfl⟩ := r; rfl
  | _ => exact absurd (show false = true from f) Bool.false_ne_true
theorem any_eqU {x : V} : ∀ {xs : List V} {us : List Value}, Vals xs us → xs.all flatV = true → us.any (eqU x) = xs.any fun y => eqV y x
  | _, _, .nil, _ => rfl
  | y :: xs, u :: us, .cons r t, f => by
    rw [List.all_cons, Bool.and_eq_true] at f
    rw [List.any_cons, List.any_cons, eqU_of r f.1, any_eqU t f.2]
theorem mem_eqAt {A : Around} {s : Shared} {x : V} {v : Value} (rx : RelV x v) (fx : flatV x = true) : ∀ {xs : List V} {us : List Value}, Vals xs us → xs.all flatV = true → ∀ u ∈ us, SeqAt.EqAt A s u v (eqU x u)
  | _, _, .nil, _ => fun u hu => by cases hu
  | y :: xs, u :: us, .cons r t, f => fun u' hu => by
    rw [List.all_cons, Bool.and_eq_true] at f
    rcases List.mem_cons.mp hu with rfl | hu
    · rw [eqU_of r f.1]; exact eqAt_V r rx f.1 fx
    · exact mem_eqAt rx fx t f.2 u' hu
noncomputable def inV (x : V) (xs : List V) : Bool := xs.any fun y => eqV y x
noncomputable def rIn (K : PySem.W.Frag) (neg : Bool) : R2 := fun x y H Q => ∃ p xs, y = .ref p ∧ (SqL K H p xs ∨ SqT K H p xs) ∧ flatV x = true ∧ xs.all flatV = true ∧ Q (.bl (if neg then !inV x xs else inV x xs)) H
theorem op_in_seq : OpR X (compareOp .In) (rIn X.K false) := by
  intro pins s σ H x y v u Q I rx ry h
  obtain ⟨p, xs, rfl, hq, fx, fs, q⟩ := h
  cases ry
  rcases hq with hq | hq
  · obtain ⟨its, r, pl, hz⟩ := I.list hq
    refine SeqAt.in_listAt (eqU x) pl.isList (fun w hw => mem_eqAt rx fx r fs w (by simpa using hw)) ⟨.bl _, H, I, rfl, ?_⟩
    rw [show its.toArray.any (eqU x) = its.any (eqU x) by simp, any_eqU r fs]
    exact q
  · obtain ⟨its, r, pl, hz⟩ := I.tuple hq
    refine SeqAt.in_tupleAt (eqU x) pl (fun w hw => mem_eqAt rx fx r fs w (by simpa using hw)) ⟨.bl _, H, I, rfl, ?_⟩
    rw [show its.toArray.any (eqU x) = its.any (eqU x) by simp, any_eqU r fs]
    exact q
theorem call_len_seq : CallR X (.builtin "len") (fun xs H Q => ∃ p ys, xs = [.ref p] ∧ (SqL X.K H p ys ∨ SqT X.K H p ys) ∧ Q (.int ys.length) H) := by
  intro pins s σ H xs us Q I r h
  obtain ⟨p, ys, rfl, hq, q⟩ := h
  obtain ⟨u, rfl, rx⟩ := vals1 r
  cases rx
  have hn := line63
  rcases hq with hq | hq
  · obtain ⟨its, r', pl, hz⟩ := I.list hq
    have hlen := r'.length
    exact Calls.call_len_list pl.isList (by simp only [List.size_toArray] <;> omega) ⟨.int ys.length, H, I.tok _, ⟨s.toks + 1, by rw [List.size_toArray, hlen]⟩, q⟩
  · obtain ⟨its, r', pl, hz⟩ := I.tuple hq
    have hlen := r'.length
    exact len_tuple pl (by simp only [List.size_toArray] <;> omega) ⟨.int ys.length, H, I.tok _, ⟨s.toks + 1, by rw [List.size_toArray, hlen]⟩, q⟩
theorem call_list_of : CallR X (.type "list") (fun xs H Q => ∃ p ys, xs = [.ref p] ∧ (SqL X.K H p ys ∨ SqT X.K H p ys) ∧ ∀ l, H l = none → Q (.ref l) (upd H l (.lst ys))) := by
  intro pins s σ H xs us Q I r h
  obtain ⟨p, ys, rfl, hq, q⟩ := h
  obtain ⟨u, rfl, rx⟩ := vals1 r
  cases rx
  have fin : ∀ (its : List Value), Vals ys its → ys.length ≤ sizeLine → ∀ (h' : Heap) (c' : Nat), (∀ b o', s.heap.get? b = some o' → h'.get? b = some o') →
      h'.get? s.heap.objs.size = some { cls := .type "list", dict := none, data := .seq its.toArray c', slots := #[] } → EP X pins σ Q (.ref s.heap.objs.size) { s with heap := h' } := fun its r' hz h' c' kp e =>
    ⟨.ref s.heap.objs.size, _, I.laid (t' := s.toks) kp (Nat.le_refl _) (show ObjOk X.prog X.w _ h' _ (.lst ys) from ⟨hz, its, c', r', e⟩), rfl, q _ (I.hok.fresh (Nat.le_refl _))⟩
  rcases hq with hq | hq
  · obtain ⟨its, r', pl, hz⟩ := I.list hq
    have hlen := r'.length
    obtain ⟨o, ho, hc, n, hd⟩ := pl.isList
    exact call_list_seq p (.inl rfl) ho hc hd (fun h' c' kp e => fin its r' hz h' c' kp e) (by simp only [List.size_toArray] <;> omega)
  · obtain ⟨its, r', pl, hz⟩ := I.tuple hq
    have hlen := r'.length
    obtain ⟨o, ho, hc, n, hd⟩ := pl
    exact call_list_seq p (.inr rfl) ho hc hd (fun h' c' kp e => fin its r' hz h' c' kp e) (by simp only [List.size_toArray] <;> omega)
theorem call_tuple_of : CallR X (.type "tuple") (fun xs H Q => ∃ p ys, xs = [.ref p] ∧ ((SqL X.K H p ys ∧ ∀ l, H l = none → Q (.ref l) (upd H l (.tup ys))) ∨ (SqT X.K H p ys ∧ Q (.ref p) H))) := by
  intro pins s σ H xs us Q I r h
  obtain ⟨p, ys, rfl, h⟩ := h
  obtain ⟨u, rfl, rx⟩ := vals1 r
  cases rx
  rcases h with ⟨hq, q⟩ | ⟨hq, q⟩
  · obtain ⟨its, r', pl, hz⟩ := I.list hq
    have hlen := r'.length
    refine call_tuple_list pl.isList (fun h' kp => ?_) (by simp only [List.size_toArray] <;> omega)
    have I1 : Inv X pins σ H { s with heap := h' } := I.kept (t' := s.toks) kp
    have I2 : Inv X pins σ (upd H h'.objs.size (.tup ys)) { s with heap := h'.push { cls := .type "tuple", data := .seq its.toArray } } :=
      I1.laid (t' := s.toks) (fun b o e => Heap.get?_push_of_some _ e) (Nat.le_refl _) (show ObjOk X.prog X.w _ _ _ (.tup ys) from ⟨hz, its, r', IsTupN.new _ _⟩)
    exact ⟨.ref h'.objs.size, _, I2, rfl, q _ (I1.hok.fresh (Nat.le_refl _))⟩
  · obtain ⟨its, r', pl, hz⟩ := I.tuple hq
    exact call_tuple_same pl ⟨.ref p, H, I, rfl, q⟩

noncomputable def tyV (K : PySem.W.Frag) (T : String) (x : V) (H : Hp) : Prop := match x with
  | .str _ => T = "str"
  | .int _ => T = "int"
  | .ref p => (T = "list" ∧ ∃ xs, SqL K H p xs) ∨ (T = "tuple" ∧ ∃ o, K.lookup p = some o ∧ o.cls = .type "tuple" ∧ o.dict = none) ∨
      (T = "dict" ∧ ((∃ kvs, H p = some (.dK kvs)) ∨ ∃ kvs, H p = some (.dT kvs))) ∨ (T = "set" ∧ ∃ S n, H p = some (.set S n))
  | _ => False
theorem tyV_is {pins : List (Addr × Obj)} {σ : St} {H : Hp} {s : Shared} {T : String} {x : V} {v : Value} (I : Inv X pins σ H s) (r : RelV x v) (ty : tyV X.K T x H) :
    s.TypeIs v T ∧ ∀ a, v = .ref a → ∃ ob, s.heap.get? a = some ob ∧ ob.dict = none := by
  cases x with
  | str z =>
    obtain ⟨t, rfl⟩ := r
    cases (show T = "str" from ty)
    exact ⟨typeIs_str s z t, fun _ e => nomatch e⟩
  | int i =>
    obtain ⟨t, rfl⟩ := r
    cases (show T = "int" from ty)
    exact ⟨typeIs_int s i t, fun _ e => nomatch e⟩
  | ref p =>
    cases r
    rcases ty with ⟨rfl, xs, hq⟩ | ⟨rfl, o, hk, hc, hd⟩ | ⟨rfl, hk⟩ | ⟨rfl, S, n, hk⟩
    · obtain ⟨its, _, pl, _⟩ := I.list hq
      refine ⟨pl.isList.typeIs, fun a e => ?_⟩
      cases e
      obtain ⟨o, n, e, c, hd, _⟩ := pl
      exact ⟨o, e, hd⟩
    · refine ⟨⟨o, I.kIn p o hk, hc⟩, fun a e => ?_⟩
      cases e
      exact ⟨o, I.kIn _ o hk, hd⟩
    · have z : ∃ o, s.heap.get? p = some o ∧ o.ExactDict := by
        rcases hk with ⟨kvs, hk⟩ | ⟨kvs, hk⟩
        · obtain ⟨_, _, _, _, o, _, _, e, ex, _⟩ := I.hok p _ hk
          exact ⟨o, e, ex⟩
        · obtain ⟨_, _, _, _, o, _, _, e, ex, _⟩ := I.hok p _ hk
          exact ⟨o, e, ex⟩
      obtain ⟨o, e, ex⟩ := z
      refine ⟨⟨o, e, ex.1⟩, fun a e2 => ?_⟩
      cases e2
      exact ⟨o, e, ex.2.1⟩
    · obtain ⟨o, _, _, _, e, ex, _⟩ := I.hok p _ hk
      refine ⟨⟨o, e, ex.1⟩, fun a e2 => ?_⟩
      cases e2
      exact ⟨o, e, ex.2.1⟩
  | _ => exact False.elim ty
noncomputable def tBM (K : PySem.W.Frag) (T : String) (r : V → List V → Hp → VK → Prop) (to : TE) (t : TA) : TE := fun σ H Q => to σ H fun x H1 => tyV K T x H1 ∧ t σ H1 fun xs H2 => r x xs H2 Q
variable {o e : Expr} {es : List Expr} {to : TE} {t : TA} {name : Str} {apos cpos : Pos} {T id : String} {r : V → List V → Hp → VK → Prop}
theorem pe_bm (pa : PlainAttrs T) (slot : Slot T name id) (hty : typeOf (.builtin id) = pure (.type "method_descriptor")) (hm : MtR X id r) (ho : PE X o to) (ha : PA X (e :: es) t)
    (hbase : attributeBase o name X.env (eval o X.env) = eval o X.env := by rfl)
    (hfew : ((backTo cpos (starEach (e :: es) X.env)).all (fun x => !x.1) && (backToKw cpos (keywordEach [] X.env)).all (fun x => x.1.isSome)
      && decide ((e :: es).length + ([] : List Keyword).length + (if ([] : List Keyword).isEmpty then 0 else 1) < 30)) = true := by rfl)
    (hline : (apos.endLine == cpos.line) = true := by rfl) (hs : starEach (e :: es) X.env = (false, eval e X.env) :: starEach es X.env := by rfl) (hplain : (backTo cpos (starEach es X.env)).any (·.1) = false := by rfl) :
    PE X (.Call (.Attribute o name apos) (e :: es) [] cpos) (tBM X.K T r to t) := by
  intro pins s σ H Q I h
  refine wpAny_Call_method_late hbase hfew hline rfl (thn (ho pins s σ H _ I h) fun v s1 ⟨x, H1, I1, r1, ty, q1⟩ => ?_)
  obtain ⟨h1, h2⟩ := tyV_is I1 r1 ty
  refine ⟨T, id, pa, slot, hty, h1, h2, ?_⟩
  have hA := ha cpos pins s1 σ H1 _ I1 q1
  rw [hs] at hA ⊢
  refine Calls.callWith_builtin (by show (false || (backTo cpos (starEach es X.env)).any (·.1)) = false; rw [hplain] <;> rfl) (Calls.evalArgs_plain ?_)
  exact thn hA fun us s2 ⟨vs, H2, I2, r2, q2⟩ => hm pins s2 σ H2 x vs v us Q I2 r1 r2 q2
end
end L2

namespace L2
open PySem PySem.Spec PyProof.Rows

noncomputable def MtM (X : Cx) (id : String) (r : V → List V → Hp → VK → Prop) : Prop :=
  ∀ (pins : List (Addr × Obj)) (s : Shared) (σ : St) (H : Hp) (x : V) (xs : List V) (v : Value) (us : List Value) (Q : VK), Inv X pins σ H s → RelV x v → Vals xs us → r x xs H Q →
    wpAny (model X.prog X.w) X.A (call (.builtin id) (v :: us)) (EP X pins σ Q) X.xe s

theorem Vals.one : ∀ {x : V} {us : List Value}, Vals [x] us → ∃ u, us = [u] ∧ RelV x u
  | _, _, .cons r .nil => ⟨_, rfl, r⟩
theorem Vals.two : ∀ {x y : V} {us : List Value}, Vals [x, y] us → ∃ u v, us = [u, v] ∧ RelV x u ∧ RelV y v
  | _, _, _, .cons r (.cons q .nil) => ⟨_, _, rfl, r, q⟩
section
variable {X : Cx} {pins : List (Addr × Obj)} {σ : St} {H : Hp} {s : Shared} {l b : Addr} {xs ys zs : List V}

theorem Inv.lset {its its' : List Value} {n : Nat} {f : Array Value → Array Value} {t' : Nat} (I : Inv X pins σ H s) (hH : H l = some (.lst xs))
    (e : s.heap.get? l = some { cls := .type "list", data := .seq its.toArray n }) (hf : f its.toArray = its'.toArray) (hv : Vals ys its') (hz : ys.length ≤ sizeLine) :
    Inv X pins σ (upd H l (.lst ys)) { s with heap := s.heap.update l (Obj.mapSeq f), toks := t' } := by
  have q := PySem.IsL.update e f
  rw [hf] at q
  refine I.write (x := l) (e := l) (by rw [hH]; exact trivial) (.inl rfl) (fun b' u hb hu => (Heap.get?_update_other s.heap (Obj.mapSeq f) (Ne.symm hb)).trans hu) ⟨_, q⟩ ?_
  exact ⟨hz, its', _, hv, q⟩
theorem Inv.lnew {its : List Value} {t' : Nat} (I : Inv X pins σ H s) (hv : Vals ys its) (hz : ys.length ≤ sizeLine) :
    Inv X pins σ (upd H s.heap.objs.size (.lst ys)) { s with heap := s.heap.push { cls := .type "list", data := .seq its.toArray }, toks := t' } :=
  I.laid (fun _ _ q => Heap.get?_push_of_some _ q) (Nat.le_refl _) ⟨hz, its, 0, hv, Heap.get?_push_size _ rfl⟩
theorem Inv.fresh (I : Inv X pins σ H s) : H s.heap.objs.size = none := I.hok.fresh (Nat.le_refl _)
theorem Inv.lstM (I : Inv X pins σ H s) (hH : H l = some (.lst xs)) : xs.length ≤ sizeLine ∧ ∃ (its : List Value) (n : Nat), Vals xs its ∧ xs.length = its.length ∧ s.heap.get? l = some { cls := .type "list", data := .seq its.toArray n } := by
  obtain ⟨z, its, n, r, e⟩ := I.hok l _ hH
  exact ⟨z, its, n, r, r.length, e⟩

theorem notLongL {n : Nat} (h : n ≤ sizeLine) : Builtin.List.listTooLong n = false := by
  unfold Builtin.List.listTooLong
  exact decide_eq_false (by omega)
end

section
variable {X : Cx}

noncomputable def rAppend : V → List V → Hp → VK → Prop := fun x vs H Q => ∃ l xs y, x = .ref l ∧ vs = [y] ∧ H l = some (.lst xs) ∧ xs.length < sizeLine ∧ Q .non (upd H l (.lst (xs ++ [y])))
theorem mt_append : MtM X "list.append" rAppend := by
  intro pins s σ H x vs v us Q I rx rv h
  obtain ⟨l, xs, y, rfl, rfl, hH, hz, q⟩ := h
  cases rx
  obtain ⟨u, rfl, ru⟩ := rv.one
  obtain ⟨z, its, n, r, hl, e⟩ := I.lstM hH
  refine call_meets F.slot_list_append ⟨_, e, rfl⟩ F.entry_list_append (F.args_list_append_2 _ _) (PySem.list_append l its.toArray n u (by rw [List.size_toArray]; omega)) ⟨e, ?_⟩
  refine ⟨.non, _, I.lset (its' := its ++ [u]) hH e (by simp) (r.append (.cons ru .nil)) ?_, rfl, q⟩
  rw [List.length_append, List.length_singleton]
  omega

noncomputable def rExtend : V → List V → Hp → VK → Prop := fun x vs H Q => ∃ l b xs zs, x = .ref l ∧ vs = [.ref b] ∧ H l = some (.lst xs) ∧ H b = some (.lst zs) ∧ xs.length + zs.length ≤ sizeLine ∧ Q .non (upd H l (.lst (xs ++ zs)))
theorem mt_extend : MtM X "list.extend" rExtend := by
  intro pins s σ H x vs v us Q I rx rv h
  obtain ⟨l, b, xs, zs, rfl, rfl, hH, hB, hz, q⟩ := h
  cases rx
  obtain ⟨u, rfl, ru⟩ := rv.one
  cases ru
  obtain ⟨z, its, n, r, hl, e⟩ := I.lstM hH
  obtain ⟨z2, its2, n2, r2, hl2, e2⟩ := I.lstM hB
  have hsz : its.toArray.size + its2.toArray.size ≤ sizeLine := by rw [List.size_toArray, List.size_toArray]; omega
  have hlong : ¬ (!its.toArray.isEmpty && Builtin.List.listTooLong (its.toArray.size + its2.toArray.size)) = true := by
    rw [notLongL hsz, Bool.and_false]
    exact Bool.false_ne_true
  refine call_meets F.slot_list_extend ⟨_, e, rfl⟩ F.entry_list_extend (F.args_list_extend_2 _ _)
    (AutoSeq1.list_extend_list_list_0 l its.toArray n b its2.toArray n2 hlong (by rw [List.size_toArray]; omega) (by omega)) ⟨e, e2, ?_⟩
  refine ⟨.non, _, I.lset (its' := its ++ its2) hH e (by simp) (r.append r2) ?_, rfl, q⟩
  rw [List.length_append]
  omega

noncomputable def rCat : R2 := fun x y H Q => ∃ l b xs zs, x = .ref l ∧ y = .ref b ∧ H l = some (.lst xs) ∧ H b = some (.lst zs) ∧ xs.length + zs.length ≤ sizeLine ∧ ∀ p, H p = none → Q (.ref p) (upd H p (.lst (xs ++ zs)))
theorem op_cat : OpR X (binaryOp .Add) rCat := by
  intro pins s σ H x y v u Q I rx ry h
  obtain ⟨l, b, xs, zs, rfl, rfl, hH, hB, hz, q⟩ := h
  cases rx
  cases ry
  obtain ⟨z, its, n, r, hl, e⟩ := I.lstM hH
  obtain ⟨z2, its2, n2, r2, hl2, e2⟩ := I.lstM hB
  refine PySem.P.add_list e e2 ?_ (by rw [List.size_toArray, List.size_toArray]; omega)
  have ea : its.toArray ++ its2.toArray = (its ++ its2).toArray := by simp
  rw [ea]
  exact ⟨.ref _, _, I.lnew (t' := s.toks) (r.append r2) (by rw [List.length_append]; omega), rfl, q _ I.fresh⟩
end

section
variable {prog : Program} {w : World} {A : Around} {E : Value → Shared → Prop} {s : Shared}
set_option maxRecDepth 100000 in
end

section
variable {X : Cx}
end
end L2

namespace L2
open PySem PySem.Spec PyProof.Rows

section
variable {κ : Type} [DecidableEq κ]
noncomputable def valV (kvs : List (κ × V)) (k : κ) : Option V := (kvs.find? fun kv => decide (kv.1 = k)).map (·.2)
noncomputable def putK (kvs : List (κ × V)) (k : κ) (v : V) : List (κ × V) :=
  if (kvs.any fun kv => decide (kv.1 = k)) = true then kvs.map (fun kv => if kv.1 = k then (kv.1, v) else kv) else kvs ++ [(k, v)]
theorem valV_pos {p : κ × V} {r : List (κ × V)} {k : κ} (e : p.1 = k) : valV (p :: r) k = some p.2 := by simp [valV, List.find?_cons, e]
theorem valV_neg {p : κ × V} {r : List (κ × V)} {k : κ} (e : ¬ p.1 = k) : valV (p :: r) k = valV r k := by simp [valV, List.find?_cons, e]
theorem valV_any (k : κ) : ∀ kvs : List (κ × V), (kvs.any fun kv => decide (kv.1 = k)) = (valV kvs k).isSome
  | [] => rfl
  | p :: r => by
    rw [List.any_cons]
    by_cases e : p.1 = k
    · simp only [valV_pos e, decide_eq_true e, Bool.true_or, Option.isSome_some]
    · rw [valV_neg e, decide_eq_false e, Bool.false_or]; exact valV_any k r
theorem valV_map (k j : κ) (y : V) : ∀ kvs : List (κ × V), valV (kvs.map fun kv => if kv.1 = k then (kv.1, y) else kv) j = (valV kvs j).map fun x => if j = k then y else x
  | [] => rfl
  | p :: r => by
    have ih := valV_map k j y r
    rw [List.map_cons]
    by_cases h : p.1 = k
    · rw [if_pos h]
      by_cases e : p.1 = j
      · rw [valV_pos (p := (p.1, y)) e, valV_pos e, Option.map_some, if_pos (e.symm.trans h)]
      · rw [valV_neg (p := (p.1, y)) e, valV_neg e, ih]
    · rw [if_neg h]
      by_cases e : p.1 = j
      · rw [valV_pos (p := p) e, valV_pos e, Option.map_some, if_neg (fun z => h (e.trans z))]
      · rw [valV_neg (p := p) e, valV_neg e, ih]
theorem valV_snoc (k j : κ) (y : V) : ∀ kvs : List (κ × V), valV kvs k = none → valV (kvs ++ [(k, y)]) j = if j = k then some y else valV kvs j
  | [], _ => by
    by_cases e : k = j
    · rw [if_pos e.symm]; exact valV_pos (p := (k, y)) e
    · rw [if_neg (fun z => e z.symm)]; exact valV_neg (p := (k, y)) e
  | p :: r, hn => by
    rw [List.cons_append]
    have hk : ¬ p.1 = k := fun z => by rw [valV_pos z] at hn; cases hn
    rw [valV_neg hk] at hn
    have ih := valV_snoc k j y r hn
    by_cases e : p.1 = j
    · rw [valV_pos e, valV_pos e, if_neg (fun z => hk (e.trans z))]
    · rw [valV_neg e, valV_neg e, ih]
theorem valV_put (kvs : List (κ × V)) (k j : κ) (y : V) : valV (putK kvs k y) j = if j = k then some y else valV kvs j := by
  unfold putK
  by_cases a : (kvs.any fun kv => decide (kv.1 = k)) = true
  · rw [if_pos a, valV_map]
    rw [valV_any] at a
    by_cases e : j = k
    · obtain ⟨x, hx⟩ := Option.isSome_iff_exists.mp a
      rw [if_pos e, e, hx, Option.map_some, if_pos rfl]
    · rw [if_neg e]
      cases valV kvs j with
      | none => rfl
      | some x => rw [Option.map_some, if_neg e]
  · rw [if_neg a]
    refine valV_snoc k j y kvs ?_
    rw [valV_any] at a
    cases q : valV kvs k with
    | none => rfl
    | some x => rw [q] at a; exact (a rfl).elim
theorem length_putK (kvs : List (κ × V)) (k : κ) (v : V) : (putK kvs k v).length ≤ kvs.length + 1 := by
  unfold putK
  split
  · rw [List.length_map]; omega
  · rw [List.length_append, List.length_cons, List.length_nil]; omega
theorem RelO.isSome_eq {o : Option V} {u : Option Value} (r : RelO o u) : o.isSome = u.isSome := by
  cases o with
  | none => cases u with
    | none => rfl
    | some _ => exact (show False from r).elim
  | some _ => cases u with
    | none => exact (show False from r).elim
    | some _ => rfl
theorem RelO.getD {o : Option V} {u : Option Value} {d : V} {d' : Value} (r : RelO o u) (rd : RelV d d') : RelV (o.getD d) (u.getD d') := by
  cases o with
  | none => cases u with
    | none => exact rd
    | some _ => exact (show False from r).elim
  | some _ => cases u with
    | none => exact (show False from r).elim
    | some _ => exact r

theorem KV.val {kvs : List (κ × V)} {vs : List (κ × Value)} (r : KV kvs vs) (k : κ) : RelO (valV kvs k) (valueAt vs k) := by
  unfold KV at r
  induction r with
  | nil => exact True.intro
  | @cons p q ps qs h t ih =>
    obtain ⟨h1, h2⟩ := h
    by_cases e : p.1 = k
    · have e' : q.1 = k := h1.symm.trans e
      have b : valueAt (q :: qs) k = some q.2 := by simp [valueAt, List.find?_cons, e']
      rw [valV_pos e, b]; exact h2
    · have e' : ¬ q.1 = k := fun z => e (h1.trans z)
      have b : valueAt (q :: qs) k = valueAt qs k := by simp [valueAt, List.find?_cons, e']
      rw [valV_neg e, b]; exact ih
theorem KV.any {kvs : List (κ × V)} {vs : List (κ × Value)} (r : KV kvs vs) (k : κ) : (kvs.any fun kv => decide (kv.1 = k)) = vs.any fun kv => decide (kv.1 = k) := by
  unfold KV at r
  induction r with
  | nil => rfl
  | cons h t ih => rw [List.any_cons, List.any_cons, ih, h.1]
theorem KV.repl {kvs : List (κ × V)} {vs : List (κ × Value)} (r : KV kvs vs) (k : κ) {y : V} {u : Value} (ry : RelV y u) :
    KV (kvs.map fun kv => if kv.1 = k then (kv.1, y) else kv) (vs.map fun kv => if kv.1 = k then (kv.1, u) else kv) := by
  unfold KV at r ⊢
  induction r with
  | nil => exact .nil
  | @cons p q ps qs h t ih =>
    rw [List.map_cons, List.map_cons]
    refine .cons ?_ ih
    obtain ⟨h1, h2⟩ := h
    by_cases e : p.1 = k
    · rw [if_pos e, if_pos (h1.symm.trans e)]; exact ⟨h1, ry⟩
    · rw [if_neg e, if_neg (fun z => e (h1.trans z))]; exact ⟨h1, h2⟩
theorem KV.put {kvs : List (κ × V)} {vs : List (κ × Value)} (r : KV kvs vs) (k : κ) {y : V} {u : Value} (ry : RelV y u) : KV (putK kvs k y) (stored vs k u) := by
  unfold putK stored
  rw [r.any k]
  by_cases e : (vs.any fun kv => decide (kv.1 = k)) = true
  · rw [if_pos e, if_pos e]; exact r.repl k ry
  · rw [if_neg e, if_neg e]; exact Paired.snoc r ⟨rfl, ry⟩
theorem KV.length {kvs : List (κ × V)} {vs : List (κ × Value)} (r : KV kvs vs) : kvs.length = vs.length := Paired.length r
end


theorem kV_is {P : Program} {w : World} {k : Key} {u : Value} (r : RelV (kV k) u) : (mixKind P w).is k u = true := by
  cases k with
  | inl i => obtain ⟨t, e⟩ := (show ∃ t, u = Value.int i t from r); subst e; exact mixKind_int P w i t
  | inr x => obtain ⟨t, e⟩ := (show ∃ t, u = Value.str x t from r); subst e; exact mixKind_str P w x t
theorem items_are {P : Program} {w : World} : ∀ {ks : List Key} {us : List Value}, Vals (ks.map kV) us → ItemsAre (mixKind P w) ks us
  | [], _, r => by rw [List.map_nil] at r; cases r; exact .nil
  | k :: ks, _, r => by
    rw [List.map_cons] at r
    cases r with
    | cons h t => exact .cons (kV_is h) (items_are t)

noncomputable abbrev KT (H : Hp) : List (List Key × V) → List (List Key × Addr × Value) → Prop := Paired fun p q => p.1 = q.1 ∧ H q.2.1 = some (.tup (p.1.map kV)) ∧ RelV p.2 q.2.2
theorem KT.val {H : Hp} {kvs : List (List Key × V)} {xs : List (List Key × Addr × Value)} (r : KT H kvs xs) (k : List Key) : RelO (valV kvs k) ((atKey xs k).map (·.2)) := by
  induction r with
  | nil => exact True.intro
  | @cons p q ps qs h t ih =>
    obtain ⟨h1, _, h2⟩ := h
    by_cases e : p.1 = k
    · have e' : q.1 = k := h1.symm.trans e
      have b : atKey (q :: qs) k = some q.2 := by simp [atKey, List.find?_cons, e']
      rw [valV_pos e, b]; exact h2
    · have e' : ¬ q.1 = k := fun z => e (h1.trans z)
      have b : atKey (q :: qs) k = atKey qs k := by simp [atKey, List.find?_cons, e']
      rw [valV_neg e, b]; exact ih
theorem KT.repl {H : Hp} {kvs : List (List Key × V)} {xs : List (List Key × Addr × Value)} (r : KT H kvs xs) (k : List Key) {y : V} {u : Value} (ry : RelV y u) :
    KT H (kvs.map fun kv => if kv.1 = k then (kv.1, y) else kv) (xs.map (putAt k u)) := by
  induction r with
  | nil => exact .nil
  | @cons p q ps qs h t ih =>
    rw [List.map_cons, List.map_cons]
    refine .cons ?_ ih
    obtain ⟨h1, h2, h3⟩ := h
    unfold putAt
    by_cases e : p.1 = k
    · rw [if_pos e, if_pos (h1.symm.trans e)]; exact ⟨h1, h2, ry⟩
    · rw [if_neg e, if_neg (fun z => e (h1.trans z))]; exact ⟨h1, h2, h3⟩
theorem KT.put {H : Hp} {kvs : List (List Key × V)} {xs : List (List Key × Addr × Value)} (r : KT H kvs xs) (k : List Key) {b : Addr} {y : V} {u : Value} (hb : H b = some (.tup (k.map kV))) (ry : RelV y u) :
    KT H (putK kvs k y) (storedH xs k b u) := by
  have e : (kvs.any fun kv => decide (kv.1 = k)) = (atKey xs k).isSome := by
    rw [valV_any, (r.val k).isSome_eq, Option.isSome_map]
  unfold putK storedH
  rw [e]
  by_cases q : (atKey xs k).isSome = true
  · rw [if_pos q, if_pos q]; exact r.repl k ry
  · rw [if_neg q, if_neg q]; exact Paired.snoc r ⟨rfl, hb, ry⟩
theorem KT.keeps {H H' : Hp} {kvs : List (List Key × V)} {xs : List (List Key × Addr × Value)} (r : KT H kvs xs) (ht : ∀ b ys, H b = some (.tup ys) → H' b = some (.tup ys)) : KT H' kvs xs :=
  Paired.mapP r fun _ _ z => ⟨z.1, ht _ _ z.2.1, z.2.2⟩

section
variable {P : Program} {w : World} {H : Hp} {h : Heap} {a : Addr}
theorem rd_of {u : HO} (ok : HOk P w H h) (e : Rd H a u) : ObjOk P w H h a u := e.ok ok
theorem dk_rd {kvs : List (Key × V)} (ok : HOk P w H h) (e : Rd H a (.dK kvs)) : kvs.length ≤ sizeLine ∧ (a == sysModules) = false ∧ ∃ vs, KV kvs vs ∧ h.DictOf (mixKind P w) a vs :=
  show ObjOk P w H h a (.dK kvs) from rd_of ok e
theorem dk_of {kvs : List (Key × V)} (ok : HOk P w H h) (e : H a = some (.dK kvs)) : kvs.length ≤ sizeLine ∧ (a == sysModules) = false ∧ ∃ vs, KV kvs vs ∧ h.DictOf (mixKind P w) a vs := dk_rd ok (.inl e)
theorem key_of {ks : List Key} (ok : HOk P w H h) (e : H a = some (.tup (ks.map kV))) : (tupleKind (mixKind P w)).is h ks a := by
  obtain ⟨_, its, r, o, h1, h2, ⟨n, h3⟩, _⟩ := (show ObjOk P w H h a (.tup (ks.map kV)) from ok a _ e)
  exact ⟨o, its.toArray, n, h1, h2, h3, by simpa using items_are r⟩
theorem dt_rd {kvs : List (List Key × V)} (ok : HOk P w H h) (e : Rd H a (.dT kvs)) : kvs.length ≤ sizeLine ∧ (a == sysModules) = false ∧
    ∃ xs, KT H kvs xs ∧ h.DictOfH (tupleKind (mixKind P w)) a xs := by
  obtain ⟨z, y, xs, r, o, es, ep, h1, h2, h3, h4, h5⟩ := (show ObjOk P w H h a (.dT kvs) from rd_of ok e)
  refine ⟨z, y, xs, r, o, es, ep, h1, h2, h3, h4, fun x hx => ?_, h5⟩
  have all : ∀ {l : List (List Key × V)} {m : List (List Key × Addr × Value)}, KT H l m → ∀ x ∈ m, (tupleKind (mixKind P w)).is h x.1 x.2.1 := by
    intro l m q
    induction q with
    | nil => intro x hx; exact nomatch hx
    | @cons p q ps qs hq t ih =>
      intro x hx
      rcases List.mem_cons.mp hx with e | hx
      · subst e
        exact key_of ok (by rw [← hq.1]; exact hq.2.1)
      · exact ih x hx
  exact all r x hx
theorem dt_of {kvs : List (List Key × V)} (ok : HOk P w H h) (e : H a = some (.dT kvs)) : kvs.length ≤ sizeLine ∧ (a == sysModules) = false ∧
    ∃ xs, KT H kvs xs ∧ h.DictOfH (tupleKind (mixKind P w)) a xs := dt_rd ok (.inl e)
end

noncomputable def DGet (H : Hp) (a : Addr) (y : V) (r : Option V) : Prop :=
  (∃ kvs k, Rd H a (.dK kvs) ∧ y = kV k ∧ r = valV kvs k) ∨ ∃ kvs k b, Rd H a (.dT kvs) ∧ y = .ref b ∧ H b = some (.tup (k.map kV)) ∧ r = valV kvs k
noncomputable def DPut (H : Hp) (a : Addr) (y v : V) (H' : Hp) : Prop :=
  (∃ kvs k, H a = some (.dK kvs) ∧ y = kV k ∧ kvs.length < sizeLine ∧ H' = upd H a (.dK (putK kvs k v))) ∨
  ∃ kvs k b, H a = some (.dT kvs) ∧ y = .ref b ∧ H b = some (.tup (k.map kV)) ∧ kvs.length < sizeLine ∧ H' = upd H a (.dT (putK kvs k v))
theorem DPut.k {H : Hp} {a : Addr} {kvs : List (Key × V)} {k : Key} {v : V} (e : H a = some (.dK kvs)) (hl : kvs.length < sizeLine) : DPut H a (kV k) v (upd H a (.dK (putK kvs k v))) := .inl ⟨kvs, k, e, rfl, hl, rfl⟩
section
variable {X : Cx} {pins : List (Addr × Obj)} {σ : St} {H : Hp} {s : Shared} {a : Addr} {y v : V} {u r : Value} {o : Option V} {A : Around} {E : Value → Shared → Prop}

theorem Inv.big (I : Inv X pins σ H s) : sysModules < s.heap.objs.size := by
  have h : mainGlobals < s.heap.objs.size := (I.mod.glob.keeps I.bk).lt
  exact Nat.lt_trans (by decide) h

theorem d_getItem {Q : Value → Shared → Prop} (hu : A.units + 1 < cLine) (I : Inv X pins σ H s) (g : DGet H a y (some v)) (ry : RelV y u) (h : ∀ w' s', Inv X pins σ H s' → RelV v w' → Q w' s') :
    wpAny (model X.prog X.w) A (getItem (.ref a) u) Q E s := by
  rcases g with ⟨kvs, k, e, ey, l⟩ | ⟨kvs, k, b, e, ey, eb, l⟩
  · subst ey
    obtain ⟨z, hd, vs, rel, dd⟩ := dk_rd I.hok e
    obtain ⟨w', hw, rw'⟩ := RelO.some_of (v := v) (o := valueAt vs k) (by rw [l]; exact rel.val k)
    exact wpAny_getItem_of (kV_is ry) dd.mapOf hw (h w' _ (I.tok _) rw')
  · subst ey
    cases (show u = Value.ref b from ry)
    obtain ⟨z, hd, xs, rel, dd⟩ := dt_rd I.hok e
    obtain ⟨w', hw, rw'⟩ := RelO.some_of (v := v) (o := (atKey xs k).map (·.2)) (by rw [l]; exact rel.val k)
    obtain ⟨p, hp, hp2⟩ := Option.map_eq_some_iff.mp hw
    refine wpAny_getItem_heap (tupleKind_room_in1 hu) (key_of I.hok eb) dd hp ?_
    rw [hp2]
    exact h w' _ (I.tok _) rw'
theorem d_write {h' : Heap} {t' : Nat} {ob : HO} (I : Inv X pins σ H s) (mu : Mut (H a)) (hs : Heap.SameBut a s.heap h') (he : ∃ q, h'.get? a = some q) (new : ObjOk X.prog X.w (upd H a ob) h' a ob) :
    Inv X pins σ (upd H a ob) { s with heap := h', toks := t' } :=
  I.write (x := a) (e := a) mu (.inl rfl) (fun b q hb z => (hs.2 b hb).trans z) he new
theorem dk_new {P : Program} {w : World} {H' : Hp} {h' : Heap} {kvs : List (Key × V)} {vs : List (Key × Value)} (z : kvs.length ≤ sizeLine) (hd : (a == sysModules) = false) (rel : KV kvs vs) (dd : h'.DictOf (mixKind P w) a vs) :
    ObjOk P w H' h' a (.dK kvs) := ⟨z, hd, vs, rel, dd⟩
theorem d_setItem {H' : Hp} {Q : Unit → Shared → Prop} (hu : A.units + 1 < cLine) (I : Inv X pins σ H s) (g : DPut H a y v H') (ry : RelV y u) (rv : RelV v r) (h : ∀ s', Inv X pins σ H' s' → Q () s') :
    wpAny (model X.prog X.w) A (setItem (.ref a) u r) Q E s := by
  rcases g with ⟨kvs, k, e, ey, l, eH⟩ | ⟨kvs, k, b, e, ey, eb, l, eH⟩
  · subst ey eH
    obtain ⟨z, hd, vs, rel, dd⟩ := dk_of I.hok e
    have hz : vs.length ≤ sizeLine := by rw [← rel.length]; exact z
    have hl : (putK kvs k v).length ≤ sizeLine := by have := length_putK kvs k v; omega
    refine wpAny_setItem_pairs (hsz := hz) (kV_is ry) dd fun h' dd' hs => h _ ?_
    have he : ∃ q, h'.get? a = some q := let ⟨q, _, _, hq, _⟩ := dd'; ⟨q, hq⟩
    exact d_write I (by rw [e]; exact True.intro) hs he (dk_new hl hd (rel.put k rv) dd')
  · subst ey eH
    cases (show u = Value.ref b from ry)
    obtain ⟨z, hd, xs, rel, dd⟩ := dt_of I.hok e
    have hz : xs.length ≤ sizeLine := by rw [← Paired.length rel]; exact z
    have hl : (putK kvs k v).length ≤ sizeLine := by have := length_putK kvs k v; omega
    refine wpAny_setItem_heap (hsz := hz) (tupleKind_room_in1 hu) (key_of I.hok eb) dd fun h' dd' hs => h _ ?_
    obtain ⟨q, es, ep, hq, h2, h3, h4, _, h5⟩ := dd'
    refine d_write I (by rw [e]; exact True.intro) hs ⟨q, hq⟩ ⟨hl, hd, _, (rel.put k eb rv).keeps fun c ys ec => ?_, q, es, ep, hq, h2, h3, h4, h5⟩
    rw [upd_ne (ne_of ec e (fun z => nomatch z))]
    exact ec
end

section
variable {X : Cx} {pins : List (Addr × Obj)} {σ : St} {H : Hp} {s : Shared} {a : Addr} {kvs : List (Key × V)} {k : Key} {u : Value} {A : Around} {E : Value → Shared → Prop}
end


noncomputable def NoSl (i : Expr) : Prop := ∀ ov iv, subscripted i false ov iv = operate [ov, iv] (getItem ov iv)
theorem subD_of {prog : Program} {w : World} {A : Around} {E : Value → Shared → Prop} {s : Shared} {env : Env} {value slice : Expr} {pos : Pos} {T id : String} {Q : Value → Shared → Prop}
    (hl : typeLookup (.type T) "__getitem__" = pure (some (.builtin id))) (hs : NoSl slice)
    (h : wpAny (model prog w) A (eval value env) (fun o s₁ => wpAny (model prog w) A (eval slice env) (fun i s₂ => s₂.TypeIs o T ∧ wpAny (model prog w) A (getItem o i) Q E s₂) E s₁) E s) :
    wpAny (model prog w) A (eval (.Subscript value slice pos) env) Q E s := by
  refine Subscript_ (wpAny_mono h (fun o s₁ h₁ => wpAny_mono h₁ (fun i s₂ h₂ => ?_) fun _ _ x => x) fun _ _ x => x)
  obtain ⟨hT, h₂⟩ := h₂
  unfold subscriptTail
  refine wpAny_bind ?_
  rw [getitemInPython_of_ne hT.not_modules]
  refine wpAny_bind (wpAny_specialOf hT hl ?_)
  have fin : wpAny (model prog w) A (subscripted slice false o i) (fun r s₃ => wpAny (model prog w) A (letTemporaryGo value o r >>= fun _ => pure r) Q E s₃) E s₂ := by
    rw [hs o i]
    exact wpAny_operating (wpAny_mono h₂ (fun r s₃ h₃ => wpAny_bind (wpAny_letTemporaryGo (wpAny_pure h₃))) fun _ _ x => x)
  first
    | exact wpAny_pure (wpAny_bind fin)
    | exact wpAny_bind (wpAny_pure (wpAny_bind fin))
    | exact wpAny_bind fin

theorem dict_typeIs {X : Cx} {pins : List (Addr × Obj)} {σ : St} {H : Hp} {s : Shared} {a : Addr} {y : V} {o : Option V} (I : Inv X pins σ H s) (g : DGet H a y o) : s.TypeIs (.ref a) "dict" := by
  rcases g with ⟨kvs, k, e, _, _⟩ | ⟨kvs, k, b, e, _, _, _⟩
  · obtain ⟨_, _, vs, _, dd⟩ := dk_rd I.hok e
    exact dd.typeIs
  · obtain ⟨_, _, xs, _, dd⟩ := dt_rd I.hok e
    exact dd.typeIs
noncomputable def tDGet (td ty : TE) : TE := fun σ H Q => td σ H fun x H1 => ty σ H1 fun y H2 => ∃ a v, x = .ref a ∧ DGet H2 a y (some v) ∧ Q v H2
noncomputable def sDPut (td ty tv : TE) : TS := fun D σ H => tv σ H fun v H1 => td σ H1 fun x H2 => ty σ H2 fun y H3 => ∃ a H4, x = .ref a ∧ DPut H3 a y v H4 ∧ D.nx σ H4
section
variable {X : Cx} {o i e value : Expr} {pos pos' tpos : Pos} {td ty tv : TE}
theorem pe_dget (hu : X.A.units + 1 < cLine) (ho : PE X o td) (hi : PE X i ty) (hs : NoSl i) : PE X (.Subscript o i pos) (tDGet td ty) := by
  intro pins s σ H Q I h
  refine subD_of PySem.F.slot_dict_getitem.lookup hs (thn (ho pins s σ H _ I h) fun u s1 ⟨x, H1, I1, rx, q1⟩ => thn (hi pins s1 σ H1 _ I1 q1) fun iv s2 ⟨y, H2, I2, ry, a, v, ex, g, q2⟩ => ?_)
  subst ex
  obtain rfl : u = Value.ref a := rx
  exact ⟨dict_typeIs I2 g, d_getItem hu I2 g ry fun w' s3 I3 rw' => ⟨v, H2, I3, rw', q2⟩⟩
theorem ps_dput (hu : X.A.units + 1 < cLine) (ho : PE X o td) (hi : PE X i ty) (hv : PE X value tv) (hs : swapsWith value (some (.Subscript o i pos')) pos.line X.env = pure false) :
    PS X (.Assign [.Subscript o i pos'] value pos) (sDPut td ty tv) := by
  intro pins s σ H D I h
  refine wpAny_Assign_Subscript (thn (hv pins s σ H _ I h) fun r s1 ⟨v, H1, I1, rv, q1⟩ => thn (ho pins s1 σ H1 _ I1 q1) fun u s2 ⟨x, H2, I2, rx, q2⟩ => thn (hi pins s2 σ H2 _ I2 q2) fun iv s3 ⟨y, H3, I3, ry, a, H4, ex, g, q3⟩ => ?_) hs
  subst ex
  obtain rfl : u = Value.ref a := rx
  exact d_setItem hu I3 g ry rv fun s4 I4 => ⟨σ, H4, I4, q3⟩
end


theorem dk_empty {P : Program} {w : World} {H : Hp} (h : Heap) (hb : sysModules < h.objs.size) : ObjOk P w H (h.push { cls := .type "dict", data := .dict #[] }) h.objs.size (.dK []) :=
  ⟨Nat.zero_le _, beq_eq_false_iff_ne.mpr (Ne.symm (Nat.ne_of_lt hb)), [], .nil, Heap.DictOf.new h⟩
section
variable {X : Cx} {pos : Pos}
end

structure M1 (X : Cx) (o : Expr) (m : Str) (apos : Pos) (e : Expr) (cpos : Pos) : Prop where
  base : attributeBase o m X.env (eval o X.env) = eval o X.env
  few : ((backTo cpos (starEach [e] X.env)).all (fun x => !x.1) && (backToKw cpos (keywordEach [] X.env)).all (fun x => x.1.isSome)
    && decide (([e] : List Expr).length + ([] : List Keyword).length + (if ([] : List Keyword).isEmpty then 0 else 1) < 30)) = true
  line : (apos.endLine == cpos.line) = true
  trees : backTo cpos (starEach [e] X.env) = [(false, eval e X.env)]
noncomputable def IsD (H : Hp) (a : Addr) : Prop := (∃ kvs, Rd H a (.dK kvs)) ∨ ∃ kvs, Rd H a (.dT kvs)
theorem isD_at {X : Cx} {pins : List (Addr × Obj)} {σ : St} {H : Hp} {s : Shared} {a : Addr} (I : Inv X pins σ H s) (d : IsD H a) :
    s.TypeIs (.ref a) "dict" ∧ (∀ b, Value.ref a = .ref b → ∃ ob, s.heap.get? b = some ob ∧ ob.dict = none) ∧ (a == sysModules) = false := by
  rcases d with ⟨kvs, e⟩ | ⟨kvs, e⟩
  · obtain ⟨_, hd, vs, _, dd⟩ := dk_rd I.hok e
    refine ⟨dd.typeIs, fun b q => ?_, hd⟩
    cases q
    obtain ⟨ob, _, _, h1, h2, _⟩ := dd
    exact ⟨ob, h1, h2.2.1⟩
  · obtain ⟨_, hd, xs, _, dd⟩ := dt_rd I.hok e
    refine ⟨dd.typeIs, fun b q => ?_, hd⟩
    cases q
    obtain ⟨ob, _, _, h1, h2, _⟩ := dd
    exact ⟨ob, h1, h2.2.1⟩

section
variable {X : Cx} {pins : List (Addr × Obj)} {σ : St} {H : Hp} {s : Shared} {a : Addr} {y d : V} {u r : Value} {o : Option V} {A : Around} {E : Value → Shared → Prop}
theorem d_get1 {Q : Value → Shared → Prop} (hu : A.units + 1 < cLine) (I : Inv X pins σ H s) (g : DGet H a y o) (ry : RelV y u) (h : ∀ w' s', Inv X pins σ H s' → RelV (o.getD .non) w' → Q w' s') :
    wpAny (model X.prog X.w) A (call (.builtin "dict.get") [.ref a, u]) Q E s := by
  rcases g with ⟨kvs, k, e, ey, l⟩ | ⟨kvs, k, b, e, ey, eb, l⟩
  · subst ey
    obtain ⟨z, hd, vs, rel, dd⟩ := dk_rd I.hok e
    refine call_meetsIn PySem.F.slot_dict_get dd.typeIs PySem.F.entry_dict_get (PySem.F.args_dict_get_2 _ _) (meets_dict_get (mixKind X.prog X.w) a (kV_is ry) hd) ⟨_, dd.mapOf, h _ _ (I.tok _) ?_⟩
    rw [l]
    exact (rel.val k).getD rfl
  · subst ey
    cases (show u = Value.ref b from ry)
    obtain ⟨z, hd, xs, rel, dd⟩ := dt_rd I.hok e
    refine call_meetsIn PySem.F.slot_dict_get dd.typeIs PySem.F.entry_dict_get (PySem.F.args_dict_get_2 _ _) (meetsH_dict_get (tupleKind (mixKind X.prog X.w)) a b hd) ⟨tupleKind_room_in1 hu, k, xs, key_of I.hok eb, dd, h _ _ (I.tok _) ?_⟩
    rw [l]
    exact (rel.val k).getD rfl
end

noncomputable def tDGet1 (td ty : TE) : TE := fun σ H Q => td σ H fun x H1 => ∃ a, x = .ref a ∧ IsD H1 a ∧ ty σ H1 fun y H2 => ∃ o, DGet H2 a y o ∧ Q (o.getD .non) H2
section
variable {X : Cx} {o e f : Expr} {apos cpos : Pos} {td ty tx : TE}
theorem pe_dget1 (hu : X.A.units + 1 < cLine) (ho : PE X o td) (he : PE X e ty) (m : M1 X o "get" apos e cpos) : PE X (.Call (.Attribute o "get" apos) [e] [] cpos) (tDGet1 td ty) := by
  intro pins s σ H Q I h
  refine wpAny_Call_method m.base m.few m.line PySem.F.plainAttrs_dict PySem.F.slot_dict_get PySem.F.type_dict_get (thn (ho pins s σ H _ I h) fun u s1 ⟨x, H1, I1, rx, a, ex, d, q1⟩ => ?_)
  subst ex
  obtain rfl : u = Value.ref a := rx
  obtain ⟨t1, t2, _⟩ := isD_at I1 d
  refine ⟨t1, t2, ?_⟩
  rw [m.trees]
  refine Calls.callWith_builtin rfl (Calls.evalArgs_plain (Calls.spliced_cons (thn (he pins s1 σ H1 _ I1 q1) fun iv s2 ⟨y, H2, I2, ry, ov, g, q2⟩ => Calls.spliced_nil ?_)))
  exact d_get1 hu I2 g ry fun w' s3 I3 rw' => ⟨_, H2, I3, rw', q2⟩
end

section
variable {X : Cx} {pins : List (Addr × Obj)} {σ : St} {H : Hp} {s : Shared} {a : Addr} {kvs : List (Key × V)} {A : Around} {E : Value → Shared → Prop}
end


section
variable {X : Cx} {pins : List (Addr × Obj)} {σ : St} {H : Hp} {s : Shared} {a : Addr} {y : V} {u : Value} {A : Around} {E : Value → Shared → Prop}
end
end L2

namespace Att
open PySem PySem.W PySem.Calls PyProof.Rows

theorem ints_of_wellAll {P : Params} {h : Heap} : ∀ (ns : List Int) (vs : List Value), WellAll P h vs (ns.map WData.int) → IntsAre vs ns := by
  intro ns
  induction ns with
  | nil =>
    intro vs w
    rw [List.map_nil] at w
    cases w
    exact .nil
  | cons n ns ih =>
    intro vs w
    rw [List.map_cons] at w
    cases w with
    | cons a b =>
      cases a
      exact .cons _ _ (ih _ b)

theorem script_of {l : OpenLaw} {n : Nat} (hn : l.most = some n) {P : Params} {h : Heap} {args : List WData} {vals : List Value}
    (hpre : l.row.toRowW.claim.pre args = true) (hwl : WellAll P h vals args) :
    ∃ a vs ns, vals = [Value.ref a] ∧ args = [WData.list (ns.map WData.int)] ∧ h.get? a = some { cls := .type "list", data := .seq vs.toArray } ∧ IntsAre vs ns ∧ ns.length ≤ n := by
  have hsh : WShape.hasAll [] args [.list .int] = true := (pre_splitW hpre).1
  have hc : l.pre.holds [] { args := args } = true := (pre_splitW hpre).2
  obtain ⟨d, r, rfl, h1, h2⟩ := hasAllW_cons hsh
  obtain rfl := hasAllW_nil h2
  obtain ⟨xs, rfl, h3⟩ := hasW_list h1
  obtain ⟨ns, rfl⟩ := items_int h3
  have hlen : ns.length ≤ n := by
    unfold OpenLaw.pre at hc
    have h4 : (WTm.not (.lt (.lit (.int (n : Int))) (.len (.arg 0)))).holds [] { args := [.list (ns.map .int)] } = true := by
      have h4 := (holds_andW hc).1
      rw [hn] at h4
      exact h4
    have h5 := condW_of h4 (w_not (w_lt w_lit (w_len_list (w_arg rfl))))
    rw [List.length_map] at h5
    refine Nat.le_of_not_lt fun q => ?_
    have q' : (n : Int) < ((ns.length : Nat) : Int) := by omega
    first
      | (rw [decide_eq_true q'] at h5; exact absurd h5 (by decide))
      | (simp at h5; omega)
  cases hwl with
  | cons w1 w2 =>
    cases w2
    cases w1 with
    | list ho hall => exact ⟨_, _, ns, rfl, rfl, ho, ints_of_wellAll ns _ hall, hlen⟩

theorem post_true (l : OpenLaw) (args : List WData) : l.row.toRowW.claim.post args (.bool true) args = true :=
  postW_of (r := l.row.toRowW) (X := (true == true))
    (show WShape.has [] (.bool true) .bool = true by first | rfl | decide | simp [WShape.has, WShape.arms, WShape.armsAll])
    (show (WTm.eq .res (.lit (.bool true))).value [] { args := args, res := some (.bool true), after := args } = some (.bool (true == true)) from w_eq_bool (w_res rfl) w_lit) rfl

theorem attach_call {l : OpenLaw} {n : Nat} {q : Program} {loose : List Str} {XP : (Str → Option Value) → Heap → Prop} {YP : World → Heap → Prop} {d : DefRec}
    (hn : l.most = some n) (hdf : d.params.defaults = [])
    (call : ∀ (w : World) (s₀ s₁ : Shared) (mg mb : Str → Option Value) (fa : Addr) (o : Obj) (pm cd doc : Value) (a : Addr) (vs : List Value) (ns : List Int),
      Ground q loose [] XP w s₀ mg mb s₁.heap → YP w s₁.heap →
      s₁.heap.get? fa = some o → o.data = .func (docDef d.name d.params d.body d.scope pm cd doc) → s₁.heap.CodeRec cd d.name → mg d.name = some (.ref fa) →
      s₁.heap.get? a = some { cls := .type "list", data := .seq vs.toArray } → IntsAre vs ns → ns.length ≤ n → s₁.gens = #[] →
      codeAny (model l.prog w) callerA (.call (.ref fa) ⟨[.ref a], []⟩) (fun r s' => r = .ok (.ret (.bool true)) ∧ OldK s₁.heap s'.heap ∧ s'.os = s₁.os ∧ AllBare s'.gens) s₁) :
    WalkO q loose XP YP l.row.toRowW d [] (fun f vs => PySem.call f vs) := by
  intro w s₀ s₁ mg mb G Y fa o pm cd doc dV kV ho hd hcd hD hmg hg args vals as hpre hlay hrd hwl hlo
  obtain rfl : dV = .none := Dflts.none hD hdf
  obtain rfl : kV = .none := Dflts.noKw hD
  obtain ⟨a, vs, ns, rfl, rfl, hobj, hints, hlen⟩ := script_of hn hpre hwl
  refine enter_call (codeAny_mono (call w s₀ s₁ mg mb fa o pm cd doc a vs ns G Y ho (fd_plain hd) hcd hmg hobj hints hlen hg) fun r s' hq => ?_)
  obtain ⟨rfl, h2, h3, h4⟩ := hq
  exact ⟨.inl ⟨.bool true, .bool true, [], rfl, fun _ => rfl, .bool true, post_true l _, fun _ => ⟨List.Pairwise.nil, fun _ hm => (nomatch hm)⟩⟩, h2, h3, h4⟩

section
variable {prog : Program} {w : World} {A : Around} {E : Value → Shared → Prop} {s : Shared} {K : Frag}

end
end Att

namespace L2
open PySem PySem.Spec PyProof.Rows

theorem vals_ints : ∀ {vs : List Value} {ns : List Int}, IntsAre vs ns → Vals (ns.map V.int) vs
  | _, _, .nil => .nil
  | _, _, .cons n t h => .cons ⟨t, rfl⟩ (vals_ints h)

noncomputable def Only (H : Hp) : Prop := ∀ b, H b = none ∨ ∃ o xs, H b = some (.frz o (.lst xs))

theorem law_call {P : Program} {w : World} {K : PySem.W.Frag} {mg mb : Str → Option Value} {CX : CXT} {k : Nat} {fa a : Addr} {fd : FuncData} {x : Str} {sp : Sp} {s₁ : Shared} {vs : List Value} {ns : List Int}
    (KX : K.In s₁.heap) (hns : s₁.heap.Ns mainGlobals mg) (hb : s₁.heap.Ns builtinsNs mb) (hbb : ∀ x : Str, x ≠ "__name__" → mb x = bootBuiltins x) (hlim : s₁.heap.NoLimit) (hg : s₁.gens = #[])
    (ha : s₁.heap.get? a = some { cls := .type "list", data := .seq vs.toArray }) (hi : IntsAre vs ns) (hl : ns.length ≤ sizeLine) (hr : Room k callerA)
    (F : ∀ base : Heap, K.In base → base.Ns mainGlobals mg → FnOk P w K mg base CX k fa fd [x] sp) (hbind : ∀ (s : Shared) (u : Value), BindsTo s fd ⟨[u], []⟩ [(x, u)])
    (hsp : ∀ H : Hp, Only H → SqL K H a (ns.map V.int) → sp [.ref a] H (fun v _ => v = .bl true) fun _ _ _ => False)
    (hCX : ∀ H e s', CX [] H s₁ (fun _ _ _ => False) e s' → False) :
    codeAny (model P w) callerA (.call (.ref fa) ⟨[.ref a], []⟩) (fun r s' => r = .ok (.ret (.bool true)) ∧ OldK s₁.heap s'.heap ∧ s'.os = s₁.os ∧ AllBare s'.gens) s₁ := by
  have rv := vals_ints hi
  have lenV := hi.length
  -- from an abstract heap in which nothing but the script may be tracked
  have core : ∀ H : Hp, Only H → SqL K H a (ns.map V.int) → HOk P w H s₁.heap → (∀ b, H b ≠ none → b = a) → (H a ≠ none → K.lookup a = none) →
      codeAny (model P w) callerA (.call (.ref fa) ⟨[.ref a], []⟩) (fun r s' => r = .ok (.ret (.bool true)) ∧ OldK s₁.heap s'.heap ∧ s'.os = s₁.os ∧ AllBare s'.gens) s₁ := by
    intro H hO hS hok hA hK
    have base_of : ∀ {b : Addr} {o : Obj}, s₁.heap.get? b = some o → H b = none → (hidT s₁.heap H).get? b = some o := fun e n => hidT_get e n
    have noA : ∀ {b : Addr} {o : Obj} {es : Array DictEntry} {ep : Nat}, s₁.heap.get? b = some o → o.data = .dict es ep → H b = none := fun {b o es ep} e d => by
      cases q : H b with
      | none => rfl
      | some u =>
        have e' : b = a := hA b (by rw [q]; simp)
        subst e'
        rw [ha] at e; cases e
        have d' : Data.seq vs.toArray _ = Data.dict es ep := d
        cases d'
    have nsK : ∀ {b : Addr} {m : Str → Option Value}, s₁.heap.Ns b m → (hidT s₁.heap H).Ns b m := fun {b m} ⟨o, es, ep, e, d, r⟩ => ⟨o, es, ep, base_of e (noA e d), d, r⟩
    have hKb : K.In (hidT s₁.heap H) := fun b o e => base_of (KX b o e) (by
      cases q : H b with
      | none => rfl
      | some u =>
        have e' : b = a := hA b (by rw [q]; simp)
        subst e'
        rw [hK (by rw [q]; simp)] at e; cases e)
    have hM : Mod K mg (hidT s₁.heap H) := ⟨hKb, nsK hns, ⟨mb, nsK hb, hbb⟩, let ⟨mc, h1, h2⟩ := hlim; ⟨mc, nsK h1, h2⟩⟩
    have e0 : Env0 P w K mg (hidT s₁.heap H) callerA [] s₁ H := ⟨rfl, hM, fun b o e => of_hidT e, Nat.le_of_eq (hidT_size _ _), trivial, fun b hb => absurd (show b ∈ ([] : List Addr) from hb) (by simp), hok, .of_eq hg⟩
    refine codeAny_mono ((F _ hKb (nsK hns)).run callerA [] s₁ H ⟨[.ref a], []⟩ [.ref a] [.ref a] _ _ hr e0 (hbind s₁ (.ref a)) (.cons rfl .nil) (hsp H hO hS)) fun r s' h => ?_
    cases r with
    | error e => exact (hCX H e s' h).elim
    | ok fl =>
      cases fl with
      | next => exact False.elim h
      | brk => exact False.elim h
      | cont => exact False.elim h
      | ret u =>
        obtain ⟨v, H', os, bare, un, hok', r', q⟩ := h
        have q' : v = .bl true := q
        subst q'
        obtain rfl : u = Value.bool true := r'
        refine ⟨rfl, OldK.of_keep fun b o e => ?_, os, bare⟩
        cases q : H b with
        | none => exact un.keep b o e q (by intro z; exact absurd (show b ∈ ([] : List Addr) from z) (by simp)) (by simp)
        | some u =>
          rcases hO b with z | ⟨ob, xs, z⟩
          · rw [q] at z; cases z
          · have z2 := un.frzs b ob _ z
            obtain ⟨e1, _⟩ := hok b _ z
            obtain ⟨e2, _⟩ := hok' b _ z2
            rw [e] at e1; cases e1
            exact e2
  cases hk : K.lookup a with
  | some o =>
    -- the script is one of the module's own objects
    have e := KX a o hk
    rw [ha] at e
    cases e
    refine core (fun _ => none) (fun _ => .inl rfl) (.inr ⟨_, vs.toArray, _, hk, rfl, rfl, rfl, by rw [List.size_toArray, lenV]; exact hl, by simpa using rv⟩) (fun b u z => by have z' : (none : Option HO) = some u := z; cases z') (fun b z => absurd rfl z) fun z => absurd rfl z
  | none =>
    refine core (fun b => if b = a then some (.frz { cls := .type "list", data := .seq vs.toArray } (.lst (ns.map V.int))) else none) (fun b => ?_) (.inl (.inr ⟨{ cls := .type "list", data := .seq vs.toArray }, if_pos rfl⟩)) (fun b u z => ?_) (fun b z => ?_) fun _ => hk
    · by_cases hb : b = a
      · exact .inr ⟨_, _, if_pos hb⟩
      · exact .inl (if_neg hb)
    · by_cases hb : b = a
      · have z' := (if_pos hb).symm.trans z
        cases z'
        subst hb
        exact ⟨ha, by rw [List.length_map]; exact hl, vs, _, rv, ha⟩
      · have z' := (if_neg hb).symm.trans z
        cases z'
    · by_cases hb : b = a
      · exact hb
      · exact absurd (if_neg hb) z
end L2

namespace L2
open PySem PySem.Spec PyProof.Rows

theorem walk_of {l : PySem.W.OpenLaw} {n k : Nat} {q : Program} {loose : List Str} {XP : (Str → Option Value) → Heap → Prop} {YP : World → Heap → Prop} {d : DefRec} {K : Params → PySem.W.Frag} {CX : World → CXT} {sp : World → Sp} {x : Str}
    (hn : l.most = some n) (hn2 : n ≤ sizeLine) (hdf : d.params.defaults = []) (hr : Room k callerA)
    (hY : ∀ (w : World) (h : Heap), YP w h → (K w.params).In h)
    (F : ∀ (w : World) (mg : Str → Option Value) (fa : Addr) (h : Heap), (K w.params).In h → h.Ns mainGlobals mg → mg d.name = some (.ref fa) →
      ∃ fd : FuncData, (∀ (s : Shared) (u : Value), BindsTo s fd ⟨[u], []⟩ [(x, u)]) ∧
        ∀ base : Heap, (K w.params).In base → base.Ns mainGlobals mg → FnOk l.prog w (K w.params) mg base (CX w) k fa fd [x] (sp w))
    (hsp : ∀ (w : World) (H : Hp) (a : Addr) (ns : List Int), ns.length ≤ n → Only H → SqL (K w.params) H a (ns.map V.int) → sp w [.ref a] H (fun v _ => v = .bl true) fun _ _ _ => False)
    (hCX : ∀ (w : World) (H : Hp) (s : Shared) (e : Value) (s' : Shared), CX w [] H s (fun _ _ _ => False) e s' → False) :
    PySem.W.WalkO q loose XP YP l.row.toRowW d [] (fun f vs => PySem.call f vs) := by
  refine Att.attach_call hn hdf fun w s₀ s₁ mg mb fa o pm cd doc a vs ns G Y ho hd hcd hmg hobj hints hlen hg => ?_
  have KX := hY w _ Y
  obtain ⟨fd, hb, hF⟩ := F w mg fa _ KX G.T.g hmg
  exact law_call KX G.T.g G.T.b G.T.builtins G.T.nolimit hg hobj hints (Nat.le_trans hlen hn2) hr hF hb (fun H hO hS => hsp w H a ns hlen hO hS) fun H e s' => hCX w H s₁ e s'
end L2


namespace L2
open PySem PySem.Spec PyProof.Rows

noncomputable def inClass (s : Stmt) (j : Nat) : Stmt := match s with
  | .ClassDef _ _ _ body _ _ _ _ _ _ _ => body.getD j (.Pass ⟨0, 0, 0, 0⟩)
  | _ => .Pass ⟨0, 0, 0, 0⟩
noncomputable def defArgs (s : Stmt) : Arguments := match s with
  | .FunctionDef _ a _ _ _ _ _ _ _ _ => a
  | _ => { posonlyargs := [], args := [], vararg := none, kwonlyargs := [], kw_defaults := [], kwarg := none, defaults := [] }
noncomputable def defBody (s : Stmt) : List Stmt := match s with
  | .FunctionDef _ _ b _ _ _ _ _ _ _ => b
  | _ => []
noncomputable def defScope (s : Stmt) : Scope := match s with
  | .FunctionDef _ _ _ _ _ _ sc _ _ _ => sc
  | _ => { kind := .function, names := [], isGenerator := false, isCoroutine := false }

noncomputable abbrev CX0 : CXT := fun _ _ _ _ _ _ => False
noncomputable abbrev E0 : XK := fun _ _ _ => False
theorem pass0 {X : Cx} : Passes CX0 X E0 := fun _ _ _ _ _ _ _ h => h.elim

structure Fun (K : PySem.W.Frag) (x qual : Str) (st : Stmt) (f : Addr) (fd : FuncData) : Prop where
  ex : ∃ (oc : Value) (od : Option Addr) (kV doc pm : Value) (an : Option Addr) (cdv ct : Value) (osl : Array (Option Value)),
    fd = PySem.W.fnOf x qual (defArgs st) (defBody st) (defScope st) .none kV doc pm an cdv ct ∧ K.lookup f = some ⟨oc, od, .func fd, osl⟩ ∧ PySem.W.codeIn K cdv qual = true
  kp : PySem.W.keepIn K (.ref f) = true
section
variable {P : Program} {w : World} {K : PySem.W.Frag} {mg : Str → Option Value} {base : Heap}
theorem Fun.ok {x qual : Str} {st : Stmt} {f : Addr} {fd : FuncData} {N ps : List Str} {k : Nat} {sp : Sp} (F : Fun K x qual st f fd) (S : FnScope N ps (defScope st)) (len : ∀ vs H Q E, sp vs H Q E → vs.length = ps.length)
    (hbody : ∀ (cdv : Value) (A : Around) (outer : List Env) (s : Shared) (H : Hp) (vs : List V) (Q : VK) (E : XK), Room k (A.deeper (envOfC qual (defScope st) s.heap.objs.size f cdv)) → sp vs H Q E →
      ∃ t, PSs (cxOf CX0 P w K mg base N qual (defScope st) f cdv A outer s H E).nox (defBody st) t ∧ t { nx := fun _ H' => Q .non H', rt := Q } (start N vs) H) : FnOk P w K mg base CX0 (k + 1) f fd ps sp := by
  obtain ⟨oc, od, kV, doc, pm, an, cdv, ct, osl, rfl, lk, hcd⟩ := F.ex
  refine fn_of lk hcd S len fun A outer s H vs Q E hr hsp => ?_
  obtain ⟨t, h, q⟩ := hbody cdv A outer s H vs Q E hr hsp
  exact ⟨t, h.nox, q⟩
theorem Fun.binds {x qual : Str} {st : Stmt} {f : Addr} {fd : FuncData} {ps : List Str} (F : Fun K x qual st f fd)
    (h : ∀ (kV doc pm : Value) (an : Option Addr) (cdv ct : Value) (us : List Value), us.length = ps.length → bindArgs (PySem.W.fnOf x qual (defArgs st) (defBody st) (defScope st) .none kV doc pm an cdv ct) ⟨us, []⟩ = pure (ps.zip us)) : Binds K fd ps [] := by
  obtain ⟨oc, od, kV, doc, pm, an, cdv, ct, osl, rfl, lk, hcd⟩ := F.ex
  exact .all (h kV doc pm an cdv ct)
theorem fun_mk {x qual : Str} {st : Stmt} {f : Addr} {oc : Value} {od an : Option Addr} {osl : Array (Option Value)} {kV doc pm cdv ct : Value} (l : K.lookup f = some ⟨oc, od, .func (PySem.W.fnOf x qual (defArgs st) (defBody st) (defScope st) .none kV doc pm an cdv ct), osl⟩)
    (c : PySem.W.codeIn K cdv qual = true) (k : PySem.W.keepIn K (.ref f) = true) : Fun K x qual st f (PySem.W.fnOf x qual (defArgs st) (defBody st) (defScope st) .none kV doc pm an cdv ct) := ⟨⟨oc, od, kV, doc, pm, an, cdv, ct, osl, rfl, l, c⟩, k⟩
end
theorem hu_of {A : Around} {k : Nat} (hr : Room k A) : A.units + 1 < cLine := Nat.lt_of_le_of_lt (Nat.add_le_add_left (by decide : 1 ≤ 64) _) hr.units
section
variable {X : Cx}
theorem pv (i : Nat) {x : Str} {pos : Pos} (hN : X.N[i]? = some x := by rfl) (hv : Vis X.env.scope x := by first | exact Or.inl rfl | exact Or.inr (Or.inl rfl) | exact Or.inr (Or.inr rfl)) (hd : (x == ("__debug__" : Str)) = false := by decide)
    (hcd : (x == ("__classdict__" : Str)) = false := by decide) : PE X (.Name x pos) (tVar i) := pe_var hN hv hd hcd
end

theorem iteF {A B : Prop} (h : B) : if false = true then A else B := by
  rw [if_neg Bool.false_ne_true]
  exact h
theorem iteT {A B : Prop} (h : A) : if true = true then A else B := by
  rw [if_pos rfl]
  exact h
theorem ite2 {c A B : Prop} [Decidable c] (h1 : c → A) (h2 : ¬ c → B) : if c then A else B := by
  by_cases h : c
  · rw [if_pos h]
    exact h1 h
  · rw [if_neg h]
    exact h2 h
noncomputable def Same (H H' : Hp) : Prop := ∀ b o, H b = some o → H' b = some o
theorem Same.refl (H : Hp) : Same H H := fun _ _ h => h
theorem Same.trans {H H1 H2 : Hp} (a : Same H H1) (b : Same H1 H2) : Same H H2 := fun c o h => b c o (a c o h)
theorem Same.free {H H' : Hp} (e : Same H H') {l : Addr} (h : H' l = Option.none) : H l = Option.none := by
  cases q : H l with
  | none => rfl
  | some o =>
    rw [e l o q] at h
    cases h
theorem Same.seq {K : PySem.W.Frag} {H H' : Hp} {a : Addr} {xs : List V} (e : Same H H') (h : SqL K H a xs) : SqL K H' a xs := by
  rcases h with (h | ⟨o, h⟩) | h
  · exact .inl (.inl (e _ _ h))
  · exact .inl (.inr ⟨o, e _ _ h⟩)
  · exact .inr h

section
variable {κ : Type} [DecidableEq κ]
end
end L2


set_option Elab.async false
set_option linter.all false
set_option maxRecDepth 100000
set_option maxHeartbeats 4000000
namespace L2
open PySem PySem.Spec PyProof.Rows

theorem clos_aux (env : Env) : ∀ (l : List (Str × NameKind)) (cs : List (Str × Addr)), (∀ n, (n, NameKind.free) ∈ l → ∃ c, env.cells.lookup n = some c) → (∀ x c, cs.lookup x = some c → env.cells.lookup x = some c) →
    ∃ cl, (forIn l cs fun x s => if (x.snd == NameKind.free) = true then do let c ← cellOf env x.fst; pure (ForInStep.yield ((x.fst, c) :: s)) else pure (ForInStep.yield s)) = (pure cl : Sem (List (Str × Addr))) ∧
      (∀ x c, cl.lookup x = some c → env.cells.lookup x = some c) ∧ (∀ n, (n, NameKind.free) ∈ l → ∃ c, cl.lookup n = some c) ∧ ∀ n c, cs.lookup n = some c → ∃ c', cl.lookup n = some c'
  | [], cs, _, h => ⟨cs, rfl, h, (fun _ z => nomatch z), (fun n c e => ⟨c, e⟩)⟩
  | (n, k) :: r, cs, hf, h => by
    by_cases hk : k = .free
    · subst hk
      obtain ⟨c, hc⟩ := hf n List.mem_cons_self
      have e : cellOf env n = pure c := by unfold cellOf; rw [hc]
      obtain ⟨cl, e1, h1, h2, h3⟩ := clos_aux env r ((n, c) :: cs) (fun m hm => hf m (List.mem_cons_of_mem _ hm)) (fun x c' q => by
        rw [List.lookup_cons] at q
        by_cases hx : x = n
        · subst hx; simp at q; subst q; exact hc
        · have : (x == n) = false := by simpa using hx
          rw [this] at q; exact h x c' q)
      refine ⟨cl, ?_, h1, fun m hm => ?_, fun m c' q => ?_⟩
      · rw [List.forIn_cons]
        show ((do let c ← cellOf env n; pure (ForInStep.yield ((n, c) :: cs))) >>= _) = _
        rw [e]
        exact e1
      · rcases List.mem_cons.mp hm with z | z
        · cases z; exact h3 n c (by simp)
        · exact h2 m z
      · by_cases hx : m = n
        · subst hx; exact h3 m c (by simp)
        · have : (m == n) = false := by simpa using hx
          exact h3 m c' (by rw [List.lookup_cons, this]; exact q)
    · have hb : (k == NameKind.free) = false := by simpa using hk
      obtain ⟨cl, e1, h1, h2, h3⟩ := clos_aux env r cs (fun m hm => hf m (List.mem_cons_of_mem _ hm)) h
      refine ⟨cl, ?_, h1, fun m hm => ?_, h3⟩
      · rw [List.forIn_cons]
        dsimp only
        rw [hb]
        exact e1
      · rcases List.mem_cons.mp hm with z | z
        · cases z; exact absurd rfl hk
        · exact h2 m z

theorem closureFor_of {scope : Scope} {env : Env} (h : ∀ n, (n, NameKind.free) ∈ scope.names → ∃ c, env.cells.lookup n = some c) :
    ∃ cl, closureFor scope env = pure cl ∧ (∀ x c, cl.lookup x = some c → env.cells.lookup x = some c) ∧ ∀ n, (n, NameKind.free) ∈ scope.names → ∃ c, cl.lookup n = some c := by
  obtain ⟨cl, e, h1, h2, _⟩ := clos_aux env scope.names [] h (fun _ _ z => by simp at z)
  refine ⟨cl, ?_, h1, h2⟩
  simp only [closureFor]
  rw [e]
  rfl

noncomputable def compCx (X : Cx) (scope : Scope) (N' : List Str) (cl : List (Str × Addr)) (C : Addr) (s : Shared) (H : Hp) (fp : List Addr) (pins : List (Addr × Obj)) : Cx where
  prog := X.prog
  w := X.w
  K := X.K
  mg := X.mg
  base := X.base
  A := X.A
  N := N'
  s₀ := s
  H₀ := H
  env := compEnvC scope cl C X.env
  outer := X.stack
  stack := X.stack
  ex := fp
  calm := X.calm
  fn := fun _ => false
  pn := X.pn ++ pins
  xe := fun _ _ => False

structure CompScope (sc : Scope) (out : Scope) : Prop where
  kind : sc.kind = .function
  cell : ∀ y ∈ sc.names, y.2 ≠ .cell
  loc : ∀ y ∈ sc.names, y.2 = .local → sc.names.lookup y.1 = some .local
  free : ∀ y ∈ sc.names, y.2 = .free → out.names.lookup y.1 = some .cell ∨ out.names.lookup y.1 = some .free

noncomputable def inSt (ρ : List (Option Nat)) (σ : St) : St := ρ.map fun o => match o with | some i => (σ[i]?).getD none | none => none
noncomputable def SlotOk (sc : Scope) (env : Env) (N N' : List Str) (ρ : List (Option Nat)) : Prop :=
  ρ.length = N'.length ∧ ∀ (j i : Nat) (x : Str), ρ[j]? = some (some i) → N'[j]? = some x → N[i]? = some x ∧ Vis env.scope x ∧ (x, NameKind.free) ∈ sc.names

theorem lookup_relabel {names : List (Str × NameKind)} {env : Env} {x : Str} {k : NameKind} (h : (names.map fun (n, k) => if (k == NameKind.free && env.scope.kind == .function && env.kindOf n == some .cell) then (n, NameKind.cell) else (n, k)).lookup x = some k)
    (hk : k = .cell ∨ k = .free) (hc : ∀ y ∈ names, y.2 ≠ .cell) : (x, NameKind.free) ∈ names := by
  induction names with
  | nil => simp at h
  | cons p r ih =>
    obtain ⟨n, k'⟩ := p
    by_cases hx : x = n
    · subst hx
      have hk' : k' = .free := by
        by_cases hc' : (k' == NameKind.free && env.scope.kind == .function && env.kindOf x == some .cell) = true
        · simp only [Bool.and_eq_true, beq_iff_eq] at hc'
          exact hc'.1.1
        · simp only [List.map_cons] at h
          rw [if_neg hc'] at h
          simp at h
          subst h
          rcases hk with z | z
          · exact absurd z (hc (x, k') List.mem_cons_self)
          · exact z
      rw [hk']; exact List.mem_cons_self
    · have hb : (x == n) = false := by simpa using hx
      refine List.mem_cons_of_mem _ (ih ?_ fun y hy => hc y (List.mem_cons_of_mem _ hy))
      simp only [List.map_cons] at h
      by_cases hc' : (k' == NameKind.free && env.scope.kind == .function && env.kindOf n == some .cell) = true
      · rw [if_pos hc', List.lookup_cons, hb] at h; exact h
      · rw [if_neg hc', List.lookup_cons, hb] at h; exact h

theorem lookup_relabel_free : ∀ {names : List (Str × NameKind)} {env : Env} {x : Str}, (x, NameKind.free) ∈ names → (names.map fun (n, k) => if (k == NameKind.free && env.scope.kind == .function && env.kindOf n == some .cell) then (n, NameKind.cell) else (n, k)).lookup x = some .cell ∨
    (names.map fun (n, k) => if (k == NameKind.free && env.scope.kind == .function && env.kindOf n == some .cell) then (n, NameKind.cell) else (n, k)).lookup x = some .free ∨ names.lookup x ≠ some .free := by
  intro names env x hm
  by_cases hl : names.lookup x = some .free
  · induction names with
    | nil => simp at hl
    | cons p r ih =>
      obtain ⟨n, k'⟩ := p
      by_cases hx : x = n
      · subst hx
        simp at hl
        subst hl
        by_cases hc' : (NameKind.free == NameKind.free && env.scope.kind == .function && env.kindOf x == some .cell) = true
        · left; simp only [List.map_cons]; rw [if_pos hc']; simp
        · right; left; simp only [List.map_cons]; rw [if_neg hc']; simp
      · have hb : (x == n) = false := by simpa using hx
        rw [List.lookup_cons, hb] at hl
        have hm' : (x, NameKind.free) ∈ r := by
          rcases List.mem_cons.mp hm with z | z
          · cases z; exact absurd rfl hx
          · exact z
        have q := ih hm' hl
        simp only [List.map_cons]
        by_cases hc' : (k' == NameKind.free && env.scope.kind == .function && env.kindOf n == some .cell) = true
        · rw [if_pos hc', List.lookup_cons, hb, List.lookup_cons, hb]; exact q
        · rw [if_neg hc', List.lookup_cons, hb, List.lookup_cons, hb]; exact q
  · exact .inr (.inr hl)

section
variable {X : Cx} {pins : List (Addr × Obj)} {σ : St} {H : Hp} {s : Shared} {scope : Scope} {N' : List Str} {ρ : List (Option Nat)} {cl : List (Str × Addr)} {fp : List Addr} {C D : Addr}

theorem comp_ok (I : Inv X pins σ H s) (S : CompScope scope X.env.scope) (hf : ∀ b ∈ fp, FpOk X pins H b) (h1 : ∀ x c, cl.lookup x = some c → X.env.cells.lookup x = some c) (h2 : ∀ n, (n, NameKind.free) ∈ scope.names → ∃ c, cl.lookup n = some c)
    (hC : s.heap.objs.size ≤ C) (hfs : ∀ b ∈ fp, b < s.heap.objs.size) : (compCx X scope N' cl C s H fp pins).Ok where
  mod := I.ok.mod
  kind := S.kind
  glob := I.ok.glob
  blt := I.ok.blt
  above := hC
  inj := fun x y c e1 e2 => I.ok.inj x y c (h1 x c e1) (h1 y c e2)
  has := fun x hk => h2 x (by
    rcases hk with hk | hk
    · exact lookup_relabel (env := X.env) hk (.inl rfl) S.cell
    · exact lookup_relabel (env := X.env) hk (.inr rfl) S.cell)
  cab := fun _ _ z => nomatch z
  hd := I.ok.hd
  frames := I.ok.frames
  stk := .inl rfl
  exf := fun b hb => ⟨Nat.ne_of_lt (Nat.lt_of_lt_of_le (hfs b hb) hC), fun x c e => (hf b hb).2.2.2.2.1 x c (h1 x c e)⟩
  bs := I.bs
  bsz := Nat.le_trans I.ok.bsz I.sz
  noex := fun b o e hb => by
    rcases (hf b hb).2.2.2.1 with z | z
    · exact I.ok.noex b o e z
    · exact absurd (Nat.lt_of_lt_of_le (Nat.lt_of_lt_of_le (Heap.lt_size e) I.ok.bsz) z) (Nat.lt_irrefl _)
  exfs := fun b hb z => by
    rcases List.mem_cons.mp (I.stkSub b z) with q | q
    · exact (hf b hb).2.1 q
    · exact (hf b hb).2.2.1 q
  funs := I.stack
  frf := I.stkFree

theorem comp_start {h₁ : Heap} {tk : Nat} (I : Inv X pins σ H s) (S : CompScope scope X.env.scope) (hρ : SlotOk scope X.env X.N N' ρ) (hf : ∀ b ∈ fp, FpOk X pins H b) (h1 : ∀ x c, cl.lookup x = some c → X.env.cells.lookup x = some c)
    (h2 : ∀ n, (n, NameKind.free) ∈ scope.names → ∃ c, cl.lookup n = some c) (hC : s.heap.objs.size ≤ C) (hfs : ∀ b ∈ fp, b < s.heap.objs.size) (hn : h₁.Ns C (fun _ => none)) (hk : ∀ b o, s.heap.get? b = some o → h₁.get? b = some o)
    (hl : ∀ x, (x, NameKind.free) ∈ scope.names → scope.names.lookup x = some .free) :
    Inv (compCx X scope N' cl C s H fp pins) [] (inSt ρ σ) H { s with heap := h₁, toks := tk } where
  ok := comp_ok I S hf h1 h2 hC hfs
  os := rfl
  bare := I.bare
  base := Un.kept hk
  loc := by
    refine ⟨_, hn, fun j x v e1 e2 hv => ?_⟩
    obtain ⟨m, hm, hl'⟩ := I.loc
    unfold inSt at e2
    rw [List.getElem?_map] at e2
    cases hr : ρ[j]? with
    | none => rw [hr] at e2; simp at e2
    | some o =>
      cases o with
      | none => rw [hr] at e2; simp at e2
      | some i =>
        rw [hr] at e2
        obtain ⟨q1, q2, q3⟩ := hρ.2 j i x hr e1
        have e3 : σ[i]? = some (some v) := by
          cases hσ : σ[i]? with
          | none => simp [hσ] at e2
          | some z => simp [hσ] at e2; rw [e2]
        obtain ⟨u, r, lk⟩ := hl' i x v q1 e3 q2
        refine ⟨u, r, ?_⟩
        obtain ⟨c, hc⟩ := h2 x q3
        have hkind : (relabel scope X.env).names.lookup x = some .cell ∨ (relabel scope X.env).names.lookup x = some .free := by
          rcases lookup_relabel_free (env := X.env) q3 with z | z | z
          · exact .inl z
          · exact .inr z
          · exact absurd (hl x q3) z
        refine .inr ⟨hkind, c, hc, ?_⟩
        rcases lk with ⟨k, _⟩ | ⟨_, c', e', z⟩
        · rcases S.free (x, .free) q3 rfl with z | z
          · have k' : X.env.scope.names.lookup x = some .local := k
            rw [z] at k'; cases k'
          · have k' : X.env.scope.names.lookup x = some .local := k
            rw [z] at k'; cases k'
        · have := h1 x c hc
          rw [e'] at this; cases this
          obtain ⟨o, ho, hd⟩ := z
          exact ⟨o, hk _ _ ho, hd⟩
  cell := fun x c e => by
    obtain ⟨v, o, ho, hd⟩ := I.cell x c (h1 x c e)
    exact ⟨v, o, hk _ _ ho, hd⟩
  free := I.hok.fresh hC
  freeC := fun x c e => I.freeC x c (h1 x c e)
  pin := fun p hp => by
    have hp' : p ∈ X.pn ++ pins := by simpa [compCx] using hp
    obtain ⟨e, n, ne, nf, d⟩ := I.pin p hp'
    refine ⟨hk _ _ e, n, Nat.ne_of_lt (Nat.lt_of_lt_of_le (Heap.lt_size e) hC), fun z => ?_, d⟩
    rcases List.mem_cons.mp (I.stkSub p.1 z) with q | q
    · exact ne q
    · exact nf q
  hok := I.hok.kept hk
  len := by
    show (inSt ρ σ).length = N'.length
    unfold inSt
    rw [List.length_map]; exact hρ.1
end

theorem HOk.track {P : Program} {w : World} {H : Hp} {h : Heap} {D : Addr} {o : HO} (x : HOk P w H h) (n : H D = none) (new : ObjOk P w (upd H D o) h D o) : HOk P w (upd H D o) h := fun b u e => by
  by_cases hb : b = D
  · subst hb; rw [upd_same] at e; cases e; exact new
  · rw [upd_ne hb] at e
    exact (x b u e).stay (fun c v _ q => q) (fun c q => by rw [upd_ne (ne_of_none q n)]; exact q) fun c xs q => by rw [upd_ne (ne_of_none q n)]; exact q

section
variable {prog : Program} {w : World} {A : Around} {R : Result → Shared → Prop} {s : Shared}
theorem compLoop_gen {elt target iter : Expr} {ifs : List Expr} {scope : Scope} {pos : Pos} {it acc : Value} {env : Env} (I : Nat → Shared → Prop)
    (turn : ∀ n s, I n s → wpAny (model prog w) A (pyNext it) (fun r s₁ => match r with
      | none => R (.ok .next) s₁
      | some v => wpAny (model prog w) A (letOwnedTupleGo target it v) (fun _ s₁' => wpAny (model prog w) A (assign target env v) (fun _ s₂ =>
          wpAny (model prog w) A (forIn ifs true fun c r => if r = true then do let ok ← isTrue c env (eval c env); pure (ForInStep.yield ok) else pure (ForInStep.yield r)) (fun ok s₃ =>
            if ok = true then wpAny (model prog w) A (eval elt env) (fun x s₄ =>
              wpAny (model prog w) A (call (.builtin "list.append") [acc, x]) (fun _ s₅ => ∃ m, m < n ∧ I m s₅) (fun _ _ => False) s₄) (fun _ _ => False) s₃
            else ∃ m, m < n ∧ I m s₃) (fun _ _ => False) s₂) (fun _ _ => False) s₁') (fun _ _ => False) s₁) (fun _ _ => False) s)
    (n : Nat) (h : I n s) :
    codeAny (model prog w) A (.compLoop (.ListComp elt [⟨target, iter, ifs, 0⟩] scope pos) 0 it acc env) R s := by
  refine codeAny_loop rfl I (fun n s hI => ?_) n h
  show wpAny _ A ((compTurn (.ListComp elt [⟨target, iter, ifs, 0⟩] scope pos) 0 it acc env).onRaise (fun x => do noteFrame x env; theTreesLotGoes x)) _ _ s
  refine wpAny_noted ?_
  rw [compTurn_list]
  refine wpAny_bind (wpAny_standAt (wpAny_bind (wpAny_mono (turn n s hI) (fun r s₁ h₁ => ?_) fun _ _ h' => h'.elim)))
  cases r with
  | none => exact wpAny_pure h₁
  | some v =>
    refine wpAny_bind (wpAny_mono h₁ (fun _ s₁' h₁ => ?_) fun _ _ h' => h'.elim)
    refine wpAny_bind (wpAny_mono h₁ (fun _ s₂ h₂ => wpAny_bind (wpAny_mono h₂ (fun ok s₃ h₃ => ?_) fun _ _ h' => h'.elim)) fun _ _ h' => h'.elim)
    cases ok with
    | false => exact wpAny_pure ⟨rfl, h₃⟩
    | true =>
      exact wpAny_bind (wpAny_bind (wpAny_mono h₃ (fun x s₄ h₄ => wpAny_bind (wpAny_mono h₄ (fun _ s₅ h₅ => wpAny_pure (wpAny_pure ⟨rfl, h₅⟩)) fun _ _ h' => h'.elim)) fun _ _ h' => h'.elim))
end

noncomputable def PTs (X : Cx) (ifs : List Expr) (t : TT) : Prop :=
  ∀ (pins : List (Addr × Obj)) (s : Shared) (σ : St) (H : Hp) (Q : Bool → Hp → Prop), Inv X pins σ H s → t σ H Q →
    wpAny (model X.prog X.w) X.A (forIn ifs true fun c r => if r = true then do let ok ← isTrue c X.env (eval c X.env); pure (ForInStep.yield ok) else pure (ForInStep.yield r)) (TP X pins σ Q) X.xe s
noncomputable def tYes : TT := fun _ H Q => Q true H
theorem pts_nil {X : Cx} : PTs X [] tYes := fun _ _ _ H _ I h => wpAny_tests_nil ⟨H, I, h⟩
theorem pts_one {X : Cx} {c : Expr} {t : TT} (h : PT X c t) : PTs X [c] t := fun pins s σ H Q I hw => wpAny_tests_one (h pins s σ H Q I hw)

noncomputable def Outs (ρ : List (Option Nat)) (σ σ2 : St) : Prop := σ2.length = ρ.length ∧ ∀ (j : Nat) v, (inSt ρ σ)[j]? = some (some v) → σ2[j]? = some (some v)
noncomputable def CompW (ρ : List (Option Nat)) (g : TG) (tt : TT) (te : TE) (σ : St) (Q : VK) (J : It) (H1 : Hp) : Prop := ∃ W : Nat → Nat → List V → Hp → Prop, (∃ m, W 0 m [] H1) ∧ ∀ i m ys H', W i m ys H' →
  (J.stop i H' ∧ ys.length ≤ sizeLine ∧ ∀ p, H' p = none → Q (.ref p) (upd H' p (.lst ys))) ∨
  (J.go i H' ∧ ys.length < sizeLine ∧ ∃ N : List V → Hp → Prop, (∀ ys' H'', N ys' H'' → ∃ m', m' < m ∧ W (i + 1) m' ys' H'') ∧ ∀ x H2, J.yld i H' x H2 → g x (inSt ρ σ) H2 fun σ2 H3 => Outs ρ σ σ2 ∧ tt σ2 H3 fun ok H4 => if ok = true then te σ2 H4 fun v H5 => N (ys ++ [v]) H5 else N ys H4)
noncomputable def tComp (ρ : List (Option Nat)) (wi : TI) (g : TG) (tt : TT) (te : TE) : TE := fun σ H Q => wi σ H fun J H1 => CompW ρ g tt te σ Q J H1

theorem comp_run {X : Cx} {elt iter tg : Expr} {ifs : List Expr} {scope : Scope} {pos : Pos} {N' : List Str} {ρ : List (Option Nat)} {wi : TI} {g : TG} {tt : TT} {te : TE} {cl : List (Str × Addr)} {RR : Value → Addr → Result → Shared → Prop} (hc : X.calm = true) (hi : PI X tg iter wi) (S : CompScope scope X.env.scope) (hρ : SlotOk scope X.env X.N N' ρ)
    (hl : ∀ x, (x, NameKind.free) ∈ scope.names → scope.names.lookup x = some .free)
    (inner : ∀ (cl : List (Str × Addr)) (C : Addr) (s : Shared) (H : Hp) (fp : List Addr) (pins : List (Addr × Obj)), PG (compCx X scope N' cl C s H fp pins) tg g ∧ PTs (compCx X scope N' cl C s H fp pins) ifs tt ∧ PE (compCx X scope N' cl C s H fp pins) elt te)
    {pins : List (Addr × Obj)} {s : Shared} {σ : St} {H : Hp} {Q : VK} (I : Inv X pins σ H s) (h : tComp ρ wi g tt te σ H Q)
    (h1 : ∀ x c, cl.lookup x = some c → X.env.cells.lookup x = some c) (h2 : ∀ n, (n, NameKind.free) ∈ scope.names → ∃ c, cl.lookup n = some c)
    (fin : ∀ D C s' H' m, Inv X pins σ H' s' → Q (.ref D) H' → s'.heap.Ns C m → FpOk X pins H' C → RR (.ref D) C (.ok .next) s') :
    wpAny (model X.prog X.w) X.A (eval iter X.env) (fun x s₁ => wpAny (model X.prog X.w) X.A (pyIter x) (fun it s₂ => wpAny (model X.prog X.w) X.A (newList []) (fun acc s₃ =>
      wpAny (model X.prog X.w) X.A (newFunctionEnv scope X.env.globals cl [] X.env.qual none .none (some X.env)) (fun cenv s₄ =>
        codeAny (model X.prog X.w) X.A (.compStart (.ListComp elt [⟨tg, iter, ifs, 0⟩] scope pos) 0 it acc { cenv with scope := relabel scope X.env }) (RR acc cenv.locals) s₄) X.xe s₃) X.xe s₂) X.xe s₁) X.xe s := by
  refine thn (hi pins s σ H _ I h) fun v s1 h1' => thn h1' fun itv s2 hx => ?_
  obtain ⟨it, fp, tn, J, H2, e, I2, T, st2, f2, W, ⟨m0, w0⟩, turn⟩ := hx
  subst e
  have hfs : ∀ b ∈ fp, b < s2.heap.objs.size := fun b hb => by
    obtain ⟨o, e, _⟩ := T.obj _ _ st2 b hb
    exact Heap.lt_size e
  refine wpAny_newObj_type (wpAny_newFunctionEnv S.cell (by intro y hy; simp at hy) (fun h₁ hns₁ hsb₁ => ?_) S.kind)
  dsimp only at hns₁ hsb₁ ⊢
  generalize hH2 : s2.heap.push { cls := .type "list", dict := none, data := .seq ([] : List Value).toArray } = G at hns₁ hsb₁ ⊢
  have hC : G.objs.size = s2.heap.objs.size + 1 := by rw [← hH2, Heap.size_push]
  have hDC : s2.heap.objs.size ≠ G.objs.size := by rw [hC]; exact Nat.ne_of_lt (Nat.lt_succ_self _)
  have hCle : s2.heap.objs.size ≤ G.objs.size := by rw [hC]; exact Nat.le_succ _
  have old : ∀ b o, s2.heap.get? b = some o → h₁.get? b = some o := fun b o e => hsb₁.extBut b o (Nat.ne_of_lt (Nat.lt_of_lt_of_le (Heap.lt_size e) hCle)) (Heap.get?_push_of_some _ (hH2 ▸ Heap.get?_push_of_some _ e))
  have hacc : h₁.get? s2.heap.objs.size = some { cls := .type "list", dict := none, data := .seq ([] : List Value).toArray } := hsb₁.extBut _ _ hDC (Heap.get?_push_of_some _ (hH2 ▸ Heap.get?_push_size _ rfl))
  have hns₂ : h₁.Ns G.objs.size (fun _ => none) := hns₁
  generalize hXX : compCx X scope N' cl G.objs.size s2 H2 fp pins = XX at *
  have IN : ∀ (tk : Nat), Inv XX [] (inSt ρ σ) H2 { s2 with heap := h₁, toks := tk } := fun tk => hXX ▸ comp_start (N' := N') I2 S hρ f2 h1 h2 hCle hfs hns₂ old hl
  obtain ⟨pg, pt, pe⟩ := inner cl G.objs.size s2 H2 fp pins
  rw [hXX] at pg pt pe
  have eP : XX.prog = X.prog := by rw [← hXX]; rfl
  have eW : XX.w = X.w := by rw [← hXX]; rfl
  have eK : XX.K = X.K := by rw [← hXX]; rfl
  have eA : XX.A = X.A := by rw [← hXX]; rfl
  have eE : XX.env = compEnvC scope cl G.objs.size X.env := by rw [← hXX]; rfl
  have eL : XX.env.locals = G.objs.size := by rw [eE]; rfl
  have ec : XX.calm = true := by rw [← hXX]; exact hc
  have ex : XX.xe = fun _ _ => False := by rw [← hXX]; rfl
  have es0 : XX.s₀ = s2 := by rw [← hXX]; rfl
  have eex : XX.ex = fp := by rw [← hXX]; rfl
  have efs : XX.fs = frs X.stack := by rw [← hXX]; rfl
  have eH0 : XX.H₀ = H2 := by rw [← hXX]; rfl
  have epn : XX.pn = X.pn ++ pins := by rw [← hXX]; rfl
  have ecl : XX.env.cells = cl := by rw [eE]; rfl
  -- what stays true of the iterator's records
  have stat : ∀ {H' : Hp} {ps : List (Addr × Obj)}, (∀ b ∈ fp, H' b = none) → (∀ p ∈ ps, p.1 = s2.heap.objs.size) → ∀ b ∈ fp, FpOk XX ps H' b := fun {H' ps} hn hp b hb => by
    refine ⟨hn b hb, ?_, ?_, ?_, ?_, ?_⟩
    · rw [eL]; exact Nat.ne_of_lt (Nat.lt_of_lt_of_le (hfs b hb) hCle)
    · rw [efs]
      intro z
      rcases List.mem_cons.mp (I2.stkSub b z) with q | q
      · exact (f2 b hb).2.1 q
      · exact (f2 b hb).2.2.1 q
    · rw [eex]; exact .inl hb
    · rw [ecl]; exact fun x c e => (f2 b hb).2.2.2.2.1 x c (h1 x c e)
    · intro p hp' z
      rw [epn] at hp'
      rcases List.mem_append.mp hp' with q | q
      · exact (f2 b hb).2.2.2.2.2 p q z
      · rw [hp p q] at z
        exact absurd (hfs b hb) (by rw [z]; exact Nat.lt_irrefl _)
  have nofsD : s2.heap.objs.size ∉ XX.fs := by
    rw [efs]; intro z
    rcases List.mem_cons.mp (I2.stkSub _ z) with q | q
    · exact absurd I2.lt (by rw [← q]; exact Nat.lt_irrefl _)
    · exact I2.nofs (Nat.le_refl _) q
  have pinD : ∀ {σ' : St} {H' : Hp} {s' : Shared} {its : List Value} {n : Nat}, Inv XX [] σ' H' s' → H' s2.heap.objs.size = none → s'.heap.get? s2.heap.objs.size = some { cls := .type "list", data := .seq its.toArray n } →
      Inv XX [(s2.heap.objs.size, { cls := .type "list", data := .seq its.toArray n })] σ' H' s' := fun {σ' H' s' its n} I' hn ho => I'.pins_of fun p hp => by
    have e : p = (s2.heap.objs.size, { cls := .type "list", data := .seq its.toArray n }) := by simpa using hp
    subst e
    refine ⟨ho, hn, by rw [eL]; exact hDC, nofsD, fun v z => ?_⟩
    have z' : Data.seq its.toArray n = Data.cell v := z
    cases z'
  have loop : ∀ s₃ : Shared, (∃ tk, s₃ = { s2 with heap := h₁, toks := tk }) →
      codeAny (model X.prog X.w) X.A (.compLoop (.ListComp elt [⟨tg, iter, ifs, 0⟩] scope pos) 0 (.ref it) (.ref s2.heap.objs.size) (compEnvC scope cl G.objs.size X.env)) (RR (.ref s2.heap.objs.size) G.objs.size) s₃ := by
    rintro s₃ ⟨tk, rfl⟩
    refine compLoop_gen (fun n s' => ∃ i ys its k H', Inv XX [] (inSt ρ σ) H' s' ∧ tn i s'.heap ∧ (∀ b ∈ fp, H' b = none) ∧ H' s2.heap.objs.size = none ∧ Vals ys its ∧
      s'.heap.get? s2.heap.objs.size = some { cls := .type "list", data := .seq its.toArray k } ∧ W i n ys H') ?_ m0
      ⟨0, [], [], 0, H2, IN tk, T.keep _ _ _ st2 fun b _ o e => old b o e, fun b hb => (f2 b hb).1, I2.hok.fresh (Nat.le_refl _), .nil, hacc, w0⟩
    rintro n s3 ⟨i, ys, its, k, H3, I3, st3, fr3, hD3, rv, ho3, w3⟩
    rcases turn i n ys H3 w3 with ⟨stop, hz, qn⟩ | ⟨go, hz, N, hN, step⟩
    · have I3p := pinD I3 hD3 ho3
      have q := T.done XX eP eW eK ec i _ s3 (inSt ρ σ) H3 (fun _ _ => False) I3p (stat fr3 (by simp)) st3 stop
      rw [eA] at q
      refine thn q fun r s4 ⟨hr, I4⟩ => ?_
      subst hr
      have ho4 := (I4.pin (s2.heap.objs.size, { cls := .type "list", data := .seq its.toArray k }) (by simp)).1
      obtain ⟨m, hm, _⟩ := I4.loc
      rw [eL] at hm
      have hun : Un (frs X.stack) fp H2 (upd H3 s2.heap.objs.size (.lst ys)) s2.heap s4.heap := by
        have u := I4.base
        rw [efs, eex, eH0, es0] at u
        refine ⟨u.keep, u.slot, fun b o e n hx => ?_, u.there, fun b xs e => ?_, fun b o xs e => ?_, fun b ps e => ?_⟩
        · rw [upd_ne (Nat.ne_of_lt (Heap.lt_size e))]; exact u.free b o e n hx
        · have q := u.tups b xs e
          rw [upd_ne (ne_of_none q hD3)]; exact q
        · have q := u.frzs b o xs e
          rw [upd_ne (ne_of_none q hD3)]; exact q
        · obtain ⟨more, q⟩ := u.tbls b ps e
          exact ⟨more, by rw [upd_ne (ne_of_none q hD3)]; exact q⟩
      have hok : HOk X.prog X.w (upd H3 s2.heap.objs.size (.lst ys)) s4.heap := by
        have q := I4.hok
        rw [eP, eW] at q
        exact q.track hD3 ⟨hz, its, k, rv, ho4⟩
      have hfr : ∀ b ∈ fp, (b ∈ X.ex ∨ X.s₀.heap.objs.size ≤ b) ∧ b ≠ X.env.locals ∧ (∀ x c, X.env.cells.lookup x = some c → c ≠ b) ∧ ∀ p ∈ X.pn ++ pins, p.1 ≠ b := fun b hb => ⟨(f2 b hb).2.2.2.1, (f2 b hb).2.1, (f2 b hb).2.2.2.2.1, (f2 b hb).2.2.2.2.2⟩
      have IO : Inv X pins σ (upd H3 s2.heap.objs.size (.lst ys)) s4 := I2.call' (by have := I4.os; rw [es0] at this; exact this) hun hok I4.bare hfr
      refine fin _ _ s4 _ m IO (qn _ hD3) hm (I2.fpOk hCle ?_)
      rw [upd_ne (Ne.symm hDC)]
      have := I4.free
      rw [eL] at this
      exact this
    · have I3p := pinD I3 hD3 ho3
      have q := T.item XX eP eW eK ec i _ s3 (inSt ρ σ) H3 (fun _ _ => False) I3p (stat fr3 (by simp)) st3 go
      rw [eA] at q
      refine thn q fun r s4 ⟨u, hr, h4⟩ => ?_
      subst hr
      refine thn h4 fun _ s5 ⟨x, H5, I5, r5, y5, st5, fr5⟩ => ?_
      have I5' := I5.pinned (stat fr5 (by simp)) (T.obj _ _ st5)
      have qa := pg _ s5 (inSt ρ σ) H5 x u _ I5' r5 (step x H5 y5)
      rw [eP, eW, eA, eE, ex] at qa
      refine thn qa fun _ s6 ⟨σ6, H6, I6, ⟨ou1, ou2⟩, q6⟩ => ?_
      have hw6 : (inSt ρ σ).length = σ6.length := by rw [ou1]; unfold inSt; rw [List.length_map]
      have qt := pt _ s6 σ6 H6 _ I6 q6
      rw [eP, eW, eA, eE, ex] at qt
      refine thn qt fun ok s7 ⟨H7, I7, q7⟩ => ?_
      have back : ∀ {s8 : Shared} {H8 : Hp}, Inv XX ([(s2.heap.objs.size, { cls := .type "list", data := .seq its.toArray k })] ++ pinsAt fp s5.heap) σ6 H8 s8 → tn (i + 1) s8.heap ∧ (∀ b ∈ fp, H8 b = none) ∧ H8 s2.heap.objs.size = none ∧
          s8.heap.get? s2.heap.objs.size = some { cls := .type "list", data := .seq its.toArray k } := fun {s8 H8} I8 => by
        refine ⟨T.keep _ _ _ st5 fun b hb o e => (I8.pin (b, o) (List.mem_append_right _ (List.mem_append_right _ (mem_pinsAt hb e)))).1, fun b hb => ?_, ?_, ?_⟩
        · obtain ⟨o, e, d⟩ := T.obj _ _ st5 b hb
          exact (I8.pin (b, o) (List.mem_append_right _ (List.mem_append_right _ (mem_pinsAt hb e)))).2.1
        · exact (I8.pin (s2.heap.objs.size, { cls := .type "list", data := .seq its.toArray k }) (by simp)).2.1
        · exact (I8.pin (s2.heap.objs.size, { cls := .type "list", data := .seq its.toArray k }) (by simp)).1
      cases ok with
      | false =>
        obtain ⟨m', hm, w7⟩ := hN _ _ q7
        obtain ⟨b1, b2, b3, b4⟩ := back I7
        exact ⟨m', hm, i + 1, ys, its, k, H7, (I7.pins_of (pins' := []) (fun _ z => nomatch z)).weak hw6 ou2, b1, b2, b3, rv, b4, w7⟩
      | true =>
        have qe := pe _ s7 σ6 H7 _ I7 q7
        rw [eP, eW, eA, eE, ex] at qe
        refine thn qe fun y s8 ⟨v8, H8, I8, r8, n8⟩ => ?_
        obtain ⟨m', hm, w8⟩ := hN _ _ n8
        obtain ⟨b1, b2, b3, b4⟩ := back I8
        have hlen := rv.length
        refine call_meets F.slot_list_append ⟨_, b4, rfl⟩ F.entry_list_append (F.args_list_append_2 _ _) (PySem.list_append s2.heap.objs.size its.toArray k y (by rw [List.size_toArray]; omega)) ⟨b4, ?_⟩
        have qL := PySem.IsL.update b4 (fun xs => xs.push y)
        have I8' : Inv XX [] σ6 H8 s8 := I8.pins_of (fun _ z => nomatch z)
        have I9 : Inv XX [] σ6 H8 { s8 with heap := s8.heap.update s2.heap.objs.size (Obj.mapSeq fun xs => xs.push y), toks := s8.toks } := I8'.turned (it := s2.heap.objs.size) (fun b o hb e => (Heap.get?_update_other s8.heap _ (Ne.symm hb)).trans e) b3
          (by rw [eL]; exact hDC) (.inr (by rw [es0]; exact Nat.le_refl _)) (by
            rw [ecl]; intro x c e z
            obtain ⟨v, qc⟩ := I2.cell x c (h1 x c e)
            exact absurd qc.lt (by rw [z]; exact Nat.lt_irrefl _)) (by
            intro p hp z
            have hp' : p ∈ X.pn ++ pins := by rw [epn] at hp; simpa using hp
            exact absurd (Heap.lt_size (I2.pin p hp').1) (by rw [z]; exact Nat.lt_irrefl _))
        have hnd : s2.heap.objs.size ∉ fp := fun z => Nat.lt_irrefl _ (hfs _ z)
        rw [show its.toArray.push y = (its ++ [y]).toArray by simp] at qL
        refine ⟨m', hm, i + 1, ys ++ [v8], its ++ [y], _, H8, I9.weak hw6 ou2, T.keep _ _ _ b1 fun b hb o e => (Heap.get?_update_other s8.heap _ (by rintro rfl; exact hnd hb)).trans e, b2, b3, rv.append (.cons r8 .nil), qL, w8⟩
  refine codeAny_compStart_list (loop _ ⟨_, rfl⟩) (T.self X.A 0 _ _ _ (T.keep _ _ _ st2 fun b _ o e => old b o e) (loop _ ⟨_, rfl⟩))
theorem pe_comp {X : Cx} {elt iter tg : Expr} {ifs : List Expr} {scope : Scope} {pos : Pos} (N' : List Str) (ρ : List (Option Nat)) {wi : TI} {g : TG} {tt : TT} {te : TE} (hc : X.calm = true) (hi : PI X tg iter wi) (S : CompScope scope X.env.scope) (hρ : SlotOk scope X.env X.N N' ρ)
    (hl : ∀ x, (x, NameKind.free) ∈ scope.names → scope.names.lookup x = some .free)
    (inner : ∀ (cl : List (Str × Addr)) (C : Addr) (s : Shared) (H : Hp) (fp : List Addr) (pins : List (Addr × Obj)), PG (compCx X scope N' cl C s H fp pins) tg g ∧ PTs (compCx X scope N' cl C s H fp pins) ifs tt ∧ PE (compCx X scope N' cl C s H fp pins) elt te)
    (hs : ∀ x, foldedSetIterable iter X.env x = pure x := by intro _; rfl) : PE X (.ListComp elt [⟨tg, iter, ifs, 0⟩] scope pos) (tComp ρ wi g tt te) := by
  intro pins s σ H Q I h
  obtain ⟨cl, hcl, h1, h2⟩ := closureFor_of (scope := scope) (env := X.env) (fun n hn => I.ok.has n (S.free (n, .free) hn rfl))
  rw [eval_ListComp]
  refine wpAny_comprehension_free (use := none) rfl hs hcl S.kind S.loc ?_
  refine comp_run (RR := fun acc C => compPost (model X.prog X.w) X.A X.xe none (EP X pins σ Q) acc C) hc hi S hρ hl inner I h h1 h2 ?_
  intro D C s' H' m I' q hm hf
  refine ⟨m, hm, fun h' sb => ⟨.ref D, H', ?_, rfl, q⟩⟩
  exact I'.turned (t' := s'.toks) (fun b o hb e => (sb.2 b hb).trans e) hf.1 hf.2.1 hf.2.2.2.1 hf.2.2.2.2.1 hf.2.2.2.2.2

theorem inSt_cons (σ : St) (o : Option Nat) (ρ : List (Option Nat)) : inSt (o :: ρ) σ = (match o with | some i => (σ[i]?).getD none | none => none) :: inSt ρ σ := rfl
theorem outs1 {ρ : List (Option Nat)} {σ : St} (o : Option V) : Outs (none :: ρ) σ (o :: inSt ρ σ) := by
  refine ⟨by unfold inSt; simp, fun j v e => ?_⟩
  cases j with
  | zero => rw [inSt_cons] at e; simp at e
  | succ j => rw [inSt_cons] at e; simpa using e
theorem comp_by {J : It} {n : Nat} {X : Nat → V → Prop} {ρ : List (Option Nat)} {tt : TT} {te : TE} {σ : St} {H : Hp} {Q : VK} (Pv : Nat → List V → Hp → Prop) (h0 : Pv 0 [] H) (hlen : n ≤ sizeLine)
    (hy : ∀ i ys H, i ≤ n → Pv i ys H → ys.length ≤ i) (hgo : ∀ i ys H, i < n → Pv i ys H → J.go i H) (hyl : ∀ i ys H x H', i < n → Pv i ys H → J.yld i H x H' → H' = H ∧ X i x) (hst : ∀ ys H, Pv n ys H → J.stop n H)
    (hs : ∀ i x ys H, i < n → X i x → Pv i ys H → tt (some x :: inSt ρ σ) H fun ok H4 => if ok = true then te (some x :: inSt ρ σ) H4 fun v H5 => Pv (i + 1) (ys ++ [v]) H5 else Pv (i + 1) ys H4)
    (hd : ∀ ys H, Pv n ys H → ∀ p, H p = none → Q (.ref p) (upd H p (.lst ys))) :
    CompW (none :: ρ) (gName 0) tt te σ Q J H := by
  refine ⟨fun i m ys H => m = n - i ∧ i ≤ n ∧ Pv i ys H, ⟨n, by simp, Nat.zero_le _, h0⟩, ?_⟩
  rintro i m ys H ⟨rfl, hi, p⟩
  have hl := hy i ys H hi p
  by_cases hlt : i < n
  · refine .inr ⟨hgo i ys H hlt p, by omega, Pv (i + 1), fun ys' H'' p' => ⟨n - (i + 1), by omega, rfl, hlt, p'⟩, fun x H' y => ?_⟩
    obtain ⟨e, y2⟩ := hyl i ys H x H' hlt p y
    subst e
    exact ⟨outs1 _, hs i x ys _ hlt y2 p⟩
  · have e : i = n := by omega
    subst e
    exact .inl ⟨hst ys H p, by omega, hd ys H p⟩
theorem comp_tup {K : PySem.W.Frag} {a : Addr} {xs : List V} {ρ : List (Option Nat)} {tt : TT} {te : TE} {σ : St} {H : Hp} {Q : VK} (Pv : Nat → List V → Hp → Prop) (h0 : Pv 0 [] H) (hlen : xs.length ≤ sizeLine) (hl : ∀ i ys H, i ≤ xs.length → Pv i ys H → SqT K H a xs ∧ ys.length ≤ i)
    (hs : ∀ i x ys H, xs[i]? = some x → Pv i ys H → tt (some x :: inSt ρ σ) H fun ok H4 => if ok = true then te (some x :: inSt ρ σ) H4 fun v H5 => Pv (i + 1) (ys ++ [v]) H5 else Pv (i + 1) ys H4)
    (hd : ∀ ys H, Pv xs.length ys H → ∀ p, H p = none → Q (.ref p) (upd H p (.lst ys))) :
    CompW (none :: ρ) (gName 0) tt te σ Q (Itt K a) H :=
  comp_by (n := xs.length) (X := fun i x => xs[i]? = some x) Pv h0 hlen (fun i ys H hi p => (hl i ys H hi p).2) (fun i ys H hi p => ⟨xs, xs[i], (hl i ys H (Nat.le_of_lt hi) p).1, by simp [hi]⟩) (fun i ys H x H' hi p y => ⟨y.1, y.2 xs (hl i ys H (Nat.le_of_lt hi) p).1⟩)
    (fun ys H p => ⟨xs, (hl _ ys H (Nat.le_refl _) p).1, Nat.le_refl _⟩) (fun i x ys H _ e p => hs i x ys H e p) hd
theorem comp_list {K : PySem.W.Frag} {a : Addr} {xs : List V} {ρ : List (Option Nat)} {tt : TT} {te : TE} {σ : St} {H : Hp} {Q : VK} (Pv : Nat → List V → Hp → Prop) (h0 : Pv 0 [] H) (hlen : xs.length ≤ sizeLine) (hl : ∀ i ys H, i ≤ xs.length → Pv i ys H → SqL K H a xs ∧ ys.length ≤ i)
    (hs : ∀ i x ys H, xs[i]? = some x → Pv i ys H → tt (some x :: inSt ρ σ) H fun ok H4 => if ok = true then te (some x :: inSt ρ σ) H4 fun v H5 => Pv (i + 1) (ys ++ [v]) H5 else Pv (i + 1) ys H4)
    (hd : ∀ ys H, Pv xs.length ys H → ∀ p, H p = none → Q (.ref p) (upd H p (.lst ys))) :
    CompW (none :: ρ) (gName 0) tt te σ Q (Itl K a) H :=
  comp_by (n := xs.length) (X := fun i x => xs[i]? = some x) Pv h0 hlen (fun i ys H hi p => (hl i ys H hi p).2) (fun i ys H hi p => ⟨xs, xs[i], (hl i ys H (Nat.le_of_lt hi) p).1, by simp [hi]⟩) (fun i ys H x H' hi p y => ⟨y.1, y.2 xs (hl i ys H (Nat.le_of_lt hi) p).1⟩)
    (fun ys H p => ⟨xs, (hl _ ys H (Nat.le_refl _) p).1, Nat.le_refl _⟩) (fun i x ys H _ e p => hs i x ys H e p) hd
theorem comp_range {lo : Int} {n : Nat} {ρ : List (Option Nat)} {tt : TT} {te : TE} {σ : St} {H : Hp} {Q : VK} (Pv : Nat → List V → Hp → Prop) (h0 : Pv 0 [] H) (hlen : n ≤ sizeLine) (hl : ∀ i ys H, i ≤ n → Pv i ys H → ys.length ≤ i)
    (hs : ∀ i ys H, i < n → Pv i ys H → tt (some (.int (lo + i)) :: inSt ρ σ) H fun ok H4 => if ok = true then te (some (.int (lo + i)) :: inSt ρ σ) H4 fun v H5 => Pv (i + 1) (ys ++ [v]) H5 else Pv (i + 1) ys H4)
    (hd : ∀ ys H, Pv n ys H → ∀ p, H p = none → Q (.ref p) (upd H p (.lst ys))) :
    CompW (none :: ρ) (gName 0) tt te σ Q (Itr lo n) H :=
  comp_by (n := n) (X := fun i x => x = .int (lo + i)) Pv h0 hlen hl (fun i ys H hi p => hi) (fun i ys H x H' hi p y => y) (fun ys H p => Nat.le_refl _) (fun i x ys H hi e p => by subst e; exact hs i ys H hi p) hd
end L2

set_option Elab.async false
set_option linter.all false
set_option maxRecDepth 100000
set_option maxHeartbeats 4000000
namespace L2
open PySem PySem.Spec PyProof.Rows

noncomputable abbrev cds (x : Str) : List Nat := x.cps.toList
theorem cds_len (x : Str) : (cds x).length = x.length := by simp [cds, Str.length]
theorem cds_app (x y : Str) : cds (x ++ y) = cds x ++ cds y := by simp [cds, Str.cps_append]
noncomputable def cutC {α : Type} (xs : List α) (lo hi : Option Int) : List α := (xs.drop (HT.sIx xs.length 0 lo)).take (HT.sIx xs.length xs.length hi - HT.sIx xs.length 0 lo)
section
variable {X : Cx}
noncomputable def rMulS : R2 := fun x y H Q => ∃ z n, x = .str z ∧ y = .int n ∧ -(2 ^ 63 : Int) ≤ n ∧ n ≤ 4096 ∧ z.length ≤ 4096 ∧ Q (.str (Txt.mul z n)) H
theorem op_mulS : OpR X (binaryOp .Mult) rMulS := by
  intro pins s σ H x y v u Q I rx ry h
  obtain ⟨z, n, rfl, rfl, h1, h2, h3, q⟩ := h
  obtain ⟨t, rfl⟩ := rx
  obtain ⟨t', rfl⟩ := ry
  exact SB.mul (mulOk_of 4096 4096 h3 h2 h1 (by decide) (by decide)) fun t' k => ⟨.str _, H, I.tok _, ⟨_, rfl⟩, q⟩
theorem cds_mul_one (c : Nat) (n : Int) : cds (Txt.mul ⟨#[c]⟩ n) = List.replicate n.toNat c := mul_one_list c n
end

section
variable {X : Cx}
noncomputable def clsV : V → Option Value
  | .ty n => some (.type n)
  | .ref a => some (.ref a)
  | _ => none
theorem call_isi : CallR X (.builtin "isinstance") (fun xs H Q => ∃ x c t cv b, xs = [x, c] ∧ clsV c = some cv ∧ TyOf X.K H x t ∧ PySem.W.kitOne X.K t cv = some b ∧ Q (.bl b) H) := by
  intro pins s σ H xs us Q I r h
  obtain ⟨x, c, t, cv, b, rfl, rc, ty, e, q⟩ := h
  obtain ⟨u, w', rfl, rx, rw'⟩ := r.two
  have : w' = cv := by
    cases c with
    | ref a => cases rc; exact rw'
    | ty a => cases rc; exact rw'
    | _ => cases rc
  subst this
  exact isinst_ok I rx ty e fun tk => ⟨.bl b, H, I.tok _, rfl, q⟩
end
end L2

set_option Elab.async false
set_option linter.all false
set_option maxRecDepth 100000
set_option maxHeartbeats 4000000
namespace L2
open PySem PySem.Spec PyProof.Rows

noncomputable def compB (sc out : Scope) (N N' : List Str) (ρ : List (Option Nat)) : Bool :=
  decide (sc.kind = .function) && sc.names.all (fun y => decide (y.2 ≠ .cell)) && sc.names.all (fun y => decide (y.2 = .local → sc.names.lookup y.1 = some .local)) &&
  sc.names.all (fun y => decide (y.2 = .free → sc.names.lookup y.1 = some .free ∧ (out.names.lookup y.1 = some .cell ∨ out.names.lookup y.1 = some .free))) &&
  decide (ρ.length = N'.length) && decide N'.Nodup &&
  (ρ.zip N').all (fun p => match p.1 with | none => true | some i => decide (N[i]? = some p.2) && decide (out.names.lookup p.2 = some .local ∨ out.names.lookup p.2 = some .cell ∨ out.names.lookup p.2 = some .free) && sc.names.any (fun y => decide (y = (p.2, NameKind.free))))
structure CompF (sc : Scope) (env : Env) (N N' : List Str) (ρ : List (Option Nat)) : Prop where
  S : CompScope sc env.scope
  sl : SlotOk sc env N N' ρ
  hl : ∀ x, (x, NameKind.free) ∈ sc.names → sc.names.lookup x = some .free
  nd : N'.Nodup
theorem compF_of {sc : Scope} {env : Env} {N N' : List Str} {ρ : List (Option Nat)} (h : compB sc env.scope N N' ρ = true) : CompF sc env N N' ρ := by
  unfold compB at h
  simp only [Bool.and_eq_true, decide_eq_true_eq, List.all_eq_true] at h
  obtain ⟨⟨⟨⟨⟨⟨h1, h2⟩, h3⟩, h4⟩, h5⟩, h6⟩, h7⟩ := h
  refine ⟨⟨h1, h2, h3, fun y hy e => (h4 y hy e).2⟩, ⟨h5, fun j i x e1 e2 => ?_⟩, fun x hx => (h4 _ hx rfl).1, h6⟩
  have hm : (some i, x) ∈ ρ.zip N' := by
    refine List.mem_of_getElem? (i := j) ?_
    rw [List.getElem?_zip_eq_some]
    exact ⟨e1, e2⟩
  have q := h7 _ hm
  simp only [Bool.and_eq_true, decide_eq_true_eq, List.any_eq_true] at q
  obtain ⟨⟨q1, q2⟩, y, hy, e⟩ := q
  exact ⟨q1, q2, e ▸ hy⟩

theorem pe_compB {X : Cx} {elt iter tg : Expr} {ifs : List Expr} {scope : Scope} {pos : Pos} (N' : List Str) (ρ : List (Option Nat)) {wi : TI} {g : TG} {tt : TT} {te : TE} (hc : X.calm = true) (hi : PI X tg iter wi) (h : compB scope X.env.scope X.N N' ρ = true)
    (inner : ∀ (cl : List (Str × Addr)) (C : Addr) (s : Shared) (H : Hp) (fp : List Addr) (pins : List (Addr × Obj)), PG (compCx X scope N' cl C s H fp pins) tg g ∧ PTs (compCx X scope N' cl C s H fp pins) ifs tt ∧ PE (compCx X scope N' cl C s H fp pins) elt te)
    (hs : ∀ x, foldedSetIterable iter X.env x = pure x := by intro _; rfl) : PE X (.ListComp elt [⟨tg, iter, ifs, 0⟩] scope pos) (tComp ρ wi g tt te) :=
  have F := compF_of h
  pe_comp N' ρ hc hi F.S F.sl F.hl inner hs
noncomputable def spLaw (K : PySem.W.Frag) : Sp := fun vs H Q _ => ∃ (a : Addr) (ns : List Int), vs = [.ref a] ∧ SqL K H a (ns.map V.int) ∧ ns.length ≤ 63 ∧ Only H ∧ ∀ H', Q (.bl true) H'
theorem law_walk {l : PySem.W.OpenLaw} {q : Program} {loose : List Str} {XP : (Str → Option Value) → Heap → Prop} {YP : World → Heap → Prop} {d : DefRec} {K : Params → PySem.W.Frag} {x : Str} (k : Nat) (hk : k ≤ 200) (hn : l.most = some 63) (hdf : d.params.defaults = [])
    (hY : ∀ (w : World) (h : Heap), YP w h → (K w.params).In h)
    (F : ∀ (w : World) (mg : Str → Option Value) (fa : Addr) (h : Heap), (K w.params).In h → h.Ns mainGlobals mg → mg d.name = some (.ref fa) →
      ∃ fd : FuncData, (∀ (s : Shared) (u : Value), BindsTo s fd ⟨[u], []⟩ [(x, u)]) ∧ ∀ base : Heap, (K w.params).In base → base.Ns mainGlobals mg → FnOk l.prog w (K w.params) mg base CX0 k fa fd [x] (spLaw (K w.params))) :
    PySem.W.WalkO q loose XP YP l.row.toRowW d [] (fun f vs => PySem.call f vs) :=
  L2.walk_of (n := 63) (k := k) (x := x) (CX := fun _ => CX0) (sp := fun w => spLaw (K w.params)) hn (by decide) hdf
    ⟨rfl, by have : callerA.depth + 605 < recursionLimit := by decide
             omega, by have : callerA.units + 3400 < cLine := by decide
                       omega, rfl⟩ hY F (fun _ H a ns hl hO hS => ⟨a, ns, rfl, hS, hl, hO, fun _ => rfl⟩) fun _ _ _ _ _ z => z
end L2
namespace L2
open PySem
noncomputable def mkSc (l : List (Str × NameKind)) : Scope := { kind := .function, names := l, isGenerator := false, isCoroutine := false, more := [] }
end L2

namespace L2
open PySem
theorem bt_len : bootBuiltins "len" = some (.builtin "len") := by decide +kernel
theorem bt_isinstance : bootBuiltins "isinstance" = some (.builtin "isinstance") := by decide +kernel
theorem bt_min : bootBuiltins "min" = some (.builtin "min") := by decide +kernel
theorem bt_max : bootBuiltins "max" = some (.builtin "max") := by decide +kernel
theorem bt_int : bootBuiltins "int" = some (.type "int") := by decide +kernel
theorem bt_bool : bootBuiltins "bool" = some (.type "bool") := by decide +kernel
theorem bt_list : bootBuiltins "list" = some (.type "list") := by decide +kernel
theorem bt_tuple : bootBuiltins "tuple" = some (.type "tuple") := by decide +kernel
theorem bt_dict : bootBuiltins "dict" = some (.type "dict") := by decide +kernel
end L2

set_option Elab.async false
set_option linter.all false
set_option maxRecDepth 100000
set_option maxHeartbeats 4000000
namespace L2
open PySem PySem.Spec PyProof.Rows

theorem szl {n : Nat} (h : n ≤ 1000000) : n ≤ sizeLine := by rw [sizeLine_eq]; omega
theorem szlt {n : Nat} (h : n < 1000000) : n < sizeLine := by rw [sizeLine_eq]; omega
theorem same_new {H : Hp} {p : Addr} (h : H p = none) (o : HO) : Same H (upd H p o) := fun b u q => by rw [upd_ne (ne_of_none q h)]; exact q
theorem dT {p : Prop} [Decidable p] (h : decide p = true) : p := of_decide_eq_true h
theorem dF {p : Prop} [Decidable p] (h : ¬ decide p = true) : ¬ p := fun z => h (decide_eq_true z)

theorem cell_in {ns : List Int} {k : Int} (h0 : 0 ≤ k) (h : k < (ns.length : Int)) : atI (ns.map V.int) k = some (.int (ns.getD k.toNat 0)) := by
  have hk : k.toNat < ns.length := by omega
  have ek : k = ((k.toNat : Nat) : Int) := by omega
  have q : atI (ns.map V.int) ((k.toNat : Nat) : Int) = some (.int (ns.getD k.toNat 0)) := atI_nat (by rw [List.getElem?_map, List.getElem?_eq_getElem hk]; simp [List.getD_eq_getElem?_getD, hk])
  rw [← ek] at q
  exact q
theorem take_snoc {α : Type} {l : List α} {i : Nat} {c : α} (h : l[i]? = some c) : l.take (i + 1) = l.take i ++ [c] := by
  rw [List.take_succ, h]; rfl
end L2
namespace L2
open PySem
end L2
namespace L2
open PySem
theorem seq_any {t u : TS} {D : Ends} {σ : St} {H : Hp} (M : St → Hp → Prop) (hu : ∀ σ' H', M σ' H' → u D σ' H') (ht : (∀ σ' H', M σ' H' → u D σ' H') → t { D with nx := u D } σ H) : tSeq t u D σ H := ht hu
theorem ndF {p : Prop} [Decidable p] (h : p) : (!decide p) = false := by rw [decide_eq_true h]; rfl
theorem ndT {p : Prop} [Decidable p] (h : ¬ p) : (!decide p) = true := by rw [decide_eq_false h]; rfl
theorem iteE {b : Bool} {A B : Prop} {v : Bool} (e : b = v) (h : if v = true then A else B) : if b = true then A else B := by rw [e]; exact h
end L2
namespace L2
open PySem
end L2

set_option Elab.async false
set_option linter.all false
set_option maxRecDepth 100000
set_option maxHeartbeats 4000000
namespace L2
open PySem PySem.Spec PyProof.Rows

inductive Tr where
  | v (x : V)
  | lst (l : List Tr)
  | tup (l : List Tr)
mutual
inductive TrIs (K : PySem.W.Frag) (H : Hp) : V → Tr → Prop
  | flat {x : V} : flatV x = true → TrIs K H x (.v x)
  | lst {p : Addr} {xs : List V} {l : List Tr} : SqL K H p xs → TrsIs K H xs l → TrIs K H (.ref p) (.lst l)
  | tup {p : Addr} {xs : List V} {l : List Tr} : SqT K H p xs → TrsIs K H xs l → TrIs K H (.ref p) (.tup l)
inductive TrsIs (K : PySem.W.Frag) (H : Hp) : List V → List Tr → Prop
  | nil : TrsIs K H [] []
  | cons {x : V} {t : Tr} {xs : List V} {l : List Tr} : TrIs K H x t → TrsIs K H xs l → TrsIs K H (x :: xs) (t :: l)
end
mutual
noncomputable def eqT : Tr → Tr → Bool
  | .v x, .v y => eqV x y
  | .lst l, .lst m => eqTs l m
  | .tup l, .tup m => eqTs l m
  | _, _ => false
noncomputable def eqTs : List Tr → List Tr → Bool
  | [], [] => true
  | x :: l, y :: m => eqT x y && eqTs l m
  | _, _ => false
end
mutual
noncomputable def simT : Tr → Tr → Bool
  | .v _, .v _ => true
  | .lst l, .lst m => simTs l m
  | .tup l, .tup m => simTs l m
  | _, _ => false
noncomputable def simTs : List Tr → List Tr → Bool
  | x :: l, y :: m => simT x y && simTs l m
  | _, _ => true
end
mutual
noncomputable def depT : Tr → Nat
  | .v _ => 0
  | .lst l => depTs l + 1
  | .tup l => depTs l + 1
noncomputable def depTs : List Tr → Nat
  | [] => 0
  | x :: l => max (depT x) (depTs l)
end
theorem eqV_refl {x : V} (h : flatV x = true) : eqV x x = true := by
  cases x <;> first | rfl | (simp [eqV]; done) | (simp [flatV] at h)
mutual
/-- a tree of flat values -/
noncomputable def okT : Tr → Bool
  | .v x => flatV x
  | .lst l => okTs l
  | .tup l => okTs l
noncomputable def okTs : List Tr → Bool
  | [] => true
  | x :: l => okT x && okTs l
end
mutual
theorem eqT_refl : ∀ t : Tr, okT t = true → eqT t t = true
  | .v x, h => by rw [eqT]; exact eqV_refl (by simpa [okT] using h)
  | .lst l, h => by rw [eqT]; exact eqTs_refl l (by simpa [okT] using h)
  | .tup l, h => by rw [eqT]; exact eqTs_refl l (by simpa [okT] using h)
theorem eqTs_refl : ∀ l : List Tr, okTs l = true → eqTs l l = true
  | [], _ => by rw [eqTs]
  | x :: l, h => by
    rw [okTs, Bool.and_eq_true] at h
    rw [eqTs, eqT_refl x h.1, eqTs_refl l h.2]; rfl
end
mutual
theorem TrIs.ok {K : PySem.W.Frag} {H : Hp} : ∀ {x : V} {t : Tr}, TrIs K H x t → okT t = true
  | _, _, .flat h => by rw [okT]; exact h
  | _, _, .lst _ h => by rw [okT]; exact h.ok
  | _, _, .tup _ h => by rw [okT]; exact h.ok
theorem TrsIs.ok {K : PySem.W.Frag} {H : Hp} : ∀ {xs : List V} {l : List Tr}, TrsIs K H xs l → okTs l = true
  | _, _, .nil => by rw [okTs]
  | _, _, .cons h r => by rw [okTs, h.ok, r.ok]; rfl
end
theorem TrsIs.length {K : PySem.W.Frag} {H : Hp} : ∀ {xs : List V} {l : List Tr}, TrsIs K H xs l → xs.length = l.length
  | _, _, .nil => rfl
  | _, _, .cons _ r => by simp [r.length]
theorem eqTs_len : ∀ {l m : List Tr}, l.length ≠ m.length → eqTs l m = false
  | [], [], h => absurd rfl h
  | [], _ :: _, _ => by rw [eqTs] <;> simp
  | _ :: _, [], _ => by rw [eqTs] <;> simp
  | x :: l, y :: m, h => by
    rw [eqTs, eqTs_len (l := l) (m := m) (fun e => h (by simp [e])), Bool.and_false]
section
variable {X : Cx} {pins : List (Addr × Obj)} {σ : St} {H : Hp} {s : Shared}
mutual
theorem TrIs.inj (I : Inv X pins σ H s) : ∀ {t t' : Tr} {x : V}, TrIs X.K H x t → TrIs X.K H x t' → t = t'
  | .v x, t', _, .flat h, h' => by
    cases h' with
    | flat _ => rfl
    | lst _ _ => cases h
    | tup _ _ => cases h
  | .lst l, t', _, .lst (p := p) (xs := xs) hq hr, h' => by
    cases h' with
    | flat h => cases h
    | lst hq' hr' =>
      have e := I.list_inj hq hq'
      subst e
      rw [TrsIs.inj I hr hr']
    | tup hq' hr' =>
      obtain ⟨_, _, ⟨o, n, e1, c1, _⟩, _⟩ := I.list hq
      obtain ⟨_, _, ⟨o', e2, c2, _⟩, _⟩ := I.tuple hq'
      rw [e1] at e2; cases e2
      rw [c1] at c2; simp at c2
  | .tup l, t', _, .tup (p := p) (xs := xs) hq hr, h' => by
    cases h' with
    | flat h => cases h
    | tup hq' hr' =>
      have e := I.tuple_inj hq hq'
      subst e
      rw [TrsIs.inj I hr hr']
    | lst hq' hr' =>
      obtain ⟨_, _, ⟨o, n, e1, c1, _⟩, _⟩ := I.list hq'
      obtain ⟨_, _, ⟨o', e2, c2, _⟩, _⟩ := I.tuple hq
      rw [e1] at e2; cases e2
      rw [c1] at c2; simp at c2
theorem TrsIs.inj (I : Inv X pins σ H s) : ∀ {l l' : List Tr} {xs : List V}, TrsIs X.K H xs l → TrsIs X.K H xs l' → l = l'
  | [], _, _, .nil, h' => by cases h'; rfl
  | t :: l, _, _, .cons h r, h' => by
    cases h' with
    | cons h2 r2 => rw [TrIs.inj I h h2, TrsIs.inj I r r2]
end
theorem range_all_eq {α : Type} {e : Nat → Bool} {f : α → Bool} : ∀ {l : List α}, (∀ j x, l[j]? = some x → e j = f x) → (List.range l.length).all e = l.all f := by
  intro l h
  rw [Bool.eq_iff_iff]
  simp only [List.all_eq_true, List.mem_range]
  constructor
  · intro q x hx
    obtain ⟨i, hi, hx⟩ := List.mem_iff_getElem.mp hx
    rw [← h i x (by rw [List.getElem?_eq_getElem hi, hx])]
    exact q i hi
  · intro q i hi
    rw [h i l[i] (List.getElem?_eq_getElem hi)]
    exact q _ (List.getElem_mem hi)
theorem eqTs_zip : ∀ {l m : List Tr}, l.length = m.length → eqTs l m = (l.zip m).all fun p => eqT p.1 p.2
  | [], [], _ => by rw [eqTs]; rfl
  | [], _ :: _, h => by simp at h
  | _ :: _, [], h => by simp at h
  | x :: l, y :: m, h => by
    rw [eqTs, eqTs_zip (l := l) (m := m) (by simpa using h)]
    rfl
theorem TrsIs.at {K : PySem.W.Frag} {H : Hp} : ∀ {xs : List V} {l : List Tr} {j : Nat} {t : Tr}, TrsIs K H xs l → l[j]? = some t → ∃ x, xs[j]? = some x ∧ TrIs K H x t
  | _, _, _, _, .nil, h => by simp at h
  | _, _, 0, _, .cons h _, e => by simp at e; subst e; exact ⟨_, rfl, h⟩
  | _, _, j + 1, _, .cons _ r, e => by
    obtain ⟨x, h1, h2⟩ := r.at (j := j) (by simpa using e)
    exact ⟨x, by simpa using h1, h2⟩
theorem simTs_at : ∀ {l m : List Tr} {j : Nat} {t t' : Tr}, simTs l m = true → l[j]? = some t → m[j]? = some t' → simT t t' = true
  | [], _, _, _, _, _, h, _ => by simp at h
  | _ :: _, [], _, _, _, _, _, h => by simp at h
  | x :: l, y :: m, 0, t, t', h, e1, e2 => by
    simp at e1 e2; subst e1 e2
    rw [simTs, Bool.and_eq_true] at h; exact h.1
  | x :: l, y :: m, j + 1, t, t', h, e1, e2 => by
    rw [simTs, Bool.and_eq_true] at h
    exact simTs_at (j := j) h.2 (by simpa using e1) (by simpa using e2)
theorem depTs_at : ∀ {l : List Tr} {j : Nat} {t : Tr}, l[j]? = some t → depT t ≤ depTs l
  | [], _, _, h => by simp at h
  | x :: l, 0, t, h => by simp at h; subst h; rw [depTs]; omega
  | x :: l, j + 1, t, h => by
    have := depTs_at (l := l) (j := j) (t := t) (by simpa using h)
    rw [depTs]; omega
theorem items_eq {A : Around} {l m : List Tr} {xs ys : List V} {its jts : List Value} (hr : TrsIs X.K H xs l) (hr' : TrsIs X.K H ys m) (rv : Vals xs its) (rv' : Vals ys jts)
    (ih : ∀ (j : Nat) (t t' : Tr) (x y : V) (u v : Value), l[j]? = some t → m[j]? = some t' → TrIs X.K H x t → RelV x u → TrIs X.K H y t' → RelV y v → SeqAt.EqAt A.in1 s u v (eqT t t')) :
    ∀ j (h1 : j < its.toArray.size) (h2 : j < jts.toArray.size), SeqAt.EqAt A.in1 s its.toArray[j] jts.toArray[j] (match l[j]?, m[j]? with | some t, some t' => eqT t t' | _, _ => true) := by
  intro j h1 h2
  have l1 := hr.length; have l2 := hr'.length; have l3 := rv.length; have l4 := rv'.length
  rw [List.size_toArray] at h1 h2
  obtain ⟨t, ht⟩ : ∃ t, l[j]? = some t := ⟨l[j]'(by omega), List.getElem?_eq_getElem (by omega)⟩
  obtain ⟨t', ht'⟩ : ∃ t', m[j]? = some t' := ⟨m[j]'(by omega), List.getElem?_eq_getElem (by omega)⟩
  obtain ⟨x, hx, hxt⟩ := hr.at ht
  obtain ⟨y, hy, hyt⟩ := hr'.at ht'
  obtain ⟨u, hu, ru⟩ := rv.get hx
  obtain ⟨v, hv, rw'⟩ := rv'.get hy
  rw [ht, ht']
  have e1 : its.toArray[j] = u := by
    have := List.getElem?_eq_getElem (l := its) (i := j) h1
    rw [hu] at this
    simpa using (Option.some.inj this).symm
  have e2 : jts.toArray[j] = v := by
    have := List.getElem?_eq_getElem (l := jts) (i := j) h2
    rw [hv] at this
    simpa using (Option.some.inj this).symm
  rw [e1, e2]
  exact ih j t t' x y u v ht ht' hxt ru hyt rw'
theorem all_items {l m : List Tr} (h : l.length = m.length) : (List.range l.length).all (fun j => match l[j]?, m[j]? with | some t, some t' => eqT t t' | _, _ => true) = eqTs l m := by
  rw [eqTs_zip h]
  have e : l.length = (l.zip m).length := by rw [List.length_zip]; omega
  rw [e]
  refine range_all_eq fun j p hp => ?_
  obtain ⟨h1, h2⟩ := List.getElem?_zip_eq_some.mp hp
  rw [h1, h2]
theorem RcAt_lists {A : Around} {p q : Addr} {xs ys : List V} {l m : List Tr} (I : Inv X pins σ H s) (hu : A.units < cLine) (hq : SqL X.K H p xs) (hr : TrsIs X.K H xs l) (hq' : SqL X.K H q ys) (hr' : TrsIs X.K H ys m)
    (ih : ∀ (j : Nat) (t t' : Tr) (x y : V) (u v : Value), l[j]? = some t → m[j]? = some t' → TrIs X.K H x t → RelV x u → TrIs X.K H y t' → RelV y v → SeqAt.EqAt A.in1 s u v (eqT t t')) :
    SeqAt.RcAt A s (.ref p) (.ref q) (eqTs l m) ∧ SeqAt.RcNeAt A s (.ref p) (.ref q) (!eqTs l m) := by
  obtain ⟨its, rv, pl, _⟩ := I.list hq
  obtain ⟨jts, rv', pl', _⟩ := I.list hq'
  have l1 := hr.length; have l2 := hr'.length; have l3 := rv.length; have l4 := rv'.length
  by_cases hl : l.length = m.length
  · have e : its.toArray.size = l.length := by rw [List.size_toArray]; omega
    have a := SeqAt.RcAt.lists (A := A) pl.isList pl'.isList (by rw [List.size_toArray, List.size_toArray]; omega) hu (items_eq hr hr' rv rv' ih)
    have b := SeqAt.RcNeAt.lists (A := A) pl.isList pl'.isList (by rw [List.size_toArray, List.size_toArray]; omega) hu (items_eq hr hr' rv rv' ih)
    rw [e, all_items hl] at a b
    exact ⟨a, b⟩
  · rw [eqTs_len hl]
    have hne : (its.toArray.size != jts.toArray.size) = true := by
      rw [List.size_toArray, List.size_toArray]
      simp only [bne_iff_ne, ne_eq]; omega
    exact ⟨SeqAt.RcAt.lists_lengths pl.isList pl'.isList hne hu, SeqAt.RcNeAt.lists_lengths pl.isList pl'.isList hne hu⟩
theorem RcAt_tuples {A : Around} {p q : Addr} {xs ys : List V} {l m : List Tr} (I : Inv X pins σ H s) (hu : A.units < cLine) (hq : SqT X.K H p xs) (hr : TrsIs X.K H xs l) (hq' : SqT X.K H q ys) (hr' : TrsIs X.K H ys m)
    (ih : ∀ (j : Nat) (t t' : Tr) (x y : V) (u v : Value), l[j]? = some t → m[j]? = some t' → TrIs X.K H x t → RelV x u → TrIs X.K H y t' → RelV y v → SeqAt.EqAt A.in1 s u v (eqT t t')) :
    SeqAt.RcAt A s (.ref p) (.ref q) (eqTs l m) ∧ SeqAt.RcNeAt A s (.ref p) (.ref q) (!eqTs l m) := by
  obtain ⟨its, rv, pl, _⟩ := I.tuple hq
  obtain ⟨jts, rv', pl', _⟩ := I.tuple hq'
  have l1 := hr.length; have l2 := hr'.length; have l3 := rv.length; have l4 := rv'.length
  have a := SeqAt.RcAt.tuples (A := A) (show s.heap.IsTuple p its.toArray from pl) (show s.heap.IsTuple q jts.toArray from pl') hu (items_eq hr hr' rv rv' ih)
  have b := SeqAt.RcNeAt.tuples (A := A) (show s.heap.IsTuple p its.toArray from pl) (show s.heap.IsTuple q jts.toArray from pl') hu (items_eq hr hr' rv rv' ih)
  have e : ((List.range (min its.toArray.size jts.toArray.size)).all (fun j => match l[j]?, m[j]? with | some t, some t' => eqT t t' | _, _ => true) && its.toArray.size == jts.toArray.size) = eqTs l m := by
    by_cases hl : l.length = m.length
    · have e1 : min its.toArray.size jts.toArray.size = l.length := by rw [List.size_toArray, List.size_toArray]; omega
      have e2 : (its.toArray.size == jts.toArray.size) = true := by rw [List.size_toArray, List.size_toArray]; simp; omega
      rw [e1, e2, all_items hl, Bool.and_true]
    · have e2 : (its.toArray.size == jts.toArray.size) = false := by rw [List.size_toArray, List.size_toArray]; simp; omega
      rw [e2, eqTs_len hl, Bool.and_false]
  rw [e] at a b
  exact ⟨a, b⟩
theorem eqAt_T (I : Inv X pins σ H s) (n : Nat) : ∀ (A : Around) (t t' : Tr) (x y : V) (u v : Value), depT t ≤ n → A.units + n < cLine → simT t t' = true → TrIs X.K H x t → RelV x u → TrIs X.K H y t' → RelV y v → SeqAt.EqAt A s u v (eqT t t') := by
  induction n with
  | zero =>
    intro A t t' x y u v hd hu hs hx rx hy ry
    cases hx with
    | flat fx =>
      cases hy with
      | flat fy => rw [eqT]; exact eqAt_V rx ry fx fy
      | lst _ _ => simp [simT] at hs
      | tup _ _ => simp [simT] at hs
    | lst _ _ => simp [depT] at hd
    | tup _ _ => simp [depT] at hd
  | succ n ih =>
    intro A t t' x y u v hd hu hs hx rx hy ry
    cases hx with
    | flat fx =>
      cases hy with
      | flat fy => rw [eqT]; exact eqAt_V rx ry fx fy
      | lst _ _ => simp [simT] at hs
      | tup _ _ => simp [simT] at hs
    | @lst p xs l hq hr =>
      cases hy with
      | flat fy => simp [simT] at hs
      | tup _ _ => simp [simT] at hs
      | @lst q ys m hq' hr' =>
        cases rx; cases ry
        rw [depT] at hd
        rw [simT] at hs
        by_cases e : p = q
        · subst e
          have e1 := TrIs.inj I (TrIs.lst hq hr) (TrIs.lst hq' hr')
          rw [← e1, eqT_refl _ (TrIs.lst hq hr).ok]
          exact SeqAt.EqAt.same _
        · rw [eqT]
          refine SeqAt.EqAt.of_refs e (RcAt_lists I (by omega) hq hr hq' hr' fun j t t' x y u v h1 h2 h3 h4 h5 h6 => ?_).1
          exact ih A.in1 t t' x y u v (by have := depTs_at h1; omega) (by show A.units + 1 + n < cLine; omega) (simTs_at hs h1 h2) h3 h4 h5 h6
    | @tup p xs l hq hr =>
      cases hy with
      | flat fy => simp [simT] at hs
      | lst _ _ => simp [simT] at hs
      | @tup q ys m hq' hr' =>
        cases rx; cases ry
        rw [depT] at hd
        rw [simT] at hs
        by_cases e : p = q
        · subst e
          have e1 := TrIs.inj I (TrIs.tup hq hr) (TrIs.tup hq' hr')
          rw [← e1, eqT_refl _ (TrIs.tup hq hr).ok]
          exact SeqAt.EqAt.same _
        · rw [eqT]
          refine SeqAt.EqAt.of_refs e (RcAt_tuples I (by omega) hq hr hq' hr' fun j t t' x y u v h1 h2 h3 h4 h5 h6 => ?_).1
          exact ih A.in1 t t' x y u v (by have := depTs_at h1; omega) (by show A.units + 1 + n < cLine; omega) (simTs_at hs h1 h2) h3 h4 h5 h6
end

section
variable {X : Cx}
noncomputable def rEqX (K : PySem.W.Frag) (neg : Bool) : R2 := fun x y H Q => ∃ t t', TrIs K H x t ∧ TrIs K H y t' ∧ (∃ p, x = .ref p) ∧ (∃ p, y = .ref p) ∧ simT t t' = true ∧ depT t ≤ 60 ∧ Q (.bl (if neg then !eqT t t' else eqT t t')) H
theorem eqX_aux {neg : Bool} (hu : X.A.units + 64 < cLine) : OpR X (compareOp (if neg then .NotEq else .Eq)) (rEqX X.K neg) := by
  intro pins s σ H x y v u Q I rx ry h
  obtain ⟨t, t', hx, hy, ⟨p, rfl⟩, ⟨q, rfl⟩, hs, hd, q'⟩ := h
  cases rx; cases ry
  have done : ∀ l m, SeqAt.RcAt X.A s (.ref p) (.ref q) (eqTs l m) ∧ SeqAt.RcNeAt X.A s (.ref p) (.ref q) (!eqTs l m) → Q (.bl (if neg then !eqTs l m else eqTs l m)) H →
      wpAny (model X.prog X.w) X.A (compareOp (if neg then .NotEq else .Eq) (.ref p) (.ref q)) (EP X pins σ Q) X.xe s := fun l m hb hq => by
    cases neg with
    | false => exact hb.1 X.prog X.w X.xe _ ⟨.bl _, H, I, rfl, hq⟩
    | true => exact hb.2 X.prog X.w X.xe _ ⟨.bl _, H, I, rfl, hq⟩
  cases hx with
  | flat fx => cases fx
  | @lst _ xs l hq hr =>
    cases hy with
    | flat fy => cases fy
    | tup _ _ => simp [simT] at hs
    | @lst _ ys m hq' hr' =>
      rw [depT] at hd
      rw [simT] at hs
      rw [eqT] at q'
      refine done l m (RcAt_lists I (by omega) hq hr hq' hr' fun j t t' x y u v h1 h2 h3 h4 h5 h6 => ?_) q'
      exact eqAt_T I 60 X.A.in1 t t' x y u v (by have := depTs_at h1; omega) (by show X.A.units + 1 + 60 < cLine; omega) (simTs_at hs h1 h2) h3 h4 h5 h6
  | @tup _ xs l hq hr =>
    cases hy with
    | flat fy => cases fy
    | lst _ _ => simp [simT] at hs
    | @tup _ ys m hq' hr' =>
      rw [depT] at hd
      rw [simT] at hs
      rw [eqT] at q'
      refine done l m (RcAt_tuples I (by omega) hq hr hq' hr' fun j t t' x y u v h1 h2 h3 h4 h5 h6 => ?_) q'
      exact eqAt_T I 60 X.A.in1 t t' x y u v (by have := depTs_at h1; omega) (by show X.A.units + 1 + 60 < cLine; omega) (simTs_at hs h1 h2) h3 h4 h5 h6
theorem op_eqS (hu : X.A.units + 64 < cLine) : OpR X (compareOp .Eq) (rEqX X.K false) := eqX_aux (neg := false) hu
theorem hu64 {A : Around} {k : Nat} (hr : Room k A) : A.units + 64 < cLine := by have := hr.un; omega
end
end L2

set_option Elab.async false
set_option linter.all false
set_option maxRecDepth 100000
set_option maxHeartbeats 4000000
namespace L2
open PySem PySem.Spec PyProof.Rows

section
variable {X : Cx}
end

end L2

set_option Elab.async false
set_option linter.all false
set_option maxRecDepth 100000
set_option maxHeartbeats 4000000
namespace L2
open PySem PySem.Spec PyProof.Rows

noncomputable abbrev abc : Str := "abcdefghijklmnopqrstuvwxyz"
theorem cds_abc : cds abc = (List.range 26).map (97 + ·) := by decide +kernel
noncomputable def letC (x : Int) : Nat := 97 + (x % 26).toNat
theorem abc_at (x : Int) : atI (cds abc) (x % 26) = some (letC x) := by
  have h0 := Int.emod_nonneg x (show (26 : Int) ≠ 0 by decide)
  have h1 := Int.emod_lt_of_pos x (show (0 : Int) < 26 by decide)
  have e : x % 26 = (((x % 26).toNat : Nat) : Int) := by omega
  rw [e]
  refine atI_nat ?_
  rw [cds_abc, List.getElem?_map, List.getElem?_range (by omega)]
  rfl
theorem abc_len : abc.length ≤ sizeLine := szl (by decide +kernel)
theorem cut_to {α : Type} (l : List α) {k : Int} (h : 0 ≤ k) : cutC l none (some k) = l.take k.toNat := by
  unfold cutC
  have e : k = ((k.toNat : Nat) : Int) := by omega
  rw [HT.sIx_none, e, HT.sIx_nat, List.drop_zero, Nat.sub_zero]
  rw [show (((k.toNat : Nat) : Int)).toNat = k.toNat by omega]
  by_cases h : k.toNat ≤ l.length
  · rw [Nat.min_eq_left h]
  · rw [Nat.min_eq_right (by omega), List.take_of_length_le (by omega), List.take_of_length_le (by omega)]
end L2
namespace L2
open PySem
end L2
namespace L2
open PySem
end L2
namespace L2
open PySem
end L2

set_option Elab.async false
set_option linter.all false
set_option maxRecDepth 100000
set_option maxHeartbeats 4000000
namespace L2
open PySem PySem.Spec PyProof.Rows

end L2

set_option Elab.async false
set_option linter.all false
set_option maxRecDepth 100000
set_option maxHeartbeats 4000000
namespace L2
open PySem PySem.Spec PyProof.Rows
noncomputable def spNInit (C : Addr) : Sp := fun vs H Q _ => ∃ (x dx : Addr) (n : V), vs = [.ref x, n] ∧ H x = some (.ins C dx []) ∧ ∀ H', (∀ b o, H b = some o → b ≠ x → H' b = some o) → (∃ dx, H' x = some (.ins C dx [("n", n)])) → Q .non H'
noncomputable def spDInit (C : Addr) : Sp := fun vs H Q _ => ∃ (x dx : Addr) (v1 v2 v3 v4 v5 v6 v7 : V), vs = [.ref x, v1, v2, v3, v4, v5, v6, v7] ∧ H x = some (.ins C dx []) ∧ ∀ H', (∀ b o, H b = some o → b ≠ x → H' b = some o) → (∃ dx, H' x = some (.ins C dx [("names", v1), ("lows", v2), ("highs", v3), ("table", v4), ("spots", v5), ("term", v6), ("path", v7)])) → Q .non H'
noncomputable def spAlikeN : Sp := fun vs H Q _ => ∃ (p1 p2 : Addr) (xs ys : List Int) (m k : Nat), vs = [.ref p1, .ref p2, .int (m : Int)] ∧ H p1 = some (.tup (xs.map V.int)) ∧ H p2 = some (.tup (ys.map V.int)) ∧ m ≤ xs.length ∧ m ≤ ys.length ∧ m ≤ 1000 ∧ k ≤ m ∧ (∀ e < k, xs.getD e 0 = ys.getD e 0) ∧ (k < m → xs.getD k 0 ≠ ys.getD k 0) ∧ Q (.int (k : Int)) H
theorem nodup_le {α : Type} [DecidableEq α] : ∀ {l k : List α}, l.Nodup → (∀ x ∈ l, x ∈ k) → l.length ≤ k.length
  | [], _, _, _ => Nat.zero_le _
  | a :: l, k, hn, hs => by
    have ha := hs a List.mem_cons_self
    have h2 := List.nodup_cons.mp hn
    have := nodup_le (l := l) (k := k.erase a) h2.2 fun x hx => (List.mem_erase_of_ne (show x ≠ a from fun e => h2.1 (by rw [← e]; exact hx))).mpr (hs x (List.mem_cons_of_mem _ hx))
    rw [List.length_erase_of_mem ha] at this
    have : 0 < k.length := List.length_pos_of_mem ha
    simp only [List.length_cons]
    omega
theorem atI_neg {α : Type} (l : List α) (x : α) (m : List α) {n : Int} (hn : n = -((m.length : Int) + 1)) : atI (l ++ x :: m) n = some x := by
  unfold atI ixN
  have hl : (l ++ x :: m).length = l.length + (m.length + 1) := by rw [List.length_append]; rfl
  rw [hl, if_neg (by omega), if_pos (by omega)]
  show (l ++ x :: m)[(n + ((l.length + (m.length + 1) : Nat) : Int)).toNat]? = some x
  rw [show (n + ((l.length + (m.length + 1) : Nat) : Int)).toNat = l.length by omega, List.getElem?_append_right (Nat.le_refl _), Nat.sub_self]
  rfl
theorem if_any {tt : TT} {ta tb : TS} {D : Ends} {σ : St} {H : Hp} (M : Hp → Prop) (hb : ∀ H', M H' → tb D σ H') (h : (∀ H', M H' → tb D σ H') → tIfS tt ta tb D σ H) : tIfS tt ta tb D σ H := h hb
theorem made_same {H H2 : Hp} {x dx C : Addr} (hx : H x = none) (hdx : H dx = none) (k : ∀ b o, (upd (upd H dx (.own x)) x (.ins C dx [])) b = some o → b ≠ x → H2 b = some o) : Same H H2 := fun b o e => by
  have n1 := ne_of_none e hx
  have n2 := ne_of_none e hdx
  exact k b o (by rw [upd_ne n1, upd_ne n2]; exact e) n1
end L2

set_option Elab.async false
set_option linter.all false
set_option maxRecDepth 100000
set_option maxHeartbeats 4000000
namespace L2
open PySem PySem.Spec PyProof.Rows
section
variable {X : Cx} {pins : List (Addr × Obj)} {σ : St} {H : Hp} {s : Shared} {h' : Heap}
theorem Inv.turnedL {t' : Nat} {ch : List Addr} (I : Inv X pins σ H s) (k : ∀ b o, b ∉ ch → s.heap.get? b = some o → h'.get? b = some o) (hf : ∀ b ∈ ch, FpOk X pins H b) : Inv X pins σ H { s with heap := h', toks := t' } := by
  have nit : ∀ b u, H b = some u → b ∉ ch := fun b u e z => by rw [(hf b z).1] at e; cases e
  have hL : X.env.locals ∉ ch := fun z => (hf _ z).2.1 rfl
  refine I.step (g' := s.gens) (d' := s.drawn) (ch := ch) (fun b hb => ?_) (fun b o _ _ hc e _ => k b o hc e) (fun b o _ _ hc e _ => ⟨o.slots, k b o hc e⟩) (fun _ _ _ _ n => n)
    (fun b o hc e => ⟨o, k b o hc e⟩) (fun _ _ e => e) (fun _ _ _ e => e) (fun b ps e => ⟨#[], by rw [e]; simp⟩) (fun m hm => ?_) (fun b u e => ?_) I.bare
  · obtain ⟨f0, f1, f2, f3, f4, f5⟩ := hf b hb
    exact ⟨f3, f1, f4, f5⟩
  · obtain ⟨o, es, ep, ho, r⟩ := hm
    exact ⟨o, es, ep, k _ o hL ho, r⟩
  · refine (I.hok b u e).stay (fun c v hc q => k c v ?_ q) (fun _ q => q) fun _ _ q => q
    rcases hc with z | z
    · rw [z]; exact nit b u e
    · exact nit c _ z
end
noncomputable def Ite (K : PySem.W.Frag) (a : Addr) : It :=
  ⟨fun i H => ∃ xs x, SqL K H a xs ∧ xs[i]? = some x, fun i H v H' => ∃ x T, (∀ xs, SqL K H a xs → xs[i]? = some x) ∧ H T = none ∧ v = .ref T ∧ H' = upd H T (.tup [.int i, x]), fun i H => ∃ xs, SqL K H a xs ∧ xs.length ≤ i⟩
theorem turn_enum {P : Program} {w : World} {K : PySem.W.Frag} {elts : List Expr} {x1 : Nat} {pos : Pos} (a e it : Addr) (hei : e ≠ it) : Turn P w K (.Tuple elts x1 pos) (Ite K a) [e, it] e (fun i h => (∃ old, IsEnum h e it i old) ∧ h.IsListIter it a i) where
  mem := by simp
  obj := fun i h st b hb => by
    obtain ⟨⟨old, he⟩, hit⟩ := st
    rcases List.mem_cons.mp hb with rfl | hb
    · exact ⟨_, he, fun v z => by cases z⟩
    · have e : b = it := by simpa using hb
      subst e
      obtain ⟨o, e, c, d⟩ := hit
      exact ⟨o, e, fun v z => by rw [d] at z; cases z⟩
  keep := fun i h h' st k => by
    obtain ⟨⟨old, he⟩, hit⟩ := st
    exact ⟨⟨old, k e (by simp) _ he⟩, hit.at fun o e => k it (by simp) o e⟩
  item := by
    intro X hP hw hK hc i pins s σ H E I hf st hg
    subst hP hw hK
    obtain ⟨xs, x, hq, hx⟩ := hg
    obtain ⟨its, rv, p, hz⟩ := I.list hq
    obtain ⟨u, hu, ru⟩ := rv.get hx
    obtain ⟨⟨old, he⟩, hit⟩ := st
    refine wpAny_pyNext_enum_item he hit p.isList (x := u) (by simpa using hu) hei fun h1 ho hit' hT hsz hk => ⟨_, rfl, ?_⟩
    refine wpAny_letOwnedTupleGo_enum ho fun h2 he2 hs2 => ?_
    have hTn : H s.heap.objs.size = none := I.hok.fresh (Nat.le_refl _)
    have helt : e < s.heap.objs.size := Heap.lt_size he
    have hilt : it < s.heap.objs.size := by obtain ⟨_, x, _⟩ := hit; exact Heap.lt_size x
    have I1 : Inv X pins σ (upd H s.heap.objs.size (.tup [.int i, x])) { s with heap := s.heap.push { cls := .type "tuple", data := .seq #[.int i s.toks, u] }, toks := s.toks + 1 } := I.laid (t' := s.toks + 1) (o := .tup [.int i, x]) (fun b o e => Heap.get?_push_of_some _ e) (Nat.le_refl _) ⟨szl (by show 2 ≤ 1000000; decide), [.int i s.toks, u], .cons ⟨_, rfl⟩ (.cons ru .nil), IsTupN.new _ _⟩
    have I2 : Inv X pins σ (upd H s.heap.objs.size (.tup [.int i, x])) { s with heap := h2, toks := s.toks + 1 } := by
      refine Inv.turnedL (s := { s with heap := s.heap.push { cls := .type "tuple", data := .seq #[.int i s.toks, u] }, toks := s.toks + 1 }) (h' := h2) (ch := [e, it]) (t' := s.toks + 1) I1 (fun b o hb q => ?_) (fun b hb => ?_)
      · have nbe : b ≠ e := fun z => hb (by simp [z])
        have nbi : b ≠ it := fun z => hb (by simp [z])
        show h2.get? b = some o
        rw [hs2.2 b nbe]
        rcases Heap.get?_push_cases q with ⟨rfl, rfl⟩ | q
        · exact hT
        · exact hk b o nbe nbi q
      · obtain ⟨f0, f1, f2, f3, f4, f5⟩ := hf b hb
        have nb : b ≠ s.heap.objs.size := by
          rcases List.mem_cons.mp hb with rfl | hb
          · exact Nat.ne_of_lt helt
          · have : b = it := by simpa using hb
            subst this
            exact Nat.ne_of_lt hilt
        exact ⟨by rw [upd_ne nb]; exact f0, f1, f2, f3, f4, f5⟩
    refine ⟨.ref s.heap.objs.size, _, I2, rfl, ⟨x, _, fun ys hy => by rw [I.list_inj hy hq]; exact hx, hTn, rfl, rfl⟩, ⟨⟨_, by simpa using he2⟩, hit'.at fun o y => (hs2.2 it hei.symm).trans y⟩, fun b hb => ?_⟩
    obtain ⟨f0, f1, f2, f3, f4, f5⟩ := hf b hb
    have nb : b ≠ s.heap.objs.size := by
      rcases List.mem_cons.mp hb with rfl | hb
      · exact Nat.ne_of_lt helt
      · have : b = it := by simpa using hb
        subst this
        exact Nat.ne_of_lt hilt
    rw [upd_ne nb]
    exact f0
  done := by
    intro X hP hw hK hc i pins s σ H E I hf st hg
    subst hP hw hK
    obtain ⟨xs, hq, hx⟩ := hg
    obtain ⟨its, rv, p, hz⟩ := I.list hq
    obtain ⟨⟨old, he⟩, hit⟩ := st
    have hl := rv.length
    refine wpAny_pyNext_enum_end (I.ok.hd hc) he hit p.isList (by simp; omega) fun h' eb => ⟨rfl, ?_⟩
    exact I.turnedL (ch := [e, it]) (t' := s.toks) (fun b o hb q => eb b o (fun z => hb (by simp [z])) q) hf
  self := fun _ _ _ _ _ st h => by
    obtain ⟨⟨old, he⟩, _⟩ := st
    exact wpAny_pyIter_enum he h
noncomputable def iEnum (K : PySem.W.Frag) (ta : TA) : TI := fun σ H R => ta σ H fun vs H1 => ∃ a : Addr, vs = [.ref a] ∧ (∃ xs, SqL K H1 a xs) ∧ R (Ite K a) H1
theorem pi_enum {X : Cx} {a : Expr} {ta : TA} {p pos : Pos} {elts : List Expr} {x1 : Nat} {pos2 : Pos} (hg : Gl X "enumerate") (hm : X.mg "enumerate" = none) (ha : PA X [a] ta) (hs : starEach [a] X.env = [(false, eval a X.env)] := by rfl) : PI X (.Tuple elts x1 pos2) (.Call (.Name "enumerate" p) [a] [] pos) (iEnum X.K ta) := by
  intro pins s σ H R I h
  refine Call_ (ld_blt I hg hm boot_enumerate (PyProof.Rows.callWith_type1 (thn (ha pos pins s σ H _ I h) fun us s1 ⟨vs, H1, I1, r1, q1⟩ => ?_) hs rfl))
  obtain ⟨l, rfl, ⟨xs, hq⟩, q⟩ := q1
  cases r1 with
  | cons r rr =>
    cases rr
    cases r
    obtain ⟨its, rv, pl, hz⟩ := I1.list hq
    refine call_enumerate_list pl.isList fun h' he hit hsz hk => ?_
    refine wpAny_pyIter_enum he ?_
    refine ⟨_, [s1.heap.objs.size + 1, s1.heap.objs.size], _, _, H1, rfl, I1.kept (t' := s1.toks) hk, turn_enum l _ _ (Nat.ne_of_gt (Nat.lt_succ_self _)), ⟨⟨_, he⟩, hit⟩, fun b hb => ?_, q⟩
    rcases List.mem_cons.mp hb with rfl | hb
    · exact I1.fpOk (Nat.le_succ _) (I1.hok.fresh (Nat.le_succ _))
    · have e : b = s1.heap.objs.size := by simpa using hb
      subst e
      exact I1.fpOk (Nat.le_refl _) (I1.hok.fresh (Nat.le_refl _))
theorem for_enum {K : PySem.W.Frag} {a : Addr} {xs : List V} {g : TG} {tb : TS} {D : Ends} {σ : St} {H : Hp} (Pv : Nat → St → Hp → Prop) (h0 : Pv 0 σ H) (hl : ∀ i σ H, i ≤ xs.length → Pv i σ H → SqL K H a xs)
    (hs : ∀ i x T σ H, xs[i]? = some x → Pv i σ H → H T = none → g (.ref T) σ (upd H T (.tup [.int i, x])) fun σ2 H2 => tb { D with nx := Pv (i + 1), ct := Pv (i + 1), bk := D.nx } σ2 H2) (hd : ∀ σ H, Pv xs.length σ H → D.nx σ H) :
    ∃ W : Nat → Nat → St → Hp → Prop, (∃ m, W 0 m σ H) ∧ ∀ i m σ H, W i m σ H →
      ((Ite K a).stop i H ∧ D.nx σ H) ∨ ((Ite K a).go i H ∧ ∃ N : St → Hp → Prop, (∀ σ' H', N σ' H' → ∃ m', m' < m ∧ W (i + 1) m' σ' H') ∧ ∀ x H', (Ite K a).yld i H x H' → g x σ H' fun σ2 H2 => tb { D with nx := N, ct := N, bk := D.nx } σ2 H2) := by
  refine ⟨fun i m σ H => m = xs.length - i ∧ i ≤ xs.length ∧ Pv i σ H, ⟨xs.length, by simp, Nat.zero_le _, h0⟩, ?_⟩
  rintro i m σ H ⟨rfl, hi, p⟩
  have q := hl i σ H hi p
  by_cases hlt : i < xs.length
  · refine .inr ⟨⟨xs, xs[i], q, List.getElem?_eq_getElem hlt⟩, Pv (i + 1), fun σ' H' p' => ⟨xs.length - (i + 1), by omega, rfl, hlt, p'⟩, fun v H' y => ?_⟩
    obtain ⟨x, T, hx, hT, rfl, rfl⟩ := y
    exact hs i x T σ H (hx xs q) p hT
  · have e : i = xs.length := by omega
    subst e
    exact .inl ⟨⟨xs, q, Nat.le_refl _⟩, hd σ H p⟩
end L2

set_option Elab.async false
set_option linter.all false
set_option maxRecDepth 100000
set_option maxHeartbeats 4000000
namespace Bd
end Bd
namespace L2
open PySem PySem.Spec PyProof.Rows Bd
section
variable {es : List Expr} {env : Env} {p : Pos}
theorem star_C {c : Const} {n : Nat} : starEach (.Constant c n p :: es) env = (false, eval (.Constant c n p) env) :: starEach es env := rfl
theorem star_N {x : Str} : starEach (.Name x p :: es) env = (false, eval (.Name x p) env) :: starEach es env := rfl
theorem star_B {a b : Expr} {o : Operator} : starEach (.BinOp a o b p :: es) env = (false, eval (.BinOp a o b p) env) :: starEach es env := rfl
theorem star_K {f : Expr} {as : List Expr} {ks : List Keyword} : starEach (.Call f as ks p :: es) env = (false, eval (.Call f as ks p) env) :: starEach es env := rfl
theorem star_S {a b : Expr} : starEach (.Subscript a b p :: es) env = (false, eval (.Subscript a b p) env) :: starEach es env := rfl
theorem star_T {as : List Expr} {n : Nat} : starEach (.Tuple as n p :: es) env = (false, eval (.Tuple as n p) env) :: starEach es env := rfl
end
@[irreducible] def PAq (X : Cx) (es : List Expr) (t : TA) : Prop := PA X es t
section
variable {X : Cx} {e : Expr} {es : List Expr} {te : TE} {t : TA} {pos : Pos}
theorem paq_nil : PAq X [] tNil := by unfold PAq; exact pa_nil
theorem paq_cons (ha : PE X e te) (hr : PAq X es t) (hs : starEach (e :: es) X.env = (false, eval e X.env) :: starEach es X.env) : PAq X (e :: es) (tCons te t) := by unfold PAq at *; exact pa_cons ha hr hs
theorem pe_lstq (h : PAq X es t) : PE X (.List es pos) (tLst t) := by unfold PAq at h; exact pe_lst h
theorem pe_tupq {x1 : Nat} (h : PAq X es t) : PE X (.Tuple es x1 pos) (tTup t) := by unfold PAq at h; exact pe_tup h
end
theorem pickI {L : List Int} {i : Int} (h0 : 0 ≤ i) (h1 : i < (L.length : Int)) : ∃ z ∈ L, atI (L.map V.int) i = some (.int z) := by
  have e : L[i.toNat]? = some L[i.toNat] := List.getElem?_eq_getElem (by omega)
  refine ⟨L[i.toNat], List.getElem_mem _, ?_⟩
  have h : atI (L.map V.int) ((i.toNat : Nat) : Int) = some (.int L[i.toNat]) := atI_nat (by rw [List.getElem?_map, e]; rfl)
  rwa [Int.toNat_of_nonneg h0] at h
theorem pickN {L : List Int} {i : Int} (n : Nat) (hn : L.length = n) (h0 : 0 ≤ i) (h1 : i < (n : Int)) : ∃ z ∈ L, atI (L.map V.int) i = some (.int z) := pickI h0 (by rw [hn]; exact h1)
theorem while_ix {c : TT} {tb : TS} {D : Ends} {σ : St} {H : Hp} (k : Nat) (Pv : Nat → St → Hp → Prop) (h0 : Pv 0 σ H)
    (hs : ∀ i σ H, i ≤ k → Pv i σ H → c σ H fun b H1 => if b = true then i < k ∧ tb { D with nx := Pv (i + 1), ct := Pv (i + 1), bk := D.nx } σ H1 else D.nx σ H1)
    (mono : ∀ σ H Q Q', (∀ b H1, Q b H1 → Q' b H1) → c σ H Q → c σ H Q') : tWhile c tb D σ H := by
  refine ⟨fun m σ H => ∃ i, i ≤ k ∧ m = k - i ∧ Pv i σ H, ⟨_, 0, Nat.zero_le _, rfl, h0⟩, ?_⟩
  rintro m σ H ⟨i, hi, rfl, p⟩
  refine mono σ H _ _ (fun b H1 q => ?_) (hs i σ H hi p)
  cases b with
  | true => exact ⟨Pv (i + 1), fun σ' H' p' => ⟨k - (i + 1), by have := q.1; omega, i + 1, by have := q.1; omega, rfl, p'⟩, q.2⟩
  | false => exact q
end L2

set_option Elab.async false
set_option linter.all false
set_option maxRecDepth 100000
set_option maxHeartbeats 4000000
namespace Bd
end Bd
namespace L2
open PySem PySem.Spec PyProof.Rows Bd
end L2

set_option Elab.async false
set_option linter.all false
set_option maxRecDepth 100000
set_option maxHeartbeats 4000000
namespace L2
open PySem PySem.Spec PyProof.Rows
noncomputable def tDict1 (tk tv : TE) : TE := fun σ H Q => ∀ p, H p = none → tk σ (upd H p (.dK [])) fun y H1 => tv σ H1 fun v H2 => ∃ k : Key, y = kV k ∧ H2 p = some (.dK []) ∧ Q (.ref p) (upd H2 p (.dK [(k, v)]))
theorem pe_dict1 {X : Cx} {a b : Expr} {ta tb : TE} {pos : Pos} (ha : PE X a ta) (hb : PE X b tb) : PE X (.Dict [some a] [b] pos) (tDict1 ta tb) := by
  intro pins s σ H Q I h
  have hf : H s.heap.objs.size = none := I.hok.fresh (Nat.le_refl _)
  have I0 := I.laid (a := s.heap.objs.size) (o := .dK []) (t' := s.toks) (fun _ _ q => Heap.get?_push_of_some _ q) (Nat.le_refl _) (dk_empty s.heap I.big)
  refine wpAny_Dict_walk (knd := mixKind X.prog X.w) rfl rfl (by simp) (by show 1 ≤ 15; decide) (pairTrees_cons_walk (thn (ha pins _ σ _ _ I0 (h _ hf)) fun kv s1 ⟨y, H1, I1, ry, q1⟩ => thn (hb pins s1 σ H1 _ I1 q1) fun vv s2 ⟨v, H2, I2, rv, k, ey, e, q2⟩ => pairTrees_nil_walk ?_))
  subst ey
  obtain ⟨z, hd, vs, rel, dd⟩ := dk_of I2.hok e
  have hv : vs = [] := by cases rel; rfl
  subst hv
  refine ⟨[(k, vv)], ⟨kV_is ry, rfl, True.intro⟩, dd, fun h' dd' hs => ?_⟩
  have he : ∃ q, h'.get? s.heap.objs.size = some q := let ⟨q, _, _, hq, _⟩ := dd'; ⟨q, hq⟩
  refine ⟨.ref s.heap.objs.size, upd H2 s.heap.objs.size (.dK [(k, v)]), d_write I2 (by rw [e]; exact True.intro) hs he (dk_new (szl (by show 1 ≤ 1000000; decide)) hd (KV.put (κ := Key) (kvs := []) (vs := []) .nil k rv) dd'), rfl, q2⟩
open Bd
end L2

set_option Elab.async false
set_option linter.all false
set_option maxRecDepth 100000
set_option maxHeartbeats 4000000
namespace L2
open PySem PySem.Spec PyProof.Rows
structure Cs where
  n : Addr
  v : Addr
  c : Addr
  j : Addr
theorem SqL.updI {K : PySem.W.Frag} {H : Hp} {p x C dx : Addr} {fs : List (Str × V)} {ys : List V} {o : HO} (h : SqL K H p ys) (hx : H x = some (.ins C dx fs)) : SqL K (upd H x o) p ys := by
  rcases h with (h | ⟨ob, h⟩) | h
  · refine .inl (.inl ?_)
    rw [upd_ne (fun e => by rw [e, hx] at h; cases h)]
    exact h
  · refine .inl (.inr ⟨ob, ?_⟩)
    rw [upd_ne (fun e => by rw [e, hx] at h; cases h)]
    exact h
  · exact .inr h
noncomputable def spPIni (K : PySem.W.Frag) (C : Addr) : Sp := fun vs H Q _ => ∃ (x dx : Addr) (sz : V) (p : Addr) (ys : List V), vs = [.ref x, sz, .ref p] ∧ H x = some (.ins C dx []) ∧ SqL K H p ys ∧ ∀ (l : Addr) (H' : Hp), H l = none → (∀ b o, H b = some o → b ≠ x → H' b = some o) → H' l = some (.lst ys) → (∃ dx, H' x = some (.ins C dx [("size", sz), ("deeds", .ref l)])) → Q .non H'
end L2

set_option Elab.async false
set_option linter.all false
set_option maxRecDepth 100000
set_option maxHeartbeats 4000000
namespace PySem
open Builtin
open AutoSeq1 (wpAny_loadPart')
end PySem
namespace L2
open PySem PySem.Spec PyProof.Rows
section
variable {X : Cx}
end
end L2

set_option Elab.async false
set_option linter.all false
set_option maxRecDepth 100000
set_option maxHeartbeats 4000000
namespace L2
open PySem PySem.Spec PyProof.Rows Bd
theorem dS {x y : Str} (h : x ≠ y) : decide (V.str x = V.str y) = false := decide_eq_false fun e => h (V.str.inj e)
theorem comp_listG {K : PySem.W.Frag} {a : Addr} {xs : List V} {ρ : List (Option Nat)} {g : TG} {tt : TT} {te : TE} {σ : St} {H : Hp} {Q : VK} (Pv : Nat → List V → Hp → Prop) (h0 : Pv 0 [] H) (hlen : xs.length ≤ sizeLine) (hl : ∀ i ys H, i ≤ xs.length → Pv i ys H → SqL K H a xs ∧ ys.length ≤ i)
    (hs : ∀ i x ys H, xs[i]? = some x → Pv i ys H → g x (inSt ρ σ) H fun σ2 H3 => Outs ρ σ σ2 ∧ tt σ2 H3 fun ok H4 => if ok = true then te σ2 H4 fun v H5 => Pv (i + 1) (ys ++ [v]) H5 else Pv (i + 1) ys H4)
    (hd : ∀ ys H, Pv xs.length ys H → ∀ p, H p = none → Q (.ref p) (upd H p (.lst ys))) : CompW ρ g tt te σ Q (Itl K a) H := by
  refine ⟨fun i m ys H => m = xs.length - i ∧ i ≤ xs.length ∧ Pv i ys H, ⟨_, rfl, Nat.zero_le _, h0⟩, ?_⟩
  rintro i m ys H ⟨rfl, hi, p⟩
  obtain ⟨hq, hy⟩ := hl i ys H hi p
  by_cases hlt : i < xs.length
  · refine .inr ⟨⟨xs, xs[i], hq, by simp [hlt]⟩, by omega, Pv (i + 1), fun ys' H'' p' => ⟨xs.length - (i + 1), by omega, rfl, hlt, p'⟩, fun x H' y => ?_⟩
    obtain ⟨e, y2⟩ := y
    subst e
    exact hs i x ys _ (y2 xs hq) p
  · have e : i = xs.length := by omega
    subst e
    exact .inl ⟨⟨xs, hq, Nat.le_refl _⟩, by omega, hd ys H p⟩
end L2

set_option Elab.async false
set_option linter.all false
set_option maxRecDepth 100000
set_option maxHeartbeats 4000000
namespace L2
open PySem PySem.Spec PyProof.Rows
section
open PySem.SeqAt
open PySem.AutoSeq1 (wpAny_loadPart')
open PySem.MeetsSeq PySem.MeetsSeq2 PySem.MeetsSeq3
end
noncomputable def upto (n : Nat) : List V := (List.range n).map fun i : Nat => V.int (i : Int)
noncomputable def tLRange (ta : TA) : TE := fun σ H Q => ta σ H fun vs H1 => ∃ n : Nat, vs = [.int (n : Int)] ∧ n ≤ 1000000 ∧ ∀ l, H1 l = none → Q (.ref l) (upd H1 l (.lst (upto n)))
theorem vals_upto {n : Nat} {acc : Array Value} (h : ItemsOf (fun i v => ∃ t, v = .int (0 + (i : Int) * 1) t) acc n) : Vals (upto n) acc.toList := by
  have key : ∀ (k : Nat) (l : List Value), (∀ (j : Nat) (v : Value), l[j]? = some v → ∃ t, v = Value.int ((k + j : Nat) : Int) t) → Vals ((List.range' k l.length).map fun i : Nat => V.int (i : Int)) l := by
    intro k l
    induction l generalizing k with
    | nil => intro _; exact .nil
    | cons x l ih =>
      intro hl
      rw [List.length_cons, List.range'_succ, List.map_cons]
      obtain ⟨t, ht⟩ := hl 0 x rfl
      refine .cons ⟨t, by rw [ht]; rfl⟩ (ih (k + 1) fun j v hj => ?_)
      obtain ⟨t', ht'⟩ := hl (j + 1) v (by simpa using hj)
      exact ⟨t', by rw [ht']; congr 1; omega⟩
  have hl : acc.toList.length = n := by simpa using h.1
  have := key 0 acc.toList fun j v hj => by
    obtain ⟨t, ht⟩ := h.2 j v (by simpa using hj)
    exact ⟨t, by rw [ht]; congr 1; omega⟩
  rw [hl] at this
  unfold upto
  rw [List.range_eq_range']
  exact this
theorem pe_lrange {X : Cx} {a : Expr} {ta : TA} {p p2 pos pos2 : Pos} (hc : X.calm = true) (hgl : Gl X "list") (hml : X.mg "list" = none) (hg : Gl X "range") (hm : X.mg "range" = none) (ha : PA X [a] ta)
    (hs : starEach [a] X.env = [(false, eval a X.env)] := by rfl) : PE X (.Call (.Name "list" p) [.Call (.Name "range" p2) [a] [] pos2] [] pos) (tLRange ta) := by
  intro pins s σ H Q I h
  refine wpAny_Call_Name_kw (ld_blt I hgl hml bt_list ?_ (by decide) (by decide))
  refine PyProof.Rows.callWith_type1 ?_ rfl rfl
  show wpAny _ _ (spliced ((false, eval (.Call (.Name "range" p2) [a] [] pos2) X.env) :: backTo pos (starEach [] X.env))) _ _ s
  refine Calls.spliced_cons ?_
  refine Call_ (ld_blt I hg hm boot_range (PyProof.Rows.callWith_type1 (thn (ha pos2 pins s σ H _ I h) fun us s1 hx => ?_) hs rfl))
  obtain ⟨vs, H1, I1, r1, n, e, hn, q⟩ := hx
  subst e
  obtain ⟨u, rfl, ru⟩ := vals1 r1
  obtain ⟨t, rfl⟩ := (show ∃ t, u = Value.int (n : Int) t from ru)
  refine call_range_1 ?_
  refine Calls.spliced_nil ?_
  have p62 : (2 : Int) ^ 62 = 4611686018427387904 := by decide
  refine call_list_range (n := n) (I1.ok.hd hc) (IsRange.new ..) (small_one (by decide) (by decide) (by omega) (by omega)) (by rw [rangeSize_one]; split <;> omega) (by omega) fun h' tk acc c' hk hl hi => ?_
  have hsz : (s1.heap.push { cls := .type "range", data := .fields #[.int 0 s1.toks, .int (n : Int) t, .int 1 (s1.toks + 1)] }).objs.size = s1.heap.objs.size + 1 := Heap.size_push ..
  have hf : H1 (s1.heap.objs.size + 1) = none := I1.hok.fresh (Nat.le_succ _)
  have hul : (upto n).length ≤ sizeLine := by unfold upto; rw [List.length_map, List.length_range]; exact szl hn
  change h'.get? (s1.heap.push { cls := .type "range", data := .fields #[.int 0 s1.toks, .int (n : Int) t, .int 1 (s1.toks + 1)] }).objs.size = _ at hl
  rw [hsz] at hl
  refine ⟨.ref (s1.heap.objs.size + 1), upd H1 (s1.heap.objs.size + 1) (.lst (upto n)), I1.laid (t' := tk) (o := .lst (upto n)) (fun b o e => hk b o (Heap.get?_push_of_some _ e)) (Nat.le_succ _) ⟨hul, acc.toList, c', vals_upto hi, by simpa using hl⟩, ?_, q _ hf⟩
  show Value.ref _ = Value.ref _
  rw [← hsz]
end L2

set_option Elab.async false
set_option linter.all false
set_option maxRecDepth 100000
set_option maxHeartbeats 4000000
namespace L2
open PySem PySem.Spec PyProof.Rows
section
variable {prog : Program} {w : World} {A : Around} {E : Value → Shared → Prop} {s : Shared}
theorem tu_ask {it t : Addr} {k : Nat} {its : Array Value} {Q : Value → Shared → Prop} (a : s.heap.IsTupleIter it t k) (b : s.heap.IsTuple t its)
    (q : wpAny (model prog w) A.in1 (match its[k]? with
        | some x => do setField (.ref it) 1 (rawInt (k + 1)); ret x
        | none => do rule (toString "tuple_iterator.__next__" ++ toString ".end"); setField (.ref it) 0 .none; Builtin.SmallTypes.stopIteration) (fun fin s' => ∃ v, fin = .done (.ret v) ∧ Q v s') E s) :
    wpAny (model prog w) A (Builtin.SmallTypes.nextOf (.ref it)) Q E s := by
  have ty := a.typeIs
  obtain ⟨o, g, c, d⟩ := a
  obtain ⟨o2, g2, -, n2, d2⟩ := b
  unfold Builtin.SmallTypes.nextOf
  apply wpAny_bind
  apply wpAny_callSpecial?_slot (name := Str.ofString "__next__") ty F.slot_tuple_iterator_next
  refine wpAny_call_entry F.slot_tuple_iterator_next ty F.entry_tuple_iterator_next ?_ (F.args_tuple_iterator_next_1 _)
  unfold Builtin.«tuple_iterator.__next__»
  wp_walk using wpAny_field g d (x := .ref t) rfl
  rw [d]
  apply wpAny_pure
  apply wpAny_pure
  apply wpAny_bind
  apply wpAny_seqItems g2 d2
  rw [show Int.toNat (k : Int) = k from rfl]
  exact wpAny_mono q (fun fin s' ⟨v, e, z⟩ => ⟨v, e, wpAny_pure z⟩) fun _ _ z => z
theorem tu_item {it t : Addr} {k : Nat} {its : Array Value} {x : Value} {Q : Value → Shared → Prop} (a : s.heap.IsTupleIter it t k) (b : s.heap.IsTuple t its) (hx : its[k]? = some x)
    (q : ∀ h', h'.IsTupleIter it t (k + 1) → Heap.SameBut it s.heap h' → Q x { s with heap := h' }) : wpAny (model prog w) A (Builtin.SmallTypes.nextOf (.ref it)) Q E s := by
  apply tu_ask a b
  obtain ⟨o, g, c, d⟩ := a
  rw [hx]
  apply wpAny_bind
  apply wpAny_setField g d (by simp)
  apply wpAny_pure
  refine ⟨x, rfl, q _ ⟨_, Heap.get?_update_self _ g ?_, ?_, ?_⟩ (Heap.SameBut.update ..)⟩
  · exact Obj.isFreed_of_fields (Obj.data_mapFields d _)
  · exact (Obj.cls_mapFields ..).trans c
  · rw [Obj.data_mapFields d]; rfl
theorem tu_end {it t : Addr} {k : Nat} {its : Array Value} {Q : Value → Shared → Prop} (hh : A.handled = none) (a : s.heap.IsTupleIter it t k) (b : s.heap.IsTuple t its) (hx : its[k]? = none)
    (q : ∀ h' e, Heap.ExtBut it s.heap h' → (∃ o, h'.get? e = some o ∧ o.cls = .type "StopIteration") → E (.ref e) { s with heap := h' }) : wpAny (model prog w) A (Builtin.SmallTypes.nextOf (.ref it)) Q E s := by
  apply tu_ask a b
  obtain ⟨o, g, c, d⟩ := a
  rw [hx]
  apply wpAny_bind
  apply wpAny_rule
  apply wpAny_bind
  apply wpAny_setField g d (by simp)
  have h1 : A.in1.handled = none := hh
  wp_walk
  unfold raiseNew
  apply wpAny_bind
  apply wpAny_handled
  rw [h1]
  show wpAny _ _ (throw _) _ _ _
  apply wpAny_throw
  exact q _ _ (((Heap.SameBut.update ..).extBut.push _).push _) ⟨_, Heap.get?_push_size _ rfl, rfl⟩
theorem drawsT (hh : A.handled = none) (it t : Addr) (ne : t ≠ it) (its : Array Value) : Draws prog w A it [it, t] its.size (fun i v => its[i]? = some v) (fun i h => h.IsTupleIter it t i ∧ h.IsTuple t its) where
  live := fun _ _ ⟨⟨o, g, _⟩, _⟩ => ⟨o, g⟩
  frame := fun _ _ _ ⟨⟨o, g, r⟩, ⟨o2, g2, r2⟩⟩ k => ⟨⟨o, k it (by simp) o g, r⟩, ⟨o2, k t (by simp) o2 g2, r2⟩⟩
  item := fun i s Q E lt ⟨a, b⟩ q => tu_item a b (Array.getElem?_eq_getElem lt) fun h' a' sb => q _ h' s.toks (Array.getElem?_eq_getElem lt) ⟨a', b.extBut sb.extBut ne⟩ sb
  done := fun s Q E ⟨a, b⟩ q => tu_end hh a b (by simp) q
end
structure ZA (z TI TO i1 i2 : Addr) (f g : List Addr) : Prop where
  zf : z ∉ f
  zg : z ∉ g
  of : TO ∉ f
  og : TO ∉ g
  nf : i2 ∉ f
  ng : i1 ∉ g
  Iz : TI ≠ z
  Oz : TO ≠ z
  az : i1 ≠ z
  bz : i2 ≠ z
  IO : TI ≠ TO
  Ia : TI ≠ i1
  Ib : TI ≠ i2
  Oa : TO ≠ i1
  Ob : TO ≠ i2
theorem mv {prog : Program} {w : World} {A : Around} {it : Addr} {f : List Addr} {n : Nat} {P : Nat → Value → Prop} {S : Nat → Heap → Prop} (D : Draws prog w A it f n P S) {k : Nat} {h h' : Heap} {a : Addr} (st : S k h) (b : Heap.ExtBut a h h') (na : a ∉ f) : S k h' :=
  D.frame k h h' st fun c hc o e => b c o (fun q => na (q ▸ hc)) e
section
variable {prog : Program} {w : World} {A : Around} {E : Value → Shared → Prop} {s : Shared}
theorem zip_draw {z TI TO i1 i2 : Addr} {f g : List Addr} {m n k : Nat} {P R : Nat → Value → Prop} {S T : Nat → Heap → Prop} (Z : ZA z TI TO i1 i2 f g) (D1 : Draws prog w A i1 f m P S) (D2 : Draws prog w A i2 g n R T) {a b : Value} {Q : Value → Shared → Prop}
    (hz : IsZip s.heap z TI TO .none) (hI : IsPair s.heap TI (.ref i1) (.ref i2)) (hO : IsPair s.heap TO a b) (s1 : S k s.heap) (s2 : T k s.heap) (le1 : k ≤ m) (le2 : k ≤ n)
    (q : k < m → k < n → ∀ x y h' tk, P k x → R k y → IsZip h' z TI TO (rawInt s.heap.objs.size) → IsPair h' TO x y → S (k + 1) h' → T (k + 1) h' → IsPair h' s.heap.objs.size x y → 
      (∀ c o, c ≠ z → c ≠ TO → c ≠ i1 → c ≠ i2 → s.heap.get? c = some o → h'.get? c = some o) → Q (.ref s.heap.objs.size) { s with heap := h', toks := tk })
    (qe : (k = m ∨ k = n) → ∀ h' e tk, (∀ c o, c ≠ z → c ≠ TO → c ≠ i1 → c ≠ i2 → s.heap.get? c = some o → h'.get? c = some o) → (∃ o, h'.get? e = some o ∧ o.cls = .type "StopIteration") → E (.ref e) { s with heap := h', toks := tk }) :
    wpAny (model prog w) A (Builtin.«zip.__next__» ⟨[.ref z], []⟩) (fun fin s' => ∃ v, fin = .done (.ret v) ∧ Q v s') E s := by
  change wpAny _ _ (field (.ref z) 2 >>= _) _ _ _
  apply wpAny_bind
  apply wpAny_field hz rfl (x := .bool false) rfl
  change wpAny _ _ (field (.ref z) 3 >>= _) _ _ _
  apply wpAny_bind
  apply wpAny_field hz rfl (x := .ref TI) rfl
  apply wpAny_bind
  apply wpAny_seqItems hI rfl
  change wpAny _ _ (Builtin.SmallTypes.ownedTupleIsFree (.ref z) >>= _) _ _ _
  apply wpAny_bind
  unfold Builtin.SmallTypes.ownedTupleIsFree
  apply wpAny_bind
  apply wpAny_field hz rfl (x := .none) rfl
  apply wpAny_pure
  simp only [if_true]
  apply wpAny_bind
  apply wpAny_rule
  apply wpAny_bind
  apply wpAny_field hz rfl (x := .ref TO) rfl
  apply wpAny_bind
  apply wpAny_setField_rec hz (by simp)
  intro hA zA bA
  have zA' : IsZip hA z TI TO .ellipsis := zA
  clear zA
  have oA : IsPair hA TO a b := bA.extBut _ _ Z.Oz hO
  have sA := mv D1 s1 bA.extBut Z.zf
  have tA := mv D2 s2 bA.extBut Z.zg
  apply wpAny_bind
  simp only [List.zipIdx_cons, List.zipIdx_nil, List.forIn_cons, List.forIn_nil]
  apply wpAny_bind
  apply wpAny_bind
  apply wpAny_onRaise
  change wpAny _ _ (Builtin.SmallTypes.nextOf (.ref i1) >>= _) _ _ _
  apply wpAny_bind
  rcases Nat.lt_or_eq_of_le le1 with l1 | rfl
  rotate_left
  · apply D1.done _ _ _ sA
    rintro h' e kp ⟨o, ge, ce⟩
    have z' : IsZip h' z TI TO .ellipsis := kp _ _ Z.az.symm zA'
    have ne : e ≠ z := fun q => by subst q; rw [z'] at ge; cases ge; simp at ce
    apply wpAny_setField_rec z' (by simp)
    intro h2 _ b2
    exact qe (.inl rfl) h2 e s.toks (fun c o c1 _ c3 _ x => b2.extBut _ _ c1 (kp _ _ c3 (bA.extBut _ _ c1 x))) ⟨o, b2.extBut _ _ ne ge, ce⟩
  apply D1.item k _ _ _ l1 sA
  intro x hB t1 px sB bB
  apply wpAny_pure
  have oB : IsPair hB TO a b := bB.extBut _ _ Z.Oa oA
  have zB : IsZip hB z TI TO .ellipsis := bB.extBut _ _ Z.az.symm zA'
  have tB := mv D2 tA bB.extBut Z.ng
  apply wpAny_bind
  apply wpAny_seqItems oB rfl
  apply wpAny_bind
  apply wpAny_updateSeq_pair oB
  intro hC oC bC
  have oC' : IsPair hC TO x b := oC
  clear oC
  have zC : IsZip hC z TI TO .ellipsis := bC.extBut _ _ Z.Oz.symm zB
  have sC := mv D1 sB bC.extBut Z.of
  have tC := mv D2 tB bC.extBut Z.og
  apply wpAny_bind
  apply wpAny_letGo
  apply wpAny_pure
  apply wpAny_bind
  apply wpAny_bind
  apply wpAny_onRaise
  change wpAny _ _ (Builtin.SmallTypes.nextOf (.ref i2) >>= _) _ _ _
  apply wpAny_bind
  have upC : ∀ c o, c ≠ z → c ≠ TO → c ≠ i1 → s.heap.get? c = some o → hC.get? c = some o := fun c o c1 c2 c3 e => bC.extBut _ _ c2 (bB.extBut _ _ c3 (bA.extBut _ _ c1 e))
  rcases Nat.lt_or_eq_of_le le2 with l2 | rfl
  rotate_left
  · apply D2.done _ _ _ tC
    rintro h' e kp ⟨o, ge, ce⟩
    have z' : IsZip h' z TI TO .ellipsis := kp _ _ Z.bz.symm zC
    have ne : e ≠ z := fun q => by subst q; rw [z'] at ge; cases ge; simp at ce
    apply wpAny_setField_rec z' (by simp)
    intro h2 _ b2
    exact qe (.inr rfl) h2 e t1 (fun c o c1 c2 c3 c4 x => b2.extBut _ _ c1 (kp _ _ c4 (upC c o c1 c2 c3 x))) ⟨o, b2.extBut _ _ ne ge, ce⟩
  apply D2.item k _ _ _ l2 tC
  intro y hD t2 py tD bD
  apply wpAny_pure
  have oD : IsPair hD TO x b := bD.extBut _ _ Z.Ob oC'
  have zD : IsZip hD z TI TO .ellipsis := bD.extBut _ _ Z.bz.symm zC
  have sD := mv D1 sC bD.extBut Z.nf
  apply wpAny_bind
  apply wpAny_seqItems oD rfl
  apply wpAny_bind
  apply wpAny_updateSeq_pair oD
  intro hE oE bE
  have oE' : IsPair hE TO x y := oE
  clear oE
  have zE : IsZip hE z TI TO .ellipsis := bE.extBut _ _ Z.Oz.symm zD
  have sE := mv D1 sD bE.extBut Z.of
  have tE := mv D2 tD bE.extBut Z.og
  have upE : ∀ c o, c ≠ z → c ≠ TO → c ≠ i1 → c ≠ i2 → s.heap.get? c = some o → hE.get? c = some o := fun c o c1 c2 c3 c4 e => bE.extBut _ _ c2 (bD.extBut _ _ c4 (upC c o c1 c2 c3 e))
  have sz : hE.objs.size = s.heap.objs.size := by rw [bE.1, bD.1, bC.1, bB.1, bA.1]
  apply wpAny_bind
  apply wpAny_letGo
  apply wpAny_pure
  apply wpAny_pure
  apply wpAny_bind
  apply wpAny_seqItems oE' rfl
  apply wpAny_bind
  refine wpAny_newTuple ?_
  change wpAny _ _ (Builtin.SmallTypes.ownedTupleHandOut (.ref z) (.ref hE.objs.size) >>= _) _ _ _
  apply wpAny_bind
  unfold Builtin.SmallTypes.ownedTupleHandOut
  have zF : IsZip (hE.push { cls := .type "tuple", data := .seq #[x, y] }) z TI TO .ellipsis := Heap.get?_push_of_some _ zE
  have pF : IsPair (hE.push { cls := .type "tuple", data := .seq #[x, y] }) hE.objs.size x y := Heap.get?_push_size _ rfl
  apply wpAny_bind
  apply wpAny_setField_rec zF (by simp)
  intro hG zG bG
  have zG' : IsZip hG z TI TO (rawInt hE.objs.size) := zG
  clear zG
  apply wpAny_setField_rec zG' (by simp)
  intro hH zH bH
  have zH' : IsZip hH z TI TO (rawInt hE.objs.size) := zH
  clear zH
  have far : hE.objs.size ≠ z := Nat.ne_of_gt (Heap.lt_size zE)
  have up : Heap.ExtBut z hE hH := fun c o c1 e => bH.extBut _ _ c1 (bG.extBut _ _ c1 (Heap.get?_push_of_some _ e))
  have pH : IsPair hH hE.objs.size x y := bH.extBut _ _ far (bG.extBut _ _ far pF)
  apply wpAny_pure
  refine ⟨_, rfl, ?_⟩
  have := q l1 l2 x y hH t2 px py (by rw [← sz]; exact zH') (up _ _ Z.Oz oE') (mv D1 sE up Z.zf) (mv D2 tE up Z.zg) (by rw [← sz]; exact pH) fun c o c1 c2 c3 c4 e => up c o c1 (upE c o c1 c2 c3 c4 e)
  rw [← sz] at this
  exact this
theorem zip_on {z TI TO i1 i2 : Addr} {f g : List Addr} {m n k : Nat} {P R : Nat → Value → Prop} {S T : Nat → Heap → Prop} (Z : ZA z TI TO i1 i2 f g) (D1 : Draws prog w A.in1 i1 f m P S) (D2 : Draws prog w A.in1 i2 g n R T) {a b : Value} {Q : Option Value → Shared → Prop}
    (hz : IsZip s.heap z TI TO .none) (hI : IsPair s.heap TI (.ref i1) (.ref i2)) (hO : IsPair s.heap TO a b) (s1 : S k s.heap) (s2 : T k s.heap) (le1 : k ≤ m) (le2 : k ≤ n)
    (q : k < m → k < n → ∀ x y h' tk, P k x → R k y → IsZip h' z TI TO (rawInt s.heap.objs.size) → IsPair h' TO x y → S (k + 1) h' → T (k + 1) h' → IsPair h' s.heap.objs.size x y → 
      (∀ c o, c ≠ z → c ≠ TO → c ≠ i1 → c ≠ i2 → s.heap.get? c = some o → h'.get? c = some o) → Q (some (.ref s.heap.objs.size)) { s with heap := h', toks := tk })
    (qe : (k = m ∨ k = n) → ∀ h' tk, (∀ c o, c ≠ z → c ≠ TO → c ≠ i1 → c ≠ i2 → s.heap.get? c = some o → h'.get? c = some o) → Q none { s with heap := h', toks := tk }) :
    wpAny (model prog w) A (pyNext (.ref z)) Q E s := by
  have ty : s.TypeIs (.ref z) "zip" := ⟨_, hz, rfl⟩
  unfold pyNext
  apply wpAny_bind
  apply wpAny_attempt
  apply wpAny_callSpecial?_slot (name := Str.ofString "__next__") ty F.slot_zip_next
  refine wpAny_call_entry F.slot_zip_next ty F.entry_zip_next (zip_draw Z D1 D2 hz hI hO s1 s2 le1 le2 ?_ ?_) (F.args_zip_next_1 _)
  · intro l1 l2 x y h' tk a1 a2 a3 a4 a5 a6 a7 a8
    exact wpAny_pure (q l1 l2 x y h' tk a1 a2 a3 a4 a5 a6 a7 a8)
  · rintro l h' e tk kp ⟨o, ge, ce⟩
    exact wpAny_bind (wpAny_isInstance (T := "StopIteration") (b := true) ⟨o, ge, ce⟩ isSubtype_stop (wpAny_pure (qe l h' tk kp)))
end
noncomputable def Itu (K : PySem.W.Frag) (a : Addr) : It :=
  ⟨fun i H => ∃ xs x, SqT K H a xs ∧ xs[i]? = some x, fun i H v H' => ∃ x T, (∀ xs, SqT K H a xs → xs[i]? = some x) ∧ H T = none ∧ v = .ref T ∧ H' = upd H T (.tup [.int i, x]), fun i H => ∃ xs, SqT K H a xs ∧ xs.length = i⟩
theorem turn_enumT {P : Program} {w : World} {K : PySem.W.Frag} {elts : List Expr} {x1 : Nat} {pos : Pos} (a e it : Addr) (hei : e ≠ it) (na : a ≠ it) (ne : e ≠ a) : Turn P w K (.Tuple elts x1 pos) (Itu K a) [e, it] e (fun i h => (∃ old, IsEnum h e it i old) ∧ h.IsTupleIter it a i) where
  mem := by simp
  obj := fun i h st b hb => by
    obtain ⟨⟨old, he⟩, hit⟩ := st
    rcases List.mem_cons.mp hb with rfl | hb
    · exact ⟨_, he, fun v z => by cases z⟩
    · have e : b = it := by simpa using hb
      subst e
      obtain ⟨o, e, c, d⟩ := hit
      exact ⟨o, e, fun v z => by rw [d] at z; cases z⟩
  keep := fun i h h' st k => by
    obtain ⟨⟨old, he⟩, hit⟩ := st
    exact ⟨⟨old, k e (by simp) _ he⟩, hit.at fun o e => k it (by simp) o e⟩
  item := by
    intro X hP hw hK hc i pins s σ H E I hf st hg
    subst hP hw hK
    obtain ⟨xs, x, hq, hx⟩ := hg
    obtain ⟨its, rv, p, hz⟩ := I.tuple hq
    obtain ⟨u, hu, ru⟩ := rv.get hx
    obtain ⟨⟨old, he⟩, hit⟩ := st
    have p' : s.heap.IsTuple a its.toArray := p
    have hn : X.A.in1.handled = none := I.ok.hd hc
    have d1 := drawsT (prog := X.prog) (w := X.w) hn it a na its.toArray
    have l1 := rv.length
    obtain ⟨b1, _⟩ := List.getElem?_eq_some_iff.1 hx
    refine wpAny_pyNext_enum_itemD d1 he ⟨hit, p'⟩ (by simp; omega) hei (by simp [hei, ne]) fun u' h1 tk hu' ho hit' hT hsz hk => ⟨_, rfl, ?_⟩
    have eu : u = u' := by simpa [hu] using hu'
    subst eu
    refine wpAny_letOwnedTupleGo_enum ho fun h2 he2 hs2 => ?_
    have hTn : H s.heap.objs.size = none := I.hok.fresh (Nat.le_refl _)
    have helt : e < s.heap.objs.size := Heap.lt_size he
    have hilt : it < s.heap.objs.size := by obtain ⟨_, x, _⟩ := hit; exact Heap.lt_size x
    have I1 : Inv X pins σ (upd H s.heap.objs.size (.tup [.int i, x])) { s with heap := s.heap.push { cls := .type "tuple", data := .seq #[.int i tk, u] }, toks := tk + 1 } := I.laid (t' := tk + 1) (o := .tup [.int i, x]) (fun b o e => Heap.get?_push_of_some _ e) (Nat.le_refl _) ⟨szl (by show 2 ≤ 1000000; decide), [.int i tk, u], .cons ⟨_, rfl⟩ (.cons ru .nil), IsTupN.new _ _⟩
    have I2 : Inv X pins σ (upd H s.heap.objs.size (.tup [.int i, x])) { s with heap := h2, toks := tk + 1 } := by
      refine Inv.turnedL (s := { s with heap := s.heap.push { cls := .type "tuple", data := .seq #[.int i tk, u] }, toks := tk + 1 }) (h' := h2) (ch := [e, it]) (t' := tk + 1) I1 (fun b o hb q => ?_) (fun b hb => ?_)
      · have nbe : b ≠ e := fun z => hb (by simp [z])
        have nbi : b ≠ it := fun z => hb (by simp [z])
        show h2.get? b = some o
        rw [hs2.2 b nbe]
        rcases Heap.get?_push_cases q with ⟨rfl, rfl⟩ | q
        · exact hT
        · exact hk b o nbe nbi q
      · obtain ⟨f0, f1, f2, f3, f4, f5⟩ := hf b hb
        have nb : b ≠ s.heap.objs.size := by
          rcases List.mem_cons.mp hb with rfl | hb
          · exact Nat.ne_of_lt helt
          · have : b = it := by simpa using hb
            subst this
            exact Nat.ne_of_lt hilt
        exact ⟨by rw [upd_ne nb]; exact f0, f1, f2, f3, f4, f5⟩
    refine ⟨.ref s.heap.objs.size, _, I2, rfl, ⟨x, _, fun ys hy => by rw [I.tuple_inj hy hq]; exact hx, hTn, rfl, rfl⟩, ⟨⟨_, by simpa using he2⟩, hit'.1.at fun o y => (hs2.2 it hei.symm).trans y⟩, fun b hb => ?_⟩
    obtain ⟨f0, f1, f2, f3, f4, f5⟩ := hf b hb
    have nb : b ≠ s.heap.objs.size := by
      rcases List.mem_cons.mp hb with rfl | hb
      · exact Nat.ne_of_lt helt
      · have : b = it := by simpa using hb
        subst this
        exact Nat.ne_of_lt hilt
    rw [upd_ne nb]
    exact f0
  done := by
    intro X hP hw hK hc i pins s σ H E I hf st hg
    subst hP hw hK
    obtain ⟨xs, hq, hx⟩ := hg
    obtain ⟨its, rv, p, hz⟩ := I.tuple hq
    obtain ⟨⟨old, he⟩, hit⟩ := st
    have p' : s.heap.IsTuple a its.toArray := p
    have hn : X.A.in1.handled = none := I.ok.hd hc
    have d1 := drawsT (prog := X.prog) (w := X.w) hn it a na its.toArray
    have hl := rv.length
    have e1 : its.toArray.size = i := by simp; omega
    refine wpAny_pyNext_enum_endD d1 he ⟨by rw [e1]; exact hit, p'⟩ fun h' eb => ⟨rfl, ?_⟩
    exact I.turnedL (ch := [e, it]) (t' := s.toks) (fun b o hb q => eb b o (fun z => hb (by simp [z])) q) hf
  self := fun _ _ _ _ _ st h => by
    obtain ⟨⟨old, he⟩, _⟩ := st
    exact wpAny_pyIter_enum he h
theorem enum_newT (l : Addr) (items : Array Value) (n : Nat) (dd : Option Addr) (sl : Array (Option Value)) :
    Meets (Builtin.«enumerate.__new__» ⟨[.type "enumerate", .ref l], []⟩) (fun _ R s => s.heap.get? l = some { cls := .type "tuple", dict := dd, data := .seq items n, slots := sl } ∧
      ∀ h', IsEnum h' (s.heap.objs.size + 1) s.heap.objs.size 0 .none → h'.IsTupleIter s.heap.objs.size l 0 → (∀ c o, s.heap.get? c = some o → h'.get? c = some o) → R (.ok (.ret (.ref (s.heap.objs.size + 1)))) { s with heap := h' }) :=
  .of_wp fun prog w A R s h => by
    obtain ⟨hp, g, d, tk, os⟩ := s
    obtain ⟨hl, h⟩ := h
    have hsub := sub_enumerate
    have hL : Heap.IsTuple (Shared.heap ⟨hp, g, d, tk, os⟩) l items := ⟨_, hl, rfl, n, rfl⟩
    have key : ∀ (n1 : Nat) (h' : Heap), n1 = hp.objs.size + 1 → IsEnum h' n1 hp.objs.size 0 .none → h'.IsTupleIter hp.objs.size l 0 → (∀ c o, hp.get? c = some o → h'.get? c = some o) → R (.ok (.ret (.ref n1))) ⟨h', g, d, tk, os⟩ := by
      rintro _ h' rfl
      exact h h'
    wp_walk using AutoSeq1.wpAny_loadPart' hl
    apply wpAny_stack_any
    intro st
    apply wpAny_pure
    have fin : R (.ok (.ret (.ref (hp.push { cls := .type "tuple_iterator", data := .fields #[.ref l, .int 0 0] }).objs.size))) ⟨(hp.push { cls := .type "tuple_iterator", data := .fields #[.ref l, .int 0 0] }).push { cls := .type "enumerate", data := .fields #[.none, .bool false, .ref hp.objs.size, rawInt 0, .none, .none] }, g, d, tk, os⟩ :=
      key _ _ (by simp only [Heap.size_push]) (Heap.get?_push_size _ rfl) ⟨_, Heap.get?_push_of_some _ (Heap.get?_push_size _ rfl), rfl, rfl⟩ fun c o e => Heap.get?_push_of_some _ (Heap.get?_push_of_some _ e)
    split
    · rename_i c _ _ _ _ _
      cases (c == Value.type "enumerate")
      all_goals
        wp_walk using AutoSeq1.wpAny_loadPart' hl, wpAny_pyIter_tuple hL
        exact ⟨_, rfl, fin⟩
    · wp_walk using AutoSeq1.wpAny_loadPart' hl, wpAny_pyIter_tuple hL
      exact ⟨_, rfl, fin⟩
noncomputable def iEnumT (K : PySem.W.Frag) (ta : TA) : TI := fun σ H R => ta σ H fun vs H1 => ∃ a : Addr, vs = [.ref a] ∧ (∃ xs, SqT K H1 a xs) ∧ R (Itu K a) H1
theorem pi_enumT {X : Cx} {a : Expr} {ta : TA} {p pos : Pos} {elts : List Expr} {x1 : Nat} {pos2 : Pos} (hg : Gl X "enumerate") (hm : X.mg "enumerate" = none) (ha : PA X [a] ta) (hs : starEach [a] X.env = [(false, eval a X.env)] := by rfl) : PI X (.Tuple elts x1 pos2) (.Call (.Name "enumerate" p) [a] [] pos) (iEnumT X.K ta) := by
  intro pins s σ H R I h
  refine Call_ (ld_blt I hg hm boot_enumerate (PyProof.Rows.callWith_type1 (thn (ha pos pins s σ H _ I h) fun us s1 ⟨vs, H1, I1, r1, q1⟩ => ?_) hs rfl))
  obtain ⟨l, rfl, ⟨xs, hq⟩, q⟩ := q1
  cases r1 with
  | cons r rr =>
    cases rr
    cases r
    obtain ⟨its, rv, pl, hz⟩ := I1.tuple hq
    have lt1 : l < s1.heap.objs.size := pl.lt
    obtain ⟨⟨c, dct, dt, sl⟩, hl, hc, n, hd⟩ := pl
    have hc' : c = .type "tuple" := hc
    have hd' : dt = .seq its.toArray n := hd
    subst hc' hd'
    refine callType_new F.called_enumerate (by decide) (F.typeCall_enumerate_1 _) (F.newCall_enumerate_1 _) (fun obj => F.args_object_init_2 obj _) F.entry_enumerate_new (enum_newT l its.toArray n dct sl) ⟨hl, fun h' he hit hk => ⟨⟨_, he, rfl⟩, ?_⟩⟩
    refine wpAny_pyIter_enum he ?_
    refine ⟨_, [s1.heap.objs.size + 1, s1.heap.objs.size], _, _, H1, rfl, I1.kept (t' := s1.toks) hk, turn_enumT l _ _ (Nat.ne_of_gt (Nat.lt_succ_self _)) (Nat.ne_of_lt lt1) (Nat.ne_of_gt (Nat.lt_of_lt_of_le lt1 (Nat.le_add_right _ _))), ⟨⟨_, he⟩, hit⟩, fun b hb => ?_, q⟩
    rcases List.mem_cons.mp hb with rfl | hb
    · exact I1.fpOk (Nat.le_succ _) (I1.hok.fresh (Nat.le_succ _))
    · have e : b = s1.heap.objs.size := by simpa using hb
      subst e
      exact I1.fpOk (Nat.le_refl _) (I1.hok.fresh (Nat.le_refl _))
theorem for_enumT {K : PySem.W.Frag} {a : Addr} {xs : List V} {g : TG} {tb : TS} {D : Ends} {σ : St} {H : Hp} (Pv : Nat → St → Hp → Prop) (h0 : Pv 0 σ H) (hl : ∀ i σ H, i ≤ xs.length → Pv i σ H → SqT K H a xs)
    (hs : ∀ i x T σ H, xs[i]? = some x → Pv i σ H → H T = none → g (.ref T) σ (upd H T (.tup [.int i, x])) fun σ2 H2 => tb { D with nx := Pv (i + 1), ct := Pv (i + 1), bk := D.nx } σ2 H2) (hd : ∀ σ H, Pv xs.length σ H → D.nx σ H) :
    ∃ W : Nat → Nat → St → Hp → Prop, (∃ m, W 0 m σ H) ∧ ∀ i m σ H, W i m σ H →
      ((Itu K a).stop i H ∧ D.nx σ H) ∨ ((Itu K a).go i H ∧ ∃ N : St → Hp → Prop, (∀ σ' H', N σ' H' → ∃ m', m' < m ∧ W (i + 1) m' σ' H') ∧ ∀ x H', (Itu K a).yld i H x H' → g x σ H' fun σ2 H2 => tb { D with nx := N, ct := N, bk := D.nx } σ2 H2) := by
  refine ⟨fun i m σ H => m = xs.length - i ∧ i ≤ xs.length ∧ Pv i σ H, ⟨xs.length, by simp, Nat.zero_le _, h0⟩, ?_⟩
  rintro i m σ H ⟨rfl, hi, p⟩
  have q := hl i σ H hi p
  by_cases hlt : i < xs.length
  · refine .inr ⟨⟨xs, xs[i], q, List.getElem?_eq_getElem hlt⟩, Pv (i + 1), fun σ' H' p' => ⟨xs.length - (i + 1), by omega, rfl, hlt, p'⟩, fun v H' y => ?_⟩
    obtain ⟨x, T, hx, hT, rfl, rfl⟩ := y
    exact hs i x T σ H (hx xs q) p hT
  · have e : i = xs.length := by omega
    subst e
    exact .inl ⟨⟨xs, q, rfl⟩, hd σ H p⟩
end L2

set_option Elab.async false
set_option linter.all false
set_option maxRecDepth 100000
set_option maxHeartbeats 4000000
namespace L2
open PySem PySem.Spec PyProof.Rows
end L2
namespace L2
open PySem PySem.Spec PyProof.Rows
end L2
namespace L2
open PySem PySem.Spec PyProof.Rows
noncomputable def rCatH : R2 := fun x y H Q => ∃ (a b : Addr) (xs ys : List V), x = .ref a ∧ y = .ref b ∧ H a = some (.tup xs) ∧ H b = some (.tup ys) ∧ xs.length + ys.length ≤ sizeLine ∧ ∀ (p : Addr) (H' : Hp), Same H H' → H' p = some (.tup (xs ++ ys)) → Q (.ref p) H'
theorem op_catH {X : Cx} : OpR X (binaryOp .Add) rCatH := by
  intro pins s σ H x y v u Q I rx ry h
  obtain ⟨a, b, xs, ys, rfl, rfl, ha, hb, hz, q⟩ := h
  by_cases c : xs = []
  · subst c
    cases rx
    cases ry
    obtain ⟨its, r1, p1, _⟩ := I.tuple (SqT.of ha)
    obtain ⟨its2, r2, p2, _⟩ := I.tuple (SqT.of hb)
    obtain ⟨⟨cls, dd, data, sl⟩, ho, hc, n, hd⟩ := id p1
    obtain ⟨⟨cls2, dd2, data2, sl2⟩, ho2, hc2, n2, hd2⟩ := id p2
    simp only at hc hd hc2 hd2
    subst hc hd hc2 hd2
    have e : its = [] := r1.nil_iff.mpr rfl
    exact concat_meets ⟨_, ho, rfl⟩ ⟨_, ho2, rfl⟩ noFill_tuple_add seq_tuple_add PySem.F.slot_tuple_add PySem.F.entry_tuple_add (PySem.F.args_tuple_add_2 _ _)
      (tuple_addW0 a b its.toArray its2.toArray n n2 dd dd2 sl sl2 (by simp [e])) ⟨ho, ho2, .ref b, H, I, rfl, q b H (Same.refl _) hb⟩
  · refine op_catT pins s σ H (.ref a) (.ref b) v u Q I rx ry ⟨a, b, xs, ys, rfl, rfl, SqT.of ha, SqT.of hb, c, hz, fun z => ?_, fun z p hp => ?_⟩
    · subst z
      exact q a H (Same.refl _) (by rw [List.append_nil]; exact ha)
    · exact q p _ (same_new hp _) upd_same
end L2

set_option linter.all false
namespace Fo
inductive F (W : Type) where
  | nil : F W
  | leaf (k : Int) (pl : List (Int × Int)) (rest : F W) : F W
  | node (cut : Bool) (way : W) (sub rest : F W) : F W
structure Bo (W : Type) where
  k : Int
  sh : Nat
  ways : List (Bool × W)
  pl : List (Int × Int)
variable {W L : Type}
noncomputable def HeadSh (B : List (Bo W)) (d : Nat) : Prop := ∀ c, B.head? = some c → c.sh = d
noncomputable def Is : F W → List (Bo W) → Nat → Prop
  | .nil, B, _ => B = []
  | .leaf k pl rest, B, d => ∃ b B', B = b :: B' ∧ b.k = k ∧ b.pl = pl ∧ b.ways.length = d ∧ HeadSh B' d ∧ Is rest B' d
  | .node cut way sub rest, B, d => ∃ b G B', B = (b :: G) ++ B' ∧ b.ways[d]? = some (cut, way) ∧ (∀ c ∈ G, d < c.sh) ∧ HeadSh B' d ∧ Is sub (b :: G) (d + 1) ∧ Is rest B' d
section
variable (hdr : Nat → Bool → W → L) (dl : Nat → Int → List (Int × Int) → L)
end
structure Ok (B : List (Bo W)) : Prop where
  sh : ∀ b ∈ B, b.sh ≤ b.ways.length
  ln : ∀ (i : Nat) (b c : Bo W), B[i]? = some b → B[i + 1]? = some c → c.sh ≤ b.ways.length ∧ c.ways.take c.sh = b.ways.take c.sh
structure En where
  k : Int
  pl : List (Int × Int)
  path : List Int
noncomputable def deedsF : F W → List Int → Nat → List En
  | .nil, _, _ => []
  | .leaf k pl rest, p, j => ⟨k, pl, p ++ [(j : Int)]⟩ :: deedsF rest p (j + 1)
  | .node _ _ sub rest, p, j => deedsF sub (p ++ [(j : Int)]) 0 ++ deedsF rest p (j + 1)
theorem deeds_map : ∀ (f : F W) (B : List (Bo W)) (d : Nat) (p : List Int) (j : Nat), Is f B d → (deedsF f p j).map (fun e => (e.k, e.pl)) = B.map fun b => (b.k, b.pl)
  | .nil, B, d, p, j, h => by cases (show B = [] from h); rfl
  | .leaf k pl rest, B, d, p, j, h => by
    obtain ⟨b, B', rfl, rfl, rfl, hl, hh, hr⟩ := h
    show (b.k, b.pl) :: _ = (b.k, b.pl) :: _
    rw [deeds_map rest B' d p (j + 1) hr]
  | .node c w sub rest, B, d, p, j, h => by
    obtain ⟨b, G, B', rfl, hw, hG, hh, hs, hr⟩ := h
    show List.map _ (deedsF sub (p ++ [(j : Int)]) 0 ++ deedsF rest p (j + 1)) = _
    rw [List.map_append, deeds_map sub (b :: G) (d + 1) _ _ hs, deeds_map rest B' d p (j + 1) hr, ← List.map_append]
theorem deeds_len {f : F W} {B : List (Bo W)} {d : Nat} (p : List Int) (j : Nat) (h : Is f B d) : (deedsF f p j).length = B.length := by
  have := congrArg List.length (deeds_map f B d p j h)
  rwa [List.length_map, List.length_map] at this
theorem deeds_begin : ∀ (f : F W) (p : List Int) (j : Nat) (e : En), e ∈ deedsF f p j → ∃ (i : Nat) (q : List Int), j ≤ i ∧ e.path = p ++ (i : Int) :: q
  | .nil, p, j, e, h => by cases h
  | .leaf k pl rest, p, j, e, h => by
    rcases List.mem_cons.mp h with rfl | h
    · exact ⟨j, [], Nat.le_refl _, rfl⟩
    · obtain ⟨i, q, h1, h2⟩ := deeds_begin rest p (j + 1) e h
      exact ⟨i, q, by omega, h2⟩
  | .node c w sub rest, p, j, e, h => by
    rcases List.mem_append.mp h with h | h
    · obtain ⟨i, q, h1, h2⟩ := deeds_begin sub (p ++ [(j : Int)]) 0 e h
      exact ⟨j, (i : Int) :: q, Nat.le_refl _, by rw [h2]; simp⟩
    · obtain ⟨i, q, h1, h2⟩ := deeds_begin rest p (j + 1) e h
      exact ⟨i, q, by omega, h2⟩
noncomputable def Sep (x y : List Int) (n : Nat) : Prop := ∃ (c : List Int) (i j : Int) (q r : List Int), x = c ++ i :: q ∧ y = c ++ j :: r ∧ c.length = n ∧ i < j
noncomputable def Least (B : List (Bo W)) (i1 i2 m : Nat) : Prop := (∃ j c, i1 < j ∧ j ≤ i2 ∧ B[j]? = some c ∧ c.sh = m) ∧ ∀ j c, i1 < j → j ≤ i2 → B[j]? = some c → m ≤ c.sh
theorem sep_at {x y : En} {p : List Int} {i j : Nat} {q r : List Int} (hx : x.path = p ++ (i : Int) :: q) (hy : y.path = p ++ (j : Int) :: r) (h : i < j) : Sep x.path y.path p.length := ⟨p, i, j, q, r, hx, hy, rfl, by omega⟩
theorem deeds_sep : ∀ (f : F W) (B : List (Bo W)) (d : Nat) (p : List Int) (j i1 i2 m : Nat) (x y : En), Is f B d → (∀ i c, B[i + 1]? = some c → d ≤ c.sh) → i1 < i2 → (deedsF f p j)[i1]? = some x → (deedsF f p j)[i2]? = some y → Least B i1 i2 m → d ≤ m ∧ Sep x.path y.path (p.length + (m - d))
  | .nil, B, d, p, j, i1, i2, m, x, y, h, hs, hi, hx, hy, hm => by simp [deedsF] at hx
  | .leaf k pl rest, B, d, p, j, i1, i2, m, x, y, h, hs, hi, hx, hy, hm => by
    obtain ⟨b, B', rfl, rfl, rfl, hl, hh, hr⟩ := h
    have hs' : ∀ i c, B'[i + 1]? = some c → d ≤ c.sh := fun i c hc => hs (i + 1) c (by simpa using hc)
    obtain ⟨i2, rfl⟩ : ∃ n, i2 = n + 1 := ⟨i2 - 1, by omega⟩
    change (⟨b.k, b.pl, p ++ [(j : Int)]⟩ :: deedsF rest p (j + 1))[i1]? = some x at hx
    change (⟨b.k, b.pl, p ++ [(j : Int)]⟩ :: deedsF rest p (j + 1))[i2 + 1]? = some y at hy
    rw [List.getElem?_cons_succ] at hy
    cases i1 with
    | zero =>
      rw [List.getElem?_cons_zero] at hx
      cases hx
      obtain ⟨n, r, h1, h2⟩ := deeds_begin rest p (j + 1) y (List.mem_of_getElem? hy)
      have hB : 0 < B'.length := by
        have := deeds_len p (j + 1) hr
        have := (List.getElem?_eq_some_iff.mp hy).1
        omega
      have h0 : B'[0]? = some B'[0] := List.getElem?_eq_getElem hB
      have hd : (B'[0]).sh = d := hh _ (by rw [List.head?_eq_getElem?]; exact h0)
      have m1 : m ≤ d := by
        have := hm.2 1 B'[0] (by omega) (by omega) (by simpa using h0)
        omega
      have m2 : d ≤ m := by
        obtain ⟨⟨j', c, a1, a2, a3, a4⟩, _⟩ := hm
        have := hs (j' - 1) c (by rw [show j' - 1 + 1 = j' by omega]; exact a3)
        omega
      refine ⟨m2, ?_⟩
      rw [show p.length + (m - d) = p.length by omega]
      exact sep_at (x := ⟨b.k, b.pl, p ++ [(j : Int)]⟩) (y := y) (q := []) rfl h2 (by omega)
    | succ i1 =>
      rw [List.getElem?_cons_succ] at hx
      refine deeds_sep rest B' d p (j + 1) i1 i2 m x y hr hs' (by omega) hx hy ?_
      obtain ⟨⟨j', c, a1, a2, a3, a4⟩, a5⟩ := hm
      obtain ⟨j', rfl⟩ : ∃ n, j' = n + 1 := ⟨j' - 1, by omega⟩
      refine ⟨⟨j', c, by omega, by omega, by simpa using a3, a4⟩, fun j'' c' b1 b2 b3 => a5 (j'' + 1) c' (by omega) (by omega) (by simpa using b3)⟩
  | .node c w sub rest, B, d, p, j, i1, i2, m, x, y, h, hs, hi, hx, hy, hm => by
    obtain ⟨b, G, B', rfl, hw, hG, hh, hsub, hr⟩ := h
    have l1 := deeds_len (p ++ [(j : Int)]) 0 hsub
    have l2 := deeds_len p (j + 1) hr
    change (deedsF sub (p ++ [(j : Int)]) 0 ++ deedsF rest p (j + 1))[i1]? = some x at hx
    change (deedsF sub (p ++ [(j : Int)]) 0 ++ deedsF rest p (j + 1))[i2]? = some y at hy
    have hs' : ∀ i c, B'[i + 1]? = some c → d ≤ c.sh := fun i c hc => hs ((b :: G).length + i) c (by
      rw [List.getElem?_append_right (by omega), show (b :: G).length + i + 1 - (b :: G).length = i + 1 by omega]
      exact hc)
    by_cases c2 : i2 < (b :: G).length
    · rw [List.getElem?_append_left (by omega)] at hx hy
      have g : Least (b :: G) i1 i2 m := by
        obtain ⟨⟨j', c', a1, a2, a3, a4⟩, a5⟩ := hm
        rw [List.getElem?_append_left (by omega)] at a3
        exact ⟨⟨j', c', a1, a2, a3, a4⟩, fun j'' c'' b1 b2 b3 => a5 j'' c'' b1 b2 (by rw [List.getElem?_append_left (by omega)]; exact b3)⟩
      obtain ⟨q1, q2⟩ := deeds_sep sub (b :: G) (d + 1) (p ++ [(j : Int)]) 0 i1 i2 m x y hsub (fun i c hc => hG c (by
        rw [List.getElem?_cons_succ] at hc
        exact List.mem_of_getElem? hc)) hi hx hy g
      refine ⟨by omega, ?_⟩
      rw [List.length_append, List.length_singleton] at q2
      rwa [show p.length + (m - d) = p.length + 1 + (m - (d + 1)) by omega]
    · rw [List.getElem?_append_right (by omega)] at hy
      by_cases c1 : i1 < (b :: G).length
      · rw [List.getElem?_append_left (by omega)] at hx
        obtain ⟨n, r, h1, h2⟩ := deeds_begin rest p (j + 1) y (List.mem_of_getElem? hy)
        obtain ⟨n', r', h1', h2'⟩ := deeds_begin sub (p ++ [(j : Int)]) 0 x (List.mem_of_getElem? hx)
        have hB : 0 < B'.length := by
          have := (List.getElem?_eq_some_iff.mp hy).1
          omega
        have h0 : B'[0]? = some B'[0] := List.getElem?_eq_getElem hB
        have hd : (B'[0]).sh = d := hh _ (by rw [List.head?_eq_getElem?]; exact h0)
        have m1 : m ≤ d := by
          have := hm.2 (b :: G).length B'[0] (by omega) (by omega) (by rw [List.getElem?_append_right (by omega), Nat.sub_self]; exact h0)
          omega
        have m2 : d ≤ m := by
          obtain ⟨⟨j', c', a1, a2, a3, a4⟩, _⟩ := hm
          have := hs (j' - 1) c' (by rw [show j' - 1 + 1 = j' by omega]; exact a3)
          omega
        refine ⟨m2, ?_⟩
        rw [show p.length + (m - d) = p.length by omega]
        exact sep_at (x := x) (y := y) (i := j) (q := (n' : Int) :: r') (by rw [h2']; simp) h2 (by omega)
      · rw [List.getElem?_append_right (by omega)] at hx
        rw [l1] at hx hy
        refine deeds_sep rest B' d p (j + 1) (i1 - (b :: G).length) (i2 - (b :: G).length) m x y hr hs' (by omega) hx hy ?_
        obtain ⟨⟨j', c', a1, a2, a3, a4⟩, a5⟩ := hm
        rw [List.getElem?_append_right (by omega)] at a3
        refine ⟨⟨j' - (b :: G).length, c', by omega, by omega, a3, a4⟩, fun j'' c'' b1 b2 b3 => a5 (j'' + (b :: G).length) c'' (by omega) (by omega) ?_⟩
        rw [List.getElem?_append_right (by omega), show j'' + (b :: G).length - (b :: G).length = j'' by omega]
        exact b3
inductive Item (W : Type) where
  | deed (k : Int) (pl : List (Int × Int)) : Item W
  | sweep (cut : Bool) (way : W) (sub : F W) : Item W
noncomputable def itm : F W → Nat → Option (Item W)
  | .nil, _ => none
  | .leaf k pl _, 0 => some (.deed k pl)
  | .leaf _ _ rest, n + 1 => itm rest n
  | .node c w sub _, 0 => some (.sweep c w sub)
  | .node _ _ _ rest, n + 1 => itm rest n
noncomputable def Down : F W → List Nat → List (Bool × W) → Prop
  | _, [], _ => False
  | f, r :: rs, ws => (∃ k pl, itm f r = some (.deed k pl) ∧ rs = [] ∧ ws = []) ∨ (∃ c w sub ws', itm f r = some (.sweep c w sub) ∧ ws = (c, w) :: ws' ∧ Down sub rs ws')
theorem deeds_down : ∀ (f : F W) (B : List (Bo W)) (d : Nat) (p : List Int) (j i : Nat) (e : En) (b : Bo W), Is f B d → (∀ i c, B[i + 1]? = some c → d ≤ c.sh) → Ok B → (∀ b ∈ B, d ≤ b.ways.length) → (deedsF f p j)[i]? = some e → B[i]? = some b →
    ∃ (r : Nat) (rs : List Nat), e.path = p ++ ((j + r : Nat) : Int) :: rs.map (fun n : Nat => (n : Int)) ∧ Down f (r :: rs) (b.ways.drop d)
  | .nil, B, d, p, j, i, e, b, h, hs, hk, hd, he, hb => by simp [deedsF] at he
  | .leaf k pl rest, B, d, p, j, i, e, b, h, hs, hk, hd, he, hb => by
    obtain ⟨b0, B', rfl, rfl, rfl, hl, hh, hr⟩ := h
    change (⟨b0.k, b0.pl, p ++ [(j : Int)]⟩ :: deedsF rest p (j + 1))[i]? = some e at he
    cases i with
    | zero =>
      rw [List.getElem?_cons_zero] at he hb
      cases he; cases hb
      exact ⟨0, [], rfl, .inl ⟨_, _, rfl, rfl, List.drop_eq_nil_of_le (Nat.le_of_eq hl)⟩⟩
    | succ i =>
      rw [List.getElem?_cons_succ] at he hb
      obtain ⟨r, rs, h1, h2⟩ := deeds_down rest B' d p (j + 1) i e b hr (fun i c hc => hs (i + 1) c (by simpa using hc)) ⟨fun b hb => hk.sh b (List.mem_cons_of_mem _ hb), fun i b c h1 h2 => hk.ln (i + 1) b c (by simpa using h1) (by simpa using h2)⟩ (fun b hb => hd b (List.mem_cons_of_mem _ hb)) he hb
      exact ⟨r + 1, rs, by rw [h1, show j + 1 + r = j + (r + 1) by omega], h2⟩
  | .node c w sub rest, B, d, p, j, i, e, b, h, hs, hk, hd, he, hb => by
    obtain ⟨b0, G, B', rfl, hw, hG, hh, hsub, hr⟩ := h
    have l1 := deeds_len (p ++ [(j : Int)]) 0 hsub
    change (deedsF sub (p ++ [(j : Int)]) 0 ++ deedsF rest p (j + 1))[i]? = some e at he
    by_cases ci : i < (b0 :: G).length
    · rw [List.getElem?_append_left (by omega)] at he hb
      -- all in a group have the sweep of the first one
      have key : ∀ (n : Nat) (b : Bo W), (b0 :: G)[n]? = some b → b.ways[d]? = some (c, w) := by
        intro n
        induction n with
        | zero => intro b hb; cases hb; exact hw
        | succ n ih =>
          intro b hb
          have hn : n < (b0 :: G).length := by have := (List.getElem?_eq_some_iff.mp hb).1; omega
          have e1 : (b0 :: G)[n]? = some (b0 :: G)[n] := List.getElem?_eq_getElem hn
          have hp := ih _ e1
          have hg : d < b.sh := hG b (by rw [List.getElem?_cons_succ] at hb; exact List.mem_of_getElem? hb)
          have := (hk.ln n _ b (by rw [List.getElem?_append_left hn]; exact e1) (by rw [List.getElem?_append_left (List.getElem?_eq_some_iff.mp hb).1]; exact hb)).2
          have h2 := congrArg (fun l : List (Bool × W) => l[d]?) this
          simp only [List.getElem?_take_of_lt hg] at h2
          rw [h2]
          exact hp
      have hb' := key i b hb
      obtain ⟨hl, eb⟩ := List.getElem?_eq_some_iff.mp hb'
      obtain ⟨r, rs, h1, h2⟩ := deeds_down sub (b0 :: G) (d + 1) (p ++ [(j : Int)]) 0 i e b hsub (fun i c hc => hG c (by rw [List.getElem?_cons_succ] at hc; exact List.mem_of_getElem? hc)) ⟨fun b hb => hk.sh b (List.mem_append_left _ hb), fun i b c h1 h2 => hk.ln i b c (by rw [List.getElem?_append_left (List.getElem?_eq_some_iff.mp h1).1]; exact h1) (by rw [List.getElem?_append_left (List.getElem?_eq_some_iff.mp h2).1]; exact h2)⟩ (fun b hb => by
        obtain ⟨n, hn⟩ := List.mem_iff_getElem?.mp hb
        obtain ⟨z, _⟩ := List.getElem?_eq_some_iff.mp (key n b hn)
        omega) he hb
      refine ⟨0, r :: rs, by rw [h1]; simp, .inr ⟨c, w, sub, b.ways.drop (d + 1), rfl, ?_, h2⟩⟩
      rw [List.drop_eq_getElem_cons hl, eb]
    · rw [List.getElem?_append_right (by omega)] at he hb
      rw [l1] at he
      obtain ⟨r, rs, h1, h2⟩ := deeds_down rest B' d p (j + 1) (i - (b0 :: G).length) e b hr (fun i c hc => hs ((b0 :: G).length + i) c (by
        rw [List.getElem?_append_right (by omega), show (b0 :: G).length + i + 1 - (b0 :: G).length = i + 1 by omega]
        exact hc)) ⟨fun b hb => hk.sh b (List.mem_append_right _ hb), fun i b c h1 h2 => hk.ln (i + (b0 :: G).length) b c (by
          rw [List.getElem?_append_right (by omega), Nat.add_sub_cancel]; exact h1) (by
          rw [List.getElem?_append_right (by omega), show i + (b0 :: G).length + 1 - (b0 :: G).length = i + 1 by omega]; exact h2)⟩ (fun b hb => hd b (List.mem_append_right _ hb)) he hb
      exact ⟨r + 1, rs, by rw [h1, show j + 1 + r = j + (r + 1) by omega], h2⟩
end Fo
namespace Fo
variable {W L : Type}
noncomputable def app : F W → F W → F W
  | .nil, g => g
  | .leaf k pl r, g => .leaf k pl (app r g)
  | .node c w s r, g => .node c w s (app r g)
end Fo

set_option Elab.async false
set_option linter.all false
set_option maxRecDepth 100000
set_option maxHeartbeats 4000000
namespace L2
open PySem PySem.Spec PyProof.Rows
noncomputable def All2 {α : Type} (R : V → α → Prop) (xs : List V) (as : List α) : Prop := xs.length = as.length ∧ ∀ (i : Nat) (x : V) (a : α), xs[i]? = some x → as[i]? = some a → R x a
theorem All2.nil {α : Type} {R : V → α → Prop} : All2 R [] [] := ⟨rfl, fun i x a h => by simp at h⟩
theorem All2.mono {α : Type} {R S : V → α → Prop} {xs : List V} {as : List α} (h : All2 R xs as) (m : ∀ x a, R x a → S x a) : All2 S xs as := ⟨h.1, fun i x a p q => m _ _ (h.2 i x a p q)⟩
theorem All2.get {α : Type} {R : V → α → Prop} {xs : List V} {as : List α} {i : Nat} {a : α} (h : All2 R xs as) (ha : as[i]? = some a) : ∃ x, xs[i]? = some x ∧ R x a := by
  have hi : i < xs.length := by rw [h.1]; exact (List.getElem?_eq_some_iff.mp ha).1
  exact ⟨_, List.getElem?_eq_getElem hi, h.2 i _ a (List.getElem?_eq_getElem hi) ha⟩
theorem All2.get' {α : Type} {R : V → α → Prop} {xs : List V} {as : List α} {i : Nat} {x : V} (h : All2 R xs as) (hx : xs[i]? = some x) : ∃ a, as[i]? = some a ∧ R x a := by
  have hi : i < as.length := by rw [← h.1]; exact (List.getElem?_eq_some_iff.mp hx).1
  exact ⟨_, List.getElem?_eq_getElem hi, h.2 i x _ hx (List.getElem?_eq_getElem hi)⟩
theorem All2.app {α : Type} {R : V → α → Prop} {xs ys : List V} {as bs : List α} (h : All2 R xs as) (g : All2 R ys bs) : All2 R (xs ++ ys) (as ++ bs) := by
  refine ⟨by rw [List.length_append, List.length_append, h.1, g.1], fun i x a p q => ?_⟩
  by_cases l : i < xs.length
  · rw [List.getElem?_append_left l] at p
    rw [List.getElem?_append_left (by rw [← h.1]; exact l)] at q
    exact h.2 i x a p q
  · rw [List.getElem?_append_right (by omega)] at p
    rw [List.getElem?_append_right (by have := h.1; omega)] at q
    rw [h.1] at p
    exact g.2 _ x a p q
theorem All2.one {α : Type} {R : V → α → Prop} {x : V} {a : α} (h : R x a) : All2 R [x] [a] := ⟨rfl, fun i y b p q => by
  cases i with
  | zero => cases p; cases q; exact h
  | succ i => simp at p⟩
theorem All2.snoc {α : Type} {R : V → α → Prop} {xs : List V} {as : List α} {x : V} {a : α} (h : All2 R xs as) (g : R x a) : All2 R (xs ++ [x]) (as ++ [a]) := h.app (.one g)
theorem All2.take {α : Type} {R : V → α → Prop} {xs : List V} {as : List α} (h : All2 R xs as) (n : Nat) : All2 R (xs.take n) (as.take n) := ⟨by rw [List.length_take, List.length_take, h.1], fun i x a p q => by
  by_cases l : i < n
  · rw [List.getElem?_take_of_lt l] at p q
    exact h.2 _ x a p q
  · rw [List.getElem?_take_eq_none (by omega)] at p
    cases p⟩
noncomputable abbrev Way := Bool × Str
noncomputable abbrev Bgh := Fo.Bo Str
noncomputable abbrev Frs := Fo.F Str
noncomputable def PrAt (H : Hp) (x : V) (p : Int × Int) : Prop := ∃ t, x = .ref t ∧ H t = some (.tup [.int p.1, .int p.2])
theorem PrAt.over {H H' : Hp} {x : V} {p : Int × Int} (h : PrAt H x p) (e : Same H H') : PrAt H' x p := by obtain ⟨t, a, b⟩ := h; exact ⟨t, a, e _ _ b⟩
noncomputable def PrsT (H : Hp) (l : Addr) (ps : List (Int × Int)) : Prop := ∃ xs, H l = some (.tup xs) ∧ All2 (PrAt H) xs ps
theorem PrsT.over {H H' : Hp} {l : Addr} {ps : List (Int × Int)} (h : PrsT H l ps) (e : Same H H') : PrsT H' l ps := by obtain ⟨xs, a, b⟩ := h; exact ⟨xs, e _ _ a, b.mono fun x w p => p.over e⟩
noncomputable def FoAt (H : Hp) : List V → Frs → Prop
  | xs, .nil => xs = []
  | xs, .leaf k pl rest => ∃ t p ys, xs = .ref t :: ys ∧ H t = some (.tup [.str "deed", .int k, .ref p]) ∧ PrsT H p pl ∧ FoAt H ys rest
  | xs, .node c w sub rest => ∃ t p zs ys, xs = .ref t :: ys ∧ H t = some (.tup [.str "sweep", .bl c, .str w, .ref p]) ∧ H p = some (.tup zs) ∧ FoAt H zs sub ∧ FoAt H ys rest
theorem FoAt.over {H H' : Hp} (e : Same H H') : ∀ {f : Frs} {xs : List V}, FoAt H xs f → FoAt H' xs f
  | .nil, xs, h => h
  | .leaf k pl rest, xs, h => by
    obtain ⟨t, p, ys, a, b, c, d⟩ := h
    exact ⟨t, p, ys, a, e _ _ b, c.over e, FoAt.over e d⟩
  | .node c w sub rest, xs, h => by
    obtain ⟨t, p, zs, ys, a, b, c, d, g⟩ := h
    exact ⟨t, p, zs, ys, a, e _ _ b, e _ _ c, FoAt.over e d, FoAt.over e g⟩
noncomputable def FoT (H : Hp) (p : Addr) (f : Frs) : Prop := ∃ xs, H p = some (.tup xs) ∧ FoAt H xs f
theorem FoT.over {H H' : Hp} {p : Addr} {f : Frs} (h : FoT H p f) (e : Same H H') : FoT H' p f := by obtain ⟨xs, a, b⟩ := h; exact ⟨xs, e _ _ a, FoAt.over e b⟩
end L2

set_option Elab.async false
set_option linter.all false
set_option maxRecDepth 100000
set_option maxHeartbeats 4000000
namespace L2
open PySem PySem.Spec PyProof.Rows
noncomputable def TK (H H' : Hp) : Prop := ∀ (b : Addr) (xs : List V), H b = some (.tup xs) → H' b = some (.tup xs)
theorem TK.trans {H H' H'' : Hp} (a : TK H H') (b : TK H' H'') : TK H H'' := fun x xs h => b x xs (a x xs h)
theorem Same.tk {H H' : Hp} (e : Same H H') : TK H H' := fun b xs h => e b _ h
theorem TK.upd {H : Hp} {l : Addr} {xs : List V} {o : HO} (hl : H l = some (.lst xs)) : TK H (upd H l o) := fun b ys hb => by
  rw [upd_ne (ne_of hb hl (by intro z; cases z))]
  exact hb
theorem PrAt.tk {H H' : Hp} {x : V} {w : Int × Int} (h : PrAt H x w) (e : TK H H') : PrAt H' x w := by obtain ⟨t, a, b⟩ := h; exact ⟨t, a, e _ _ b⟩
theorem PrsT.tk {H H' : Hp} {l : Addr} {ps : List (Int × Int)} (h : PrsT H l ps) (e : TK H H') : PrsT H' l ps := by obtain ⟨xs, a, b⟩ := h; exact ⟨xs, e _ _ a, b.mono fun x w p => p.tk e⟩
theorem FoAt.tk {H H' : Hp} (e : TK H H') : ∀ {f : Frs} {xs : List V}, FoAt H xs f → FoAt H' xs f
  | .nil, xs, h => h
  | .leaf k pl rest, xs, h => by
    obtain ⟨t, p, ys, a, b, c, d⟩ := h
    exact ⟨t, p, ys, a, e _ _ b, c.tk e, FoAt.tk e d⟩
  | .node c w sub rest, xs, h => by
    obtain ⟨t, p, zs, ys, a, b, c, d, g⟩ := h
    exact ⟨t, p, zs, ys, a, e _ _ b, e _ _ c, FoAt.tk e d, FoAt.tk e g⟩
theorem FoAt.app {H : Hp} : ∀ {f g : Frs} {xs ys : List V}, FoAt H xs f → FoAt H ys g → FoAt H (xs ++ ys) (Fo.app f g)
  | .nil, g, xs, ys, h, k => by cases (show xs = [] from h); exact k
  | .leaf k pl rest, g, xs, ys, h, hg => by
    obtain ⟨t, p, zs, rfl, b, c, d⟩ := h
    exact ⟨t, p, zs ++ ys, rfl, b, c, FoAt.app d hg⟩
  | .node c w sub rest, g, xs, ys, h, hg => by
    obtain ⟨t, p, zs, us, rfl, b, c, d, k⟩ := h
    exact ⟨t, p, zs, us ++ ys, rfl, b, c, d, FoAt.app k hg⟩
noncomputable def ways3 : List Str := ["up", "down", "any"]
structure GoodB (b : Bgh) : Prop where
  len : b.ways.length ≤ 6
  pll : b.pl.length = b.ways.length
  shl : b.sh ≤ b.ways.length
  wy : ∀ w ∈ b.ways, w.2 ∈ ways3
  k0 : 0 ≤ b.k
  k5 : b.k ≤ 5
  pr : ∀ p ∈ b.pl, 0 ≤ p.1 ∧ p.1 ≤ 2 ∧ -200000000000000000 ≤ p.2 ∧ p.2 ≤ 200000000000000000
structure GoodBs (B : List Bgh) : Prop where
  ok : Fo.Ok B
  fst : ∀ b, B.head? = some b → b.sh = 0
  all : ∀ b ∈ B, GoodB b
  len : B.length ≤ 6
structure From (B : List Bgh) (d n : Nat) : Prop where
  ok : Fo.Ok B
  sh : ∀ i c, B[i + 1]? = some c → d ≤ c.sh
  lo : ∀ b ∈ B, d ≤ b.ways.length
  hi : ∀ b ∈ B, b.ways.length ≤ d + n
  pl : ∀ b ∈ B, b.pl.length ≤ 6
  len : B.length ≤ 6
theorem sLen (x y : Str) : (x ++ y).length = x.length + y.length := by rw [← cds_len, cds_app, List.length_append, cds_len, cds_len]
noncomputable def dep : Frs → Nat
  | .nil => 1
  | .leaf _ _ rest => dep rest
  | .node _ _ sub rest => max (1 + dep sub) (dep rest)
theorem dep_pos : ∀ f : Frs, 1 ≤ dep f
  | .nil => Nat.le_refl _
  | .leaf _ _ rest => dep_pos rest
  | .node _ _ sub rest => by have := dep_pos sub; unfold dep; omega
theorem dep_of : ∀ (f : Frs) (B : List Bgh) (d n : Nat), Fo.Is f B d → (∀ b ∈ B, b.ways.length ≤ d + n) → dep f ≤ n + 1
  | .nil, B, d, n, h, hn => by unfold dep; omega
  | .leaf k pl rest, B, d, n, h, hn => by
    obtain ⟨b, B', rfl, _, _, _, _, h5⟩ := h
    exact dep_of rest B' d n h5 fun b hb => hn b (List.mem_cons_of_mem _ hb)
  | .node c w sub rest, B, d, n, h, hn => by
    obtain ⟨b, G, B', rfl, h1, h2, h3, h4, h5⟩ := h
    have := dep_of rest B' d n h5 fun b hb => hn b (List.mem_append_right _ hb)
    have l := (List.getElem?_eq_some_iff.mp h1).1
    have l2 := hn b (List.mem_append_left _ List.mem_cons_self)
    obtain ⟨n, rfl⟩ : ∃ m, n = m + 1 := ⟨n - 1, by omega⟩
    have := dep_of sub (b :: G) (d + 1) n h4 fun b hb => by have := hn b (List.mem_append_left _ hb); omega
    unfold dep
    omega
noncomputable def ME (t : TE) : Prop := ∀ (σ : St) (H : Hp) (Q Q' : VK), (∀ v H1, Q v H1 → Q' v H1) → t σ H Q → t σ H Q'
noncomputable def MT (t : TT) : Prop := ∀ σ H Q Q', (∀ b H1, Q b H1 → Q' b H1) → t σ H Q → t σ H Q'
noncomputable def MA (t : TA) : Prop := ∀ σ H Q Q', (∀ b H1, Q b H1 → Q' b H1) → t σ H Q → t σ H Q'
noncomputable def MR (r : R2) : Prop := ∀ (x y : V) (H : Hp) (Q Q' : VK), (∀ v H1, Q v H1 → Q' v H1) → r x y H Q → r x y H Q'
noncomputable def MB (r : List V → Hp → VK → Prop) : Prop := ∀ (vs : List V) (H : Hp) (Q Q' : VK), (∀ v H1, Q v H1 → Q' v H1) → r vs H Q → r vs H Q'
theorem ME.var (i : Nat) : ME (tVar i) := fun σ H Q Q' hq ⟨v, h, k⟩ => ⟨v, h, hq _ _ k⟩
theorem ME.op {r : R2} {a b : TE} (hr : MR r) (ha : ME a) (hb : ME b) : ME (tOp r a b) := fun σ H Q Q' hq h => ha _ _ _ _ (fun x H1 k => hb _ _ _ _ (fun y H2 k => hr _ _ _ _ _ hq k) k) h
theorem ME.cb {r : List V → Hp → VK → Prop} {t : TA} (hr : MB r) (h : MA t) : ME (tCB r t) := fun σ H Q Q' hq k => h _ _ _ _ (fun xs H1 m => hr _ _ _ _ hq m) k
theorem MA.nil : MA tNil := fun σ H Q Q' hq h => hq _ _ h
theorem MA.cons {t : TE} {u : TA} (ht : ME t) (hu : MA u) : MA (tCons t u) := fun σ H Q Q' hq h => ht _ _ _ _ (fun x H1 k => hu _ _ _ _ (fun xs H2 m => hq _ _ m) k) h
theorem MT.test {t : TE} (h : ME t) : MT (tTest t) := fun σ H Q Q' hq k => h _ _ _ _ (fun x H1 ⟨b, e, m⟩ => ⟨b, e, hq _ _ m⟩) k
theorem MR.i0 (g : Int → Int → V) : MR (rI0 g) := fun x y H Q Q' hq ⟨i, j, a, b, d⟩ => ⟨i, j, a, b, hq _ _ d⟩
theorem MB.len {P R : Hp → Addr → List V → Prop} : MB (fun xs H Q => ∃ p ys, xs = [V.ref p] ∧ (P H p ys ∨ R H p ys) ∧ Q (V.int (ys.length : Int)) H) := fun vs H Q Q' hq ⟨p, ys, a, b, c⟩ => ⟨p, ys, a, b, hq _ _ c⟩
noncomputable def av (H : Hp) (S : List Addr) : Hp := fun b => if b ∈ S then none else H b
theorem av_upd {H : Hp} {S : List Addr} {l : Addr} {o : HO} (h : l ∈ S) : av (upd H l o) S = av H S := by
  funext b
  unfold av
  by_cases c : b ∈ S
  · rw [if_pos c, if_pos c]
  · rw [if_neg c, if_neg c, upd_ne (fun z : b = l => c (by rw [z]; exact h))]
theorem av_same {H : Hp} {S : List Addr} : Same (av H S) H := fun b o h => by
  unfold av at h
  split at h
  · cases h
  · exact h
theorem av_mono {H H' : Hp} {S : List Addr} (e : Same H H') : Same (av H S) (av H' S) := fun b o h => by
  unfold av at h ⊢
  split at h
  · cases h
  · rename_i c; rw [if_neg c]; exact e b o h
theorem av_ne {H : Hp} {S : List Addr} {b : Addr} (h : b ∉ S) : av H S b = H b := by unfold av; rw [if_neg h]
theorem seq_asgC {v : V} {i : Nat} {b : TS} {D : Ends} {σ : St} {H : Hp} (h : b D (σ.set i (some v)) H) : tSeq (tAsg (tC v) (gName i)) b D σ H := h
end L2

set_option Elab.async false
set_option linter.all false
set_option maxRecDepth 100000
set_option maxHeartbeats 4000000
namespace L2
open PySem PySem.Spec PyProof.Rows
theorem down_len : ∀ {rs : List Nat} {f : Frs} {ws : List Way}, Fo.Down f rs ws → rs.length = ws.length + 1
  | [], f, ws, h => h.elim
  | r :: rs, f, ws, h => by
    rcases h with ⟨k, pl, _, rfl, rfl⟩ | ⟨c, w, sub, ws', _, rfl, h⟩
    · rfl
    · rw [List.length_cons, List.length_cons, down_len h]
theorem itm_at {H : Hp} : ∀ {f : Frs} {r : Nat} {xs : List V} {c : Bool} {w : Str} {sub : Frs}, FoAt H xs f → Fo.itm f r = some (.sweep c w sub) → ∃ t p zs, xs[r]? = some (.ref t) ∧ H t = some (.tup [.str "sweep", .bl c, .str w, .ref p]) ∧ H p = some (.tup zs) ∧ FoAt H zs sub
  | .nil, r, xs, c, w, sub, h, e => by cases e
  | .leaf k pl rest, 0, xs, c, w, sub, h, e => by cases e
  | .leaf k pl rest, r + 1, xs, c, w, sub, h, e => by
    obtain ⟨t, p, ys, rfl, _, _, hr⟩ := h
    obtain ⟨t', p', zs, a, b⟩ := itm_at (r := r) hr e
    exact ⟨t', p', zs, by simpa using a, b⟩
  | .node c' w' s rest, 0, xs, c, w, sub, h, e => by
    obtain ⟨t, p, zs, ys, rfl, a, b, d, _⟩ := h
    cases e
    exact ⟨t, p, zs, rfl, a, b, d⟩
  | .node c' w' s rest, r + 1, xs, c, w, sub, h, e => by
    obtain ⟨t, p, zs, ys, rfl, _, _, _, hr⟩ := h
    obtain ⟨t', p', zs', a, b⟩ := itm_at (r := r) hr e
    exact ⟨t', p', zs', by simpa using a, b⟩
noncomputable def EnAt (H : Hp) (x : V) (e : Fo.En) : Prop := ∃ t pl pt cu, x = .ref t ∧ H t = some (.tup [.int e.k, .ref pl, .ref pt, .ref cu]) ∧ PrsT H pl e.pl ∧ H pt = some (.tup (e.path.map V.int))
theorem EnAt.tk {H H' : Hp} {x : V} {e : Fo.En} (h : EnAt H x e) (k : TK H H') : EnAt H' x e := by obtain ⟨t, pl, pt, cu, a, b, c, d⟩ := h; exact ⟨t, pl, pt, cu, a, k _ _ b, c.tk k, k _ _ d⟩
theorem EnAt.over {H H' : Hp} {x : V} {e : Fo.En} (h : EnAt H x e) (k : Same H H') : EnAt H' x e := h.tk (Same.tk k)
noncomputable def spDeedsP (n : Nat) : Sp := fun vs H Q _ => ∃ (it pa cu : Addr) (f : Frs) (P : List Int) (cs : List V), vs = [.ref it, .ref pa, .ref cu] ∧ FoT H it f ∧ H pa = some (.tup (P.map V.int)) ∧ H cu = some (.tup cs) ∧ dep f ≤ n ∧ P.length + n ≤ 100 ∧ cs.length + n ≤ 100 ∧ (Fo.deedsF f P 0).length ≤ 1000 ∧ ∀ (r : Addr) (ys : List V) (H' : Hp), Same H H' → H' r = some (.lst ys) → All2 (EnAt H') ys (Fo.deedsF f P 0) → Q (.ref r) H'
noncomputable def spStandP : Sp := fun vs H Q _ => ∃ (p : Addr) (k : Int) (f : Frs) (i : Nat) (e : Fo.En), vs = [.ref p, .int k] ∧ FoT H p f ∧ dep f ≤ 7 ∧ (Fo.deedsF f [] 0).length ≤ 1000 ∧ (Fo.deedsF f [] 0)[i]? = some e ∧ e.k = k ∧ (∀ j e', j < i → (Fo.deedsF f [] 0)[j]? = some e' → e'.k ≠ k) ∧ ∀ (r pt pl : Addr) (H' : Hp), Same H H' → H' r = some (.tup [.ref pt, .ref pl]) → H' pt = some (.tup (e.path.map V.int)) → PrsT H' pl e.pl → Q (.ref r) H'
structure Rb where
  way : Way
  p : Int × Int
  q : Int × Int
noncomputable def Many (B : List Bgh) (i j s : Nat) : Prop := (i = j ∧ ∃ b, B[i]? = some b ∧ s = b.ways.length) ∨ (i < j ∧ Fo.Least B i j s) ∨ (j < i ∧ Fo.Least B j i s)
theorem en_at {f : Frs} {B : List Bgh} {i : Nat} {b : Bgh} (h : Fo.Is f B 0) (hb : B[i]? = some b) : ∃ e, (Fo.deedsF f [] 0)[i]? = some e ∧ e.k = b.k ∧ e.pl = b.pl := by
  have l := Fo.deeds_len [] 0 h
  have hi : i < (Fo.deedsF f [] 0).length := by rw [l]; exact (List.getElem?_eq_some_iff.mp hb).1
  have m := congrArg (fun l : List (Int × List (Int × Int)) => l[i]?) (Fo.deeds_map f B 0 [] 0 h)
  simp only [List.getElem?_map, List.getElem?_eq_getElem hi, hb, Option.map_some] at m
  have m := Option.some.inj m
  exact ⟨_, List.getElem?_eq_getElem hi, congrArg Prod.fst m, congrArg Prod.snd m⟩
theorem en_first {f : Frs} {B : List Bgh} {i : Nat} {b : Bgh} (h : Fo.Is f B 0) (nd : (B.map (·.k)).Nodup) (hb : B[i]? = some b) (j : Nat) (e' : Fo.En) (hj : j < i) (he : (Fo.deedsF f [] 0)[j]? = some e') : e'.k ≠ b.k := fun z => by
  have l := Fo.deeds_len [] 0 h
  have hjl : j < B.length := by have := (List.getElem?_eq_some_iff.mp he).1; omega
  obtain ⟨e'', g1, g2, _⟩ := en_at h (List.getElem?_eq_getElem hjl)
  rw [he] at g1
  cases g1
  obtain ⟨l1, a1⟩ := List.getElem?_eq_some_iff.mp hb
  exact List.pairwise_iff_getElem.mp nd j i (by rw [List.length_map]; exact hjl) (by rw [List.length_map]; exact l1) hj (by rw [List.getElem_map, List.getElem_map, a1, ← z, g2])
theorem paths {f : Frs} {B : List Bgh} {i j s : Nat} {b c : Bgh} {x y : Fo.En} (h : Fo.Is f B 0) (g : GoodBs B) (hb : B[i]? = some b) (hc : B[j]? = some c) (hx : (Fo.deedsF f [] 0)[i]? = some x) (hy : (Fo.deedsF f [] 0)[j]? = some y) (hm : Many B i j s) :
    s ≤ b.ways.length ∧ s ≤ c.ways.length ∧ (∀ e < s, x.path.getD e 0 = y.path.getD e 0) ∧ (s < b.ways.length → s < c.ways.length → x.path.getD s 0 ≠ y.path.getD s 0) ∧ x.path.length = b.ways.length + 1 ∧ y.path.length = c.ways.length + 1 := by
  have zero : ∀ i c, B[i + 1]? = some c → 0 ≤ c.sh := fun _ _ _ => Nat.zero_le _
  obtain ⟨r1, rs1, e1, d1⟩ := Fo.deeds_down f B 0 [] 0 i x b h zero g.ok (fun _ _ => Nat.zero_le _) hx hb
  obtain ⟨r2, rs2, e2, d2⟩ := Fo.deeds_down f B 0 [] 0 j y c h zero g.ok (fun _ _ => Nat.zero_le _) hy hc
  have l1 := down_len d1
  have l2 := down_len d2
  rw [List.drop_zero] at l1 l2
  have x1 : x.path.length = b.ways.length + 1 := by rw [e1, List.nil_append, List.length_cons, List.length_map, ← l1]; rfl
  have y1 : y.path.length = c.ways.length + 1 := by rw [e2, List.nil_append, List.length_cons, List.length_map, ← l2]; rfl
  have sep : ∀ {u v : List Int} {n : Nat}, Fo.Sep u v n → n < u.length ∧ n < v.length ∧ (∀ e < n, u.getD e 0 = v.getD e 0) ∧ u.getD n 0 ≠ v.getD n 0 := fun {u v n} hs => by
    obtain ⟨cc, a, b, q, r, rfl, rfl, rfl, hab⟩ := hs
    refine ⟨by simp, by simp, fun e he => ?_, ?_⟩
    · rw [List.getD_eq_getElem?_getD, List.getD_eq_getElem?_getD, List.getElem?_append_left he, List.getElem?_append_left he]
    · rw [List.getD_eq_getElem?_getD, List.getD_eq_getElem?_getD, List.getElem?_append_right (Nat.le_refl _), List.getElem?_append_right (Nat.le_refl _), Nat.sub_self]
      show a ≠ b
      omega
  rcases hm with ⟨rfl, b', hb', rfl⟩ | ⟨hij, hl⟩ | ⟨hij, hl⟩
  · rw [hb] at hb' hc
    cases hb'
    cases hc
    rw [hx] at hy
    cases hy
    exact ⟨Nat.le_refl _, Nat.le_refl _, fun _ _ => rfl, fun z => by omega, x1, y1⟩
  · obtain ⟨_, hs⟩ := Fo.deeds_sep f B 0 [] 0 i j s x y h zero hij hx hy hl
    obtain ⟨a1, a2, a3, a4⟩ := sep hs
    simp only [List.length_nil, Nat.zero_add, Nat.sub_zero] at a1 a2 a3 a4
    exact ⟨by omega, by omega, a3, fun _ _ => a4, x1, y1⟩
  · obtain ⟨_, hs⟩ := Fo.deeds_sep f B 0 [] 0 j i s y x h zero hij hy hx hl
    obtain ⟨a1, a2, a3, a4⟩ := sep hs
    simp only [List.length_nil, Nat.zero_add, Nat.sub_zero] at a1 a2 a3 a4
    exact ⟨by omega, by omega, fun e he => (a3 e he).symm, fun _ _ z => a4 z.symm, x1, y1⟩

theorem many_ex {B : List Bgh} {i j : Nat} (hi : i < B.length) (hj : j < B.length) : ∃ s, Many B i j s := by
  have low : ∀ (i j : Nat), i < j → j < B.length → ∃ s, Fo.Least B i j s := fun i j hij hj => by
    have : ∀ n, i < n → n ≤ j → ∃ s, Fo.Least B i n s := by
      intro n
      induction n with
      | zero => intro h; omega
      | succ n ih =>
        intro h1 h2
        have Bn : B[n + 1]? = some B[n + 1] := List.getElem?_eq_getElem (by omega)
        by_cases c : i < n
        · obtain ⟨s, ⟨k, b, k1, k2, k3, k4⟩, k5⟩ := ih c (by omega)
          by_cases d : (B[n + 1]).sh < s
          · refine ⟨(B[n + 1]).sh, ⟨n + 1, _, h1, Nat.le_refl _, Bn, rfl⟩, fun m c' m1 m2 m3 => ?_⟩
            by_cases z : m = n + 1
            · subst z
              rw [Bn] at m3
              cases m3
              exact Nat.le_refl _
            · have := k5 m c' m1 (by omega) m3
              omega
          · refine ⟨s, ⟨k, b, k1, by omega, k3, k4⟩, fun m c' m1 m2 m3 => ?_⟩
            by_cases z : m = n + 1
            · subst z
              rw [Bn] at m3
              cases m3
              omega
            · exact k5 m c' m1 (by omega) m3
        · have : i = n := by omega
          subst this
          refine ⟨(B[i + 1]).sh, ⟨i + 1, _, h1, Nat.le_refl _, Bn, rfl⟩, fun m c' m1 m2 m3 => ?_⟩
          have : m = i + 1 := by omega
          subst this
          rw [Bn] at m3
          cases m3
          exact Nat.le_refl _
    exact this j hij (Nat.le_refl _)
  rcases Nat.lt_trichotomy i j with c | c | c
  · obtain ⟨s, h⟩ := low i j c hj
    exact ⟨s, .inr (.inl ⟨c, h⟩)⟩
  · exact ⟨_, .inl ⟨c, _, List.getElem?_eq_getElem hi, rfl⟩⟩
  · obtain ⟨s, h⟩ := low j i c hi
    exact ⟨s, .inr (.inr ⟨c, h⟩)⟩
end L2
namespace HT
open PySem PySem.Spec PyProof.Rows L2
section
variable {prog : Program} {w : World} {A : Around} {E : Value → Shared → Prop} {s : Shared}
theorem getItem_tuple_all {t sl : Addr} {items : Array Value} {vl vu : Value} {lo hi : Option Int} {Q : Value → Shared → Prop} (ht : IsTup s.heap t items) (hs : s.heap.IsSliceOf sl vl vu .none) (pl : IsPart vl lo) (pu : IsPart vu hi)
    (hw : sIx items.size 0 lo = 0 ∧ sIx items.size items.size hi = items.size) (h : Q (.ref t) s) : wpAny (model prog w) A (getItem (.ref t) (.ref sl)) Q E s := by
  obtain ⟨os, hos, hcs, hds⟩ := id hs
  have hTs : s.TypeIs (.ref sl) "slice" := ⟨os, hos, hcs⟩
  unfold getItem
  try with_reducible refine wpAny_holding ?_
  first | refine wpAny_bind (wpAny_pure ?_) | skip
  refine wpAny_bind (wpAny_sequenceKey ht.typeIs (by decide) ?_)
  refine wpAny_bind (wpAny_callSpecial?_slot (name := Str.ofString "__getitem__") ht.typeIs PyProof.Rows.slot_tuple_getitem
    (wpAny_call_entry PyProof.Rows.slot_tuple_getitem ht.typeIs entry_tuple_getitem ?_ (args_tuple_getitem _ _)))
  show wpAny _ _ (Builtin.Tuple.tupleItemsOf (.ref t) >>= _) _ _ s
  refine wpAny_bind (tupleItemsOf_ ht ?_)
  refine wpAny_bind (wpAny_typeOf hTs ?_)
  rw [if_pos (by decide)]
  refine wpAny_bind (sliceApplied_gen hs pl pu ?_)
  have hyes : (((sIx items.size 0 lo : Nat) : Int) == 0 && (1 : Int) == 1 && (sIx items.size items.size hi - sIx items.size 0 lo) == items.size) = true := by
    rw [hw.1, hw.2]
    simp
  show wpAny _ _ (if (((sIx items.size 0 lo : Nat) : Int) == 0 && (1 : Int) == 1 && (sIx items.size items.size hi - sIx items.size 0 lo) == items.size) = true then _ else _) _ _ s
  rw [if_pos hyes]
  show wpAny _ _ (Builtin.Tuple.tupleIsExact (.ref t) >>= _) _ _ s
  unfold Builtin.Tuple.tupleIsExact
  refine wpAny_bind (wpAny_bind (wpAny_typeOf ht.typeIs (wpAny_pure ?_)))
  rw [if_pos (by decide)]
  wp_walk
  first
    | exact ⟨_, rfl, wpAny_pure h⟩
    | exact wpAny_pure ⟨_, rfl, wpAny_pure h⟩
end
end HT
namespace L2
open PySem PySem.Spec PyProof.Rows
noncomputable def rSlH : V → Option Int → Option Int → Hp → VK → Prop := fun x lo hi H Q => ∃ (a : Addr) (xs : List V), x = .ref a ∧ H a = some (.tup xs) ∧ ∀ (p : Addr) (H' : Hp), Same H H' → H' p = some (.tup (cutV xs lo hi)) → Q (.ref p) H'
theorem sl_tupH {X : Cx} : SlR X rSlH := by
  intro pins s σ H x v vl vu lo hi sl Q I rx hs pl pu h
  obtain ⟨a, xs, rfl, ha, q⟩ := h
  by_cases c : HT.sIx xs.length 0 lo = 0 ∧ HT.sIx xs.length xs.length hi = xs.length
  · cases rx
    obtain ⟨its, r, ht, hz⟩ := I.tuple (SqT.of ha)
    have hlen : its.toArray.size = xs.length := by rw [List.size_toArray]; exact r.length.symm
    refine ⟨"tuple", _, PyProof.Rows.slot_tuple_getitem.lookup, ht.typeIs, ?_⟩
    refine HT.getItem_tuple_all ht hs pl pu (by rw [hlen]; exact c) ⟨.ref a, H, I, rfl, q a H (Same.refl _) ?_⟩
    have : cutV xs lo hi = xs := by
      unfold cutV
      rw [c.1, c.2]
      simp
    rw [this]
    exact ha
  · exact sl_tup pins s σ H (.ref a) v vl vu lo hi sl Q I rx hs pl pu ⟨a, xs, rfl, SqT.of ha, c, fun p hp => q p _ (same_new hp _) upd_same⟩
end L2

set_option Elab.async false
set_option linter.all false
set_option maxRecDepth 100000
set_option maxHeartbeats 4000000
namespace L2
open PySem PySem.Spec PyProof.Rows

end L2

set_option Elab.async false
set_option linter.all false
set_option maxRecDepth 100000
set_option maxHeartbeats 4000000
namespace L2
open PySem PySem.Spec PyProof.Rows
noncomputable def rTupOf (K : PySem.W.Frag) : List V → Hp → VK → Prop := fun xs H Q => ∃ p ys, xs = [V.ref p] ∧ ((SqL K H p ys ∧ ∀ l, H l = none → Q (V.ref l) (upd H l (HO.tup ys))) ∨ SqT K H p ys ∧ Q (V.ref p) H)
noncomputable abbrev Trn := Nat × List Int
noncomputable def Ah (k : Nat) (T U : Trn) (e : Nat) (b : Bool) : Prop := e ≤ k ∧ (∀ i < e, T.2.getD i 0 = U.2.getD i 0) ∧ (e < k → T.2.getD e 0 ≠ U.2.getD e 0 ∧ b = decide (T.2.getD e 0 < U.2.getD e 0)) ∧ (e = k → b = decide ((T.1 : Int) < (U.1 : Int)))
theorem ah_ex (k : Nat) (T U : Trn) : ∃ e b, Ah k T U e b := by
  have first : ∀ n, n ≤ k → (∃ e < n, (∀ i < e, T.2.getD i 0 = U.2.getD i 0) ∧ T.2.getD e 0 ≠ U.2.getD e 0) ∨ ∀ i < n, T.2.getD i 0 = U.2.getD i 0 := by
    intro n
    induction n with
    | zero => intro _; exact .inr fun i hi => absurd hi (Nat.not_lt_zero _)
    | succ n ih =>
      intro hn
      rcases ih (by omega) with ⟨e, he, h1, h2⟩ | h
      · exact .inl ⟨e, by omega, h1, h2⟩
      · by_cases c : T.2.getD n 0 = U.2.getD n 0
        · refine .inr fun i hi => ?_
          by_cases ci : i = n
          · rw [ci]; exact c
          · exact h i (by omega)
        · exact .inl ⟨n, by omega, h, c⟩
  rcases first k (Nat.le_refl _) with ⟨e, he, h1, h2⟩ | h
  · exact ⟨e, decide (T.2.getD e 0 < U.2.getD e 0), by omega, h1, fun _ => ⟨h2, rfl⟩, fun z => by omega⟩
  · exact ⟨k, _, Nat.le_refl _, h, fun z => absurd z (Nat.lt_irrefl _), fun _ => rfl⟩
end L2

set_option Elab.async false
set_option linter.all false
set_option maxRecDepth 100000
set_option maxHeartbeats 4000000
namespace L2
open PySem PySem.Spec PyProof.Rows
inductive Tw where
  | n (i : Int)
  | v (z : Str)
  | c (z : Str) (sp : List (Str × Int))
  | j (z : Str) (l r : Tw)
noncomputable def nS (i : Int) : Str := Str.ofString (toString i)
noncomputable def spS (s : Str × Int) : Str := if s.1 = "" then nS s.2 else if s.2 = 0 then s.1 else if 0 < s.2 then s.1 ++ "+" ++ nS s.2 else s.1 ++ nS s.2
noncomputable def boxS (s : Str × Int) : Str := "[" ++ spS s ++ "]"
noncomputable def celS (z : Str) (sp : List (Str × Int)) : Str := z ++ Txt.join "" (sp.map boxS)
noncomputable def brkS (b : Bool) (x : Str) : Str := if b = true then "(" ++ x ++ ")" else x
noncomputable def hz (z : Str) : Nat := if z = "*" then 2 else 1
namespace Tw
noncomputable def hld : Tw → Nat
  | .j z _ _ => hz z
  | _ => 3
noncomputable def wr : Tw → Str
  | .n i => nS i
  | .v z => z
  | .c z sp => celS z sp
  | .j z l r => brkS (decide (hld l < hz z)) (wr l) ++ z ++ brkS (decide (hld r ≤ hz z)) (wr r)
noncomputable def sz : Tw → Nat
  | .j _ l r => sz l + sz r
  | _ => 1
end Tw
noncomputable def sgn3 : List Str := ["+", "-", "*"]
noncomputable def SpB (s : Str × Int) : Prop := s.1.length ≤ 20 ∧ -999999999999999999 ≤ s.2 ∧ s.2 ≤ 999999999999999999
noncomputable def Tw.Ok : Tw → Prop
  | .n i => 0 ≤ i ∧ i ≤ 999999999999999999
  | .v z => z.length ≤ 20
  | .c z sp => z.length ≤ 20 ∧ sp.length ≤ 3 ∧ ∀ s ∈ sp, SpB s
  | .j z l r => z ∈ sgn3 ∧ Tw.Ok l ∧ Tw.Ok r
noncomputable def SpoAt (H : Hp) (x : V) (s : Str × Int) : Prop := ∃ t, x = .ref t ∧ H t = some (.tup [.str s.1, .int s.2])
noncomputable def SpsAt (H : Hp) (p : Addr) (sp : List (Str × Int)) : Prop := ∃ xs, H p = some (.tup xs) ∧ All2 (SpoAt H) xs sp
theorem SpoAt.tk {H H' : Hp} {x : V} {s : Str × Int} (k : TK H H') (h : SpoAt H x s) : SpoAt H' x s := let ⟨t, e, h⟩ := h; ⟨t, e, k _ _ h⟩
theorem SpsAt.tk {H H' : Hp} {p : Addr} {sp : List (Str × Int)} (k : TK H H') (h : SpsAt H p sp) : SpsAt H' p sp := let ⟨xs, e, h⟩ := h; ⟨xs, k _ _ e, h.mono fun _ _ z => z.tk k⟩
noncomputable def TbAt (c : Cs) (H : Hp) : Tw → V → Prop
  | .n i, x => ∃ t dx, x = .ref t ∧ H t = some (.ins c.n dx [("n", .int i)])
  | .v z, x => ∃ t dx, x = .ref t ∧ H t = some (.ins c.v dx [("name", .str z)])
  | .c z sp, x => ∃ t dx p, x = .ref t ∧ H t = some (.ins c.c dx [("table", .str z), ("spots", .ref p)]) ∧ SpsAt H p sp
  | .j z l r, x => ∃ t dx a b, x = .ref t ∧ H t = some (.ins c.j dx [("sign", .str z), ("left", a), ("right", b)]) ∧ TbAt c H l a ∧ TbAt c H r b
theorem TbAt.over {c : Cs} {H H' : Hp} (e : Same H H') : ∀ {t : Tw} {x : V}, TbAt c H t x → TbAt c H' t x
  | .n i, x, h => let ⟨t, dx, r, h⟩ := h; ⟨t, dx, r, e _ _ h⟩
  | .v z, x, h => let ⟨t, dx, r, h⟩ := h; ⟨t, dx, r, e _ _ h⟩
  | .c z sp, x, h => let ⟨t, dx, p, r, h, g⟩ := h; ⟨t, dx, p, r, e _ _ h, g.tk (Same.tk e)⟩
  | .j z l r, x, h => let ⟨t, dx, a, b, r, h, g1, g2⟩ := h; ⟨t, dx, a, b, r, e _ _ h, TbAt.over e g1, TbAt.over e g2⟩
end L2
namespace L2
open PySem
end L2
namespace L2
open PySem
end L2
namespace L2
open PySem
end L2
namespace L2
open PySem
end L2

set_option linter.all false
namespace Pw
structure Dd (T S : Type) where
  loops : List T
  path : List Int
  txt : S
variable {T S : Type}
noncomputable def Sh (a b : Dd T S) (c : Nat) : Prop := c ≤ a.loops.length ∧ c ≤ b.loops.length ∧ a.loops.take c = b.loops.take c ∧ a.path.take c = b.path.take c ∧ a.path.getD c 0 ≠ b.path.getD c 0
theorem take_getD {l m : List Int} {c n : Nat} (h : l.take n = m.take n) (hc : c < n) : l.getD c 0 = m.getD c 0 := by
  have := congrArg (fun x : List Int => x[c]?) h
  simp only [List.getElem?_take_of_lt hc] at this
  rw [List.getD_eq_getElem?_getD, List.getD_eq_getElem?_getD, this]
inductive Fs where
  | nil : Fs
  | leaf (k : Nat) (rest : Fs) : Fs
  | node (k : Nat) (sub rest : Fs) : Fs
noncomputable def CC (d : Nat) : List (Dd T S) → Prop
  | [] => True
  | [a] => d ≤ a.loops.length
  | a :: b :: ds => (∃ c, d ≤ c ∧ Sh a b c) ∧ CC d (b :: ds)
theorem CC.le {d : Nat} : ∀ {ds : List (Dd T S)}, CC d ds → ∀ a ∈ ds, d ≤ a.loops.length
  | [], _, a, ha => by cases ha
  | [b], h, a, ha => by rw [List.mem_singleton.mp ha]; exact h
  | b :: e :: ds, h, a, ha => by
    obtain ⟨⟨c, h1, h2⟩, h3⟩ := h
    rcases List.mem_cons.mp ha with rfl | ha
    · have := h2.1; omega
    · exact CC.le h3 a ha
theorem CC.right {d : Nat} : ∀ {ds es : List (Dd T S)}, CC d (ds ++ es) → CC d es
  | [], es, h => h
  | [a], [], h => True.intro
  | [a], b :: es, h => h.2
  | a :: b :: ds, es, h => CC.right (ds := b :: ds) h.2
theorem CC.left {d : Nat} : ∀ {ds es : List (Dd T S)}, CC d (ds ++ es) → CC d ds
  | [], es, h => True.intro
  | [a], [], h => h
  | [a], b :: es, h => by
    obtain ⟨c, h1, h2⟩ := h.1
    have := h2.1
    show d ≤ a.loops.length
    omega
  | a :: b :: ds, es, h => ⟨h.1, CC.left (ds := b :: ds) h.2⟩
theorem CC.up {d : Nat} {v : Int} : ∀ {ds : List (Dd T S)}, CC d ds → (∀ a ∈ ds, a.path.getD d 0 = v) → (∀ a, ds.head? = some a → d < a.loops.length) → CC (d + 1) ds ∧ ∀ a b ds', ds = a :: b :: ds' → ∃ c, d + 1 ≤ c ∧ Sh a b c
  | [], h, hv, hl => ⟨True.intro, fun a b ds' e => by cases e⟩
  | [a], h, hv, hl => ⟨hl a rfl, fun a b ds' e => by cases e⟩
  | a :: b :: ds, h, hv, hl => by
    obtain ⟨⟨c, h1, h2⟩, h3⟩ := h
    have hc : d + 1 ≤ c := by
      rcases Nat.eq_or_lt_of_le h1 with e | e
      · subst e
        exact absurd ((hv a List.mem_cons_self).trans (hv b (List.mem_cons_of_mem _ List.mem_cons_self)).symm) h2.2.2.2.2
      · exact e
    have up := CC.up (v := v) h3 (fun x hx => hv x (List.mem_cons_of_mem _ hx)) (fun x hx => by cases hx; have := h2.2.1; omega)
    exact ⟨⟨⟨c, hc, h2⟩, up.1⟩, fun a' b' ds' e => by cases e; exact ⟨c, hc, h2⟩⟩
noncomputable def IsF (D : Nat → Option (Dd T S)) : Fs → List Nat → Nat → Prop
  | .nil, ns, _ => ns = []
  | .leaf k rest, ns, d => ∃ ns' a, ns = k :: ns' ∧ D k = some a ∧ a.loops.length = d ∧ IsF D rest ns' d
  | .node k sub rest, ns, d => ∃ g ns' a, ns = k :: g ++ ns' ∧ D k = some a ∧ d < a.loops.length ∧ (∀ x ∈ g, ∀ b, D x = some b → b.path.getD d 0 = a.path.getD d 0) ∧ (∀ x b, ns'.head? = some x → D x = some b → b.path.getD d 0 ≠ a.path.getD d 0) ∧ IsF D sub (k :: g) (d + 1) ∧ IsF D rest ns' d
inductive Got (D : Nat → Option (Dd T S)) : List Nat → List (Dd T S) → Prop
  | nil : Got D [] []
  | cons {k : Nat} {a : Dd T S} {ns : List Nat} {ds : List (Dd T S)} : D k = some a → Got D ns ds → Got D (k :: ns) (a :: ds)
theorem Got.split {D : Nat → Option (Dd T S)} : ∀ {ns ms : List Nat} {ds : List (Dd T S)}, Got D (ns ++ ms) ds → ∃ ds1 ds2, ds = ds1 ++ ds2 ∧ Got D ns ds1 ∧ Got D ms ds2
  | [], ms, ds, h => ⟨[], ds, rfl, .nil, h⟩
  | k :: ns, ms, ds, h => by
    cases h with
    | cons h1 h2 =>
      obtain ⟨ds1, ds2, rfl, h3, h4⟩ := Got.split h2
      exact ⟨_ :: ds1, ds2, rfl, .cons h1 h3, h4⟩
theorem Got.mem {D : Nat → Option (Dd T S)} {ns : List Nat} {ds : List (Dd T S)} (h : Got D ns ds) : ∀ a ∈ ds, ∃ k ∈ ns, D k = some a := by
  induction h with
  | nil => intro a ha; cases ha
  | cons h1 h2 ih =>
    intro a ha
    rcases List.mem_cons.mp ha with rfl | ha
    · exact ⟨_, List.mem_cons_self, h1⟩
    · obtain ⟨k, hk, h⟩ := ih a ha
      exact ⟨k, List.mem_cons_of_mem _ hk, h⟩
theorem Got.head {D : Nat → Option (Dd T S)} {ns : List Nat} {ds : List (Dd T S)} {b : Dd T S} (h : Got D ns ds) (hb : ds.head? = some b) : ∃ k, ns.head? = some k ∧ D k = some b := by
  cases h with
  | nil => cases hb
  | cons h1 h2 => cases hb; exact ⟨_, rfl, h1⟩
theorem Got.find {D : Nat → Option (Dd T S)} {ns : List Nat} {ds : List (Dd T S)} (h : Got D ns ds) {k : Nat} (hk : k ∈ ns) : ∃ a ∈ ds, D k = some a := by
  induction h with
  | nil => cases hk
  | cons h1 h2 ih =>
    rcases List.mem_cons.mp hk with rfl | hk
    · exact ⟨_, List.mem_cons_self, h1⟩
    · obtain ⟨a, ha, e⟩ := ih hk
      exact ⟨a, List.mem_cons_of_mem _ ha, e⟩
end Pw

set_option Elab.async false
set_option linter.all false
set_option maxRecDepth 100000
set_option maxHeartbeats 4000000
namespace L2
open PySem PySem.Spec PyProof.Rows
structure LpT where
  nm : Str
  lo : Str × Int
  hi : Str × Int
noncomputable def LpT.Ok (t : LpT) : Prop := t.nm.length ≤ 20 ∧ SpB t.lo ∧ SpB t.hi
structure Dw where
  loops : List LpT
  tbl : Str
  sp : List (Str × Int)
  tm : Tw
  path : List Int
noncomputable def Dw.txt (D : Dw) : Str := celS D.tbl D.sp ++ " = " ++ D.tm.wr
noncomputable def Dw.dd (D : Dw) : Pw.Dd LpT Str := ⟨D.loops, D.path, D.txt⟩
structure Dw.Ok (D : Dw) : Prop where
  lp : ∀ t ∈ D.loops, t.Ok
  ll : D.loops.length ≤ 3
  pl : D.path.length = D.loops.length + 1
  c : Tw.Ok (.c D.tbl D.sp)
  t : D.tm.Ok
  s : D.tm.sz ≤ 5
noncomputable def DoAt (C : Addr) (c : Cs) (H : Hp) (x : V) (D : Dw) : Prop := ∃ (p dx nm lo hi ps pt : Addr) (ob : V) (ls hs : List V), x = .ref p ∧ H p = some (.ins C dx [("names", .ref nm), ("lows", .ref lo), ("highs", .ref hi), ("table", .str D.tbl), ("spots", .ref ps), ("term", ob), ("path", .ref pt)]) ∧ H nm = some (.tup (D.loops.map fun t => V.str t.nm)) ∧ H lo = some (.tup ls) ∧ All2 (fun v t => SpoAt H v (LpT.lo t)) ls D.loops ∧ H hi = some (.tup hs) ∧ All2 (fun v t => SpoAt H v (LpT.hi t)) hs D.loops ∧ SpsAt H ps D.sp ∧ TbAt c H D.tm ob ∧ H pt = some (.tup (D.path.map V.int))
theorem DoAt.over {C : Addr} {c : Cs} {H H' : Hp} {x : V} {D : Dw} (e : Same H H') (h : DoAt C c H x D) : DoAt C c H' x D := by
  obtain ⟨p, dx, nm, lo, hi, ps, pt, ob, ls, hs, rfl, h0, h1, h2, h3, h4, h5, h6, h7, h8⟩ := h
  exact ⟨p, dx, nm, lo, hi, ps, pt, ob, ls, hs, rfl, e _ _ h0, e _ _ h1, e _ _ h2, h3.mono fun _ _ z => z.tk (Same.tk e), e _ _ h4, h5.mono fun _ _ z => z.tk (Same.tk e), h6.tk (Same.tk e), h7.over e, e _ _ h8⟩
noncomputable def DosAt (C : Addr) (c : Cs) (H : Hp) (l : Addr) (Ds : List Dw) : Prop := ∃ xs, H l = some (.lst xs) ∧ All2 (DoAt C c H) xs Ds
theorem DosAt.over {C : Addr} {c : Cs} {H H' : Hp} {l : Addr} {Ds : List Dw} (e : Same H H') (h : DosAt C c H l Ds) : DosAt C c H' l Ds := let ⟨xs, h, g⟩ := h; ⟨xs, e _ _ h, g.mono fun _ _ z => z.over e⟩
noncomputable def OkD (Ds : List Dw) : Prop := (∀ D ∈ Ds, D.Ok) ∧ Ds.length ≤ 10 ∧ Pw.CC 0 (Ds.map Dw.dd)
noncomputable def getD (Ds : List Dw) : Nat → Option (Pw.Dd LpT Str) := fun k => Ds[k]?.map Dw.dd
noncomputable def pat (Ds : List Dw) (d k : Nat) : Int := match Ds[k]? with
  | some D => D.path.getD d 0
  | none => 0
inductive IsG (Ds : List Dw) (d : Nat) : List Nat → List (List Nat) → Prop
  | nil : IsG Ds d [] []
  | cons {k : Nat} {g ns : List Nat} {G : List (List Nat)} : (∀ x ∈ g, pat Ds d x = pat Ds d k) → (∀ y, ns.head? = some y → pat Ds d y ≠ pat Ds d k) → IsG Ds d ns G → IsG Ds d (k :: g ++ ns) ((k :: g) :: G)
noncomputable def ilst (g : List Nat) : List V := g.map fun k : Nat => V.int (k : Int)
noncomputable def IlAt (H : Hp) (x : V) (g : List Nat) : Prop := ∃ l, x = .ref l ∧ H l = some (.lst (ilst g))
theorem IlAt.over {H H' : Hp} {x : V} {g : List Nat} (e : Same H H') (h : IlAt H x g) : IlAt H' x g := let ⟨l, r, h⟩ := h; ⟨l, r, e _ _ h⟩
inductive GP (Ds : List Dw) (d : Nat) : List Nat → List (List Nat) → Prop
  | nil : GP Ds d [] []
  | new {ns : List Nat} {G : List (List Nat)} {k : Nat} : GP Ds d ns G → (∀ g h, G.getLast? = some g → g.head? = some h → pat Ds d h ≠ pat Ds d k) → GP Ds d (ns ++ [k]) (G ++ [[k]])
  | more {ns : List Nat} {G : List (List Nat)} {h k : Nat} {g : List Nat} : GP Ds d ns (G ++ [h :: g]) → pat Ds d h = pat Ds d k → GP Ds d (ns ++ [k]) (G ++ [h :: g ++ [k]])
theorem IsG.snocG {Ds : List Dw} {d k : Nat} : ∀ {ns : List Nat} {G : List (List Nat)}, IsG Ds d ns G → (∀ g h, G.getLast? = some g → g.head? = some h → pat Ds d h ≠ pat Ds d k) → IsG Ds d (ns ++ [k]) (G ++ [[k]])
  | _, _, .nil, _ => .cons (g := []) (ns := []) (fun x hx => by cases hx) (fun y hy => by cases hy) .nil
  | _, _, .cons (k := k0) (g := g0) (ns := ns') (G := G') h1 h2 h3, hd => by
    cases h3 with
    | nil =>
      have hk := hd (k0 :: g0) k0 rfl rfl
      have := IsG.cons (Ds := Ds) (d := d) (k := k0) (g := g0) (ns := [k] ++ []) (G := [[k]]) h1 (fun y hy => by cases hy; exact hk.symm) (.cons (g := []) (fun x hx => by cases hx) (fun y hy => by cases hy) .nil)
      simpa using this
    | @cons k1 g1 ns1 G1 a1 a2 a3 =>
      have ih := IsG.snocG (IsG.cons a1 a2 a3) (fun g h hg hh => hd g h (by rw [List.getLast?_cons_cons]; exact hg) hh)
      have := IsG.cons (Ds := Ds) (d := d) (k := k0) (g := g0) h1 (ns := k1 :: g1 ++ ns1 ++ [k]) (fun y hy => h2 y (by simpa using hy)) ih
      simpa using this
theorem IsG.more {Ds : List Dw} {d k : Nat} : ∀ {G : List (List Nat)} {ns : List Nat} {h : Nat} {g : List Nat}, IsG Ds d ns (G ++ [h :: g]) → pat Ds d h = pat Ds d k → IsG Ds d (ns ++ [k]) (G ++ [h :: g ++ [k]])
  | [], _, h, g, i, e => by
    cases i with
    | @cons _ _ ns' _ h1 h2 h3 =>
      cases h3
      have := IsG.cons (Ds := Ds) (d := d) (k := h) (g := g ++ [k]) (ns := []) (G := []) (fun x hx => by
        rcases List.mem_append.mp hx with hx | hx
        · exact h1 x hx
        · rw [List.mem_singleton.mp hx]; exact e.symm) (fun y hy => by cases hy) .nil
      simpa using this
  | g1 :: G, _, h, g, i, e => by
    cases i with
    | @cons k1 g1' ns' _ h1 h2 h3 =>
      have ih := IsG.more (G := G) h3 e
      have hne : ns' ≠ [] := by
        intro z
        subst z
        have h3 : IsG Ds d [] (G ++ [h :: g]) := h3
        generalize hG : G ++ [h :: g] = GG at h3
        generalize hn : ([] : List Nat) = nn at h3
        cases h3 with
        | nil => simp at hG
        | cons _ _ _ => simp at hn
      have := IsG.cons (Ds := Ds) (d := d) (k := k1) (g := g1') (ns := ns' ++ [k]) h1 (fun y hy => h2 y (by
        cases ns' with
        | nil => exact absurd rfl hne
        | cons a b => exact hy)) ih
      simpa using this
theorem GP.isG {Ds : List Dw} {d : Nat} {ns : List Nat} {G : List (List Nat)} (h : GP Ds d ns G) : IsG Ds d ns G := by
  induction h with
  | nil => exact .nil
  | new _ h ih => exact ih.snocG h
  | more _ h ih => exact ih.more h
noncomputable def FsAt (H : Hp) : Pw.Fs → List V → Prop
  | .nil, xs => xs = []
  | .leaf k rest, xs => ∃ t xs', xs = .ref t :: xs' ∧ H t = some (.tup [.int (k : Int), .non]) ∧ FsAt H rest xs'
  | .node k sub rest, xs => ∃ t l ys xs', xs = .ref t :: xs' ∧ H t = some (.tup [.int (k : Int), .ref l]) ∧ H l = some (.lst ys) ∧ FsAt H sub ys ∧ FsAt H rest xs'
theorem FsAt.over {H H' : Hp} (e : Same H H') : ∀ {f : Pw.Fs} {xs : List V}, FsAt H f xs → FsAt H' f xs
  | .nil, xs, h => h
  | .leaf k rest, xs, h => let ⟨t, xs', r, h0, h1⟩ := h; ⟨t, xs', r, e _ _ h0, FsAt.over e h1⟩
  | .node k sub rest, xs, h => let ⟨t, l, ys, xs', r, h0, h1, h2, h3⟩ := h; ⟨t, l, ys, xs', r, e _ _ h0, e _ _ h1, FsAt.over e h2, FsAt.over e h3⟩
noncomputable def fapp : Pw.Fs → Pw.Fs → Pw.Fs
  | .nil, g => g
  | .leaf k r, g => .leaf k (fapp r g)
  | .node k s r, g => .node k s (fapp r g)
theorem FsAt.app {H : Hp} : ∀ {f g : Pw.Fs} {xs ys : List V}, FsAt H f xs → FsAt H g ys → FsAt H (fapp f g) (xs ++ ys)
  | .nil, g, xs, ys, h, h' => by have h : xs = [] := h; subst h; exact h'
  | .leaf k rest, g, xs, ys, h, h' => by
    obtain ⟨t, xs', rfl, h0, h1⟩ := h
    exact ⟨t, xs' ++ ys, rfl, h0, FsAt.app h1 h'⟩
  | .node k sub rest, g, xs, ys, h, h' => by
    obtain ⟨t, l, zs, xs', rfl, h0, h1, h2, h3⟩ := h
    exact ⟨t, l, zs, xs' ++ ys, rfl, h0, h1, h2, FsAt.app h3 h'⟩
noncomputable def fdep : Pw.Fs → Nat
  | .nil => 0
  | .leaf _ r => max 1 (fdep r)
  | .node _ s r => max (fdep s + 1) (fdep r)
theorem isF_app {D : Nat → Option (Pw.Dd LpT Str)} {d : Nat} : ∀ {f g : Pw.Fs} {ns ms : List Nat}, Pw.IsF D f ns d → Pw.IsF D g ms d → (∀ x y a b, ns.getLast? = some x → ms.head? = some y → D x = some a → D y = some b → a.path.getD d 0 ≠ b.path.getD d 0) → (∀ x ∈ ns, ∃ a, D x = some a) → Pw.IsF D (fapp f g) (ns ++ ms) d
  | .nil, g, ns, ms, h, h', _, _ => by have h : ns = [] := h; subst h; exact h'
  | .leaf k rest, g, ns, ms, h, h', hd, hm => by
    obtain ⟨ns', a, rfl, h0, h1, h2⟩ := h
    refine ⟨ns' ++ ms, a, rfl, h0, h1, isF_app h2 h' (fun x y a b hx => ?_) fun x hx => hm x (List.mem_cons_of_mem _ hx)⟩
    cases ns' with
    | nil => cases hx
    | cons z zs => exact hd x y a b (by rw [List.getLast?_cons_cons]; exact hx)
  | .node k sub rest, g, ns, ms, h, h', hd, hm => by
    obtain ⟨g', ns', a, rfl, h0, h1, h2, h3, h4, h5⟩ := h
    refine ⟨g', ns' ++ ms, a, by rw [List.append_assoc], h0, h1, h2, ?_, h4, isF_app h5 h' (fun x y a b hx => ?_) fun x hx => hm x (List.mem_append_right _ hx)⟩
    · intro x b hx hb
      cases ns' with
      | cons z zs => exact h3 x b hx hb
      | nil =>
        obtain ⟨last, hl⟩ : ∃ last, (k :: g' ++ []).getLast? = some last := ⟨_, List.getLast?_eq_some_getLast (by simp)⟩
        have hmem : last ∈ k :: g' := by have := List.mem_of_getLast? hl; simpa using this
        obtain ⟨al, hal⟩ := hm last (by simpa using hmem)
        have h6 := hd last x al b hl hx hal hb
        have e : al.path.getD d 0 = a.path.getD d 0 := by
          rcases List.mem_cons.mp hmem with z | z
          · subst z; rw [h0] at hal; cases hal; rfl
          · exact h2 last z al hal
        rw [e] at h6
        exact h6.symm
    · cases ns' with
      | nil => cases hx
      | cons z zs => exact hd x y a b (by rw [List.getLast?_append]; rw [hx]; rfl)
theorem fdep_app : ∀ f g : Pw.Fs, fdep (fapp f g) ≤ max (fdep f) (fdep g)
  | .nil, g => Nat.le_max_right _ _
  | .leaf k r, g => by
    have := fdep_app r g
    show max 1 (fdep (fapp r g)) ≤ max (max 1 (fdep r)) (fdep g)
    omega
  | .node k s r, g => by
    have := fdep_app r g
    show max (fdep s + 1) (fdep (fapp r g)) ≤ max (max (fdep s + 1) (fdep r)) (fdep g)
    omega
noncomputable def nw (H H' : Hp) : Hp := fun b => match H b with
  | none => H' b
  | some _ => none
noncomputable def nwi (H H' : Hp) (it : Addr) : Hp := fun b => if b = it then none else nw H H' b
theorem nw_inv {H H' : Hp} {b : Addr} {o : HO} (h : nw H H' b = some o) : H b = none ∧ H' b = some o := by
  unfold nw at h
  cases e : H b with
  | none => rw [e] at h; exact ⟨rfl, h⟩
  | some _ => rw [e] at h; cases h
theorem nw_get {H H' : Hp} {b : Addr} {o : HO} (h : H b = none) (h' : H' b = some o) : nw H H' b = some o := by
  unfold nw
  rw [h]
  exact h'
theorem nw_same {H H' : Hp} : Same (nw H H') H' := fun b o h => (nw_inv h).2
theorem nwi_inv {H H' : Hp} {it b : Addr} {o : HO} (h : nwi H H' it b = some o) : b ≠ it ∧ H b = none ∧ H' b = some o := by
  unfold nwi at h
  split at h
  · cases h
  · rename_i c; exact ⟨c, nw_inv h⟩
theorem nwi_get {H H' : Hp} {it b : Addr} {o : HO} (h : H b = none) (c : b ≠ it) (h' : H' b = some o) : nwi H H' it b = some o := by
  unfold nwi
  rw [if_neg c]
  exact nw_get h h'
theorem nwi_mono {H H1 H2 : Hp} {it : Addr} (k : ∀ b o, b ≠ it → H1 b = some o → H2 b = some o) : Same (nwi H H1 it) (nwi H H2 it) := fun b o h => by
  obtain ⟨c, h0, h1⟩ := nwi_inv h
  exact nwi_get h0 c (k b o c h1)
theorem nwi_nw {H H' : Hp} {it : Addr} : Same (nwi H H' it) (nw H H') := fun b o h => by
  obtain ⟨c, h0, h1⟩ := nwi_inv h
  exact nw_get h0 h1
theorem nw_nwi {H H2 H3 : Hp} {it : Addr} {o' : HO} (e : Same H H2) (hi : H2 it = some o') : Same (nw H2 H3) (nwi H H3 it) := fun b o h => by
  obtain ⟨h0, h1⟩ := nw_inv h
  exact nwi_get (e.free h0) (ne_of_none hi h0).symm h1
noncomputable def GrsAt (H : Hp) (gl : Addr) (G : List (List Nat)) : Prop := ∃ xs, H gl = some (.lst xs) ∧ All2 (IlAt H) xs G
noncomputable def InD (Ds : List Dw) (d : Nat) (ns : List Nat) : Prop := ∀ k ∈ ns, ∃ D, Ds[k]? = some D ∧ D.Ok ∧ d ≤ D.loops.length
noncomputable def spNeigh (C : Addr) (c : Cs) : Sp := fun vs H Q _ => ∃ (dl nl : Addr) (d : Nat) (Ds : List Dw) (ns : List Nat), vs = [.ref dl, .ref nl, .int (d : Int)] ∧ DosAt C c H dl Ds ∧ H nl = some (.lst (ilst ns)) ∧ InD Ds d ns ∧ ns.length ≤ 10 ∧ ∀ (gl : Addr) (H' : Hp) (G : List (List Nat)), Same H H' → H gl = none → GrsAt H' gl G → IsG Ds d ns G → Q (.ref gl) H'
noncomputable def spItemsW (C : Addr) (c : Cs) (n : Nat) : Sp := fun vs H Q _ => ∃ (dl nl : Addr) (d : Nat) (Ds : List Dw) (ns : List Nat) (ds : List (Pw.Dd LpT Str)), vs = [.ref dl, .ref nl, .int (d : Int)] ∧ DosAt C c H dl Ds ∧ H nl = some (.lst (ilst ns)) ∧ InD Ds d ns ∧ ns.length ≤ 10 ∧ Pw.Got (getD Ds) ns ds ∧ Pw.CC d ds ∧ d ≤ 3 ∧ 4 ≤ d + n ∧ ∀ (r : Addr) (H' : Hp) (f : Pw.Fs) (xs : List V), Same H H' → H r = none → H' r = some (.lst xs) → FsAt (nw H H') f xs → Pw.IsF (getD Ds) f ns d → fdep f ≤ n → xs.length ≤ ns.length → Q (.ref r) H'
noncomputable def spNested (C : Addr) (c : Cs) : Sp := fun vs H Q _ => ∃ (dl : Addr) (Ds : List Dw), vs = [.ref dl] ∧ DosAt C c H dl Ds ∧ OkD Ds ∧ ∀ (r : Addr) (H' : Hp) (f : Pw.Fs) (xs : List V), Same H H' → H' r = some (.lst xs) → FsAt H' f xs → Pw.IsF (getD Ds) f (List.range Ds.length) 0 → fdep f ≤ 4 → Q (.ref r) H'
noncomputable def PrgW (CP C : Addr) (c : Cs) (H : Hp) (v : V) (n : Int) (Ds : List Dw) : Prop := ∃ (x dx dl : Addr), v = .ref x ∧ H x = some (.ins CP dx [("size", .int n), ("deeds", .ref dl)]) ∧ DosAt C c H dl Ds
theorem getD_some {Ds : List Dw} {k : Nat} {D : Dw} (h : Ds[k]? = some D) : getD Ds k = some D.dd := by unfold getD; rw [h]; rfl
theorem getD_inv {Ds : List Dw} {k : Nat} {a : Pw.Dd LpT Str} (h : getD Ds k = some a) : ∃ D, Ds[k]? = some D ∧ D.dd = a := by
  unfold getD at h
  exact Option.map_eq_some_iff.mp h
theorem pat_some {Ds : List Dw} {d k : Nat} {D : Dw} (h : Ds[k]? = some D) : pat Ds d k = D.path.getD d 0 := by unfold pat; rw [h]
theorem got_range {Ds : List Dw} : Pw.Got (getD Ds) (List.range Ds.length) (Ds.map Dw.dd) := by
  have : ∀ (es fs : List Dw), fs ++ es = Ds → Pw.Got (getD Ds) (List.range' fs.length es.length) (es.map Dw.dd) := by
    intro es
    induction es with
    | nil => intro fs e; exact .nil
    | cons D es ih =>
      intro fs e
      have h := ih (fs ++ [D]) (by rw [List.append_assoc]; exact e)
      rw [List.length_append] at h
      refine .cons (getD_some ?_) h
      rw [← e, List.getElem?_append_right (Nat.le_refl _), Nat.sub_self]
      rfl
  have := this Ds [] rfl
  rw [List.range_eq_range']
  exact this
noncomputable def wo2 (H : Hp) (a b : Addr) : Hp := fun x => if x = a ∨ x = b then none else H x
theorem wo2_same {H : Hp} {a b : Addr} : Same (wo2 H a b) H := fun x o h => by
  unfold wo2 at h
  split at h
  · cases h
  · exact h
theorem wo2_upd_r {H : Hp} {a b : Addr} {o : HO} : wo2 (upd H b o) a b = wo2 H a b := by
  funext x
  unfold wo2
  by_cases c : x = a ∨ x = b
  · rw [if_pos c, if_pos c]
  · rw [if_neg c, if_neg c, upd_ne fun z => c (.inr z)]
theorem wo2_get {H : Hp} {a b x : Addr} {o : HO} (h : H x = some o) (h1 : x ≠ a) (h2 : x ≠ b) : wo2 H a b x = some o := by
  unfold wo2
  rw [if_neg (fun z => z.elim h1 h2)]
  exact h
noncomputable def GSt (H0 H : Hp) (gl : Addr) (xs : List V) (G : List (List Nat)) : Prop := (xs = [] ∧ G = []) ∨ ∃ (xs' : List V) (l : Addr) (G' : List (List Nat)) (h : Nat) (g : List Nat), xs = xs' ++ [.ref l] ∧ G = G' ++ [h :: g] ∧ All2 (IlAt (wo2 H gl l)) xs' G' ∧ H l = some (.lst (ilst (h :: g))) ∧ l ≠ gl ∧ H0 l = none
theorem GSt.len {H0 H : Hp} {gl : Addr} {xs : List V} {G : List (List Nat)} (h : GSt H0 H gl xs G) : xs.length = G.length := by
  rcases h with ⟨rfl, rfl⟩ | ⟨xs', l, G', h, g, rfl, rfl, ha, _⟩
  · rfl
  · rw [List.length_append, List.length_append, ha.1]; rfl
theorem GSt.all {H0 H : Hp} {gl : Addr} {xs : List V} {G : List (List Nat)} (h : GSt H0 H gl xs G) (hg : H gl = some (.lst xs)) : GrsAt H gl G := by
  refine ⟨xs, hg, ?_⟩
  rcases h with ⟨rfl, rfl⟩ | ⟨xs', l, G', h, g, rfl, rfl, ha, hl, _⟩
  · exact .nil
  · exact (ha.mono fun x g z => z.over wo2_same).snoc ⟨l, rfl, hl⟩
theorem GSt.new {H0 H : Hp} {gl l : Addr} {xs : List V} {G : List (List Nat)} {k : Nat} (h : GSt H0 H gl xs G) (hg : H gl = some (.lst xs)) (hl : H l = none) (hl0 : H0 l = none) : GSt H0 (upd (upd H l (.lst [V.int (k : Int)])) gl (.lst (xs ++ [.ref l]))) gl (xs ++ [.ref l]) (G ++ [[k]]) := by
  have nlg : l ≠ gl := (ne_of_none hg hl).symm
  refine .inr ⟨xs, l, G, k, [], rfl, rfl, ?_, by rw [upd_ne nlg]; exact upd_same, nlg, hl0⟩
  have keep : ∀ {x : Addr} {g : List Nat}, x ≠ gl → H x = some (.lst (ilst g)) → IlAt (wo2 (upd (upd H l (.lst [V.int (k : Int)])) gl (.lst (xs ++ [.ref l]))) gl l) (.ref x) g := fun {x g} hx h => by
    have nx := ne_of_none h hl
    exact ⟨x, rfl, wo2_get (by rw [upd_ne hx, upd_ne nx]; exact h) hx nx⟩
  rcases h with ⟨rfl, rfl⟩ | ⟨xs', l', G', h, g, rfl, rfl, ha, hl', nl', _⟩
  · exact .nil
  · refine (ha.mono fun x g z => ?_).snoc (keep nl' hl')
    obtain ⟨y, rfl, hy⟩ := z
    unfold wo2 at hy
    split at hy
    · cases hy
    · rename_i c
      exact keep (fun z => c (.inl z)) hy
theorem IsG.mem {Ds : List Dw} {d : Nat} {ns : List Nat} {G : List (List Nat)} (h : IsG Ds d ns G) : ∀ g ∈ G, ∀ x ∈ g, x ∈ ns := by
  induction h with
  | nil => intro g hg; cases hg
  | cons h1 h2 h3 ih =>
    intro g hg x hx
    rcases List.mem_cons.mp hg with rfl | hg
    · exact List.mem_append_left _ hx
    · exact List.mem_append_right _ (ih g hg x hx)
theorem IsG.glen {Ds : List Dw} {d : Nat} {ns : List Nat} {G : List (List Nat)} (h : IsG Ds d ns G) : ∀ g ∈ G, g.length ≤ ns.length := by
  induction h with
  | nil => intro g hg; cases hg
  | cons h1 h2 h3 ih =>
    intro g hg
    rw [List.length_append]
    rcases List.mem_cons.mp hg with rfl | hg
    · omega
    · have := ih g hg; omega
end L2
namespace L2
open PySem
end L2
namespace L2
open PySem PySem.Spec PyProof.Rows
noncomputable def NL (H H' : Hp) : Prop := ∀ b o, H b = some o → (∀ xs, o ≠ .lst xs) → H' b = some o
theorem NL.tk {H H' : Hp} (h : NL H H') : TK H H' := fun b xs hb => h b _ hb (fun _ z => by cases z)
theorem NL.upd {H : Hp} {l : Addr} {xs : List V} {o : HO} (hl : H l = some (.lst xs)) : NL H (upd H l o) := fun b ob hb hn => by
  rw [upd_ne (fun z => by rw [z, hl] at hb; cases hb; exact hn _ rfl)]
  exact hb
theorem TbAt.nl {c : Cs} {H H' : Hp} (e : NL H H') : ∀ {t : Tw} {x : V}, TbAt c H t x → TbAt c H' t x
  | .n i, x, h => let ⟨t, dx, r, h⟩ := h; ⟨t, dx, r, e _ _ h (fun _ z => by cases z)⟩
  | .v z, x, h => let ⟨t, dx, r, h⟩ := h; ⟨t, dx, r, e _ _ h (fun _ z => by cases z)⟩
  | .c z sp, x, h => let ⟨t, dx, p, r, h, g⟩ := h; ⟨t, dx, p, r, e _ _ h (fun _ z => by cases z), g.tk e.tk⟩
  | .j z l r, x, h => let ⟨t, dx, a, b, r, h, g1, g2⟩ := h; ⟨t, dx, a, b, r, e _ _ h (fun _ z => by cases z), TbAt.nl e g1, TbAt.nl e g2⟩
theorem DoAt.nl {C : Addr} {c : Cs} {H H' : Hp} {x : V} {D : Dw} (e : NL H H') (h : DoAt C c H x D) : DoAt C c H' x D := by
  obtain ⟨p, dx, nm, lo, hi, ps, pt, ob, ls, hs, rfl, h0, h1, h2, h3, h4, h5, h6, h7, h8⟩ := h
  exact ⟨p, dx, nm, lo, hi, ps, pt, ob, ls, hs, rfl, e _ _ h0 (fun _ z => by cases z), e.tk _ _ h1, e.tk _ _ h2, h3.mono fun _ _ z => z.tk e.tk, e.tk _ _ h4, h5.mono fun _ _ z => z.tk e.tk, h6.tk e.tk, h7.nl e, e.tk _ _ h8⟩
end L2

set_option Elab.async false
set_option linter.all false
set_option maxRecDepth 100000
set_option maxHeartbeats 4000000
namespace L2
open PySem PySem.Spec PyProof.Rows
section
variable {X : Cx} {pins : List (Addr × Obj)} {s : Shared} {σ : St} {H : Hp}
end
noncomputable def plnV : V → Bool
  | .int _ => true
  | .str _ => true
  | .bl _ => true
  | _ => false
mutual
noncomputable def NtAt (H : Hp) : Tr → V → Prop
  | .v y, x => x = y ∧ plnV y = true
  | .tup l, x => ∃ p xs, x = .ref p ∧ H p = some (.tup xs) ∧ NtsAt H l xs
  | .lst _, _ => False
noncomputable def NtsAt (H : Hp) : List Tr → List V → Prop
  | [], xs => xs = []
  | t :: l, xs => ∃ x xs', xs = x :: xs' ∧ NtAt H t x ∧ NtsAt H l xs'
end
noncomputable def spAt63 (K : PySem.W.Frag) : Sp := fun vs H Q _ => ∃ (p : Addr) (ns : List Int) (k : Int), vs = [.ref p, .int k] ∧ SqL K H p (ns.map V.int) ∧ 0 ≤ k ∧ k ≤ 1000000 ∧ ∀ m : Int, 0 ≤ m → m < 2147483629 → Q (.int m) H
noncomputable def spDigits : Sp := fun vs H Q _ => ∃ (c : Int) (l : Addr) (ms : List Int), vs = [.int c, .ref l] ∧ H l = some (.lst (ms.map V.int)) ∧ 0 ≤ c ∧ ms.length ≤ 100 ∧ (∀ m ∈ ms, 0 < m ∧ m < 1073741824) ∧ ∀ (r : Addr) (H' : Hp) (ds : List Int), Same H H' → H' r = some (.lst (ds.map V.int)) → ds.length = ms.length → (∀ (i : Nat) (d m : Int), ds[i]? = some d → ms[i]? = some m → 0 ≤ d ∧ d < m) → Q (.ref r) H'
end L2

set_option Elab.async false
set_option linter.all false
set_option maxRecDepth 100000
set_option maxHeartbeats 4000000
namespace L2
open PySem PySem.Spec PyProof.Rows
end L2
namespace PySem
open Builtin
open AutoSeq1 (wpAny_loadPart')
end PySem
namespace L2
open PySem PySem.Spec PyProof.Rows
end L2

set_option linter.all false
namespace Fo
variable {W : Type}
noncomputable abbrev Sw (W : Type) := List Int × Bool × W
noncomputable def swF : F W → List Int → Nat → List (Sw W)
  | .nil, _, _ => []
  | .leaf _ _ rest, p, j => swF rest p (j + 1)
  | .node c w sub rest, p, j => (p ++ [(j : Int)], c, w) :: (swF sub (p ++ [(j : Int)]) 0 ++ swF rest p (j + 1))
end Fo

set_option Elab.async false
set_option linter.all false
set_option maxRecDepth 100000
set_option maxHeartbeats 4000000
namespace PySem
open PySem.Spec PyProof.Rows
open AutoSeq1 (wpAny_loadPart')
end PySem
namespace L2
open PySem PySem.Spec PyProof.Rows
end L2
namespace HU
open PySem PySem.Spec
section
variable {prog : Program} {w : World} {A : Around} {E : Value → Shared → Prop} {s : Shared}
theorem draw_list {it t : Addr} {items : Array Value} (hne : t ≠ it) : ∀ (n i : Nat) (s : Shared) (Q : List Value → Shared → Prop), s.heap.IsListIter it t i → s.heap.IsList t items → i + n ≤ items.size →
    (∀ h', h'.IsListIter it t (i + n) → Heap.SameBut it s.heap h' → Q ((items.toList.drop i).take n) { s with heap := h' }) → wpAny (model prog w) A (draw (.ref it) n) Q E s
  | 0, i, s, Q, hit, _, _, hQ => by
    show wpAny _ _ (pure []) Q E s
    exact wpAny_pure (by simpa using hQ s.heap hit (Heap.SameBut.refl ..))
  | n + 1, i, s, Q, hit, ht, hle, hQ => by
    have hlt : i < items.size := by omega
    show wpAny _ _ (pyNext (.ref it) >>= _) Q E s
    refine wpAny_bind (wpAny_pyNext_list_item hit ht (x := items[i]) (by simp [hlt]) fun h1 hit1 hs1 => ?_)
    refine wpAny_bind (wpAny_holding (draw_list hne n (i + 1) _ _ hit1 (ht.extBut hs1.extBut hne) (by omega) fun h2 hit2 hs2 => wpAny_pure ?_))
    have hd : items.toList.drop i = items[i] :: items.toList.drop (i + 1) := by simp [List.drop_eq_getElem_cons, hlt]
    have := hQ h2 (by rw [show i + (n + 1) = i + 1 + n by omega]; exact hit2) (hs1.trans hs2)
    rw [hd, List.take_succ_cons] at this
    exact this
theorem unpackItems_list {t : Addr} {items : Array Value} {Q : List Value → Shared → Prop} (hh : A.handled = none) (ht : s.heap.IsList t items)
    (hQ : ∀ h', Heap.ExtBut s.heap.objs.size s.heap h' → Q items.toList { s with heap := h' }) : wpAny (model prog w) A (unpackItems (.ref t) items.size none) Q E s := by
  have hlt : t ≠ s.heap.objs.size := by obtain ⟨o, ho, _⟩ := ht; exact Nat.ne_of_lt (Heap.lt_size ho)
  unfold unpackItems
  refine wpAny_bind ?_
  unfold notIterableAtAll
  refine wpAny_bind (wpAny_specialOf ht.typeIs slot_list_iter.lookup ?_)
  refine wpAny_pure ?_
  simp only [Bool.false_eq_true, if_false]
  refine wpAny_bind (wpAny_holding (wpAny_pyIter_list ht ?_))
  refine wpAny_bind (wpAny_holding (draw_list hlt items.size 0 _ _ ⟨_, Heap.get?_push_size _ rfl, rfl, rfl⟩ (ht.push _) (by omega) fun h1 hit1 hs1 => ?_))
  have hall : List.take items.size (List.drop 0 items.toList) = items.toList := by
    rw [List.drop_zero]; exact List.take_of_length_le (by simp)
  rw [hall]
  rw [if_neg (by simp)]
  have ht1 : h1.IsList t items := (ht.push _).extBut hs1.extBut hlt
  refine wpAny_bind (wpAny_holding (wpAny_pyNext_list_end hh hit1 ht1 (by simp) fun h2 he2 => ?_))
  simp only [Option.isSome_none, Bool.false_eq_true, if_false]
  refine wpAny_pure (hQ h2 fun b o hb e => he2 b o hb (hs1.extBut b o hb (Heap.get?_push_of_some _ e)))
theorem assign_Tuple_list {env : Env} {elts : List Expr} {x1} {pos : Pos} {t : Addr} {items : Array Value} {Q : Unit → Shared → Prop} (hh : A.handled = none) (ht : s.heap.IsList t items)
    (hn : (assignEach elts env).length = items.size) (hstar : (assignEach elts env).findIdx? (·.1) = none)
    (h : ∀ h', Heap.ExtBut s.heap.objs.size s.heap h' → wpAny (model prog w) A (assignInOrder ((assignEach elts env).map (·.2)) items.toList) Q E { s with heap := h' }) :
    wpAny (model prog w) A (assign (.Tuple elts x1 pos) env (.ref t)) Q E s := by
  rw [PyProof.Rows.assign_Tuple]
  refine wpAny_bind (wpAny_standAt ?_)
  unfold unpack
  rw [hn, hstar]
  exact wpAny_bind (wpAny_holding (unpackItems_list hh ht h))
end
end HU
namespace L2
open PySem PySem.Spec PyProof.Rows
noncomputable def gLst (n : Nat) (t : TGs) : TG := fun v σ H Q => ∃ a xs, v = .ref a ∧ H a = some (.lst xs) ∧ xs.length = n ∧ t xs σ H Q
theorem pg_lst {X : Cx} {pos : Pos} {es : List Expr} {k : Nat} {t : TGs} {n : Nat} (hc : X.calm = true) (h : PGs X es t)
    (hn : (assignEach es X.env).length = n := by rfl) (hst : (assignEach es X.env).findIdx? (·.1) = none := by rfl) : PG X (.Tuple es k pos) (gLst n t) := by
  intro pins s σ H v u Q I r hw
  obtain ⟨a, xs, e1, hq, hl, hw⟩ := hw
  subst e1
  cases r
  obtain ⟨z, its, m, rv, hl2, e⟩ := I.lstM hq
  refine HU.assign_Tuple_list (I.ok.hd hc) ⟨_, e, rfl, m, rfl⟩ (by simp [hn, ← hl, rv.length]) hst fun h' hx => ?_
  have I1 : Inv X pins σ H { s with heap := h' } := I.kept (t' := s.toks) fun b o e => hx b o (Nat.ne_of_lt (Heap.lt_size e)) e
  exact h pins _ σ H xs _ Q I1 (by simpa using rv) hw
end L2

set_option Elab.async false
set_option linter.all false
set_option maxRecDepth 100000
set_option maxHeartbeats 4000000
namespace L2
open PySem PySem.Spec PyProof.Rows
noncomputable def SwAt (H : Hp) (x : V) (s : Fo.Sw Str) : Prop := ∃ t pt, x = .ref t ∧ H t = some (.tup [.ref pt, .bl s.2.1, .str s.2.2]) ∧ H pt = some (.tup (s.1.map V.int))
theorem SwAt.tk {H H' : Hp} {x : V} {s : Fo.Sw Str} (h : SwAt H x s) (e : TK H H') : SwAt H' x s := by obtain ⟨t, pt, a, b, c⟩ := h; exact ⟨t, pt, a, e _ _ b, e _ _ c⟩
theorem SwAt.over {H H' : Hp} {x : V} {s : Fo.Sw Str} (h : SwAt H x s) (e : Same H H') : SwAt H' x s := h.tk (Same.tk e)
noncomputable def spSweepsP (n : Nat) : Sp := fun vs H Q _ => ∃ (it pa : Addr) (f : Frs) (P : List Int), vs = [.ref it, .ref pa] ∧ FoT H it f ∧ H pa = some (.tup (P.map V.int)) ∧ dep f ≤ n ∧ P.length + n ≤ 100 ∧ (Fo.swF f P 0).length ≤ 1000 ∧ ∀ (r : Addr) (ys : List V) (H' : Hp), Same H H' → H r = none → H' r = some (.lst ys) → All2 (SwAt H') ys (Fo.swF f P 0) → Q (.ref r) H'
noncomputable def spSweepsOf : Sp := fun vs H Q _ => ∃ (it : Addr) (f : Frs), vs = [.ref it] ∧ FoT H it f ∧ dep f ≤ 7 ∧ (Fo.swF f [] 0).length ≤ 1000 ∧ ∀ (r : Addr) (ys : List V) (H' : Hp), Same H H' → H r = none → H' r = some (.lst ys) → All2 (SwAt H') ys (Fo.swF f [] 0) → Q (.ref r) H'
theorem av_tk {H : Hp} {lv : Addr} {xs : List V} (h : H lv = some (.lst xs)) : TK H (av H [lv]) := fun b ys hb => by
  rw [av_ne (by
    intro z
    rw [List.mem_singleton] at z
    rw [z, h] at hb
    cases hb)]
  exact hb
noncomputable def PaAt (H : Hp) (x : V) (p : List Int) : Prop := ∃ t, x = .ref t ∧ H t = some (.tup (p.map V.int))
mutual
theorem NtAt.tr {K : PySem.W.Frag} {H : Hp} : ∀ {t : Tr} {x : V}, NtAt H t x → TrIs K H x t
  | .v y, x, h => by
    rw [NtAt] at h
    obtain ⟨rfl, h⟩ := h
    exact .flat (by cases x <;> first | rfl | cases h)
  | .tup l, x, h => by
    rw [NtAt] at h
    obtain ⟨p, xs, rfl, h0, h1⟩ := h
    exact .tup (SqT.of h0) (NtsAt.tr h1)
  | .lst l, x, h => by rw [NtAt] at h; exact h.elim
theorem NtsAt.tr {K : PySem.W.Frag} {H : Hp} : ∀ {l : List Tr} {xs : List V}, NtsAt H l xs → TrsIs K H xs l
  | [], xs, h => by rw [NtsAt] at h; subst h; exact .nil
  | t :: l, xs, h => by
    rw [NtsAt] at h
    obtain ⟨x, xs', rfl, h0, h1⟩ := h
    exact .cons (NtAt.tr h0) (NtsAt.tr h1)
end
theorem nts_of {α : Type} {H : Hp} {R : V → α → Prop} {g : α → Tr} (h : ∀ x a, R x a → NtAt H (g a) x) : ∀ {ys : List V} {P : List α}, All2 R ys P → NtsAt H (P.map g) ys
  | [], [], _ => by rw [List.map_nil, NtsAt]
  | [], p :: P, z => by have := z.1; cases this
  | y :: ys, [], z => by have := z.1; cases this
  | y :: ys, p :: P, z => by
    rw [List.map_cons, NtsAt]
    exact ⟨y, ys, rfl, h y p (z.2 0 y p rfl rfl), nts_of h ⟨Nat.succ.inj z.1, fun i x a p q => z.2 (i + 1) x a (by simpa using p) (by simpa using q)⟩⟩
theorem depTs_all {n : Nat} : ∀ {l : List Tr}, (∀ t ∈ l, depT t ≤ n) → depTs l ≤ n
  | [], _ => by rw [depTs]; exact Nat.zero_le _
  | t :: l, h => by
    rw [depTs]
    exact Nat.max_le.mpr ⟨h t List.mem_cons_self, depTs_all fun u hu => h u (List.mem_cons_of_mem _ hu)⟩
end L2

set_option linter.all false
namespace Fo
variable {W : Type}
noncomputable def ownP (m : Nat) : List (Int × Int) := (List.range m).map fun e : Nat => ((e : Int), 0)
noncomputable def ownF (up : W) (m : Nat → Nat) : Pw.Fs → F W
  | .nil => .nil
  | .leaf k rest => .leaf (k : Int) (ownP (m k)) (ownF up m rest)
  | .node _ sub rest => .node false up (ownF up m sub) (ownF up m rest)
noncomputable def ownB (up : W) (m sh : Nat → Nat) (k : Nat) : Bo W := ⟨(k : Int), sh k, List.replicate (m k) (false, up), ownP (m k)⟩
structure Row {T S : Type} (D : Nat → Option (Pw.Dd T S)) (m sh : Nat → Nat) (n : Nat) : Prop where
  ml : ∀ k a, k < n → D k = some a → a.loops.length = m k
  has : ∀ k, k < n → ∃ a, D k = some a
  shl : ∀ k, k + 1 < n → sh (k + 1) ≤ m k
  same : ∀ k a b, k + 1 < n → D k = some a → D (k + 1) = some b → (∀ e < sh (k + 1), b.path.getD e 0 = a.path.getD e 0) ∧ b.path.getD (sh (k + 1)) 0 ≠ a.path.getD (sh (k + 1)) 0
theorem range_split {i n k : Nat} {g ns : List Nat} (h : List.range' i n = k :: g ++ ns) : k = i ∧ g = List.range' (i + 1) g.length ∧ ns = List.range' (i + 1 + g.length) ns.length ∧ n = 1 + g.length + ns.length := by
  have l := congrArg List.length h
  rw [List.length_range', List.length_append, List.length_cons] at l
  have e : n = 1 + (g.length + ns.length) := by omega
  rw [e, ← List.range'_append_1, ← List.range'_append_1] at h
  have h : i :: (List.range' (i + 1) g.length ++ List.range' (i + 1 + g.length) ns.length) = k :: (g ++ ns) := h
  obtain ⟨h1, h2⟩ := List.cons.inj h
  obtain ⟨h3, h4⟩ := List.append_inj h2 (by rw [List.length_range'])
  exact ⟨h1.symm, h3.symm, h4.symm, by omega⟩
theorem own_is {T S : Type} {up : W} {D : Nat → Option (Pw.Dd T S)} {m sh : Nat → Nat} {N : Nat} (R : Row D m sh N) : ∀ (f : Pw.Fs) (i n d : Nat), i + n ≤ N → Pw.IsF D f (List.range' i n) d → (∀ k, i < k → k < i + n → d ≤ sh k) → Is (ownF up m f) ((List.range' i n).map (ownB up m sh)) d
  | .nil, i, n, d, hn, h, hd => by
    have h : List.range' i n = [] := h
    rw [h]
    rfl
  | .leaf k rest, i, n, d, hn, h, hd => by
    obtain ⟨ns', a, e, ha, hl, hr⟩ := h
    obtain ⟨rfl, _, e2, e3⟩ := range_split (g := []) (ns := ns') e
    rw [List.length_nil, Nat.add_zero] at e2 e3
    rw [e2] at hr
    have mk := R.ml k a (by omega) ha
    have ih := own_is (up := up) R rest (k + 1) ns'.length d (by omega) hr (fun x h1 h2 => hd x (by omega) (by omega))
    refine ⟨ownB up m sh k, (List.range' (k + 1) ns'.length).map (ownB up m sh), ?_, rfl, rfl, ?_, fun c hc => ?_, ih⟩
    · rw [e3, Nat.add_comm 1, List.range'_succ]
      rfl
    · show (List.replicate (m k) (false, up)).length = d
      rw [List.length_replicate, ← mk, hl]
    · cases hx : ns'.length with
      | zero => rw [hx] at hc; cases hc
      | succ x =>
        rw [hx, List.range'_succ] at hc
        cases hc
        show sh (k + 1) = d
        have := R.shl k (by omega)
        have := hd (k + 1) (by omega) (by omega)
        omega
  | .node k sub rest, i, n, d, hn, h, hd => by
    obtain ⟨g, ns', a, e, ha, hl, hg, hh, hs, hr⟩ := h
    obtain ⟨rfl, e1, e2, e3⟩ := range_split e
    generalize hgl : g.length = gl at e1 e2 e3
    have kg : k :: g = List.range' k (gl + 1) := by rw [e1, List.range'_succ]
    rw [kg] at hs
    rw [e2] at hr
    have mk := R.ml k a (by omega) ha
    -- all of the group have the same number at d
    have pd : ∀ x b, k ≤ x → x < k + 1 + gl → D x = some b → b.path.getD d 0 = a.path.getD d 0 := fun x b h1 h2 hb => by
      rcases Nat.lt_or_ge k x with c | c
      · exact hg x (by rw [e1]; exact List.mem_range'_1.mpr ⟨by omega, by omega⟩) b hb
      · have : x = k := by omega
        subst this
        rw [ha] at hb
        cases hb
        rfl
    have shg : ∀ x, k < x → x < k + 1 + gl → d < sh x := fun x h1 h2 => by
      obtain ⟨y, rfl⟩ : ∃ y, x = y + 1 := ⟨x - 1, by omega⟩
      obtain ⟨b, hb⟩ := R.has y (by omega)
      obtain ⟨c, hc⟩ := R.has (y + 1) (by omega)
      have q := (R.same y b c (by omega) hb hc).2
      have := hd (y + 1) (by omega) (by omega)
      rcases Nat.lt_or_ge d (sh (y + 1)) with z | z
      · exact z
      · have : sh (y + 1) = d := by omega
        rw [this, pd (y + 1) c (by omega) (by omega) hc, pd y b (by omega) (by omega) hb] at q
        exact absurd rfl q
    have i1 := own_is (up := up) R sub k (gl + 1) (d + 1) (by omega) hs (fun x h1 h2 => shg x h1 (by omega))
    have i2 := own_is (up := up) R rest (k + 1 + gl) ns'.length d (by omega) hr (fun x h1 h2 => hd x (by omega) (by omega))
    rw [List.range'_succ] at i1
    refine ⟨ownB up m sh k, (List.range' (k + 1) gl).map (ownB up m sh), (List.range' (k + 1 + gl) ns'.length).map (ownB up m sh), ?_, ?_, fun c hc => ?_, fun c hc => ?_, i1, i2⟩
    · rw [e3, Nat.add_assoc, Nat.add_comm 1, List.range'_succ, ← List.range'_append_1, List.map_cons, List.map_append]
      rfl
    · show (List.replicate (m k) (false, up))[d]? = some (false, up)
      rw [List.getElem?_replicate, if_pos (by omega)]
    · obtain ⟨x, hx, rfl⟩ := List.mem_map.mp hc
      obtain ⟨h1, h2⟩ := List.mem_range'_1.mp hx
      exact shg x (by omega) (by omega)
    · cases hx : ns'.length with
      | zero => rw [hx] at hc; cases hc
      | succ y =>
        rw [hx, List.range'_succ] at hc
        cases hc
        show sh (k + 1 + gl) = d
        obtain ⟨b, hb⟩ := R.has (k + gl) (by omega)
        obtain ⟨c, hc⟩ := R.has (k + 1 + gl) (by omega)
        have hne := hh (k + 1 + gl) c (by rw [e2, hx, List.range'_succ]; rfl) hc
        have hd' := hd (k + 1 + gl) (by omega) (by omega)
        rcases Nat.lt_or_ge d (sh (k + 1 + gl)) with z | z
        · exfalso
          have e4 : k + 1 + gl = k + gl + 1 := by omega
          rw [e4] at hc z
          have q := (R.same (k + gl) b c (by omega) hb hc).1 d z
          rw [pd (k + gl) b (by omega) (by omega) hb] at q
          exact hne q
        · omega
end Fo

set_option Elab.async false
set_option linter.all false
set_option maxRecDepth 100000
set_option maxHeartbeats 4000000
namespace L2
open PySem PySem.Spec PyProof.Rows
section
variable {X : Cx}
theorem call_min3 (hc : X.calm = true) : CallR X (.builtin "min") (fun xs H Q => ∃ i j k, xs = [.int i, .int j, .int k] ∧ Q (.int (if j < i then (if k < j then k else j) else (if k < i then k else i))) H) := by
  intro pins s σ H xs us Q I r h
  obtain ⟨i, j, k, rfl, q⟩ := h
  cases r with
  | cons r1 r =>
    cases r with
    | cons r2 r =>
      cases r with
      | cons r3 r =>
        cases r
        obtain ⟨t1, rfl⟩ := r1
        obtain ⟨t2, rfl⟩ := r2
        obtain ⟨t3, rfl⟩ := r3
        refine min_three_ints (I.ok.hd hc) fun h' tk k' => ⟨_, H, I.kept k', ?_, q⟩
        by_cases h1 : j < i
        · rw [if_pos h1, if_pos h1]
          by_cases h2 : k < j
          · rw [if_pos h2, if_pos h2]; exact ⟨_, rfl⟩
          · rw [if_neg h2, if_neg h2]; exact ⟨_, rfl⟩
        · rw [if_neg h1, if_neg h1]
          by_cases h2 : k < i
          · rw [if_pos h2, if_pos h2]; exact ⟨_, rfl⟩
          · rw [if_neg h2, if_neg h2]; exact ⟨_, rfl⟩
end
noncomputable def mOf (Ds : List Dw) (k : Nat) : Nat := match Ds[k]? with
  | some D => D.loops.length
  | none => 0
theorem mOf_some {Ds : List Dw} {k : Nat} {D : Dw} (h : Ds[k]? = some D) : mOf Ds k = D.loops.length := by unfold mOf; rw [h]
noncomputable abbrev ownT (Ds : List Dw) (f : Pw.Fs) : Frs := Fo.ownF ("up" : Str) (mOf Ds) f
noncomputable def InF (Ds : List Dw) : Pw.Fs → Prop
  | .nil => True
  | .leaf k r => (∃ D, Ds[k]? = some D) ∧ InF Ds r
  | .node _ s r => InF Ds s ∧ InF Ds r
noncomputable def fsz : Pw.Fs → Nat
  | .nil => 0
  | .leaf _ r => fsz r + 1
  | .node _ s r => fsz s + fsz r + 1
theorem fs_len {H : Hp} : ∀ {f : Pw.Fs} {xs : List V}, FsAt H f xs → xs.length ≤ fsz f
  | .nil, xs, h => by have h : xs = [] := h; subst h; exact Nat.le_refl _
  | .leaf k r, xs, h => by
    obtain ⟨t, xs', rfl, _, h1⟩ := h
    have := fs_len h1
    show xs'.length + 1 ≤ fsz r + 1
    omega
  | .node k s r, xs, h => by
    obtain ⟨t, l, ys, xs', rfl, _, _, _, h1⟩ := h
    have := fs_len h1
    show xs'.length + 1 ≤ fsz s + fsz r + 1
    omega
noncomputable def spOwnIt (C : Addr) (c : Cs) (n : Nat) : Sp := fun vs H Q _ => ∃ (dl il : Addr) (Ds : List Dw) (f : Pw.Fs) (xs : List V), vs = [.ref dl, .ref il] ∧ DosAt C c H dl Ds ∧ (∀ D ∈ Ds, D.loops.length ≤ 3) ∧ H il = some (.lst xs) ∧ FsAt H f xs ∧ fdep f < n ∧ InF Ds f ∧ fsz f ≤ 1000 ∧ ∀ (r : Addr) (H' : Hp), Same H H' → FoT H' r (ownT Ds f) → Q (.ref r) H'
noncomputable def spOwnPlan (CP C : Addr) (c : Cs) : Sp := fun vs H Q _ => ∃ (v : V) (n : Int) (Ds : List Dw), vs = [v] ∧ PrgW CP C c H v n Ds ∧ OkD Ds ∧ ∀ (r : Addr) (H' : Hp) (f : Pw.Fs), Same H H' → FoT H' r (ownT Ds f) → Pw.IsF (getD Ds) f (List.range Ds.length) 0 → Q (.ref r) H'
theorem app_one {W : Type} : ∀ (f g h : Fo.F W), Fo.app (Fo.app f g) h = Fo.app f (Fo.app g h)
  | .nil, g, h => rfl
  | .leaf k pl r, g, h => by show Fo.F.leaf k pl _ = _; rw [app_one r g h]; rfl
  | .node c w s r, g, h => by show Fo.F.node c w s _ = _; rw [app_one r g h]; rfl
theorem app_nil {W : Type} : ∀ (f : Fo.F W), Fo.app f .nil = f
  | .nil => rfl
  | .leaf k pl r => by show Fo.F.leaf k pl (Fo.app r .nil) = _; rw [app_nil r]
  | .node c w s r => by show Fo.F.node c w s (Fo.app r .nil) = _; rw [app_nil r]
theorem own_snoc (m i : Nat) (h : i < m) : (Fo.ownP m).take (i + 1) = (Fo.ownP m).take i ++ [((i : Int), 0)] := by
  refine take_snoc ?_
  unfold Fo.ownP
  rw [List.getElem?_map, List.getElem?_range h]
  rfl
theorem own_len (m : Nat) : (Fo.ownP m).length = m := by unfold Fo.ownP; rw [List.length_map, List.length_range]
noncomputable def fcnt : Frs → Nat
  | .nil => 0
  | .leaf _ _ r => fcnt r + 1
  | .node _ _ s r => fcnt s + fcnt r + 1
theorem nt1 {H : Hp} {y : V} (h : plnV y = true) : NtAt H (.v y) y := by rw [NtAt]; exact ⟨rfl, h⟩
theorem fcnt_le : ∀ (f : Frs) (B : List Bgh) (d n : Nat), Fo.Is f B d → (∀ b ∈ B, b.ways.length ≤ d + n) → fcnt f ≤ (n + 1) * B.length
  | .nil, B, d, n, h, _ => Nat.zero_le _
  | .leaf k pl rest, B, d, n, h, hn => by
    obtain ⟨b, B', rfl, _, _, _, _, hr⟩ := h
    have := fcnt_le rest B' d n hr fun b hb => hn b (List.mem_cons_of_mem _ hb)
    show fcnt rest + 1 ≤ (n + 1) * (B'.length + 1)
    rw [Nat.mul_add]
    omega
  | .node c w sub rest, B, d, n, h, hn => by
    obtain ⟨b, G, B', rfl, hw, _, _, hs, hr⟩ := h
    have l := (List.getElem?_eq_some_iff.mp hw).1
    have l2 := hn b (List.mem_append_left _ List.mem_cons_self)
    obtain ⟨n, rfl⟩ : ∃ m, n = m + 1 := ⟨n - 1, by omega⟩
    have i1 := fcnt_le sub (b :: G) (d + 1) n hs fun b hb => by have := hn b (List.mem_append_left _ hb); omega
    have i2 := fcnt_le rest B' d (n + 1) hr fun b hb => hn b (List.mem_append_right _ hb)
    show fcnt sub + fcnt rest + 1 ≤ (n + 1 + 1) * ((b :: G) ++ B').length
    rw [List.length_append, Nat.mul_add]
    have e : (n + 1 + 1) * (b :: G).length = (n + 1) * (b :: G).length + (b :: G).length := Nat.succ_mul _ _
    rw [e, List.length_cons] at *
    omega
noncomputable abbrev ownBs (Ds : List Dw) (sh : Nat → Nat) : List Bgh := (List.range Ds.length).map (Fo.ownB ("up" : Str) (mOf Ds) sh)
theorem inF_of {Ds : List Dw} : ∀ {f : Pw.Fs} {ns : List Nat} {d : Nat}, Pw.IsF (getD Ds) f ns d → (∀ D ∈ Ds, D.loops.length ≤ 3) → d ≤ 4 → InF Ds f ∧ fsz f ≤ (5 - d) * ns.length
  | .nil, ns, d, h, _, _ => ⟨True.intro, Nat.zero_le _⟩
  | .leaf k r, ns, d, h, h3, hd => by
    obtain ⟨ns', a, rfl, ha, hl, hr⟩ := h
    obtain ⟨i1, i2⟩ := inF_of hr h3 hd
    obtain ⟨D, hD, rfl⟩ := getD_inv ha
    refine ⟨⟨⟨D, hD⟩, i1⟩, ?_⟩
    have m3 := h3 D (List.mem_of_getElem? hD)
    have hl : D.loops.length = d := hl
    show fsz r + 1 ≤ (5 - d) * (ns'.length + 1)
    rw [Nat.mul_add]
    omega
  | .node k s r, ns, d, h, h3, hd => by
    obtain ⟨g, ns', a, rfl, ha, hl, _, _, hs, hr⟩ := h
    obtain ⟨D, hD, rfl⟩ := getD_inv ha
    have m3 := h3 D (List.mem_of_getElem? hD)
    have hl : d < D.loops.length := hl
    obtain ⟨i1, i2⟩ := inF_of hs h3 (by omega)
    obtain ⟨j1, j2⟩ := inF_of hr h3 hd
    refine ⟨⟨i1, j1⟩, ?_⟩
    show fsz s + fsz r + 1 ≤ (5 - d) * (k :: g ++ ns').length
    rw [List.length_append, Nat.mul_add]
    have e : (5 - d) * (k :: g).length = (5 - (d + 1)) * (k :: g).length + (k :: g).length := by
      rw [show 5 - d = (5 - (d + 1)) + 1 by omega, Nat.succ_mul]
    rw [e, List.length_cons] at *
    omega
end L2
namespace L2
open PySem PySem.Spec PyProof.Rows
end L2
namespace L2
open PySem PySem.Spec PyProof.Rows
end L2
namespace L2
open PySem PySem.Spec PyProof.Rows
theorem MR.isIn (K : PySem.W.Frag) (n : Bool) : MR (rIn K n) := fun x y H Q Q' hq ⟨p, xs, a, b, c, d, e⟩ => ⟨p, xs, a, b, c, d, hq _ _ e⟩
theorem ME.comp {ρ : List (Option Nat)} {wi : TI} {g : TG} {tt : TT} {te : TE} (hw : ∀ σ H R R', (∀ J H1, R J H1 → R' J H1) → wi σ H R → wi σ H R') : ME (tComp ρ wi g tt te) := fun σ H Q Q' hq h =>
  hw _ _ _ _ (fun J H1 ⟨W, h0, h1⟩ => ⟨W, h0, fun i m ys H' w => (h1 i m ys H' w).imp (fun ⟨a, b, c⟩ => ⟨a, b, fun p hp => hq _ _ (c p hp)⟩) id⟩) h
structure Lq where
  nm : Str
  lo : Str × Int
  hi : Str × Int
  fi : Int
  la : Int
noncomputable def LqAt (H : Hp) (x : V) (q : Lq) : Prop := ∃ t a b, x = .ref t ∧ H t = some (.tup [.str q.nm, .ref a, .ref b, .int q.fi, .int q.la]) ∧ H a = some (.tup [.str q.lo.1, .int q.lo.2]) ∧ H b = some (.tup [.str q.hi.1, .int q.hi.2])
theorem LqAt.tk {H H' : Hp} {x : V} {q : Lq} (h : LqAt H x q) (e : TK H H') : LqAt H' x q := by obtain ⟨t, a, b, r, h0, h1, h2⟩ := h; exact ⟨t, a, b, r, e _ _ h0, e _ _ h1, e _ _ h2⟩
theorem LqAt.over {H H' : Hp} {x : V} {q : Lq} (h : LqAt H x q) (e : Same H H') : LqAt H' x q := h.tk (Same.tk e)
structure Lq.Ok (q : Lq) (j : Nat) : Prop where
  n : q.nm.length ≤ 10
  l : q.lo.1.length ≤ 10
  h : q.hi.1.length ≤ 10
  l2 : -100 ≤ q.lo.2 ∧ q.lo.2 ≤ 100
  h2 : -100 ≤ q.hi.2 ∧ q.hi.2 ≤ 100
  f : -(10 * ((j : Int) + 1)) ≤ q.fi ∧ q.fi ≤ 10 * ((j : Int) + 1)
  a : -(10 * ((j : Int) + 1)) ≤ q.la ∧ q.la ≤ 10 * ((j : Int) + 1)
noncomputable def LqsAt (H : Hp) (ll : Addr) (L : List Lq) : Prop := ∃ xs, H ll = some (.lst xs) ∧ All2 (LqAt H) xs L
theorem LqsAt.over {H H' : Hp} {ll : Addr} {L : List Lq} (h : LqsAt H ll L) (e : Same H H') : LqsAt H' ll L := by obtain ⟨xs, a, b⟩ := h; exact ⟨xs, e _ _ a, b.mono fun _ _ z => z.over e⟩
noncomputable def OkL (L : List Lq) : Prop := ∀ (j : Nat) (q : Lq), L[j]? = some q → q.Ok j
noncomputable def qT (q : Lq) : Tr := .tup [.v (.str q.nm), .tup [.v (.str q.lo.1), .v (.int q.lo.2)], .tup [.v (.str q.hi.1), .v (.int q.hi.2)], .v (.int q.fi), .v (.int q.la)]
theorem qT_nt {H : Hp} {x : V} {q : Lq} (h : LqAt H x q) : NtAt H (qT q) x := by
  obtain ⟨t, a, b, rfl, h0, h1, h2⟩ := h
  have pr : ∀ {p : Addr} {s : Str × Int}, H p = some (.tup [.str s.1, .int s.2]) → NtAt H (.tup [.v (.str s.1), .v (.int s.2)]) (.ref p) := fun {p s} h => by
    rw [NtAt]
    refine ⟨p, _, rfl, h, ?_⟩
    rw [NtsAt]
    refine ⟨_, _, rfl, nt1 rfl, ?_⟩
    rw [NtsAt]
    exact ⟨_, _, rfl, nt1 rfl, by rw [NtsAt]⟩
  rw [qT, NtAt]
  refine ⟨t, _, rfl, h0, ?_⟩
  rw [NtsAt]
  refine ⟨_, _, rfl, nt1 rfl, ?_⟩
  rw [NtsAt]
  refine ⟨_, _, rfl, pr h1, ?_⟩
  rw [NtsAt]
  refine ⟨_, _, rfl, pr h2, ?_⟩
  rw [NtsAt]
  refine ⟨_, _, rfl, nt1 rfl, ?_⟩
  rw [NtsAt]
  exact ⟨_, _, rfl, nt1 rfl, by rw [NtsAt]⟩
theorem qs_tr {K : PySem.W.Frag} {H : Hp} {p : Addr} {xs : List V} {L : List Lq} (hp : H p = some (.lst xs)) (h : All2 (LqAt H) xs L) : TrIs K H (.ref p) (.lst (L.map qT)) := .lst (SqL.of hp) (nts_of (fun _ _ z => qT_nt z) h).tr
theorem qs_sim : ∀ A B : List Lq, simTs (A.map qT) (B.map qT) = true
  | [], B => by cases B <;> rfl
  | a :: A, [] => rfl
  | a :: A, b :: B => by
    rw [List.map_cons, List.map_cons, simTs, qs_sim A B]
    rfl
theorem qs_dep (L : List Lq) : depTs (L.map qT) ≤ 2 := depTs_all fun t ht => by
  obtain ⟨q, _, rfl⟩ := List.mem_map.mp ht
  simp [qT, depT, depTs]
noncomputable def grow (z : Str) : Nat → Str
  | 0 => z
  | i + 1 => grow z i ++ "q"
theorem grow_len (z : Str) : ∀ i, (grow z i).length = z.length + i
  | 0 => rfl
  | i + 1 => by
    have e : ("q" : Str).length = 1 := by decide +kernel
    show (grow z i ++ "q").length = _
    rw [sLen, grow_len z i, e]
    omega
theorem grow_few {z : Str} {ns : List Str} {i : Nat} (h : ∀ j < i, grow z j ∈ ns) : i ≤ ns.length := by
  have nd : ((List.range i).map (grow z)).Nodup := by
    rw [List.nodup_iff_pairwise_ne, List.pairwise_map]
    refine List.Pairwise.imp (fun {a b} h e => h ?_) (List.nodup_range : (List.range i).Nodup)
    have := congrArg Str.length e
    rw [grow_len, grow_len] at this
    omega
  have := nodup_le nd (k := ns) fun x hx => by
    obtain ⟨j, hj, rfl⟩ := List.mem_map.mp hx
    exact h j (List.mem_range.mp hj)
  rwa [List.length_map, List.length_range] at this
theorem inV_ss (z : Str) (ns : List Str) : inV (.str z) (ns.map V.str) = true ↔ z ∈ ns := by
  unfold inV
  rw [List.any_eq_true]
  constructor
  · rintro ⟨y, hy, e⟩
    obtain ⟨n, hn, rfl⟩ := List.mem_map.mp hy
    have e : (n == z) = true := e
    rw [← beq_iff_eq.mp e]
    exact hn
  · intro h
    exact ⟨.str z, List.mem_map.mpr ⟨z, h, rfl⟩, beq_self_eq_true z⟩
theorem LqAt.made {H : Hp} {a b r : Addr} {nm z1 z2 : Str} {n1 n2 f l : Int} (ha : H a = none) (hb : (upd H a (.tup [.str z1, .int n1])) b = none) (hr : (upd (upd H a (.tup [.str z1, .int n1])) b (.tup [.str z2, .int n2])) r = none) :
    Same H (upd (upd (upd H a (.tup [.str z1, .int n1])) b (.tup [.str z2, .int n2])) r (.tup [.str nm, .ref a, .ref b, .int f, .int l])) ∧ LqAt (upd (upd (upd H a (.tup [.str z1, .int n1])) b (.tup [.str z2, .int n2])) r (.tup [.str nm, .ref a, .ref b, .int f, .int l])) (.ref r) ⟨nm, (z1, n1), (z2, n2), f, l⟩ := by
  have s1 := same_new ha (.tup [.str z1, .int n1])
  have s2 := same_new hb (.tup [.str z2, .int n2])
  have s3 := same_new hr (.tup [.str nm, .ref a, .ref b, .int f, .int l])
  exact ⟨(s1.trans s2).trans s3, r, a, b, rfl, upd_same, (s2.trans s3) _ _ upd_same, s3 _ _ upd_same⟩
theorem one_len (c : Nat) : (⟨#[c]⟩ : Str).length = 1 := rfl
theorem mul_len (c : Nat) (n : Int) : (Txt.mul ⟨#[c]⟩ n).length = n.toNat := by rw [← cds_len, cds_mul_one, List.length_replicate]
end L2

set_option Elab.async false
set_option linter.all false
set_option maxRecDepth 100000
set_option maxHeartbeats 4000000
namespace L2
open PySem PySem.Spec PyProof.Rows
noncomputable def LqB (j : Nat) (n1 n2 f l : Int) : Prop := (-100 ≤ n1 ∧ n1 ≤ 100) ∧ (-100 ≤ n2 ∧ n2 ≤ 100) ∧ (-(10 * ((j : Int) + 1)) ≤ f ∧ f ≤ 10 * ((j : Int) + 1)) ∧ -(10 * ((j : Int) + 1)) ≤ l ∧ l ≤ 10 * ((j : Int) + 1)
theorem lq_ok {nm z1 z2 : Str} {n1 n2 f l : Int} {j : Nat} (h : LqB j n1 n2 f l) (a : nm.length ≤ 10) (b : z1.length ≤ 10) (c : z2.length ≤ 10) : Lq.Ok ⟨nm, (z1, n1), (z2, n2), f, l⟩ j := ⟨a, b, c, h.1, h.2.1, h.2.2.1, h.2.2.2⟩
theorem lq0 {x y u : Int} {j : Nat} (hx : 0 ≤ x ∧ x < 5) (hy : 0 ≤ y ∧ y ≤ 2) (hu : 0 ≤ u ∧ u ≤ 3) : LqB j (x - 2) (x - 2 + y - u) (x - 2) (x - 2 + y - u) := by unfold LqB; omega
theorem lq1 {x u f l : Int} {i j : Nat} (hx : 0 ≤ x ∧ x < 5) (hu : -2 ≤ u ∧ u ≤ 1) (hi : i < j) (hj : j ≤ 2) (hf : -(10 * ((i : Int) + 1)) ≤ f ∧ f ≤ 10 * ((i : Int) + 1)) (hl : -(10 * ((i : Int) + 1)) ≤ l ∧ l ≤ 10 * ((i : Int) + 1)) : LqB j (x - 2) (x - 2 + u) (f + (x - 2)) (l + (x - 2) + u) := by unfold LqB; omega
theorem lq2 {x u f l : Int} {i j : Nat} (hx : 0 ≤ x ∧ x < 5) (hu : u = 0 ∨ u = 1) (hi : i < j) (hj : j ≤ 2) (hf : -(10 * ((i : Int) + 1)) ≤ f ∧ f ≤ 10 * ((i : Int) + 1)) (hl : -(10 * ((i : Int) + 1)) ≤ l ∧ l ≤ 10 * ((i : Int) + 1)) : LqB j (x - 2) (l + (x - 2) - u) (f + (x - 2)) (l + (x - 2) - u) := by unfold LqB; omega
theorem lq3 {x f l : Int} {i j : Nat} (hx : 0 ≤ x ∧ x < 5) (hi : i < j) (hj : j ≤ 2) (hf : -(10 * ((i : Int) + 1)) ≤ f ∧ f ≤ 10 * ((i : Int) + 1)) (hl : -(10 * ((i : Int) + 1)) ≤ l ∧ l ≤ 10 * ((i : Int) + 1)) : LqB j (f + (x - 2)) (x - 2) (f + (x - 2)) (l + (x - 2)) := by unfold LqB; omega
theorem lq4 {x y f l : Int} {i k j : Nat} (hx : 0 ≤ x ∧ x < 5) (hy : 0 ≤ y ∧ y < 3) (hi : i < j) (hk : k < j) (hj : j ≤ 2) (hf : -(10 * ((i : Int) + 1)) ≤ f ∧ f ≤ 10 * ((i : Int) + 1)) (hl : -(10 * ((k : Int) + 1)) ≤ l ∧ l ≤ 10 * ((k : Int) + 1)) : LqB j (x - 2) (f + (x - 2) + 1 + y - l) (f + (x - 2)) (f + (x - 2) + 1 + y) := by unfold LqB; omega
theorem if_els {tt : TT} {ta tb : TS} {D : Ends} {σ : St} {H : Hp} (M : Hp → Prop) (hb : ∀ H', M H' → tb D σ H') (h : (∀ H', M H' → tb D σ H') → tIfS tt ta tb D σ H) : tIfS tt ta tb D σ H := h hb
structure Dq where
  L : List Lq
  path : List Int
  sh : Nat
noncomputable def DqAt (H : Hp) (x : V) (D : Dq) : Prop := ∃ t o pt, x = .ref t ∧ H t = some (.tup [.ref o, .ref pt, .int (D.sh : Int)]) ∧ LqsAt H o D.L ∧ H pt = some (.tup (D.path.map V.int))
theorem DqAt.over {H H' : Hp} {x : V} {D : Dq} (h : DqAt H x D) (e : Same H H') : DqAt H' x D := by obtain ⟨t, o, pt, r, h0, h1, h2⟩ := h; exact ⟨t, o, pt, r, e _ _ h0, h1.over e, e _ _ h2⟩
structure Dq.Ok (D : Dq) : Prop where
  ok : OkL D.L
  ll : D.L.length ≤ 3
  pl : D.path.length = D.L.length + 1
  sl : D.sh ≤ D.L.length
noncomputable def Nx (a b : Dq) : Prop := b.sh ≤ a.L.length ∧ a.L.take b.sh = b.L.take b.sh ∧ a.path.take b.sh = b.path.take b.sh ∧ a.path.getD b.sh 0 ≠ b.path.getD b.sh 0
structure RowQ (Ds : List Dq) : Prop where
  ok : ∀ D ∈ Ds, D.Ok
  nx : ∀ (i : Nat) (a b : Dq), Ds[i]? = some a → Ds[i + 1]? = some b → Nx a b
theorem RowQ.nil : RowQ [] := ⟨fun D h => (by cases h), fun i a b h => (by cases h)⟩
theorem RowQ.snoc {Ds : List Dq} {D : Dq} (h : RowQ Ds) (hD : D.Ok) (hn : ∀ a, Ds.getLast? = some a → Nx a D) : RowQ (Ds ++ [D]) := by
  refine ⟨fun x hx => ?_, fun i a b h1 h2 => ?_⟩
  · rcases List.mem_append.mp hx with z | z
    · exact h.ok x z
    · rw [List.mem_singleton.mp z]; exact hD
  · have l2 := (List.getElem?_eq_some_iff.mp h2).1
    rw [List.length_append, List.length_singleton] at l2
    rw [List.getElem?_append_left (by omega)] at h1
    rcases Nat.lt_or_ge (i + 1) Ds.length with z | z
    · rw [List.getElem?_append_left z] at h2
      exact h.nx i a b h1 h2
    · have e : i + 1 = Ds.length := by omega
      rw [e, List.getElem?_append_right (Nat.le_refl _), Nat.sub_self] at h2
      cases h2
      refine hn a ?_
      rw [List.getLast?_eq_getElem?, show Ds.length - 1 = i by omega]
      exact h1
theorem RowQ.tail {a : Dq} {A : List Dq} (h : RowQ (a :: A)) : RowQ A := ⟨fun x hx => h.ok x (List.mem_cons_of_mem _ hx), fun i x y h1 h2 => h.nx (i + 1) x y h1 h2⟩
theorem cutN62 (xs : List V) (n : Nat) : cutV xs none (some (n : Int)) = xs.take n := by
  have h : cutV xs none (some (n : Int)) = xs.take (n : Int).toNat := cut_to _ (by omega)
  rw [h, Int.toNat_natCast]
theorem LqsAt.av {H : Hp} {fo ll : Addr} {xs : List V} {L : List Lq} (h : LqsAt H ll L) (hl : H fo = some (.lst xs)) (hn : ll ≠ fo) : LqsAt (av H [fo]) ll L := by
  obtain ⟨ys, h1, h2⟩ := h
  exact ⟨ys, by rw [av_ne (by rw [List.mem_singleton]; exact hn)]; exact h1, h2.mono fun _ _ z => z.tk (av_tk hl)⟩
theorem seven {x : Int} (h0 : 0 ≤ x) (h1 : x < 7) : ∃ v : Int, atI [V.int 2, V.int 1, V.int 3, V.int 2, V.int 0, V.int 1, V.int 2] x = some (.int v) ∧ 0 ≤ v ∧ v ≤ 3 := by
  have : x = 0 ∨ x = 1 ∨ x = 2 ∨ x = 3 ∨ x = 4 ∨ x = 5 ∨ x = 6 := by omega
  rcases this with rfl | rfl | rfl | rfl | rfl | rfl | rfl
  · exact ⟨2, rfl, by decide, by decide⟩
  · exact ⟨1, rfl, by decide, by decide⟩
  · exact ⟨3, rfl, by decide, by decide⟩
  · exact ⟨2, rfl, by decide, by decide⟩
  · exact ⟨0, rfl, by decide, by decide⟩
  · exact ⟨1, rfl, by decide, by decide⟩
  · exact ⟨2, rfl, by decide, by decide⟩
theorem next_path {p q : List Int} {c : Nat} {v : Int} (hc : p[c]? = some v) (hq : q.take (c + 1) = p.take c ++ [v + 1]) : p.take c = q.take c ∧ p.getD c 0 ≠ q.getD c 0 := by
  have lc := (List.getElem?_eq_some_iff.mp hc).1
  have h1 : q.take c = p.take c := by
    have := congrArg (List.take c) hq
    rw [List.take_take, show min c (c + 1) = c by omega, List.take_append_of_le_length (by rw [List.length_take]; omega), List.take_take, Nat.min_self] at this
    exact this
  refine ⟨h1.symm, ?_⟩
  have h2 : q[c]? = some (v + 1) := by
    have := congrArg (fun l : List Int => l[c]?) hq
    simp only [List.getElem?_take_of_lt (Nat.lt_succ_self c)] at this
    rw [this, List.getElem?_append_right (by rw [List.length_take]; omega), List.length_take, show c - min c p.length = 0 by omega]
    rfl
  rw [List.getD_eq_getElem?_getD, List.getD_eq_getElem?_getD, hc, h2]
  show v ≠ v + 1
  omega
noncomputable def toldS (b : Int) (s : Str × Int) : Str × Int := if s.1 = "" then ("", s.2 + b) else (s.1, s.2)
noncomputable def spTold62 : Sp := fun vs H Q _ => ∃ (x : V) (b : Int) (s : Str × Int), vs = [x, .int 1, .int b] ∧ SpoAt H x s ∧ ∀ (r : V) (H' : Hp), Same H H' → SpoAt H' r (toldS b s) → Q r H'
noncomputable def lpOf (b : Int) (q : Lq) : LpT := ⟨q.nm, toldS b q.lo, toldS b q.hi⟩
noncomputable def dwOf (b : Int) (D : Dq) : Dw := ⟨D.L.map (lpOf b), "a", [("", 0)], .n 1, D.path⟩
noncomputable def spToldD62 (C : Addr) (c : Cs) : Sp := fun vs H Q _ => ∃ (l : Addr) (b : Int) (xs : List V) (Ds : List Dq), vs = [.ref l, .int 1, .int b] ∧ H l = some (.lst xs) ∧ All2 (DqAt H) xs Ds ∧ Ds.length ≤ 6 ∧ (∀ D ∈ Ds, D.L.length ≤ 3) ∧ ∀ (r : Addr) (ys : List V) (H' : Hp), Same H H' → H' r = some (.lst ys) → All2 (DoAt C c H') ys (Ds.map (dwOf b)) → Q (.ref r) H'
theorem toldS_ok {b : Int} {s : Str × Int} (h1 : s.1.length ≤ 10) (h2 : -100 ≤ s.2 ∧ s.2 ≤ 100) (b0 : 0 ≤ b) (b1 : b ≤ 100000000000000000) : SpB (toldS b s) := by
  unfold toldS
  split
  · exact ⟨by rw [show ("" : Str).length = 0 from rfl]; decide, by show _ ≤ s.2 + b; omega, by show s.2 + b ≤ _; omega⟩
  · exact ⟨by show s.1.length ≤ 20; omega, by show _ ≤ s.2; omega, by show s.2 ≤ _; omega⟩
theorem dw_ok {b : Int} {D : Dq} (h : D.Ok) (b0 : 0 ≤ b) (b1 : b ≤ 100000000000000000) : (dwOf b D).Ok := by
  refine ⟨fun t ht => ?_, ?_, ?_, ?_, ?_, ?_⟩
  · obtain ⟨q, hq, rfl⟩ := List.mem_map.mp ht
    obtain ⟨j, hj⟩ := List.mem_iff_getElem?.mp hq
    have ok := h.ok j q hj
    exact ⟨by show q.nm.length ≤ 20; have := ok.n; omega, toldS_ok ok.l ok.l2 b0 b1, toldS_ok ok.h ok.h2 b0 b1⟩
  · show (D.L.map _).length ≤ 3
    rw [List.length_map]
    exact h.ll
  · show D.path.length = (D.L.map _).length + 1
    rw [List.length_map]
    exact h.pl
  · refine ⟨by show ("a" : Str).length ≤ 20; decide +kernel, by show 1 ≤ 3; decide, fun s hs => ?_⟩
    rw [List.mem_singleton.mp hs]
    exact ⟨by show ("" : Str).length ≤ 20; decide +kernel, by show _ ≤ (0 : Int); decide, by show (0 : Int) ≤ _; decide⟩
  · exact ⟨by decide, by decide⟩
  · show 1 ≤ 5
    decide
theorem sh_of {b : Int} {x y : Dq} (hx : x.Ok) (hy : y.Ok) (h : Nx x y) : Pw.Sh (dwOf b x).dd (dwOf b y).dd y.sh := by
  obtain ⟨h1, h2, h3, h4⟩ := h
  refine ⟨?_, ?_, ?_, h3, h4⟩
  · show y.sh ≤ (x.L.map _).length
    rw [List.length_map]; exact h1
  · show y.sh ≤ (y.L.map _).length
    rw [List.length_map]; exact hy.sl
  · show (x.L.map _).take y.sh = (y.L.map _).take y.sh
    rw [← List.map_take, ← List.map_take, h2]
theorem cc_of {b : Int} : ∀ {Ds : List Dq}, RowQ Ds → Pw.CC 0 ((Ds.map (dwOf b)).map Dw.dd)
  | [], h => True.intro
  | [a], h => Nat.zero_le _
  | x :: y :: Ds, h => ⟨⟨y.sh, Nat.zero_le _, sh_of (h.ok x List.mem_cons_self) (h.ok y (List.mem_cons_of_mem _ List.mem_cons_self)) (h.nx 0 x y rfl rfl)⟩, cc_of (Ds := y :: Ds) h.tail⟩
noncomputable def shQ (Ds : List Dq) (k : Nat) : Nat := match Ds[k]? with
  | some D => D.sh
  | none => 0
theorem shQ_some {Ds : List Dq} {k : Nat} {D : Dq} (h : Ds[k]? = some D) : shQ Ds k = D.sh := by unfold shQ; rw [h]
theorem mOfQ {b : Int} {Ds : List Dq} {k : Nat} {D : Dq} (h : Ds[k]? = some D) : mOf (Ds.map (dwOf b)) k = D.L.length := by
  rw [mOf_some (D := dwOf b D) (by rw [List.getElem?_map, h]; rfl)]
  show (D.L.map _).length = _
  rw [List.length_map]
theorem getQ {b : Int} {Ds : List Dq} {k : Nat} {a : Pw.Dd LpT Str} (h : getD (Ds.map (dwOf b)) k = some a) : ∃ D, Ds[k]? = some D ∧ (dwOf b D).dd = a := by
  obtain ⟨D, hD, rfl⟩ := getD_inv h
  rw [List.getElem?_map] at hD
  cases e : Ds[k]? with
  | none => rw [e] at hD; cases hD
  | some q => rw [e] at hD; cases hD; exact ⟨q, rfl, rfl⟩
theorem row_of {b : Int} {Ds : List Dq} (h : RowQ Ds) : Fo.Row (getD (Ds.map (dwOf b))) (mOf (Ds.map (dwOf b))) (shQ Ds) Ds.length := by
  refine ⟨fun k a hk ha => ?_, fun k hk => ?_, fun k hk => ?_, fun k a c hk ha hc => ?_⟩
  · obtain ⟨D, hD, rfl⟩ := getQ ha
    rw [mOfQ hD]
    show (D.L.map _).length = _
    rw [List.length_map]
  · exact ⟨_, getD_some (D := dwOf b Ds[k]) (by rw [List.getElem?_map, List.getElem?_eq_getElem hk]; rfl)⟩
  · have h1 : Ds[k]? = some Ds[k] := List.getElem?_eq_getElem (by omega)
    have h2 : Ds[k + 1]? = some Ds[k + 1] := List.getElem?_eq_getElem hk
    rw [shQ_some h2, mOfQ h1]
    exact (h.nx k _ _ h1 h2).1
  · obtain ⟨D, hD, rfl⟩ := getQ ha
    obtain ⟨D2, hD2, rfl⟩ := getQ hc
    rw [shQ_some hD2]
    obtain ⟨_, _, h3, h4⟩ := h.nx k _ _ hD hD2
    exact ⟨fun e he => (Pw.take_getD h3 he).symm, fun z => h4 z.symm⟩
noncomputable abbrev bq (b : Int) (Ds : List Dq) : List Bgh := ownBs (Ds.map (dwOf b)) (shQ Ds)
theorem bq_len (b : Int) (Ds : List Dq) : (bq b Ds).length = Ds.length := by rw [List.length_map, List.length_range, List.length_map]
theorem bq_get {b : Int} {Ds : List Dq} {i : Nat} {D : Dq} (h : Ds[i]? = some D) : (bq b Ds)[i]? = some ⟨(i : Int), D.sh, List.replicate D.L.length (false, ("up" : Str)), Fo.ownP D.L.length⟩ := by
  have hi := (List.getElem?_eq_some_iff.mp h).1
  rw [List.getElem?_map, List.getElem?_range (by rw [List.length_map]; exact hi)]
  show some (Fo.ownB _ _ _ _) = _
  unfold Fo.ownB
  rw [mOfQ h, shQ_some h]
theorem bq_inv {b : Int} {Ds : List Dq} {i : Nat} {c : Bgh} (h : (bq b Ds)[i]? = some c) : ∃ D, Ds[i]? = some D ∧ c = ⟨(i : Int), D.sh, List.replicate D.L.length (false, ("up" : Str)), Fo.ownP D.L.length⟩ := by
  have hi := (List.getElem?_eq_some_iff.mp h).1
  rw [bq_len] at hi
  have h1 : Ds[i]? = some Ds[i] := List.getElem?_eq_getElem hi
  refine ⟨_, h1, ?_⟩
  rw [bq_get h1] at h
  cases h
  rfl
noncomputable def OwnA (B : List Bgh) : Prop := ∀ b ∈ B, b.pl = Fo.ownP b.ways.length ∧ ∀ w ∈ b.ways, w = (false, ("up" : Str))
theorem bq_own (b : Int) (Ds : List Dq) : OwnA (bq b Ds) := fun c hc => by
  obtain ⟨k, _, rfl⟩ := List.mem_map.mp hc
  refine ⟨?_, fun w hw => (List.mem_replicate.mp hw).2⟩
  show Fo.ownP _ = Fo.ownP (List.replicate _ _).length
  rw [List.length_replicate]
theorem bq_from {b : Int} {Ds : List Dq} (h : RowQ Ds) (n : Ds.length ≤ 6) : From (bq b Ds) 0 3 := by
  have mem : ∀ c ∈ bq b Ds, ∃ D : Dq, D.Ok ∧ c.sh = D.sh ∧ c.ways = List.replicate D.L.length (false, ("up" : Str)) ∧ c.pl = Fo.ownP D.L.length := fun c hc => by
    obtain ⟨i, hi⟩ := List.mem_iff_getElem?.mp hc
    obtain ⟨D, hD, rfl⟩ := bq_inv hi
    exact ⟨D, h.ok D (List.mem_of_getElem? hD), rfl, rfl, rfl⟩
  refine ⟨⟨fun c hc => ?_, fun i x y hx hy => ?_⟩, fun _ _ _ => Nat.zero_le _, fun _ _ => Nat.zero_le _, fun c hc => ?_, fun c hc => ?_, by rw [bq_len]; exact n⟩
  · obtain ⟨D, hD, e1, e2, _⟩ := mem c hc
    rw [e1, e2, List.length_replicate]
    exact hD.sl
  · obtain ⟨D, hD, rfl⟩ := bq_inv hx
    obtain ⟨D2, hD2, rfl⟩ := bq_inv hy
    have nx := h.nx i D D2 hD hD2
    have sl := (h.ok D2 (List.mem_of_getElem? hD2)).sl
    have n1 := nx.1
    show D2.sh ≤ (List.replicate _ _).length ∧ (List.replicate _ _).take D2.sh = (List.replicate _ _).take D2.sh
    rw [List.length_replicate, List.take_replicate, List.take_replicate, Nat.min_eq_left sl, Nat.min_eq_left n1]
    exact ⟨n1, rfl⟩
  · obtain ⟨D, hD, e1, e2, _⟩ := mem c hc
    rw [e2, List.length_replicate]
    have := hD.ll
    omega
  · obtain ⟨D, hD, e1, _, e2⟩ := mem c hc
    rw [e2, own_len]
    have := hD.ll
    omega
theorem own_q {b : Int} {Ds : List Dq} {f : Pw.Fs} (h : RowQ Ds) (hf : Pw.IsF (getD (Ds.map (dwOf b))) f (List.range (Ds.map (dwOf b)).length) 0) : Fo.Is (ownT (Ds.map (dwOf b)) f) (bq b Ds) 0 := by
  have := Fo.own_is (up := ("up" : Str)) (row_of (b := b) h) f 0 Ds.length 0 (by omega) (by rw [← List.range_eq_range', ← List.length_map (f := dwOf b) (as := Ds)]; exact hf) (fun _ _ _ => Nat.zero_le _)
  rw [← List.range_eq_range'] at this
  show Fo.Is _ ((List.range (Ds.map (dwOf b)).length).map _) 0
  rw [List.length_map]
  exact this
end L2

set_option Elab.async false
set_option linter.all false
set_option maxRecDepth 100000
set_option maxHeartbeats 4000000
namespace L2
open PySem PySem.Spec PyProof.Rows
section
variable {prog : Program} {w : World} {A : Around} {E : Value → Shared → Prop} {s : Shared}
theorem entry_dul : entryFor table "dict.update.loop" = some Builtin.«dict.update.loop» := entryFor_of_tree (by kernel_rfl)
theorem plain_dul : plainId "dict.update.loop" = true := by decide +kernel
end
end L2

set_option Elab.async false
set_option linter.all false
set_option maxRecDepth 100000
set_option maxHeartbeats 4000000
namespace L2
open PySem PySem.Spec PyProof.Rows
section
variable {prog : Program} {w : World} {A : Around} {E : Value → Shared → Prop} {s : Shared}
end
end L2

set_option Elab.async false
set_option linter.all false
set_option maxRecDepth 100000
set_option maxHeartbeats 4000000
namespace L2
open PySem PySem.Spec PyProof.Rows
section
variable {prog : Program} {w : World} {A : Around} {E : Value → Shared → Prop} {s : Shared}
theorem entry_list_ga : entryFor table "list.__getattribute__" = some Builtin.«object.__getattribute__» :=
  entryFor_alias (id' := "object.__getattribute__") (by kernel_rfl) (by first | rfl | decide +kernel) (by decide +kernel) (by kernel_rfl)
theorem lk_list_keys : typeLookup (.type "list") "keys" = pure none := by rw [typeLookup_type, builtinLookup_eq_fast]; kernel_rfl
theorem lk_list_getattr : typeLookup (.type "list") "__getattr__" = pure none := by rw [typeLookup_type, builtinLookup_eq_fast]; kernel_rfl
theorem list_no_keys {z : Addr} {its : Array Value} {n : Nat} {tk : Tok} {h : Heap} {g : Array GenState} {d : Drawn} {t : Nat} {os : OsState} {RR : Result → Shared → Prop} (hx : h.get? z = some { cls := .type "list", dict := none, data := .seq its n, slots := #[] }) (hh : A.in1.handled = none)
    (q : ∀ h' tk e, Heap.NewAttrErr h h' e (.ref z) "keys" → RR (.error (.ref e)) ⟨h', g, d, tk, os⟩) :
    codeAny (model prog w) A (.call (.builtin "list.__getattribute__") ⟨[.ref z, .str "keys" tk], []⟩) RR ⟨h, g, d, t, os⟩ := by
  have hT : (⟨h, g, d, t, os⟩ : Shared).TypeIs (.ref z) "list" := ⟨_, hx, rfl⟩
  refine codeAny_call_builtin F.slot_list_getattribute.plain entry_list_ga (F.slot_list_getattribute.check _ _ _ _ _ _ _ _ hT (F.args_list_getattribute_2 _ _) ?_)
  have f4 := lk_list_keys
  unfold Builtin.«object.__getattribute__»
  repeat (any_goals (first | assumption | wp_step))
  exact wpAny_raiseAttrError hh q (attrMsg_fits (by decide +kernel) (by size_fits))
theorem list_keys {z : Addr} {its : Array Value} {n : Nat} {Q : Option Value → Shared → Prop} (hx : s.heap.get? z = some { cls := .type "list", dict := none, data := .seq its n, slots := #[] }) (hh : A.handled = none)
    (q : ∀ h' tk, (∀ b o, s.heap.get? b = some o → h'.get? b = some o) → Q none { s with heap := h', toks := tk }) : wpAny (model prog w) A (getAttr? (.ref z) "keys") Q E s := by
  obtain ⟨h, g, d, t, os⟩ := s
  have hT : ∀ t', (⟨h, g, d, t', os⟩ : Shared).TypeIs (.ref z) "list" := fun t' => ⟨_, hx, rfl⟩
  have f2 := F.slot_list_getattribute.lookup
  have f3 := F.slot_list_getattribute.bind (.ref z)
  have f5 := lk_list_getattr
  have f1 := sub_AttributeError
  unfold getAttr? getAttrBy? getAttrBy
  repeat (any_goals (first | assumption | with_reducible exact hT _ | wp_step))
  refine list_no_keys hx hh fun h' tk e ne => ?_
  obtain ⟨t', u', he⟩ := ne.there
  show wpAny _ _ (getattributeRaised _ _ _ _ _ _ _) _ _ _
  unfold getattributeRaised
  repeat (any_goals (first | assumption | wp_step))
  exact q h' _ ne.keeps
end
end L2

set_option Elab.async false
set_option linter.all false
set_option maxRecDepth 100000
set_option maxHeartbeats 4000000
namespace L2
open PySem PySem.Spec PyProof.Rows
noncomputable def stoP (ks : Nat → (List Key) × Addr × Value) : List ((List Key) × Addr × Value) → Nat → Nat → List ((List Key) × Addr × Value)
  | xs, 0, _ => xs
  | xs, j + 1, i => stoP ks (storedH xs (ks i).1 (ks i).2.1 (ks i).2.2) j (i + 1)
theorem storedH_le (xs : List ((List Key) × Addr × Value)) (k : (List Key)) (a : Addr) (v : Value) : (storedH xs k a v).length ≤ xs.length + 1 := by
  unfold storedH
  split
  · rw [List.length_map]; omega
  · rw [List.length_append]; exact Nat.le_refl _
section
variable {prog : Program} {w : World} {A : Around} {E : Value → Shared → Prop} {s : Shared}
theorem IsTup.kpt {h h' : Heap} {a : Addr} {its : Array Value} (x : IsTup h a its) (e : ∀ o, h.get? a = some o → h'.get? a = some o) : IsTup h' a its := let ⟨o, g, r⟩ := x; ⟨o, e _ g, r⟩
theorem IsTK.kept {h h' : Heap} {ks : List Key} {a : Addr} (x : IsTupleKey (mixKind prog w) h ks a) (e : ∀ o, h.get? a = some o → h'.get? a = some o) : IsTupleKey (mixKind prog w) h' ks a := let ⟨o, it, n, h1, r⟩ := x; ⟨o, it, n, e o h1, r⟩
theorem DOH.kept {h h' : Heap} {d : Addr} {xs : List ((List Key) × Addr × Value)} (x : h.DictOfH (tupleKind (mixKind prog w)) d xs) (e : ∀ c o, h.get? c = some o → (c = d ∨ ∃ k ∈ xs, c = k.2.1) → h'.get? c = some o) : h'.DictOfH (tupleKind (mixKind prog w)) d xs := by
  obtain ⟨o, es, ep, h1, h2, h3, h4, h5, h6⟩ := x
  exact ⟨o, es, ep, e _ _ h1 (.inl rfl), h2, h3, h4, fun y hy => IsTK.kept (h5 y hy) fun o ho => e _ _ ho (.inr ⟨y, hy, rfl⟩), h6⟩
theorem code_update_list {d it l : Addr} {its : Array Value} {t : Nat → Addr} {ks : Nat → (List Key) × Addr × Value} {RR : Result → Shared → Prop} (hu : A.units + 2 < cLine) (hh : A.handled = none) (di : d ≠ it) (dl : d ≠ l) (il : it ≠ l)
    (hi0 : ∀ i, i < its.size → its[i]? = some (.ref (t i)) ∧ t i ≠ d ∧ t i ≠ it ∧ (ks i).2.1 ≠ d ∧ (ks i).2.1 ≠ it) : ∀ (j i : Nat) (s : Shared) (xs : List ((List Key) × Addr × Value)), its.size - i = j → i ≤ its.size → s.heap.IsListIter it l i → s.heap.IsList l its → (∀ k ∈ xs, k.2.1 ≠ it ∧ k.2.1 ≠ d) → (∀ i, i < its.size → IsTup s.heap (t i) #[.ref (ks i).2.1, (ks i).2.2] ∧ IsTupleKey (mixKind prog w) s.heap (ks i).1 (ks i).2.1) → s.heap.DictOfH (tupleKind (mixKind prog w)) d xs → xs.length + j ≤ sizeLine →
    (∀ h' tk, h'.DictOfH (tupleKind (mixKind prog w)) d (stoP ks xs j i) → (∀ c o, c ≠ d → c ≠ it → s.heap.get? c = some o → h'.get? c = some o) → RR (.ok (.ret .none)) { s with heap := h', toks := tk }) →
    codeAny (model prog w) A (.builtin "dict.update.loop" ⟨[.ref d, .ref it, rawInt (i : Int), .none], []⟩) RR s := by
  intro j
  induction j with
  | zero =>
    intro i s xs hj hi hz hL hX hK dd hl q
    have hin : i = its.size := by omega
    subst hin
    refine codeAny_builtin entry_dul ?_
    rw [Around.under_plainId plain_dul _]
    show wpAny _ A.in1 (pyNext (.ref it) >>= _) _ _ s
    refine wpAny_bind (wpAny_pyNext_list_end hh hz hL (by simp) fun h' kp => ?_)
    show wpAny _ _ (Builtin.Dict.addKeywords d [] >>= fun _ => ret Value.none) _ _ _
    refine wpAny_bind (wpAny_pure (wpAny_pure (q h' s.toks ?_ fun c o _ c1 e => kp c o c1 e)))
    exact DOH.kept dd fun c o e hc => kp c o (by rcases hc with rfl | ⟨k, hk, rfl⟩; exact di; exact (hX k hk).1) e
  | succ j ih =>
    intro i s xs hj hi hz hL hX hK dd hl q
    have hlt : i < its.size := by omega
    obtain ⟨hx, td, ti, kd, ki⟩ := hi0 i hlt
    refine codeAny_builtin entry_dul ?_
    rw [Around.under_plainId plain_dul _]
    show wpAny _ A.in1 (pyNext (.ref it) >>= _) _ _ s
    refine wpAny_bind (wpAny_pyNext_list_item hz hL hx fun h' z' sb => ?_)
    have kp : ∀ c o, c ≠ it → s.heap.get? c = some o → h'.get? c = some o := fun c o hc e => (sb.2 c hc).trans e
    have hL' : h'.IsList l its := by obtain ⟨o, ho, r⟩ := hL; exact ⟨o, kp _ _ il.symm ho, r⟩
    have hK' : ∀ i, i < its.size → IsTup h' (t i) #[.ref (ks i).2.1, (ks i).2.2] ∧ IsTupleKey (mixKind prog w) h' (ks i).1 (ks i).2.1 := fun i hi => ⟨IsTup.kpt (hK i hi).1 fun o e => kp _ o (hi0 i hi).2.2.1 e, IsTK.kept (hK i hi).2 fun o e => kp _ o (hi0 i hi).2.2.2.2 e⟩
    have dd' : h'.DictOfH (tupleKind (mixKind prog w)) d xs := DOH.kept dd fun c o e hc => kp c o (by rcases hc with rfl | ⟨k, hk, rfl⟩; exact di; exact (hX k hk).1) e
    obtain ⟨pr, kk⟩ := hK' i hlt
    refine wpAny_bind (wpAny_holding (wpAny_bind (wpAny_tryCatch ?_)))
    unfold Builtin.Dict.pairItems
    obtain ⟨po, pg, pc, pn, pd⟩ := pr
    refine wpAny_bind (wpAny_typeOf (T := "tuple") ⟨_, pg, pc⟩ ?_)
    rw [if_pos (by decide)]
    refine wpAny_bind (wpAny_seqItems pg pd ?_)
    refine wpAny_pure ?_
    refine wpAny_holding (wpAny_dictSet_heap (knd := tupleKind (mixKind prog w)) (show A.units + 1 < cLine by omega) kk dd' (fun h2 dd2 hs => ?_) (by omega))
    refine wpAny_pure ⟨plainId_quiet plain_dul _, ?_⟩
    have k2 : ∀ c o, c ≠ d → h'.get? c = some o → h2.get? c = some o := fun c o hc e => (hs.2 c hc).trans e
    have sl := storedH_le xs (ks i).1 (ks i).2.1 (ks i).2.2
    have hX2 : ∀ k ∈ storedH xs (ks i).1 (ks i).2.1 (ks i).2.2, k.2.1 ≠ it ∧ k.2.1 ≠ d := fun k hk => by
      unfold storedH at hk
      split at hk
      · obtain ⟨y, hy, rfl⟩ := List.mem_map.mp hk
        unfold putAt
        split
        · exact hX y hy
        · exact hX y hy
      · rcases List.mem_append.mp hk with hk | hk
        · exact hX k hk
        · rw [List.mem_singleton.mp hk]; exact ⟨ki, kd⟩
    refine ih (i + 1) { s with heap := h2, toks := s.toks + (tupleKind (mixKind prog w)).draws (ks i).1 } _ (by omega) hlt ?_ ?_ hX2 (fun i hi => ⟨IsTup.kpt (hK' i hi).1 fun o e => k2 _ o (hi0 i hi).2.1 e, IsTK.kept (hK' i hi).2 fun o e => k2 _ o (hi0 i hi).2.2.2.1 e⟩) dd2 (by omega) fun h3 t3 dd3 kp3 => ?_
    · exact z'.at fun o e => k2 _ o di.symm e
    · obtain ⟨o, ho, r⟩ := hL'; exact ⟨o, k2 _ _ dl.symm ho, r⟩
    · exact q h3 t3 dd3 fun c o c0 c1 e => kp3 c o c0 c1 (k2 c o c0 (kp c o c1 e))
theorem call_dict_list0 {l : Addr} {its : Array Value} {n : Nat} {t : Nat → Addr} {ks : Nat → (List Key) × Addr × Value} {Q : Value → Shared → Prop} (hu : A.units + 4 < cLine) (hh : A.handled = none) (hz : s.heap.get? l = some { cls := .type "list", dict := none, data := .seq its n, slots := #[] })
    (hi0 : ∀ i, i < its.size → its[i]? = some (.ref (t i)) ∧ IsTup s.heap (t i) #[.ref (ks i).2.1, (ks i).2.2] ∧ IsTupleKey (mixKind prog w) s.heap (ks i).1 (ks i).2.1) (hn : its.size ≤ sizeLine)
    (q : ∀ h' tk it, s.heap.objs.size < it → h'.DictOfH (tupleKind (mixKind prog w)) s.heap.objs.size (stoP ks [] its.size 0) → (∀ c o, c ≠ s.heap.objs.size → s.heap.get? c = some o → h'.get? c = some o) → Q (.ref s.heap.objs.size) { s with heap := h', toks := tk }) :
    wpAny (model prog w) A (call (.type "dict") [.ref l]) Q E s := by
  refine callType_codes (Q₁ := fun obj s₁ => obj = .ref s.heap.objs.size ∧ s₁ = { s with heap := s.heap.push { cls := .type "dict", data := .dict #[] } }) F.kt_called_dict (F.kt_typeCall_dict_1 _) F.entry_dict_init (kt_code_dict_new _ ⟨rfl, rfl⟩) ?_
  rintro obj s₁ ⟨rfl, rfl⟩
  have hnew : (s.heap.push { cls := .type "dict", data := .dict #[] }).DictOfH (tupleKind (mixKind prog w)) s.heap.objs.size [] := Heap.DictOfH.new s.heap
  have up : ∀ c o, s.heap.get? c = some o → (s.heap.push { cls := .type "dict", data := .dict #[] }).get? c = some o := fun c o e => Heap.get?_push_of_some _ e
  refine ⟨hnew.typeIs, F.args_dict_init_2 _ _, ?_⟩
  unfold Builtin.«dict.__init__»
  refine wpAny_bind ?_
  unfold Builtin.Dict.selfAndRest
  refine wpAny_bind (wpAny_notOrdered_dict hnew.typeIs ?_)
  show wpAny _ _ (pure (s.heap.objs.size, [Value.ref l])) _ _ _
  refine wpAny_pure ?_
  show wpAny _ _ (Builtin.Dict.updateFrom "dict.__init__" s.heap.objs.size (.ref l) [] .none) _ _ _
  unfold Builtin.Dict.updateFrom
  refine wpAny_bind (wpAny_typeOf (T := "list") ⟨_, up _ _ hz, rfl⟩ ?_)
  rw [if_pos (by decide)]
  refine wpAny_bind (list_keys (up _ _ hz) hh fun h1 t1 k1 => ?_)
  simp only [Option.isNone_none, if_true]
  refine wpAny_bind (wpAny_rule ?_)
  have k2 : ∀ c o, s.heap.get? c = some o → h1.get? c = some o := fun c o e => k1 c o (up c o e)
  have lz : h1.IsList l its := ⟨_, k2 _ _ hz, rfl, n, rfl⟩
  refine wpAny_bind (wpAny_pyIter_list lz ?_)
  have dd : h1.DictOfH (tupleKind (mixKind prog w)) s.heap.objs.size [] := DOH.kept hnew fun c o e _ => k1 c o e
  have ltd : s.heap.objs.size < h1.objs.size := by obtain ⟨o, _, _, ho, _⟩ := dd; exact Heap.lt_size ho
  have ltl := Heap.lt_size hz
  have k3 : ∀ c o, h1.get? c = some o → (h1.push { cls := .type "list_iterator", data := .fields #[.ref l, .int 0 0] }).get? c = some o := fun c o e => Heap.get?_push_of_some _ e
  refine wpAny_pure ⟨plainId_quiet plain_dul _, code_update_list (its := its) (t := t) (ks := ks) (A := A.in1) (show A.units + 1 + 2 < cLine by omega) hh (Nat.ne_of_lt ltd) (Nat.ne_of_gt ltl) (Nat.ne_of_gt (Nat.lt_trans ltl ltd)) (fun i hi => ?_) its.size 0 _ [] (Nat.sub_zero _) (Nat.zero_le _) ⟨_, Heap.get?_push_size _ rfl, rfl, rfl⟩ ?_ (fun k hk => nomatch hk) (fun i hi => ?_) (DOH.kept dd fun c o e _ => k3 c o e) (by simpa using hn) fun h3 t3 dd3 kp3 => ?_⟩
  · obtain ⟨h0, h1', h2⟩ := hi0 i hi
    have l1 := (let ⟨_, e, _⟩ := h1'; Heap.lt_size e : t i < s.heap.objs.size)
    obtain ⟨o, _, _, ho, _⟩ := h2
    have l2 := Heap.lt_size ho
    exact ⟨h0, Nat.ne_of_lt l1, Nat.ne_of_lt (Nat.lt_trans l1 ltd), Nat.ne_of_lt l2, Nat.ne_of_lt (Nat.lt_trans l2 ltd)⟩
  · obtain ⟨o, ho, r⟩ := lz; exact ⟨o, k3 _ _ ho, r⟩
  · obtain ⟨h0, h1', h2⟩ := hi0 i hi
    exact ⟨IsTup.kpt h1' fun o e => k3 _ o (k2 _ o e), IsTK.kept h2 fun o e => k3 _ o (k2 _ o e)⟩
  · exact ⟨rfl, q h3 t3 h1.objs.size ltd dd3 fun c o c1 e => kp3 c o c1 (Nat.ne_of_lt (Nat.lt_trans (Heap.lt_size e) ltd)) (k3 _ _ (k2 c o e))⟩
end
noncomputable def putTs : List (List Key × V) → List (List Key × V) → List (List Key × V)
  | kvs, [] => kvs
  | kvs, (k, v) :: r => putTs (putK kvs k v) r
theorem putTs_le : ∀ (L kvs : List (List Key × V)), (putTs kvs L).length ≤ kvs.length + L.length
  | [], kvs => Nat.le_refl _
  | (k, v) :: r, kvs => by
    have h1 := putTs_le r (putK kvs k v)
    have h2 := length_putK kvs k v
    show (putTs (putK kvs k v) r).length ≤ _
    rw [List.length_cons]
    omega
noncomputable def PrT (H : Hp) (y : V) (q : List Key × V) : Prop := ∃ t b, y = .ref t ∧ H t = some (.tup [.ref b, q.2]) ∧ H b = some (.tup (q.1.map kV))
theorem kt_sto {H : Hp} {ks : Nat → List Key × Addr × Value} : ∀ (L kvs : List (List Key × V)) (xs : List (List Key × Addr × Value)) (i : Nat), KT H kvs xs → (∀ j q, L[j]? = some q → (ks (i + j)).1 = q.1 ∧ H (ks (i + j)).2.1 = some (.tup (q.1.map kV)) ∧ RelV q.2 (ks (i + j)).2.2) → KT H (putTs kvs L) (stoP ks xs L.length i)
  | [], kvs, xs, i, r, h => r
  | (k, v) :: L, kvs, xs, i, r, h => by
    obtain ⟨h1, h2, h3⟩ := h 0 _ rfl
    rw [Nat.add_zero] at h1 h2 h3
    show KT H (putTs (putK kvs k v) L) (stoP ks (storedH xs (ks i).1 (ks i).2.1 (ks i).2.2) L.length (i + 1))
    refine kt_sto L _ _ (i + 1) ?_ fun j q hq => ?_
    · rw [show (ks i).1 = k from h1]; exact r.put k h2 h3
    · have := h (j + 1) q hq
      rw [show i + (j + 1) = i + 1 + j by omega] at this
      exact this
section
variable {X : Cx}
noncomputable def rDictT : List V → Hp → VK → Prop := fun xs H Q => ∃ (p : Addr) (ys : List V) (L : List (List Key × V)), xs = [.ref p] ∧ H p = some (.lst ys) ∧ All2 (PrT H) ys L ∧ ∀ d, H d = none → Q (.ref d) (upd H d (.dT (putTs [] L)))
theorem call_dictT (hcm : X.calm = true) (hu : X.A.units + 4 < cLine) : CallR X (.type "dict") rDictT := by
  intro pins s σ H xs us Q I r h
  obtain ⟨p, ys, L, rfl, hp, ay, q⟩ := h
  obtain ⟨u, rfl, ru⟩ := vals1 r
  cases ru
  obtain ⟨hz, its, n, rv, he⟩ := (show ObjOk X.prog X.w H s.heap p (.lst ys) from I.hok p _ hp)
  have hl := rv.length
  have ll := ay.1
  have pick : ∀ i, ∃ (t : Addr) (k : List Key × Addr × Value), i < ys.length → its[i]? = some (.ref t) ∧ IsTup s.heap t #[.ref k.2.1, k.2.2] ∧ IsTupleKey (mixKind X.prog X.w) s.heap k.1 k.2.1 ∧ ∃ q, L[i]? = some q ∧ k.1 = q.1 ∧ H k.2.1 = some (.tup (q.1.map kV)) ∧ RelV q.2 k.2.2 := fun i => by
    by_cases c : i < ys.length
    · obtain ⟨q0, hq, t, b, e1, e2, e3⟩ := ay.get' (List.getElem?_eq_getElem c)
      obtain ⟨u, hu, ru⟩ := rv.get (List.getElem?_eq_getElem c)
      rw [e1] at ru
      cases ru
      obtain ⟨_, ts, tr, o, h1, h2, ⟨m, h3⟩, h4⟩ := (show ObjOk X.prog X.w H s.heap t (.tup [.ref b, q0.2]) from I.hok t _ e2)
      cases tr with
      | cons ra rr =>
        cases rr with
        | cons rb rn =>
          cases rn
          cases ra
          exact ⟨t, (q0.1, b, _), fun _ => ⟨hu, ⟨o, h1, h2, m, h3⟩, key_of I.hok e3, q0, hq, rfl, e3, rb⟩⟩
    · exact ⟨0, ([], 0, .none), fun z => absurd z c⟩
  obtain ⟨tt, ht⟩ := Classical.axiomOfChoice pick
  obtain ⟨ks, hk⟩ := Classical.axiomOfChoice ht
  have hh : X.A.handled = none := I.ok.hd hcm
  refine call_dict_list0 (its := its.toArray) (n := n) (t := tt) (ks := ks) hu hh he (fun i hi => ?_) (by rw [List.size_toArray, ← hl]; exact hz) fun h' tk it lt dd kp => ?_
  · have c : i < ys.length := by rw [List.size_toArray, ← hl] at hi; exact hi
    obtain ⟨a1, a2, a3, _⟩ := hk i c
    exact ⟨by simpa using a1, a2, a3⟩
  have a0 : H s.heap.objs.size = none := I.hok.fresh (Nat.le_refl _)
  have az : (s.heap.objs.size == sysModules) = false := beq_eq_false_iff_ne.mpr (Ne.symm (Nat.ne_of_lt I.big))
  have sz : (its.toArray).size = L.length := by rw [List.size_toArray, ← hl, ll]
  rw [sz] at dd
  have kt : KT H (putTs [] L) (stoP ks [] L.length 0) := kt_sto L [] [] 0 .nil fun j q hq => by
    have c : j < ys.length := by rw [ll]; exact (List.getElem?_eq_some_iff.mp hq).1
    obtain ⟨_, _, _, q', hq', b1, b2, b3⟩ := hk j c
    rw [hq] at hq'
    cases hq'
    rw [Nat.zero_add]
    exact ⟨b1, b2, b3⟩
  obtain ⟨o, es, ep, h1, h2, h3, h4, _, h5⟩ := dd
  have tl := putTs_le L []
  have I' := I.laid (a := s.heap.objs.size) (o := .dT (putTs [] L)) (h' := h') (t' := tk) (fun b u e => kp b u (Nat.ne_of_lt (Heap.lt_size e)) e) (Nat.le_refl _) ⟨by rw [List.length_nil, Nat.zero_add] at tl; omega, az, _, kt.keeps fun c ys ec => by rw [upd_ne (ne_of_none ec a0)]; exact ec, o, es, ep, h1, h2, h3, h4, h5⟩
  exact ⟨.ref s.heap.objs.size, _, I', rfl, q _ a0⟩
theorem hu4 {A : Around} {k : Nat} (hr : Room k A) : A.units + 4 < cLine := Nat.lt_of_le_of_lt (Nat.add_le_add_left (by decide : 4 ≤ 64) _) hr.units
end
end L2

set_option Elab.async false
set_option linter.all false
set_option maxRecDepth 100000
set_option maxHeartbeats 4000000
namespace L2
open PySem PySem.Spec PyProof.Rows
noncomputable def ItyL (K : PySem.W.Frag) (a b : Addr) : It :=
  ⟨fun i H => ∃ xs ys x y, SqL K H a xs ∧ SqT K H b ys ∧ xs[i]? = some x ∧ ys[i]? = some y, fun i H v H' => ∃ x y T, (∀ xs, SqL K H a xs → xs[i]? = some x) ∧ (∀ ys, SqT K H b ys → ys[i]? = some y) ∧ H T = none ∧ v = .ref T ∧ H' = upd H T (.tup [x, y]),
    fun i H => ∃ xs ys, SqL K H a xs ∧ SqT K H b ys ∧ i ≤ xs.length ∧ i ≤ ys.length ∧ (i = xs.length ∨ i = ys.length)⟩
theorem turn_zipLT {P : Program} {w : World} {K : PySem.W.Frag} {elts : List Expr} {x1 : Nat} {pos : Pos} (a b z TI TO i1 i2 : Addr) (D : ZA z TI TO i1 i2 [i1, a] [i2, b]) (na : a ≠ i1) (nb : b ≠ i2) :
    Turn P w K (.Tuple elts x1 pos) (ItyL K a b) [z, TI, TO, i1, i2] z (fun i h => IsZip h z TI TO .none ∧ IsPair h TI (.ref i1) (.ref i2) ∧ (∃ p q, IsPair h TO p q) ∧ h.IsListIter i1 a i ∧ h.IsTupleIter i2 b i) where
  mem := by simp
  obj := fun i h st c hc => by
    obtain ⟨hz, hTI, ⟨p, q, hTO⟩, h1, h2⟩ := st
    simp only [List.mem_cons, List.not_mem_nil, or_false] at hc
    rcases hc with rfl | rfl | rfl | rfl | rfl
    · exact ⟨_, hz, fun v z => by cases z⟩
    · exact ⟨_, hTI, fun v z => by cases z⟩
    · exact ⟨_, hTO, fun v z => by cases z⟩
    · obtain ⟨o, e, c, d⟩ := h1
      exact ⟨o, e, fun v z => by rw [d] at z; cases z⟩
    · obtain ⟨o, e, c, d⟩ := h2
      exact ⟨o, e, fun v z => by rw [d] at z; cases z⟩
  keep := fun i h h' st k => by
    obtain ⟨hz, hTI, ⟨p, q, hTO⟩, h1, h2⟩ := st
    exact ⟨k z (by simp) _ hz, k TI (by simp) _ hTI, ⟨p, q, k TO (by simp) _ hTO⟩, h1.at fun o e => k i1 (by simp) o e, h2.at fun o e => k i2 (by simp) o e⟩
  item := by
    intro X hP hw hK hc i pins s σ H E I hf st hg
    subst hP hw hK
    obtain ⟨xs, ys, x, y, hq1, hq2, hx, hy⟩ := hg
    obtain ⟨its1, rv1, p1, _⟩ := I.list hq1
    obtain ⟨its2, rv2, p2, _⟩ := I.tuple hq2
    obtain ⟨hz, hTI, ⟨pa, qa, hTO⟩, h1, h2⟩ := st
    have p1' : s.heap.IsList a its1.toArray := p1.isList
    have p2' : s.heap.IsTuple b its2.toArray := p2
    have l1 := rv1.length
    have l2 := rv2.length
    obtain ⟨b1, _⟩ := List.getElem?_eq_some_iff.1 hx
    obtain ⟨b2, _⟩ := List.getElem?_eq_some_iff.1 hy
    have hn : X.A.in1.handled = none := I.ok.hd hc
    have d1 := Draws.list (prog := X.prog) (w := X.w) hn i1 a na its1.toArray
    have d2 := drawsT (prog := X.prog) (w := X.w) hn i2 b nb its2.toArray
    refine zip_on (k := i) D d1 d2 hz hTI hTO ⟨h1, p1'⟩ ⟨h2, p2'⟩ (by simp; omega) (by simp; omega) (fun _ _ u v hh tk hu hv hz' hTO' h1' h2' hT hk => ⟨_, rfl, ?_⟩) fun q => absurd q (by simp; omega)
    obtain ⟨u', hu', ru⟩ := rv1.get hx
    obtain ⟨v', hv', rv⟩ := rv2.get hy
    have eu : u' = u := by simpa [hu'] using hu
    have ev : v' = v := by simpa [hv'] using hv
    subst eu ev
    refine wpAny_letOwnedTupleGo_zip hz' fun h3 hz3 hs3 => ?_
    have hTn : H s.heap.objs.size = none := I.hok.fresh (Nat.le_refl _)
    have lts : ∀ c ∈ [z, TI, TO, i1, i2], c < s.heap.objs.size := fun c hc => by
      simp only [List.mem_cons, List.not_mem_nil, or_false] at hc
      rcases hc with rfl | rfl | rfl | rfl | rfl
      · exact Heap.lt_size hz
      · exact Heap.lt_size hTI
      · exact Heap.lt_size hTO
      · obtain ⟨_, e, _⟩ := h1; exact Heap.lt_size e
      · obtain ⟨_, e, _⟩ := h2; exact Heap.lt_size e
    have I1 : Inv X pins σ (upd H s.heap.objs.size (.tup [x, y])) { s with heap := s.heap.push { cls := .type "tuple", data := .seq #[u', v'] } } := I.laid (t' := s.toks) (o := .tup [x, y]) (fun b o e => Heap.get?_push_of_some _ e) (Nat.le_refl _) ⟨szl (by show 2 ≤ 1000000; decide), [u', v'], .cons ru (.cons rv .nil), IsTupN.new _ _⟩
    have I2 : Inv X pins σ (upd H s.heap.objs.size (.tup [x, y])) { s with heap := h3, toks := tk } := by
      refine Inv.turnedL (s := { s with heap := s.heap.push { cls := .type "tuple", data := .seq #[u', v'] } }) (h' := h3) (ch := [z, TI, TO, i1, i2]) (t' := tk) I1 (fun b o hb q => ?_) (fun b hb => ?_)
      · simp only [List.mem_cons, List.not_mem_nil, or_false, not_or] at hb
        obtain ⟨n1, n2, n3, n4, n5⟩ := hb
        show h3.get? b = some o
        rw [hs3.2 b n1]
        rcases Heap.get?_push_cases q with ⟨rfl, rfl⟩ | q
        · exact hT
        · exact hk b o n1 n3 n4 n5 q
      · obtain ⟨f0, f1, f2, f3, f4, f5⟩ := hf b hb
        exact ⟨by rw [upd_ne (Nat.ne_of_lt (lts b hb))]; exact f0, f1, f2, f3, f4, f5⟩
    have k3 : ∀ c, c ≠ z → ∀ o, hh.get? c = some o → h3.get? c = some o := fun c hc o e => (hs3.2 c hc).trans e
    refine ⟨.ref s.heap.objs.size, _, I2, rfl, ⟨x, y, _, fun zs hy => by rw [I.list_inj hy hq1]; exact hx, fun zs hy' => by rw [I.tuple_inj hy' hq2]; exact hy, hTn, rfl, rfl⟩, ⟨hz3, k3 TI D.Iz _ (hk TI _ D.Iz D.IO D.Ia D.Ib hTI), ⟨u', v', k3 TO D.Oz _ hTO'⟩, h1'.1.at (k3 i1 D.az), h2'.1.at (k3 i2 D.bz)⟩, fun b hb => ?_⟩
    rw [upd_ne (Nat.ne_of_lt (lts b hb))]
    exact (hf b hb).1
  done := by
    intro X hP hw hK hc i pins s σ H E I hf st hg
    subst hP hw hK
    obtain ⟨xs, ys, hq1, hq2, b1, b2, hl⟩ := hg
    obtain ⟨its1, rv1, p1, _⟩ := I.list hq1
    obtain ⟨its2, rv2, p2, _⟩ := I.tuple hq2
    obtain ⟨hz, hTI, ⟨pa, qa, hTO⟩, h1, h2⟩ := st
    have p1' : s.heap.IsList a its1.toArray := p1.isList
    have p2' : s.heap.IsTuple b its2.toArray := p2
    have l1 := rv1.length
    have l2 := rv2.length
    have hn : X.A.in1.handled = none := I.ok.hd hc
    have d1 := Draws.list (prog := X.prog) (w := X.w) hn i1 a na its1.toArray
    have d2 := drawsT (prog := X.prog) (w := X.w) hn i2 b nb its2.toArray
    refine zip_on (k := i) D d1 d2 hz hTI hTO ⟨h1, p1'⟩ ⟨h2, p2'⟩ (by simp; omega) (by simp; omega) (fun e1 e2 => absurd e2 (by simp at e1 ⊢; omega)) fun _ h' tk hk => ⟨rfl, ?_⟩
    refine I.turnedL (ch := [z, TI, TO, i1, i2]) (t' := tk) (fun b o hb q => ?_) hf
    simp only [List.mem_cons, List.not_mem_nil, or_false, not_or] at hb
    obtain ⟨n1, n2, n3, n4, n5⟩ := hb
    exact hk b o n1 n3 n4 n5 q
  self := fun _ _ _ _ _ st h => by
    obtain ⟨hz, _⟩ := st
    exact wpAny_pyIter_zip hz h
theorem zip_newLT (a b : Addr) (xs ys : Array Value) :
    Meets (Builtin.«zip.__new__» ⟨[.type "zip", .ref a, .ref b], []⟩) (fun _ R s => s.heap.IsList a xs ∧ s.heap.IsTuple b ys ∧
      ∀ h', IsZip h' (s.heap.objs.size + 4) (s.heap.objs.size + 2) (s.heap.objs.size + 3) .none → IsPair h' (s.heap.objs.size + 2) (.ref s.heap.objs.size) (.ref (s.heap.objs.size + 1)) → IsPair h' (s.heap.objs.size + 3) .none .none →
        h'.IsListIter s.heap.objs.size a 0 → h'.IsTupleIter (s.heap.objs.size + 1) b 0 → (∀ c o, s.heap.get? c = some o → h'.get? c = some o) → R (.ok (.ret (.ref (s.heap.objs.size + 4)))) { s with heap := h' }) :=
  .of_wp fun prog w A R s h => by
    obtain ⟨hp, g, d, tk, os⟩ := s
    obtain ⟨t1, t2, h⟩ := h
    have hs := sub_zip
    have u1 : Heap.IsList (Shared.heap ⟨hp, g, d, tk, os⟩) a xs := t1
    have u2 : Heap.IsTuple (Shared.heap ⟨hp.push { cls := .type "list_iterator", data := .fields #[.ref a, .int 0 0] }, g, d, tk, os⟩) b ys := Heap.IsTuple.push t2 _
    wp_walk using wpAny_pyIter_list u1, wpAny_pyIter_tuple u2
    refine ⟨_, rfl, ?_⟩
    have key : ∀ (n1 n2 n3 n4 : Nat) (h' : Heap), n1 = hp.objs.size + 1 → n2 = hp.objs.size + 2 → n3 = hp.objs.size + 3 → n4 = hp.objs.size + 4 → IsZip h' n4 n2 n3 .none → IsPair h' n2 (.ref hp.objs.size) (.ref n1) → IsPair h' n3 .none .none →
        h'.IsListIter hp.objs.size a 0 → h'.IsTupleIter n1 b 0 → (∀ c o, hp.get? c = some o → h'.get? c = some o) → R (.ok (.ret (.ref n4))) ⟨h', g, d, tk, os⟩ := by
      rintro _ _ _ _ h' rfl rfl rfl rfl
      exact h h'
    refine key (hp.push { cls := .type "list_iterator", data := .fields #[.ref a, .int 0 0] }).objs.size _ _ _ _ ?e1 ?e2 ?e3 ?e4 (Heap.get?_push_size _ rfl) ?g5 ?g6 ?g7 ?g8 ?g9
    case g5 => exact Heap.get?_push_of_some _ (Heap.get?_push_of_some _ (Heap.get?_push_size _ rfl))
    case g6 => exact Heap.get?_push_of_some _ (Heap.get?_push_size _ rfl)
    case g7 => exact ⟨_, Heap.get?_push_of_some _ (Heap.get?_push_of_some _ (Heap.get?_push_of_some _ (Heap.get?_push_of_some _ (Heap.get?_push_size _ rfl)))), rfl, rfl⟩
    case g8 => exact ⟨_, Heap.get?_push_of_some _ (Heap.get?_push_of_some _ (Heap.get?_push_of_some _ (Heap.get?_push_size _ rfl))), rfl, rfl⟩
    case g9 => exact fun c o e => Heap.get?_push_of_some _ (Heap.get?_push_of_some _ (Heap.get?_push_of_some _ (Heap.get?_push_of_some _ (Heap.get?_push_of_some _ e))))
    all_goals simp only [Heap.size_push]
noncomputable def iZipLT (K : PySem.W.Frag) (ta : TA) : TI := fun σ H R => ta σ H fun vs H1 => ∃ a b : Addr, vs = [.ref a, .ref b] ∧ (∃ xs, SqL K H1 a xs) ∧ (∃ ys, SqT K H1 b ys) ∧ R (ItyL K a b) H1
theorem pi_zipLT {X : Cx} {a b : Expr} {ta : TA} {p pos : Pos} {elts : List Expr} {x1 : Nat} {pos2 : Pos} (hg : Gl X "zip") (hm : X.mg "zip" = none) (ha : PA X [a, b] ta) (hs : starEach [a, b] X.env = [(false, eval a X.env), (false, eval b X.env)] := by rfl) (hs2 : starEach [b] X.env = [(false, eval b X.env)] := by rfl) :
    PI X (.Tuple elts x1 pos2) (.Call (.Name "zip" p) [a, b] [] pos) (iZipLT X.K ta) := by
  intro pins s σ H R I h
  refine Call_ (ld_blt I hg hm boot_zip (PyProof.Rows.callWith_type1 (thn (ha pos pins s σ H _ I h) fun us s1 ⟨vs, H1, I1, r1, q1⟩ => ?_) (by rw [hs, hs2]) (by rw [hs2]; rfl)))
  obtain ⟨l1, l2, rfl, ⟨xs, hq1⟩, ⟨ys, hq2⟩, q⟩ := q1
  cases r1 with
  | cons r rr =>
    cases rr with
    | cons r' rr =>
      cases rr
      cases r
      cases r'
      obtain ⟨its1, rv1, p1, _⟩ := I1.list hq1
      obtain ⟨its2, rv2, p2, _⟩ := I1.tuple hq2
      have lt1 : l1 < s1.heap.objs.size := (let ⟨_, e, _⟩ := p1.isList; Heap.lt_size e)
      have lt2 : l2 < s1.heap.objs.size := p2.lt
      refine callType_new F.called_zip (by decide) (F.typeCall_zip_2 _ _) (F.newCall_zip_2 _ _) (fun obj => F.args_object_init_3 obj _ _) F.entry_zip_new (zip_newLT l1 l2 its1.toArray its2.toArray) ⟨p1.isList, p2, fun h' hz hTI hTO h1 h2 hk => ⟨⟨_, hz, rfl⟩, ?_⟩⟩
      refine wpAny_pyIter_zip hz ?_
      refine ⟨_, [s1.heap.objs.size + 4, s1.heap.objs.size + 2, s1.heap.objs.size + 3, s1.heap.objs.size, s1.heap.objs.size + 1], _, _, H1, rfl, I1.kept (t' := s1.toks) hk, turn_zipLT l1 l2 _ _ _ _ _ ⟨?_, ?_, ?_, ?_, ?_, ?_, ?_, ?_, ?_, ?_, ?_, ?_, ?_, ?_, ?_⟩ ?_ ?_, ⟨hz, hTI, ⟨_, _, hTO⟩, h1, h2⟩, fun b hb => ?_, q⟩
      case refine_18 =>
        simp only [List.mem_cons, List.not_mem_nil, or_false] at hb
        have hb' : s1.heap.objs.size ≤ b := by
          rcases hb with rfl | rfl | rfl | rfl | rfl
          · exact Nat.le_add_right _ 4
          · exact Nat.le_add_right _ 2
          · exact Nat.le_add_right _ 3
          · exact Nat.le_refl _
          · exact Nat.le_add_right _ 1
        exact I1.fpOk hb' (I1.hok.fresh hb')
      all_goals first
        | exact Nat.ne_of_lt lt1
        | exact Nat.ne_of_lt (Nat.lt_of_lt_of_le lt2 (Nat.le_add_right _ _))
        | (show (_ : Nat) ≠ _; omega)
        | (simp only [List.mem_cons, List.not_mem_nil, or_false, not_or]
           exact ⟨by show (_ : Nat) ≠ _; omega, by first
             | exact Nat.ne_of_gt lt1
             | exact Nat.ne_of_gt lt2
             | exact Nat.ne_of_gt (Nat.lt_of_lt_of_le lt1 (Nat.le_add_right _ _))
             | exact Nat.ne_of_gt (Nat.lt_of_lt_of_le lt2 (Nat.le_add_right _ _))⟩)
theorem for_zipLT {K : PySem.W.Frag} {a b : Addr} {xs ys : List V} {g : TG} {tb : TS} {D : Ends} {σ : St} {H : Hp} (hlen : ys.length ≤ xs.length) (Pv : Nat → St → Hp → Prop) (h0 : Pv 0 σ H) (hl : ∀ i σ H, i ≤ ys.length → Pv i σ H → SqL K H a xs ∧ SqT K H b ys)
    (hs : ∀ i x y T σ H, xs[i]? = some x → ys[i]? = some y → Pv i σ H → H T = none → g (.ref T) σ (upd H T (.tup [x, y])) fun σ2 H2 => tb { D with nx := Pv (i + 1), ct := Pv (i + 1), bk := D.nx } σ2 H2) (hd : ∀ σ H, Pv ys.length σ H → D.nx σ H) :
    ∃ W : Nat → Nat → St → Hp → Prop, (∃ m, W 0 m σ H) ∧ ∀ i m σ H, W i m σ H →
      ((ItyL K a b).stop i H ∧ D.nx σ H) ∨ ((ItyL K a b).go i H ∧ ∃ N : St → Hp → Prop, (∀ σ' H', N σ' H' → ∃ m', m' < m ∧ W (i + 1) m' σ' H') ∧ ∀ x H', (ItyL K a b).yld i H x H' → g x σ H' fun σ2 H2 => tb { D with nx := N, ct := N, bk := D.nx } σ2 H2) := by
  refine ⟨fun i m σ H => m = ys.length - i ∧ i ≤ ys.length ∧ Pv i σ H, ⟨ys.length, by simp, Nat.zero_le _, h0⟩, ?_⟩
  rintro i m σ H ⟨rfl, hi, p⟩
  obtain ⟨q1, q2⟩ := hl i σ H hi p
  by_cases hlt : i < ys.length
  · refine .inr ⟨⟨xs, ys, xs[i], ys[i], q1, q2, List.getElem?_eq_getElem (by omega), List.getElem?_eq_getElem hlt⟩, Pv (i + 1), fun σ' H' p' => ⟨ys.length - (i + 1), by omega, rfl, hlt, p'⟩, fun v H' yy => ?_⟩
    obtain ⟨x, y, T, hx, hy, hT, rfl, rfl⟩ := yy
    exact hs i x y T σ H (hx xs q1) (hy ys q2) p hT
  · have e : i = ys.length := by omega
    subst e
    exact .inl ⟨⟨xs, ys, q1, q2, by omega, Nat.le_refl _, .inr rfl⟩, hd σ H p⟩
end L2

set_option Elab.async false
set_option linter.all false
set_option maxRecDepth 100000
set_option maxHeartbeats 4000000
namespace L2
open PySem PySem.Spec PyProof.Rows
end L2

set_option Elab.async false
set_option linter.all false
set_option maxRecDepth 100000
set_option maxHeartbeats 4000000
namespace L2
open PySem PySem.Spec PyProof.Rows
noncomputable abbrev IsTrip (h : Heap) (T : Addr) (a b c : Value) : Prop := h.get? T = some { cls := .type "tuple", data := .seq #[a, b, c] }
section
variable {prog : Program} {w : World} {A : Around} {E : Value → Shared → Prop} {s : Shared}
theorem wpAny_updateSeq_trip {T : Addr} {a b c x : Value} {k : Nat} {Q : Unit → Shared → Prop} (hT : IsTrip s.heap T a b c)
    (h : ∀ h', h'.get? T = some { cls := .type "tuple", data := .seq ((#[a, b, c] : Array Value).setIfInBounds k x) } → Heap.SameBut T s.heap h' → Q () { s with heap := h' }) :
    wpAny (model prog w) A (updateSeq T (·.setIfInBounds k x)) Q E s := by
  refine wpAny_updateSeq hT rfl (h _ ?_ (Heap.SameBut.update ..))
  rw [Heap.get?_update_self _ hT rfl]
  simp [Obj.mapSeq]
structure ZB (z TI TO i1 i2 i3 : Addr) (f g e : List Addr) : Prop where
  zf : z ∉ f
  zg : z ∉ g
  ze : z ∉ e
  of : TO ∉ f
  og : TO ∉ g
  oe : TO ∉ e
  f2 : i2 ∉ f
  f3 : i3 ∉ f
  g1 : i1 ∉ g
  g3 : i3 ∉ g
  e1 : i1 ∉ e
  e2 : i2 ∉ e
  Iz : TI ≠ z
  Oz : TO ≠ z
  az : i1 ≠ z
  bz : i2 ≠ z
  cz : i3 ≠ z
  IO : TI ≠ TO
  Ia : TI ≠ i1
  Ib : TI ≠ i2
  Ic : TI ≠ i3
  Oa : TO ≠ i1
  Ob : TO ≠ i2
  Oc : TO ≠ i3
theorem zip_draw3 {z TI TO i1 i2 i3 : Addr} {f g e : List Addr} {n k : Nat} {P R V3 : Nat → Value → Prop} {S T U : Nat → Heap → Prop} (Z : ZB z TI TO i1 i2 i3 f g e) (D1 : Draws prog w A i1 f n P S) (D2 : Draws prog w A i2 g n R T) (D3 : Draws prog w A i3 e n V3 U) {a b c : Value} {Q : Value → Shared → Prop}
    (hz : IsZip s.heap z TI TO .none) (hI : IsTrip s.heap TI (.ref i1) (.ref i2) (.ref i3)) (hO : IsTrip s.heap TO a b c) (s1 : S k s.heap) (s2 : T k s.heap) (s3 : U k s.heap) (le1 : k ≤ n)
    (q : k < n → ∀ x y v h' tk, P k x → R k y → V3 k v → IsZip h' z TI TO (rawInt s.heap.objs.size) → IsTrip h' TO x y v → S (k + 1) h' → T (k + 1) h' → U (k + 1) h' → IsTrip h' s.heap.objs.size x y v →
      (∀ c o, c ≠ z → c ≠ TO → c ≠ i1 → c ≠ i2 → c ≠ i3 → s.heap.get? c = some o → h'.get? c = some o) → Q (.ref s.heap.objs.size) { s with heap := h', toks := tk })
    (qe : k = n → ∀ h' e tk, (∀ c o, c ≠ z → c ≠ TO → c ≠ i1 → c ≠ i2 → c ≠ i3 → s.heap.get? c = some o → h'.get? c = some o) → (∃ o, h'.get? e = some o ∧ o.cls = .type "StopIteration") → E (.ref e) { s with heap := h', toks := tk }) :
    wpAny (model prog w) A (Builtin.«zip.__next__» ⟨[.ref z], []⟩) (fun fin s' => ∃ v, fin = .done (.ret v) ∧ Q v s') E s := by
  change wpAny _ _ (field (.ref z) 2 >>= _) _ _ _
  apply wpAny_bind
  apply wpAny_field hz rfl (x := .bool false) rfl
  change wpAny _ _ (field (.ref z) 3 >>= _) _ _ _
  apply wpAny_bind
  apply wpAny_field hz rfl (x := .ref TI) rfl
  apply wpAny_bind
  apply wpAny_seqItems hI rfl
  change wpAny _ _ (Builtin.SmallTypes.ownedTupleIsFree (.ref z) >>= _) _ _ _
  apply wpAny_bind
  unfold Builtin.SmallTypes.ownedTupleIsFree
  apply wpAny_bind
  apply wpAny_field hz rfl (x := .none) rfl
  apply wpAny_pure
  simp only [if_true]
  apply wpAny_bind
  apply wpAny_rule
  apply wpAny_bind
  apply wpAny_field hz rfl (x := .ref TO) rfl
  apply wpAny_bind
  apply wpAny_setField_rec hz (by simp)
  intro hA zA bA
  have zA' : IsZip hA z TI TO .ellipsis := zA
  clear zA
  have oA : IsTrip hA TO a b c := bA.extBut _ _ Z.Oz hO
  have sA := mv D1 s1 bA.extBut Z.zf
  have tA := mv D2 s2 bA.extBut Z.zg
  have uA := mv D3 s3 bA.extBut Z.ze
  apply wpAny_bind
  simp only [List.zipIdx_cons, List.zipIdx_nil, List.forIn_cons, List.forIn_nil]
  apply wpAny_bind
  apply wpAny_bind
  apply wpAny_onRaise
  change wpAny _ _ (Builtin.SmallTypes.nextOf (.ref i1) >>= _) _ _ _
  apply wpAny_bind
  rcases Nat.lt_or_eq_of_le le1 with l1 | rfl
  rotate_left
  · apply D1.done _ _ _ sA
    rintro h' e kp ⟨o, ge, ce⟩
    have z' : IsZip h' z TI TO .ellipsis := kp _ _ Z.az.symm zA'
    have ne : e ≠ z := fun q => by subst q; rw [z'] at ge; cases ge; simp at ce
    apply wpAny_setField_rec z' (by simp)
    intro h2 _ b2
    exact qe rfl h2 e s.toks (fun c o c1 _ c3 _ _ x => b2.extBut _ _ c1 (kp _ _ c3 (bA.extBut _ _ c1 x))) ⟨o, b2.extBut _ _ ne ge, ce⟩
  apply D1.item k _ _ _ l1 sA
  intro x hB t1 px sB bB
  apply wpAny_pure
  have oB : IsTrip hB TO a b c := bB.extBut _ _ Z.Oa oA
  have zB : IsZip hB z TI TO .ellipsis := bB.extBut _ _ Z.az.symm zA'
  have tB := mv D2 tA bB.extBut Z.g1
  have uB := mv D3 uA bB.extBut Z.e1
  apply wpAny_bind
  apply wpAny_seqItems oB rfl
  apply wpAny_bind
  apply wpAny_updateSeq_trip oB
  intro hC oC bC
  have oC' : IsTrip hC TO x b c := oC
  clear oC
  have zC : IsZip hC z TI TO .ellipsis := bC.extBut _ _ Z.Oz.symm zB
  have sC := mv D1 sB bC.extBut Z.of
  have tC := mv D2 tB bC.extBut Z.og
  have uC := mv D3 uB bC.extBut Z.oe
  apply wpAny_bind
  apply wpAny_letGo
  apply wpAny_pure
  have upC : ∀ c o, c ≠ z → c ≠ TO → c ≠ i1 → s.heap.get? c = some o → hC.get? c = some o := fun c o c1 c2 c3 e => bC.extBut _ _ c2 (bB.extBut _ _ c3 (bA.extBut _ _ c1 e))
  apply wpAny_bind
  apply wpAny_bind
  apply wpAny_onRaise
  change wpAny _ _ (Builtin.SmallTypes.nextOf (.ref i2) >>= _) _ _ _
  apply wpAny_bind
  apply D2.item k _ _ _ l1 tC
  intro y hD t2 py tD bD
  apply wpAny_pure
  have oD : IsTrip hD TO x b c := bD.extBut _ _ Z.Ob oC'
  have zD : IsZip hD z TI TO .ellipsis := bD.extBut _ _ Z.bz.symm zC
  have sD := mv D1 sC bD.extBut Z.f2
  have uD := mv D3 uC bD.extBut Z.e2
  apply wpAny_bind
  apply wpAny_seqItems oD rfl
  apply wpAny_bind
  apply wpAny_updateSeq_trip oD
  intro hE oE bE
  have oE' : IsTrip hE TO x y c := oE
  clear oE
  have zE : IsZip hE z TI TO .ellipsis := bE.extBut _ _ Z.Oz.symm zD
  have sE := mv D1 sD bE.extBut Z.of
  have tE := mv D2 tD bE.extBut Z.og
  have uE := mv D3 uD bE.extBut Z.oe
  apply wpAny_bind
  apply wpAny_letGo
  apply wpAny_pure
  apply wpAny_bind
  apply wpAny_bind
  apply wpAny_onRaise
  change wpAny _ _ (Builtin.SmallTypes.nextOf (.ref i3) >>= _) _ _ _
  apply wpAny_bind
  apply D3.item k _ _ _ l1 uE
  intro v hF t3 pv uF bF
  apply wpAny_pure
  have oF : IsTrip hF TO x y c := bF.extBut _ _ Z.Oc oE'
  have zF : IsZip hF z TI TO .ellipsis := bF.extBut _ _ Z.cz.symm zE
  have sF := mv D1 sE bF.extBut Z.f3
  have tF := mv D2 tE bF.extBut Z.g3
  apply wpAny_bind
  apply wpAny_seqItems oF rfl
  apply wpAny_bind
  apply wpAny_updateSeq_trip oF
  intro hG oG bG
  have oG' : IsTrip hG TO x y v := oG
  clear oG
  have zG : IsZip hG z TI TO .ellipsis := bG.extBut _ _ Z.Oz.symm zF
  have sG := mv D1 sF bG.extBut Z.of
  have tG := mv D2 tF bG.extBut Z.og
  have uG := mv D3 uF bG.extBut Z.oe
  have upG : ∀ c o, c ≠ z → c ≠ TO → c ≠ i1 → c ≠ i2 → c ≠ i3 → s.heap.get? c = some o → hG.get? c = some o := fun c o c1 c2 c3 c4 c5 e => bG.extBut _ _ c2 (bF.extBut _ _ c5 (bE.extBut _ _ c2 (bD.extBut _ _ c4 (upC c o c1 c2 c3 e))))
  have sz : hG.objs.size = s.heap.objs.size := by rw [bG.1, bF.1, bE.1, bD.1, bC.1, bB.1, bA.1]
  apply wpAny_bind
  apply wpAny_letGo
  apply wpAny_pure
  apply wpAny_pure
  apply wpAny_bind
  apply wpAny_seqItems oG' rfl
  apply wpAny_bind
  refine wpAny_newTuple ?_
  change wpAny _ _ (Builtin.SmallTypes.ownedTupleHandOut (.ref z) (.ref hG.objs.size) >>= _) _ _ _
  apply wpAny_bind
  unfold Builtin.SmallTypes.ownedTupleHandOut
  have zH : IsZip (hG.push { cls := .type "tuple", data := .seq #[x, y, v] }) z TI TO .ellipsis := Heap.get?_push_of_some _ zG
  have pH : IsTrip (hG.push { cls := .type "tuple", data := .seq #[x, y, v] }) hG.objs.size x y v := Heap.get?_push_size _ rfl
  apply wpAny_bind
  apply wpAny_setField_rec zH (by simp)
  intro hJ zJ bJ
  have zJ' : IsZip hJ z TI TO (rawInt hG.objs.size) := zJ
  clear zJ
  apply wpAny_setField_rec zJ' (by simp)
  intro hK zK bK
  have zK' : IsZip hK z TI TO (rawInt hG.objs.size) := zK
  clear zK
  have far : hG.objs.size ≠ z := Nat.ne_of_gt (Heap.lt_size zG)
  have up : Heap.ExtBut z hG hK := fun c o c1 e => bK.extBut _ _ c1 (bJ.extBut _ _ c1 (Heap.get?_push_of_some _ e))
  have pK : IsTrip hK hG.objs.size x y v := bK.extBut _ _ far (bJ.extBut _ _ far pH)
  apply wpAny_pure
  refine ⟨_, rfl, ?_⟩
  have := q l1 x y v hK t3 px py pv (by rw [← sz]; exact zK') (up _ _ Z.Oz oG') (mv D1 sG up Z.zf) (mv D2 tG up Z.zg) (mv D3 uG up Z.ze) (by rw [← sz]; exact pK) fun c o c1 c2 c3 c4 c5 e => up c o c1 (upG c o c1 c2 c3 c4 c5 e)
  rw [← sz] at this
  exact this
theorem zip_on3 {z TI TO i1 i2 i3 : Addr} {f g e : List Addr} {n k : Nat} {P R V3 : Nat → Value → Prop} {S T U : Nat → Heap → Prop} (Z : ZB z TI TO i1 i2 i3 f g e) (D1 : Draws prog w A.in1 i1 f n P S) (D2 : Draws prog w A.in1 i2 g n R T) (D3 : Draws prog w A.in1 i3 e n V3 U) {a b c : Value} {Q : Option Value → Shared → Prop}
    (hz : IsZip s.heap z TI TO .none) (hI : IsTrip s.heap TI (.ref i1) (.ref i2) (.ref i3)) (hO : IsTrip s.heap TO a b c) (s1 : S k s.heap) (s2 : T k s.heap) (s3 : U k s.heap) (le1 : k ≤ n)
    (q : k < n → ∀ x y v h' tk, P k x → R k y → V3 k v → IsZip h' z TI TO (rawInt s.heap.objs.size) → IsTrip h' TO x y v → S (k + 1) h' → T (k + 1) h' → U (k + 1) h' → IsTrip h' s.heap.objs.size x y v →
      (∀ c o, c ≠ z → c ≠ TO → c ≠ i1 → c ≠ i2 → c ≠ i3 → s.heap.get? c = some o → h'.get? c = some o) → Q (some (.ref s.heap.objs.size)) { s with heap := h', toks := tk })
    (qe : k = n → ∀ h' tk, (∀ c o, c ≠ z → c ≠ TO → c ≠ i1 → c ≠ i2 → c ≠ i3 → s.heap.get? c = some o → h'.get? c = some o) → Q none { s with heap := h', toks := tk }) :
    wpAny (model prog w) A (pyNext (.ref z)) Q E s := by
  have ty : s.TypeIs (.ref z) "zip" := ⟨_, hz, rfl⟩
  unfold pyNext
  apply wpAny_bind
  apply wpAny_attempt
  apply wpAny_callSpecial?_slot (name := Str.ofString "__next__") ty F.slot_zip_next
  refine wpAny_call_entry F.slot_zip_next ty F.entry_zip_next (zip_draw3 Z D1 D2 D3 hz hI hO s1 s2 s3 le1 ?_ ?_) (F.args_zip_next_1 _)
  · intro l1 x y v h' tk a1 a2 a3 a4 a5 a6 a7 a8 a9 a10
    exact wpAny_pure (q l1 x y v h' tk a1 a2 a3 a4 a5 a6 a7 a8 a9 a10)
  · rintro l h' e tk kp ⟨o, ge, ce⟩
    exact wpAny_bind (wpAny_isInstance (T := "StopIteration") (b := true) ⟨o, ge, ce⟩ isSubtype_stop (wpAny_pure (qe l h' tk kp)))
end
end L2

set_option Elab.async false
set_option linter.all false
set_option maxRecDepth 100000
set_option maxHeartbeats 4000000
namespace L2
open PySem PySem.Spec PyProof.Rows
theorem typeCall_zip_3 (a b c : Value) : checkTypeCall "zip" ⟨[a, b, c], []⟩ = pure () := by kernel_rfl
theorem newCall_zip_3 (a b c : Value) : checkBuiltinCall "zip.__new__" ⟨[.type "zip", a, b, c], []⟩ = pure () := by kernel_rfl
end L2

set_option Elab.async false
set_option linter.all false
set_option maxRecDepth 100000
set_option maxHeartbeats 4000000
namespace L2
open PySem PySem.Spec PyProof.Rows
theorem args_object_init_4 (a b c d : Value) : argsOk "object.__init__" ⟨[a, b, c, d], []⟩ := by
  first
    | exact argsOk_of_eq (by kernel_rfl)
    | (unfold argsOk; kernel_rfl)
    | kernel_rfl
end L2

set_option Elab.async false
set_option linter.all false
set_option maxRecDepth 100000
set_option maxHeartbeats 4000000
namespace L2
open PySem PySem.Spec PyProof.Rows
noncomputable def ItwL (K : PySem.W.Frag) (a b c : Addr) : It :=
  ⟨fun i H => ∃ xs ys zs x y v, SqL K H a xs ∧ SqL K H b ys ∧ SqL K H c zs ∧ xs.length = ys.length ∧ xs.length = zs.length ∧ xs[i]? = some x ∧ ys[i]? = some y ∧ zs[i]? = some v,
    fun i H u H' => ∃ x y v T, (∀ xs, SqL K H a xs → xs[i]? = some x) ∧ (∀ ys, SqL K H b ys → ys[i]? = some y) ∧ (∀ zs, SqL K H c zs → zs[i]? = some v) ∧ H T = none ∧ u = .ref T ∧ H' = upd H T (.tup [x, y, v]),
    fun i H => ∃ xs ys zs, SqL K H a xs ∧ SqL K H b ys ∧ SqL K H c zs ∧ xs.length = ys.length ∧ xs.length = zs.length ∧ i = xs.length⟩
theorem turn_zip3L {P : Program} {w : World} {K : PySem.W.Frag} {elts : List Expr} {x1 : Nat} {pos : Pos} (a b c z TI TO i1 i2 i3 : Addr) (D : ZB z TI TO i1 i2 i3 [i1, a] [i2, b] [i3, c]) (na : a ≠ i1) (nb : b ≠ i2) (nc : c ≠ i3) :
    Turn P w K (.Tuple elts x1 pos) (ItwL K a b c) [z, TI, TO, i1, i2, i3] z (fun i h => IsZip h z TI TO .none ∧ IsTrip h TI (.ref i1) (.ref i2) (.ref i3) ∧ (∃ p q r, IsTrip h TO p q r) ∧ h.IsListIter i1 a i ∧ h.IsListIter i2 b i ∧ h.IsListIter i3 c i) where
  mem := by simp
  obj := fun i h st c hc => by
    obtain ⟨hz, hTI, ⟨p, q, r, hTO⟩, h1, h2, h3⟩ := st
    simp only [List.mem_cons, List.not_mem_nil, or_false] at hc
    rcases hc with rfl | rfl | rfl | rfl | rfl | rfl
    · exact ⟨_, hz, fun v z => by cases z⟩
    · exact ⟨_, hTI, fun v z => by cases z⟩
    · exact ⟨_, hTO, fun v z => by cases z⟩
    · obtain ⟨o, e, c, d⟩ := h1
      exact ⟨o, e, fun v z => by rw [d] at z; cases z⟩
    · obtain ⟨o, e, c, d⟩ := h2
      exact ⟨o, e, fun v z => by rw [d] at z; cases z⟩
    · obtain ⟨o, e, c, d⟩ := h3
      exact ⟨o, e, fun v z => by rw [d] at z; cases z⟩
  keep := fun i h h' st k => by
    obtain ⟨hz, hTI, ⟨p, q, r, hTO⟩, h1, h2, h3⟩ := st
    exact ⟨k z (by simp) _ hz, k TI (by simp) _ hTI, ⟨p, q, r, k TO (by simp) _ hTO⟩, h1.at fun o e => k i1 (by simp) o e, h2.at fun o e => k i2 (by simp) o e, h3.at fun o e => k i3 (by simp) o e⟩
  item := by
    intro X hP hw hK hc i pins s σ H E I hf st hg
    subst hP hw hK
    obtain ⟨xs, ys, zs, x, y, v, hq1, hq2, hq3, e12, e13, hx, hy, hv⟩ := hg
    obtain ⟨its1, rv1, p1, _⟩ := I.list hq1
    obtain ⟨its2, rv2, p2, _⟩ := I.list hq2
    obtain ⟨its3, rv3, p3, _⟩ := I.list hq3
    obtain ⟨hz, hTI, ⟨pa, qa, ra, hTO⟩, h1, h2, h3⟩ := st
    have p1' : s.heap.IsList a its1.toArray := p1.isList
    have p2' : s.heap.IsList b its2.toArray := p2.isList
    have p3' : s.heap.IsList c its3.toArray := p3.isList
    have l1 := rv1.length
    have l2 := rv2.length
    have l3 := rv3.length
    obtain ⟨b1, _⟩ := List.getElem?_eq_some_iff.1 hx
    have hn : X.A.in1.handled = none := I.ok.hd hc
    have d1 := Draws.list (prog := X.prog) (w := X.w) hn i1 a na its1.toArray
    have d2 := Draws.list (prog := X.prog) (w := X.w) hn i2 b nb its2.toArray
    have d3 := Draws.list (prog := X.prog) (w := X.w) hn i3 c nc its3.toArray
    rw [show its2.toArray.size = its1.toArray.size by simp; omega] at d2
    rw [show its3.toArray.size = its1.toArray.size by simp; omega] at d3
    refine zip_on3 (k := i) D d1 d2 d3 hz hTI hTO ⟨h1, p1'⟩ ⟨h2, p2'⟩ ⟨h3, p3'⟩ (by simp; omega) (fun _ u1 u2 u3 hh tk hu1 hu2 hu3 hz' hTO' h1' h2' h3' hT hk => ⟨_, rfl, ?_⟩) fun q => absurd q (by simp; omega)
    obtain ⟨w1, hw1, r1⟩ := rv1.get hx
    obtain ⟨w2, hw2, r2⟩ := rv2.get hy
    obtain ⟨w3, hw3, r3⟩ := rv3.get hv
    have e1 : w1 = u1 := by simpa [hw1] using hu1
    have e2 : w2 = u2 := by simpa [hw2] using hu2
    have e3 : w3 = u3 := by simpa [hw3] using hu3
    subst e1 e2 e3
    refine wpAny_letOwnedTupleGo_zip hz' fun h5 hz5 hs5 => ?_
    have hTn : H s.heap.objs.size = none := I.hok.fresh (Nat.le_refl _)
    have lts : ∀ c ∈ [z, TI, TO, i1, i2, i3], c < s.heap.objs.size := fun c hc => by
      simp only [List.mem_cons, List.not_mem_nil, or_false] at hc
      rcases hc with rfl | rfl | rfl | rfl | rfl | rfl
      · exact Heap.lt_size hz
      · exact Heap.lt_size hTI
      · exact Heap.lt_size hTO
      · obtain ⟨_, e, _⟩ := h1; exact Heap.lt_size e
      · obtain ⟨_, e, _⟩ := h2; exact Heap.lt_size e
      · obtain ⟨_, e, _⟩ := h3; exact Heap.lt_size e
    have I1 : Inv X pins σ (upd H s.heap.objs.size (.tup [x, y, v])) { s with heap := s.heap.push { cls := .type "tuple", data := .seq #[w1, w2, w3] } } := I.laid (t' := s.toks) (o := .tup [x, y, v]) (fun b o e => Heap.get?_push_of_some _ e) (Nat.le_refl _) ⟨szl (by show 3 ≤ 1000000; decide), [w1, w2, w3], .cons r1 (.cons r2 (.cons r3 .nil)), IsTupN.new _ _⟩
    have I2 : Inv X pins σ (upd H s.heap.objs.size (.tup [x, y, v])) { s with heap := h5, toks := tk } := by
      refine Inv.turnedL (s := { s with heap := s.heap.push { cls := .type "tuple", data := .seq #[w1, w2, w3] } }) (h' := h5) (ch := [z, TI, TO, i1, i2, i3]) (t' := tk) I1 (fun b o hb q => ?_) (fun b hb => ?_)
      · simp only [List.mem_cons, List.not_mem_nil, or_false, not_or] at hb
        obtain ⟨n1, n2, n3, n4, n5, n6⟩ := hb
        show h5.get? b = some o
        rw [hs5.2 b n1]
        rcases Heap.get?_push_cases q with ⟨rfl, rfl⟩ | q
        · exact hT
        · exact hk b o n1 n3 n4 n5 n6 q
      · obtain ⟨f0, f1, f2, f3, f4, f5⟩ := hf b hb
        exact ⟨by rw [upd_ne (Nat.ne_of_lt (lts b hb))]; exact f0, f1, f2, f3, f4, f5⟩
    have k5 : ∀ c, c ≠ z → ∀ o, hh.get? c = some o → h5.get? c = some o := fun c hc o e => (hs5.2 c hc).trans e
    refine ⟨.ref s.heap.objs.size, _, I2, rfl, ⟨x, y, v, _, fun zs hy => by rw [I.list_inj hy hq1]; exact hx, fun zs hy' => by rw [I.list_inj hy' hq2]; exact hy, fun zs hy' => by rw [I.list_inj hy' hq3]; exact hv, hTn, rfl, rfl⟩, ⟨hz5, k5 TI D.Iz _ (hk TI _ D.Iz D.IO D.Ia D.Ib D.Ic hTI), ⟨w1, w2, w3, k5 TO D.Oz _ hTO'⟩, h1'.1.at (k5 i1 D.az), h2'.1.at (k5 i2 D.bz), h3'.1.at (k5 i3 D.cz)⟩, fun b hb => ?_⟩
    rw [upd_ne (Nat.ne_of_lt (lts b hb))]
    exact (hf b hb).1
  done := by
    intro X hP hw hK hc i pins s σ H E I hf st hg
    subst hP hw hK
    obtain ⟨xs, ys, zs, hq1, hq2, hq3, e12, e13, hl⟩ := hg
    obtain ⟨its1, rv1, p1, _⟩ := I.list hq1
    obtain ⟨its2, rv2, p2, _⟩ := I.list hq2
    obtain ⟨its3, rv3, p3, _⟩ := I.list hq3
    obtain ⟨hz, hTI, ⟨pa, qa, ra, hTO⟩, h1, h2, h3⟩ := st
    have p1' : s.heap.IsList a its1.toArray := p1.isList
    have p2' : s.heap.IsList b its2.toArray := p2.isList
    have p3' : s.heap.IsList c its3.toArray := p3.isList
    have l1 := rv1.length
    have l2 := rv2.length
    have l3 := rv3.length
    have hn : X.A.in1.handled = none := I.ok.hd hc
    have d1 := Draws.list (prog := X.prog) (w := X.w) hn i1 a na its1.toArray
    have d2 := Draws.list (prog := X.prog) (w := X.w) hn i2 b nb its2.toArray
    have d3 := Draws.list (prog := X.prog) (w := X.w) hn i3 c nc its3.toArray
    rw [show its2.toArray.size = its1.toArray.size by simp; omega] at d2
    rw [show its3.toArray.size = its1.toArray.size by simp; omega] at d3
    refine zip_on3 (k := i) D d1 d2 d3 hz hTI hTO ⟨h1, p1'⟩ ⟨h2, p2'⟩ ⟨h3, p3'⟩ (by simp; omega) (fun e1 => absurd e1 (by simp; omega)) fun _ h' tk hk => ⟨rfl, ?_⟩
    refine I.turnedL (ch := [z, TI, TO, i1, i2, i3]) (t' := tk) (fun b o hb q => ?_) hf
    simp only [List.mem_cons, List.not_mem_nil, or_false, not_or] at hb
    obtain ⟨n1, n2, n3, n4, n5, n6⟩ := hb
    exact hk b o n1 n3 n4 n5 n6 q
  self := fun _ _ _ _ _ st h => by
    obtain ⟨hz, _⟩ := st
    exact wpAny_pyIter_zip hz h
theorem zip_new3L (a b c : Addr) (xs ys zs : Array Value) :
    Meets (Builtin.«zip.__new__» ⟨[.type "zip", .ref a, .ref b, .ref c], []⟩) (fun _ R s => s.heap.IsList a xs ∧ s.heap.IsList b ys ∧ s.heap.IsList c zs ∧
      ∀ h', IsZip h' (s.heap.objs.size + 5) (s.heap.objs.size + 3) (s.heap.objs.size + 4) .none → IsTrip h' (s.heap.objs.size + 3) (.ref s.heap.objs.size) (.ref (s.heap.objs.size + 1)) (.ref (s.heap.objs.size + 2)) → IsTrip h' (s.heap.objs.size + 4) .none .none .none →
        h'.IsListIter s.heap.objs.size a 0 → h'.IsListIter (s.heap.objs.size + 1) b 0 → h'.IsListIter (s.heap.objs.size + 2) c 0 → (∀ c o, s.heap.get? c = some o → h'.get? c = some o) → R (.ok (.ret (.ref (s.heap.objs.size + 5)))) { s with heap := h' }) :=
  .of_wp fun prog w A R s h => by
    obtain ⟨hp, g, d, tk, os⟩ := s
    obtain ⟨t1, t2, t3, h⟩ := h
    have hs := sub_zip
    have u1 : Heap.IsList (Shared.heap ⟨hp, g, d, tk, os⟩) a xs := t1
    have u2 : Heap.IsList (Shared.heap ⟨hp.push { cls := .type "list_iterator", data := .fields #[.ref a, .int 0 0] }, g, d, tk, os⟩) b ys := Heap.IsList.push t2 _
    have u3 : Heap.IsList (Shared.heap ⟨(hp.push { cls := .type "list_iterator", data := .fields #[.ref a, .int 0 0] }).push { cls := .type "list_iterator", data := .fields #[.ref b, .int 0 0] }, g, d, tk, os⟩) c zs := Heap.IsList.push (Heap.IsList.push t3 _) _
    wp_walk using wpAny_pyIter_list u1, wpAny_pyIter_list u2, wpAny_pyIter_list u3
    refine ⟨_, rfl, ?_⟩
    have key : ∀ (n1 n2 n3 n4 n5 : Nat) (h' : Heap), n1 = hp.objs.size + 1 → n2 = hp.objs.size + 2 → n3 = hp.objs.size + 3 → n4 = hp.objs.size + 4 → n5 = hp.objs.size + 5 → IsZip h' n5 n3 n4 .none → IsTrip h' n3 (.ref hp.objs.size) (.ref n1) (.ref n2) → IsTrip h' n4 .none .none .none →
        h'.IsListIter hp.objs.size a 0 → h'.IsListIter n1 b 0 → h'.IsListIter n2 c 0 → (∀ c o, hp.get? c = some o → h'.get? c = some o) → R (.ok (.ret (.ref n5))) ⟨h', g, d, tk, os⟩ := by
      rintro _ _ _ _ _ h' rfl rfl rfl rfl rfl
      exact h h'
    refine key (hp.push { cls := .type "list_iterator", data := .fields #[.ref a, .int 0 0] }).objs.size ((hp.push { cls := .type "list_iterator", data := .fields #[.ref a, .int 0 0] }).push { cls := .type "list_iterator", data := .fields #[.ref b, .int 0 0] }).objs.size _ _ _ _ ?e1 ?e2 ?e3 ?e4 ?e5 (Heap.get?_push_size _ rfl) ?g5 ?g6 ?g7 ?g8 ?g9 ?g10
    case g5 => exact Heap.get?_push_of_some _ (Heap.get?_push_of_some _ (Heap.get?_push_size _ rfl))
    case g6 => exact Heap.get?_push_of_some _ (Heap.get?_push_size _ rfl)
    case g7 => exact ⟨_, Heap.get?_push_of_some _ (Heap.get?_push_of_some _ (Heap.get?_push_of_some _ (Heap.get?_push_of_some _ (Heap.get?_push_of_some _ (Heap.get?_push_size _ rfl))))), rfl, rfl⟩
    case g8 => exact ⟨_, Heap.get?_push_of_some _ (Heap.get?_push_of_some _ (Heap.get?_push_of_some _ (Heap.get?_push_of_some _ (Heap.get?_push_size _ rfl)))), rfl, rfl⟩
    case g9 => exact ⟨_, Heap.get?_push_of_some _ (Heap.get?_push_of_some _ (Heap.get?_push_of_some _ (Heap.get?_push_size _ rfl))), rfl, rfl⟩
    case g10 => exact fun c o e => Heap.get?_push_of_some _ (Heap.get?_push_of_some _ (Heap.get?_push_of_some _ (Heap.get?_push_of_some _ (Heap.get?_push_of_some _ (Heap.get?_push_of_some _ e)))))
    all_goals simp only [Heap.size_push]
noncomputable def iZip3L (K : PySem.W.Frag) (ta : TA) : TI := fun σ H R => ta σ H fun vs H1 => ∃ a b c : Addr, vs = [.ref a, .ref b, .ref c] ∧ (∃ xs, SqL K H1 a xs) ∧ (∃ ys, SqL K H1 b ys) ∧ (∃ zs, SqL K H1 c zs) ∧ R (ItwL K a b c) H1
theorem pi_zip3 {X : Cx} {a b c : Expr} {ta : TA} {p pos : Pos} {elts : List Expr} {x1 : Nat} {pos2 : Pos} (hg : Gl X "zip") (hm : X.mg "zip" = none) (ha : PA X [a, b, c] ta) (hs : starEach [a, b, c] X.env = [(false, eval a X.env), (false, eval b X.env), (false, eval c X.env)] := by rfl) (hs2 : starEach [b, c] X.env = [(false, eval b X.env), (false, eval c X.env)] := by rfl) :
    PI X (.Tuple elts x1 pos2) (.Call (.Name "zip" p) [a, b, c] [] pos) (iZip3L X.K ta) := by
  intro pins s σ H R I h
  refine Call_ (ld_blt I hg hm boot_zip (PyProof.Rows.callWith_type1 (thn (ha pos pins s σ H _ I h) fun us s1 ⟨vs, H1, I1, r1, q1⟩ => ?_) (by rw [hs, hs2]) (by rw [hs2]; rfl)))
  obtain ⟨l1, l2, l3, rfl, ⟨xs, hq1⟩, ⟨ys, hq2⟩, ⟨zs, hq3⟩, q⟩ := q1
  cases r1 with
  | cons r rr =>
    cases rr with
    | cons r' rr =>
      cases rr with
      | cons r'' rr =>
        cases rr
        cases r
        cases r'
        cases r''
        obtain ⟨its1, rv1, p1, _⟩ := I1.list hq1
        obtain ⟨its2, rv2, p2, _⟩ := I1.list hq2
        obtain ⟨its3, rv3, p3, _⟩ := I1.list hq3
        have lt1 : l1 < s1.heap.objs.size := (let ⟨_, e, _⟩ := p1.isList; Heap.lt_size e)
        have lt2 : l2 < s1.heap.objs.size := (let ⟨_, e, _⟩ := p2.isList; Heap.lt_size e)
        have lt3 : l3 < s1.heap.objs.size := (let ⟨_, e, _⟩ := p3.isList; Heap.lt_size e)
        refine callType_new F.called_zip (by decide) (typeCall_zip_3 _ _ _) (newCall_zip_3 _ _ _) (fun obj => args_object_init_4 obj _ _ _) F.entry_zip_new (zip_new3L l1 l2 l3 its1.toArray its2.toArray its3.toArray) ⟨p1.isList, p2.isList, p3.isList, fun h' hz hTI hTO h1 h2 h3 hk => ⟨⟨_, hz, rfl⟩, ?_⟩⟩
        refine wpAny_pyIter_zip hz ?_
        have fp : ∀ b, s1.heap.objs.size ≤ b → FpOk X pins H1 b := fun b hb => I1.fpOk hb (I1.hok.fresh hb)
        have I2 : Inv X pins σ H1 { s1 with heap := h', toks := s1.toks } := I1.kept hk
        generalize hN : s1.heap.objs.size = N at hz hTI hTO h1 h2 h3 lt1 lt2 lt3 fp
        refine ⟨_, [N + 5, N + 3, N + 4, N, N + 1, N + 2], _, _, H1, rfl, I2, turn_zip3L l1 l2 l3 _ _ _ _ _ _ ⟨?_, ?_, ?_, ?_, ?_, ?_, ?_, ?_, ?_, ?_, ?_, ?_, ?_, ?_, ?_, ?_, ?_, ?_, ?_, ?_, ?_, ?_, ?_, ?_⟩ ?_ ?_ ?_, ⟨hz, hTI, ⟨_, _, _, hTO⟩, h1, h2, h3⟩, fun b hb => ?_, q⟩
        case refine_28 =>
          refine fp b ?_
          simp only [List.mem_cons, List.not_mem_nil, or_false] at hb
          rcases hb with rfl | rfl | rfl | rfl | rfl | rfl
          · exact Nat.le_add_right _ 5
          · exact Nat.le_add_right _ 3
          · exact Nat.le_add_right _ 4
          · exact Nat.le_refl _
          · exact Nat.le_add_right _ 1
          · exact Nat.le_add_right _ 2
        all_goals first
          | exact Nat.ne_of_lt lt1
          | exact Nat.ne_of_lt (Nat.lt_of_lt_of_le lt2 (Nat.le_add_right _ _))
          | exact Nat.ne_of_lt (Nat.lt_of_lt_of_le lt3 (Nat.le_add_right _ _))
          | (show (_ : Nat) ≠ _; omega)
          | (simp only [List.mem_cons, List.not_mem_nil, or_false, not_or]
             exact ⟨by show (_ : Nat) ≠ _; omega, by first
               | exact Nat.ne_of_gt lt1
               | exact Nat.ne_of_gt lt2
               | exact Nat.ne_of_gt lt3
               | exact Nat.ne_of_gt (Nat.lt_of_lt_of_le lt1 (Nat.le_add_right _ _))
               | exact Nat.ne_of_gt (Nat.lt_of_lt_of_le lt2 (Nat.le_add_right _ _))
               | exact Nat.ne_of_gt (Nat.lt_of_lt_of_le lt3 (Nat.le_add_right _ _))⟩)
theorem comp_zip3 {K : PySem.W.Frag} {a b c : Addr} {xs ys ws : List V} {ρ : List (Option Nat)} {g : TG} {tt : TT} {te : TE} {σ : St} {H : Hp} {Q : VK} (hlen : xs.length = ys.length) (hlen2 : xs.length = ws.length) (Pv : Nat → List V → Hp → Prop) (h0 : Pv 0 [] H) (hsz : xs.length ≤ sizeLine) (hl : ∀ i zs H, i ≤ xs.length → Pv i zs H → SqL K H a xs ∧ SqL K H b ys ∧ SqL K H c ws ∧ zs.length ≤ i)
    (hs : ∀ i x y v T zs H, xs[i]? = some x → ys[i]? = some y → ws[i]? = some v → Pv i zs H → H T = none → g (.ref T) (inSt ρ σ) (upd H T (.tup [x, y, v])) fun σ2 H3 => Outs ρ σ σ2 ∧ tt σ2 H3 fun ok H4 => if ok = true then te σ2 H4 fun v H5 => Pv (i + 1) (zs ++ [v]) H5 else Pv (i + 1) zs H4)
    (hd : ∀ zs H, Pv xs.length zs H → ∀ p, H p = none → Q (.ref p) (upd H p (.lst zs))) : CompW ρ g tt te σ Q (ItwL K a b c) H := by
  refine ⟨fun i m zs H => m = xs.length - i ∧ i ≤ xs.length ∧ Pv i zs H, ⟨_, rfl, Nat.zero_le _, h0⟩, ?_⟩
  rintro i m zs H ⟨rfl, hi, p⟩
  obtain ⟨q1, q2, q3, hz⟩ := hl i zs H hi p
  by_cases hlt : i < xs.length
  · refine .inr ⟨⟨xs, ys, ws, xs[i], ys[i], ws[i], q1, q2, q3, hlen, hlen2, List.getElem?_eq_getElem hlt, List.getElem?_eq_getElem (by omega), List.getElem?_eq_getElem (by omega)⟩, by omega, Pv (i + 1), fun ys' H'' p' => ⟨xs.length - (i + 1), by omega, rfl, hlt, p'⟩, fun v H' yy => ?_⟩
    obtain ⟨x, y, v, T, hx, hy, hv, hT, rfl, rfl⟩ := yy
    exact hs i x y v T zs H (hx xs q1) (hy ys q2) (hv ws q3) p hT
  · have : i = xs.length := by omega
    subst this
    exact .inl ⟨⟨xs, ys, ws, q1, q2, q3, hlen, hlen2, rfl⟩, by omega, hd zs H p⟩
end L2

set_option Elab.async false
set_option linter.all false
set_option maxRecDepth 100000
set_option maxHeartbeats 4000000
namespace L2
open PySem PySem.Spec PyProof.Rows
structure Lq.Ok7 (q : Lq) (L : List Lq) : Prop where
  ok : q.Ok L.length
  l1 : q.lo.1 = "" ∨ ∃ y ∈ L, q.lo.1 = y.nm
  h1 : q.hi.1 = "" ∨ ∃ y ∈ L, q.hi.1 = y.nm
  lb : -(5 + 20 * (L.length : Int)) ≤ q.lo.2 ∧ q.lo.2 ≤ 5 + 20 * (L.length : Int)
  hb : -(5 + 20 * (L.length : Int)) ≤ q.hi.2 ∧ q.hi.2 ≤ 5 + 20 * (L.length : Int)
noncomputable def OkL7 (L : List Lq) : Prop := ∀ (j : Nat) (q : Lq), L[j]? = some q → q.Ok7 (L.take j)
theorem OkL7.ok {L : List Lq} (h : OkL7 L) : OkL L := fun j q hq => by
  have := (h j q hq).ok
  rwa [List.length_take, Nat.min_eq_left (Nat.le_of_lt (List.getElem?_eq_some_iff.mp hq).1)] at this
theorem OkL7.nil : OkL7 [] := fun j x hx => by cases hx
theorem OkL7.snoc {L : List Lq} {q : Lq} (h : OkL7 L) (hq : q.Ok7 L) : OkL7 (L ++ [q]) := fun j x hx => by
  rcases Nat.lt_or_ge j L.length with z | z
  · rw [List.getElem?_append_left z] at hx
    rw [List.take_append_of_le_length (Nat.le_of_lt z)]
    exact h j x hx
  · have l := (List.getElem?_eq_some_iff.mp hx).1
    rw [List.length_append, List.length_singleton] at l
    have e : j = L.length := by omega
    subst e
    rw [List.getElem?_append_right (Nat.le_refl _), Nat.sub_self] at hx
    cases hx
    rw [List.take_left' rfl]
    exact hq
theorem OkL7.take {L : List Lq} (h : OkL7 L) (n : Nat) : OkL7 (L.take n) := fun j x hx => by
  have l := (List.getElem?_eq_some_iff.mp hx).1
  rw [List.length_take] at l
  rw [List.getElem?_take_of_lt (by omega)] at hx
  rw [List.take_take, Nat.min_eq_left (by omega)]
  exact h j x hx
noncomputable def spLoop67 : Sp := fun vs H Q _ => ∃ (cell : Int) (ll : Addr) (L : List Lq), vs = [.int cell, .ref ll] ∧ 0 ≤ cell ∧ LqsAt H ll L ∧ OkL L ∧ L.length ≤ 2 ∧ ∀ (r : Addr) (H' : Hp) (q : Lq), Same H H' → LqAt H' (.ref r) q → q.Ok7 L → Q (.ref r) H'
theorem eq_qT {p q : Lq} (h : eqT (qT p) (qT q) = true) : p = q := by
  obtain ⟨a, ⟨b1, b2⟩, ⟨c1, c2⟩, d, e⟩ := p
  obtain ⟨a', ⟨b1', b2'⟩, ⟨c1', c2'⟩, d', e'⟩ := q
  simp [qT, eqT, eqTs, eqV] at h
  obtain ⟨h1, ⟨h2, h3⟩, ⟨h4, h5⟩, h6, h7⟩ := h
  subst h1 h2 h3 h4 h5 h6 h7
  rfl
theorem eq_qTs : ∀ {A B : List Lq}, eqTs (A.map qT) (B.map qT) = true → A = B
  | [], [], _ => rfl
  | [], b :: B, h => by simp [eqTs] at h
  | a :: A, [], h => by simp [eqTs] at h
  | a :: A, b :: B, h => by
    rw [List.map_cons, List.map_cons, eqTs, Bool.and_eq_true] at h
    rw [eq_qT h.1, eq_qTs h.2]
structure RowQ7 (Ds : List Dq) : Prop where
  row : RowQ Ds
  in7 : ∀ D ∈ Ds, OkL7 D.L
  hd : ∀ D, Ds.head? = some D → D.sh = 0
  up : ∀ (i : Nat) (a b : Dq), Ds[i]? = some a → Ds[i + 1]? = some b → a.path.getD b.sh 0 < b.path.getD b.sh 0
theorem RowQ7.nil : RowQ7 [] := ⟨RowQ.nil, fun D h => (by cases h), fun D h => (by cases h), fun i a b h => (by cases h)⟩
theorem RowQ7.snoc {Ds : List Dq} {D : Dq} (h : RowQ7 Ds) (hD : D.Ok) (h7 : OkL7 D.L) (h0 : Ds = [] → D.sh = 0) (hn : ∀ a, Ds.getLast? = some a → Nx a D ∧ a.path.getD D.sh 0 < D.path.getD D.sh 0) : RowQ7 (Ds ++ [D]) := by
  refine ⟨h.row.snoc hD fun a ha => (hn a ha).1, fun x hx => ?_, fun x hx => ?_, fun i a b h1 h2 => ?_⟩
  · rcases List.mem_append.mp hx with z | z
    · exact h.in7 x z
    · rw [List.mem_singleton.mp z]; exact h7
  · cases Ds with
    | nil => cases hx; exact h0 rfl
    | cons y ys => exact h.hd x hx
  · have l2 := (List.getElem?_eq_some_iff.mp h2).1
    rw [List.length_append, List.length_singleton] at l2
    rw [List.getElem?_append_left (by omega)] at h1
    rcases Nat.lt_or_ge (i + 1) Ds.length with z | z
    · rw [List.getElem?_append_left z] at h2
      exact h.up i a b h1 h2
    · have e : i + 1 = Ds.length := by omega
      rw [e, List.getElem?_append_right (Nat.le_refl _), Nat.sub_self] at h2
      cases h2
      refine (hn a ?_).2
      rw [List.getLast?_eq_getElem?, show Ds.length - 1 = i by omega]
      exact h1
theorem next_up {p q : List Int} {c : Nat} {v : Int} (hc : p[c]? = some v) (hq : q.take (c + 1) = p.take c ++ [v + 1]) : p.getD c 0 < q.getD c 0 := by
  have lc := (List.getElem?_eq_some_iff.mp hc).1
  have tl : (p.take c).length = c := by rw [List.length_take]; omega
  have e : q[c]? = some (v + 1) := by
    have : (q.take (c + 1))[c]? = (p.take c ++ [v + 1])[c]? := by rw [hq]
    rw [List.getElem?_take_of_lt (by omega), List.getElem?_append_right (by omega), tl, Nat.sub_self] at this
    exact this
  rw [List.getD_eq_getElem?_getD, List.getD_eq_getElem?_getD, hc, e]
  show v < v + 1
  omega
noncomputable def spDeeds67 (K : PySem.W.Frag) : Sp := fun vs H Q _ => ∃ (p : Addr) (ns : List Int) (f : Int) (n : Nat), vs = [.ref p, .int f, .int (n : Int)] ∧ SqL K H p (ns.map V.int) ∧ 0 ≤ f ∧ f ≤ 1000 ∧ n ≤ 6 ∧ ∀ (r : Addr) (xs : List V) (H' : Hp) (Ds : List Dq), Same H H' → H' r = some (.lst xs) → All2 (DqAt H') xs Ds → Ds.length = n → RowQ7 Ds → Q (.ref r) H'
theorem path_le {Ds : List Dq} (h : RowQ7 Ds) {i s : Nat} {a : Dq} (ha : Ds[i]? = some a) : ∀ (n : Nat) (b : Dq), Ds[i + n]? = some b → (∀ j c, i < j → j ≤ i + n → Ds[j]? = some c → s ≤ c.sh) → (∀ e < s, a.path.getD e 0 = b.path.getD e 0) ∧ a.path.getD s 0 ≤ b.path.getD s 0 ∧ ((∃ j c, i < j ∧ j ≤ i + n ∧ Ds[j]? = some c ∧ c.sh = s) → a.path.getD s 0 < b.path.getD s 0)
  | 0, b, hb, _ => by
    rw [Nat.add_zero, ha] at hb
    cases hb
    exact ⟨fun _ _ => rfl, Int.le_refl _, fun ⟨j, c, h1, h2, _⟩ => by omega⟩
  | n + 1, b, hb, hs => by
    have l := (List.getElem?_eq_some_iff.mp hb).1
    have hm : Ds[i + n]? = some (Ds[i + n]'(by omega)) := List.getElem?_eq_getElem (by omega)
    generalize Ds[i + n]'(by omega) = m at hm
    obtain ⟨p1, p2, p3⟩ := path_le h ha n m hm fun j c h1 h2 h3 => hs j c h1 (by omega) h3
    have nx := h.row.nx (i + n) m b hm hb
    have up := h.up (i + n) m b hm hb
    have sb := hs (i + (n + 1)) b (by omega) (Nat.le_refl _) hb
    have same : ∀ e < b.sh, m.path.getD e 0 = b.path.getD e 0 := fun e he => Pw.take_getD nx.2.2.1 he
    refine ⟨fun e he => (p1 e he).trans (same e (by omega)), ?_, fun ⟨j, c, h1, h2, h3, h4⟩ => ?_⟩
    · by_cases c : s = b.sh
      · rw [c] at p2 ⊢; omega
      · rw [← same s (by omega)]; exact p2
    · by_cases c : s = b.sh
      · rw [c] at p2 ⊢; omega
      · rw [← same s (by omega)]
        refine p3 ⟨j, _, h1, ?_, h3, h4⟩
        by_cases cj : j = i + (n + 1)
        · rw [cj, hb] at h3; cases h3; omega
        · omega
theorem bq_sh {b : Int} {Ds : List Dq} {i j s : Nat} (h : Fo.Least (bq b Ds) i j s) : (∃ k c, i < k ∧ k ≤ j ∧ Ds[k]? = some c ∧ c.sh = s) ∧ ∀ k c, i < k → k ≤ j → Ds[k]? = some c → s ≤ c.sh := by
  obtain ⟨⟨k, c, h1, h2, h3, h4⟩, h5⟩ := h
  refine ⟨?_, fun k c g1 g2 g3 => h5 k _ g1 g2 (bq_get g3)⟩
  obtain ⟨D, hD, rfl⟩ := bq_inv h3
  exact ⟨k, D, h1, h2, hD, h4⟩
theorem sh_lens {Ds : List Dq} (h : RowQ Ds) {i s : Nat} {a : Dq} (ha : Ds[i]? = some a) : ∀ (n : Nat) (b : Dq), Ds[i + n]? = some b → 0 < n → (∀ j c, i < j → j ≤ i + n → Ds[j]? = some c → s ≤ c.sh) → s ≤ a.L.length ∧ s ≤ b.L.length := fun n b hb hn hs => by
  have l := (List.getElem?_eq_some_iff.mp hb).1
  have h1 : Ds[i + 1]? = some (Ds[i + 1]'(by omega)) := List.getElem?_eq_getElem (by omega)
  generalize Ds[i + 1]'(by omega) = m at h1
  have nx := (h.nx i a m ha h1).1
  have s1 := hs (i + 1) m (by omega) (by omega) h1
  have s2 := hs (i + n) b (by omega) (Nat.le_refl _) hb
  have := (h.ok b (List.mem_of_getElem? hb)).sl
  omega
noncomputable def Rel7 (D E : Dq) (k : Nat) : Prop := k ≤ D.L.length ∧ k ≤ E.L.length ∧ (∀ e < k, D.path.getD e 0 = E.path.getD e 0) ∧ (k < D.L.length → k < E.L.length → D.path.getD k 0 ≠ E.path.getD k 0)
theorem rel_of {b : Int} {Ds : List Dq} (h : RowQ7 Ds) {i j s : Nat} {D E : Dq} (hD : Ds[i]? = some D) (hE : Ds[j]? = some E) (hm : Many (bq b Ds) i j s) : Rel7 D E s := by
  rcases hm with ⟨rfl, b', hb', rfl⟩ | ⟨hij, hl⟩ | ⟨hij, hl⟩
  · rw [hD] at hE
    cases hE
    obtain ⟨D', hD', rfl⟩ := bq_inv hb'
    rw [hD] at hD'
    cases hD'
    show Rel7 D D (List.replicate _ _).length
    rw [List.length_replicate]
    exact ⟨Nat.le_refl _, Nat.le_refl _, fun _ _ => rfl, fun z => absurd z (Nat.lt_irrefl _)⟩
  · obtain ⟨h1, h2⟩ := bq_sh hl
    obtain ⟨n, rfl⟩ : ∃ n, j = i + n := ⟨j - i, by omega⟩
    obtain ⟨p1, p2, p3⟩ := path_le h hD n E hE h2
    obtain ⟨l1, l2⟩ := sh_lens h.row hD n E hE (by omega) h2
    exact ⟨l1, l2, p1, fun _ _ => Int.ne_of_lt (p3 h1)⟩
  · obtain ⟨h1, h2⟩ := bq_sh hl
    obtain ⟨n, rfl⟩ : ∃ n, i = j + n := ⟨i - j, by omega⟩
    obtain ⟨p1, p2, p3⟩ := path_le h hE n D hD h2
    obtain ⟨l1, l2⟩ := sh_lens h.row hE n D hD (by omega) h2
    exact ⟨l2, l1, fun e he => (p1 e he).symm, fun _ _ z => Int.ne_of_lt (p3 h1) z.symm⟩
noncomputable def spShared67 (C : Addr) (c : Cs) (b : Int) : Sp := fun vs H Q _ => ∃ (x y : V) (D E : Dq) (k : Nat), vs = [x, y] ∧ DoAt C c H x (dwOf b D) ∧ DoAt C c H y (dwOf b E) ∧ D.Ok ∧ E.Ok ∧ Rel7 D E k ∧ Q (.int (k : Int)) H
noncomputable def TrAt (H : Hp) (x : V) (T : Trn) : Prop := ∃ t d, x = .ref t ∧ H t = some (.tup [.int (T.1 : Int), .ref d]) ∧ H d = some (.tup (T.2.map V.int))
theorem TrAt.over {H H' : Hp} {x : V} {T : Trn} (h : TrAt H x T) (e : Same H H') : TrAt H' x T := let ⟨t, d, a, b, c⟩ := h; ⟨t, d, a, e _ _ b, e _ _ c⟩
theorem TrAt.tk {H H' : Hp} {x : V} {T : Trn} (h : TrAt H x T) (e : TK H H') : TrAt H' x T := let ⟨t, d, a, b, c⟩ := h; ⟨t, d, a, e _ _ b, e _ _ c⟩
noncomputable def TrIn (Ds : List Dq) (T : Trn) : Prop := ∃ D, Ds[T.1]? = some D ∧ T.2.length = D.L.length
noncomputable def spAhead67 (CP C : Addr) (c : Cs) : Sp := fun vs H Q _ => ∃ (v x y : V) (n b : Int) (Ds : List Dq) (T U : Trn) (s e : Nat) (bb : Bool), vs = [v, x, y] ∧ PrgW CP C c H v n (Ds.map (dwOf b)) ∧ RowQ7 Ds ∧ TrAt H x T ∧ TrAt H y U ∧ TrIn Ds T ∧ TrIn Ds U ∧ Many (bq b Ds) T.1 U.1 s ∧ Ah s T U e bb ∧ Q (.bl bb) H
noncomputable def spBefore67 : Sp := fun vs H Q _ => ∃ (x y : V) (l : Addr) (xs : List V) (b : Int) (Ds : List Dq) (T U : Trn) (s e : Nat) (bb : Bool), vs = [x, y, .ref l] ∧ H l = some (.lst xs) ∧ All2 (DqAt H) xs Ds ∧ RowQ7 Ds ∧ Ds.length ≤ 6 ∧ TrAt H x T ∧ TrAt H y U ∧ TrIn Ds T ∧ TrIn Ds U ∧ Many (bq b Ds) T.1 U.1 s ∧ Ah s T U e bb ∧ Q (.bl bb) H
theorem toldS_ok7 {b : Int} {s : Str × Int} (h1 : s.1.length ≤ 10) (h2 : -100 ≤ s.2 ∧ s.2 ≤ 100) (b0 : -100000000000000000 ≤ b) (b1 : b ≤ 100000000000000000) : SpB (toldS b s) := by
  unfold toldS
  split
  · exact ⟨by rw [show ("" : Str).length = 0 from rfl]; decide, by show _ ≤ s.2 + b; omega, by show s.2 + b ≤ _; omega⟩
  · exact ⟨by show s.1.length ≤ 20; omega, by show _ ≤ s.2; omega, by show s.2 ≤ _; omega⟩
theorem dw_ok7 {b : Int} {D : Dq} (h : D.Ok) (b0 : -100000000000000000 ≤ b) (b1 : b ≤ 100000000000000000) : (dwOf b D).Ok := by
  have d0 := dw_ok (b := 0) h (by decide) (by decide)
  refine ⟨fun t ht => ?_, ?_, ?_, d0.c, d0.t, d0.s⟩
  · obtain ⟨q, hq, rfl⟩ := List.mem_map.mp ht
    obtain ⟨j, hj⟩ := List.mem_iff_getElem?.mp hq
    have ok := h.ok j q hj
    exact ⟨by show q.nm.length ≤ 20; have := ok.n; omega, toldS_ok7 ok.l ok.l2 b0 b1, toldS_ok7 ok.h ok.h2 b0 b1⟩
  · show (D.L.map _).length ≤ 3
    rw [List.length_map]
    exact h.ll
  · show D.path.length = (D.L.map _).length + 1
    rw [List.length_map]
    exact h.pl
theorem okD_of7 {b : Int} {Ds : List Dq} (h : RowQ Ds) (n : Ds.length ≤ 6) (b0 : -100000000000000000 ≤ b) (b1 : b ≤ 100000000000000000) : OkD (Ds.map (dwOf b)) := by
  refine ⟨fun D hD => ?_, ?_, cc_of h⟩
  · obtain ⟨q, hq, rfl⟩ := List.mem_map.mp hD
    exact dw_ok7 (h.ok q hq) b0 b1
  · rw [List.length_map]; omega
theorem sw_len : ∀ (f : Frs) (p : List Int) (j : Nat), (Fo.swF f p j).length ≤ fcnt f
  | .nil, _, _ => Nat.le_refl _
  | .leaf _ _ r, p, j => Nat.le_succ_of_le (sw_len r p (j + 1))
  | .node _ _ s r, p, j => by
    have h1 := sw_len s (p ++ [(j : Int)]) 0
    have h2 := sw_len r p (j + 1)
    show (_ :: (_ ++ _)).length ≤ fcnt s + fcnt r + 1
    rw [List.length_cons, List.length_append]
    omega
theorem sw_own : ∀ (f : Frs) (B : List Bgh) (d : Nat) (p : List Int) (j : Nat), Fo.Is f B d → OwnA B → ∀ s ∈ Fo.swF f p j, s.2.1 = false
  | .nil, _, _, _, _, _, _, s, hs => nomatch hs
  | .leaf k pl r, B, d, p, j, h, ho, s, hs => by
    obtain ⟨b, B', rfl, _, _, _, _, hr⟩ := h
    exact sw_own r B' d p (j + 1) hr (fun x hx => ho x (List.mem_cons_of_mem _ hx)) s hs
  | .node c w u r, B, d, p, j, h, ho, s, hs => by
    obtain ⟨b, G, B', rfl, hw, _, _, h1, hr⟩ := h
    have hs : s ∈ (p ++ [(j : Int)], c, w) :: (Fo.swF u (p ++ [(j : Int)]) 0 ++ Fo.swF r p (j + 1)) := hs
    rcases List.mem_cons.mp hs with rfl | hs
    · have := (ho b (List.mem_append_left _ List.mem_cons_self)).2 _ (List.mem_of_getElem? hw)
      exact congrArg Prod.fst this
    · rcases List.mem_append.mp hs with hs | hs
      · exact sw_own u (b :: G) (d + 1) _ 0 h1 (fun x hx => ho x (List.mem_append_left _ hx)) s hs
      · exact sw_own r B' d p (j + 1) hr (fun x hx => ho x (List.mem_append_right _ hx)) s hs
theorem bq_good {b : Int} {Ds : List Dq} (h : RowQ7 Ds) (n : Ds.length ≤ 6) : GoodBs (bq b Ds) := by
  have F := bq_from (b := b) h.row n
  refine ⟨F.ok, fun c hc => ?_, fun c hc => ?_, by rw [bq_len]; exact n⟩
  · rw [List.head?_eq_getElem?] at hc
    obtain ⟨D, hD, rfl⟩ := bq_inv hc
    exact h.hd D (by rw [List.head?_eq_getElem?]; exact hD)
  · obtain ⟨i, hi⟩ := List.mem_iff_getElem?.mp hc
    obtain ⟨D, hD, rfl⟩ := bq_inv hi
    have ok := h.row.ok D (List.mem_of_getElem? hD)
    have ll := ok.ll
    have il := (List.getElem?_eq_some_iff.mp hD).1
    refine ⟨?_, ?_, ?_, fun w hw => ?_, ?_, ?_, fun p hp => ?_⟩
    · show (List.replicate _ _).length ≤ 6
      rw [List.length_replicate]; omega
    · show (Fo.ownP _).length = (List.replicate _ _).length
      rw [List.length_replicate, own_len]
    · show D.sh ≤ (List.replicate _ _).length
      rw [List.length_replicate]; exact ok.sl
    · rw [(List.mem_replicate.mp hw).2]
      show ("up" : Str) ∈ ways3
      decide +kernel
    · show (0 : Int) ≤ (i : Int)
      omega
    · show (i : Int) ≤ 5
      omega
    · obtain ⟨e, he, rfl⟩ := List.mem_map.mp hp
      have := List.mem_range.mp he
      exact ⟨by show (0 : Int) ≤ (e : Int); omega, by show (e : Int) ≤ 2; omega, by show _ ≤ (0 : Int); decide, by show (0 : Int) ≤ _; decide⟩
theorem bq_nodup (b : Int) (Ds : List Dq) : ((bq b Ds).map (·.k)).Nodup := by
  have e : (bq b Ds).map (·.k) = (List.range Ds.length).map fun i : Nat => (i : Int) := by
    show List.map _ (List.map _ _) = _
    rw [List.map_map, List.length_map]
    rfl
  rw [e]
  unfold List.Nodup
  rw [List.pairwise_map]
  exact List.nodup_range.imp fun {x y} hxy z => hxy (by omega)
noncomputable def PlanF (H : Hp) (p : Addr) (B : List Bgh) (f : Frs) : Prop := FoT H p f ∧ Fo.Is f B 0 ∧ GoodBs B ∧ (B.map (·.k)).Nodup
theorem PlanF.over {H H' : Hp} {p : Addr} {B : List Bgh} {f : Frs} (h : PlanF H p B f) (e : Same H H') : PlanF H' p B f := ⟨h.1.over e, h.2⟩
noncomputable def spCutP67 : Sp := fun vs H Q _ => ∃ (p : Addr) (B : List Bgh) (f : Frs), vs = [.ref p] ∧ PlanF H p B f ∧ OwnA B ∧ ∀ (r : Addr) (H' : Hp), Same H H' → H' r = some (.lst []) → Q (.ref r) H'
noncomputable def spNever : Sp := fun _ _ _ _ => False
noncomputable def spEnds67 : Sp := fun vs H Q _ => ∃ (v : V) (p : Addr) (B : List Bgh) (f : Frs), vs = [v, .ref p] ∧ PlanF H p B f ∧ OwnA B ∧ ∀ (r : Addr) (H' : Hp), Same H H' → H' r = some (.lst []) → Q (.ref r) H'
noncomputable def spRulers67 : Sp := fun vs H Q _ => ∃ (p l m : Addr) (B : List Bgh) (f : Frs), vs = [.ref p, .ref l, .ref m] ∧ PlanF H p B f ∧ OwnA B ∧ H l = some (.lst []) ∧ H m = some (.lst []) ∧ ∀ (r : Addr) (H' : Hp), Same H H' → H' r = some (.dT []) → Q (.ref r) H'
noncomputable def spShown67 : Sp := fun vs H Q _ => ∃ (v p : Addr) (W : List Int) (e : Nat) (d : Int), vs = [.ref v, .ref p, .non] ∧ H v = some (.tup (W.map V.int)) ∧ H p = some (.tup [.int (e : Int), .int d]) ∧ e < W.length ∧ Q (.int (W.getD e 0 + d)) H
noncomputable def spByWay67 : Sp := fun vs H Q _ => ∃ (b : Bool), vs = [.str "up", .bl b] ∧ Q (.int (if b then -1 else 1)) H
noncomputable def RbP (H : Hp) (x : V) (r : Rb × List Int) : Prop := ∃ t pt a b, x = .ref t ∧ H t = some (.tup [.ref pt, .bl r.1.way.1, .str r.1.way.2, .ref a, .ref b]) ∧ H a = some (.tup [.int r.1.p.1, .int r.1.p.2]) ∧ H b = some (.tup [.int r.1.q.1, .int r.1.q.2]) ∧ H pt = some (.tup (r.2.map V.int))
theorem RbP.tk {H H' : Hp} {x : V} {r : Rb × List Int} (h : RbP H x r) (k : TK H H') : RbP H' x r := by obtain ⟨t, pt, a, b, c, d, e, f, g⟩ := h; exact ⟨t, pt, a, b, c, k _ _ d, k _ _ e, k _ _ f, k _ _ g⟩
noncomputable def rbp (b c : Bgh) (P : List Int) (s : Nat) : List (Rb × List Int) := (List.range s).map fun e => (⟨b.ways.getD e (false, ""), b.pl.getD e (0, 0), c.pl.getD e (0, 0)⟩, P.take (e + 1))
theorem rbp_len (b c : Bgh) (P : List Int) (s : Nat) : (rbp b c P s).length = s := by unfold rbp; rw [List.length_map, List.length_range]
theorem rbp_succ (b c : Bgh) (P : List Int) (s : Nat) : rbp b c P (s + 1) = rbp b c P s ++ [(⟨b.ways.getD s (false, ""), b.pl.getD s (0, 0), c.pl.getD s (0, 0)⟩, P.take (s + 1))] := by unfold rbp; rw [List.range_succ, List.map_append]; rfl
theorem rbp_get {b c : Bgh} {P : List Int} {s e : Nat} (h : e < s) : (rbp b c P s)[e]? = some (⟨b.ways.getD e (false, ""), b.pl.getD e (0, 0), c.pl.getD e (0, 0)⟩, P.take (e + 1)) := by
  unfold rbp
  rw [List.getElem?_map, List.getElem?_range h]
  rfl
noncomputable def spRound67 : Sp := fun vs H Q _ => ∃ (p : Addr) (B : List Bgh) (f : Frs) (i j s : Nat) (b c : Bgh) (x : Fo.En), vs = [.ref p, .int b.k, .int c.k] ∧ PlanF H p B f ∧ B[i]? = some b ∧ B[j]? = some c ∧ (Fo.deedsF f [] 0)[i]? = some x ∧ Many B i j s ∧ ∀ (r : Addr) (ys : List V) (H' : Hp), Same H H' → H r = none → H' r = some (.lst ys) → All2 (RbP H') ys (rbp b c x.path s) → s ≤ b.ways.length ∧ s ≤ c.ways.length → Q (.ref r) H'
noncomputable def spOrder67 (CP C : Addr) (c : Cs) : Sp := fun vs H Q _ => ∃ (v x y : V) (p wl : Addr) (n b : Int) (Ds : List Dq) (f : Frs) (T U : Trn) (s e : Nat) (bb : Bool), vs = [v, .ref p, .ref wl, x, y] ∧ PrgW CP C c H v n (Ds.map (dwOf b)) ∧ RowQ7 Ds ∧ Ds.length ≤ 6 ∧ PlanF H p (bq b Ds) f ∧ H wl = some (.lst []) ∧ TrAt H x T ∧ TrAt H y U ∧ TrIn Ds T ∧ TrIn Ds U ∧ Many (bq b Ds) T.1 U.1 s ∧ Ah s T U e bb ∧ ∀ H', Same H H' → Q (.int (if bb then -1 else 1)) H'
theorem lex_pre : ∀ (c : List Int) (i j : Int) (q r : List Int), HT.lexLt (c ++ i :: q) (c ++ j :: r) = if i = j then HT.lexLt q r else decide (i < j)
  | [], i, j, q, r => rfl
  | x :: c, i, j, q, r => by
    show (if x = x then HT.lexLt (c ++ i :: q) (c ++ j :: r) else decide (x < x)) = _
    rw [if_pos rfl]
    exact lex_pre c i j q r
theorem lex_self : ∀ c : List Int, HT.lexLt c c = false
  | [] => rfl
  | x :: c => by
    show (if x = x then HT.lexLt c c else decide (x < x)) = false
    rw [if_pos rfl]
    exact lex_self c
theorem lex_sep {x y : List Int} {n : Nat} (h : Fo.Sep x y n) : HT.lexLt x y = true ∧ HT.lexLt y x = false := by
  obtain ⟨c, i, j, q, r, rfl, rfl, _, hij⟩ := h
  rw [lex_pre, lex_pre, if_neg (by omega), if_neg (by omega)]
  exact ⟨decide_eq_true hij, decide_eq_false (by omega)⟩
theorem lex_of {f : Frs} {B : List Bgh} {i j s : Nat} {x y : Fo.En} (h : Fo.Is f B 0) (hx : (Fo.deedsF f [] 0)[i]? = some x) (hy : (Fo.deedsF f [] 0)[j]? = some y) (hm : Many B i j s) : HT.lexLt x.path y.path = decide ((i : Int) < (j : Int)) := by
  have zero : ∀ i c, B[i + 1]? = some c → 0 ≤ c.sh := fun _ _ _ => Nat.zero_le _
  rcases hm with ⟨rfl, _⟩ | ⟨hij, hl⟩ | ⟨hij, hl⟩
  · rw [hx] at hy
    cases hy
    rw [lex_self, decide_eq_false (by omega)]
  · rw [(lex_sep (Fo.deeds_sep f B 0 [] 0 i j s x y h zero hij hx hy hl).2).1, decide_eq_true (by omega)]
  · rw [(lex_sep (Fo.deeds_sep f B 0 [] 0 j i s y x h zero hij hy hx hl).2).2, decide_eq_false (by omega)]
noncomputable def vb : Nat → Int
  | 0 => 0
  | j + 1 => vb j + (5 + 20 * (j : Int))
noncomputable def cn : Nat → Nat
  | 0 => 1
  | j + 1 => cn j * (2 * (vb (j + 1)).toNat + 1)
theorem vb_pos : ∀ j, 0 ≤ vb j
  | 0 => Int.le_refl _
  | j + 1 => by have := vb_pos j; show 0 ≤ vb j + (5 + 20 * (j : Int)); omega
theorem cn3 {j : Nat} (h : j ≤ 3) : cn j ≤ 101321 := by
  match j, h with
  | 0, _ => decide
  | 1, _ => decide
  | 2, _ => decide
  | 3, _ => decide
noncomputable def InB (m : Int) (v : List Int) : Prop := ∀ n ∈ v, -m ≤ n ∧ n ≤ m
theorem InB.mono {m k : Int} {v : List Int} (h : InB m v) (l : m ≤ k) : InB k v := fun n hn => by have := h n hn; omega
theorem InB.snoc {m : Int} {v : List Int} {n : Int} (h : InB m v) (h1 : -m ≤ n) (h2 : n ≤ m) : InB m (v ++ [n]) := fun x hx => by
  rcases List.mem_append.mp hx with z | z
  · exact h x z
  · rw [List.mem_singleton.mp z]; exact ⟨h1, h2⟩
noncomputable def WoD (m : Int) (zs : List Str) (kvs : List (Key × V)) : Prop := (∀ z, z = ("" : Str) ∨ z ∈ zs → ∃ n, valV kvs (.inr z) = some (.int n) ∧ -m ≤ n ∧ n ≤ m) ∧ kvs.length ≤ zs.length + 1
theorem WoD.put {m : Int} {zs : List Str} {kvs : List (Key × V)} {z : Str} {n : Int} (h : WoD m zs kvs) (h1 : -m ≤ n) (h2 : n ≤ m) : WoD m (zs ++ [z]) (putK kvs (.inr z) (.int n)) := by
  refine ⟨fun y hy => ?_, ?_⟩
  · by_cases c : z = y
    · subst c
      exact ⟨n, by rw [valV_put, if_pos rfl], h1, h2⟩
    · rw [valV_put, if_neg (fun e => c (Sum.inr.inj e).symm)]
      refine h.1 y ?_
      rcases hy with hy | hy
      · exact .inl hy
      · rcases List.mem_append.mp hy with hy | hy
        · exact .inr hy
        · exact absurd (List.mem_singleton.mp hy).symm c
  · have := length_putK kvs (Sum.inr z) (V.int n)
    have := h.2
    rw [List.length_append, List.length_singleton]
    omega
noncomputable def spValues67 : Sp := fun vs H Q _ => ∃ (ll : Addr) (L : List Lq), vs = [.ref ll] ∧ LqsAt H ll L ∧ OkL7 L ∧ L.length ≤ 3 ∧ ∀ (r : Addr) (ys : List V) (H' : Hp) (R : List (List Int)), Same H H' → H' r = some (.lst ys) → All2 (PaAt H') ys R → (∀ v ∈ R, v.length = L.length) → R.length ≤ 101321 → Q (.ref r) H'
theorem outs3q {ρ : List (Option Nat)} {σ : St} (o o' p : Option V) : Outs (none :: none :: none :: ρ) σ (o :: o' :: p :: inSt ρ σ) := by
  refine ⟨by unfold inSt; simp, fun j v e => ?_⟩
  rw [inSt_cons, inSt_cons, inSt_cons] at e
  match j with
  | 0 => simp at e
  | 1 => simp at e
  | 2 => simp at e
  | j + 3 => simpa using e
noncomputable def MinTo (Ds : List Dq) (n lo hi M : Nat) : Prop := M ≤ n ∧ (∀ k c, lo < k → k ≤ hi → Ds[k]? = some c → M ≤ c.sh) ∧ (M = n ∨ ∃ k c, lo < k ∧ k ≤ hi ∧ Ds[k]? = some c ∧ M = c.sh)
theorem MinTo.zero (Ds : List Dq) (n lo : Nat) : MinTo Ds n lo lo n := ⟨Nat.le_refl _, fun k c h1 h2 => absurd h1 (by omega), .inl rfl⟩
theorem MinTo.step {Ds : List Dq} {n lo hi M : Nat} {c : Dq} (h : MinTo Ds n lo hi M) (hl : lo ≤ hi) (hc : Ds[hi + 1]? = some c) : MinTo Ds n lo (hi + 1) (min M c.sh) := by
  obtain ⟨h1, h2, h3⟩ := h
  refine ⟨by omega, fun k d k1 k2 kd => ?_, ?_⟩
  · by_cases e : k = hi + 1
    · rw [e, hc] at kd; cases kd; omega
    · have := h2 k d k1 (by omega) kd; omega
  · rcases Nat.le_total M c.sh with z | z
    · rw [Nat.min_eq_left z]
      rcases h3 with h3 | ⟨k, d, k1, k2, kd, ke⟩
      · exact .inl h3
      · exact .inr ⟨k, d, k1, by omega, kd, ke⟩
    · rw [Nat.min_eq_right z]
      exact .inr ⟨hi + 1, c, by omega, Nat.le_refl _, hc, rfl⟩
theorem least_min {b : Int} {Ds : List Dq} {i j s : Nat} (h : RowQ Ds) (hm : Many (bq b Ds) i j s) (hi : i < Ds.length) (hj : j < Ds.length) : ∃ (lo up : Nat) (D : Dq), (if (j : Int) < (i : Int) then (j : Int) else (i : Int)) = (lo : Int) ∧ (if (j : Int) > (i : Int) then (j : Int) else (i : Int)) = (up : Int) ∧ lo ≤ up ∧ up < Ds.length ∧ Ds[lo]? = some D ∧ ∀ M : Nat, MinTo Ds D.L.length lo up M → M = s := by
  have two : ∀ {i j : Nat}, i < j → j < Ds.length → Fo.Least (bq b Ds) i j s → ∃ D, Ds[i]? = some D ∧ ∀ M : Nat, MinTo Ds D.L.length i j M → M = s := fun {i j} hij hj hl => by
    obtain ⟨⟨k, c, k1, k2, k3, k4⟩, h2⟩ := bq_sh hl
    have hD : Ds[i]? = some (Ds[i]'(by omega)) := List.getElem?_eq_getElem (by omega)
    generalize Ds[i]'(by omega) = D at hD
    refine ⟨D, hD, fun M ⟨m1, m2, m3⟩ => ?_⟩
    obtain ⟨n, rfl⟩ : ∃ n, j = i + n := ⟨j - i, by omega⟩
    obtain ⟨s1, _⟩ := sh_lens h hD n _ (List.getElem?_eq_getElem hj) (by omega) h2
    have a1 := m2 k c k1 k2 k3
    rcases m3 with m3 | ⟨k', c', g1, g2, g3, g4⟩
    · omega
    · have := h2 k' c' g1 g2 g3
      omega
  rcases hm with ⟨rfl, b', hb', rfl⟩ | ⟨hij, hl⟩ | ⟨hij, hl⟩
  · obtain ⟨D, hD, rfl⟩ := bq_inv hb'
    refine ⟨i, i, D, if_neg (by omega), if_neg (by omega), Nat.le_refl _, hi, hD, fun M ⟨m1, m2, m3⟩ => ?_⟩
    show M = (List.replicate _ _).length
    rw [List.length_replicate]
    rcases m3 with m3 | ⟨k', c', g1, g2, _⟩
    · exact m3
    · omega
  · obtain ⟨D, hD, k⟩ := two hij hj hl
    exact ⟨i, j, D, if_neg (by omega), if_pos (by omega), by omega, hj, hD, k⟩
  · obtain ⟨D, hD, k⟩ := two hij hi hl
    exact ⟨j, i, D, if_pos (by omega), if_neg (by omega), by omega, hi, hD, k⟩
end L2

set_option Elab.async false
set_option linter.all false
set_option maxRecDepth 100000
set_option maxHeartbeats 4000000

namespace Fw
open PySem L2 Bd


noncomputable def top (i : Nat) : Stmt := PySem.Challenge.pw_furrow_k67_own_plan_is_plain.main.body.getD i (.Pass ⟨0, 0, 0, 0⟩)
noncomputable abbrev s_Number_init : Stmt := inClass (top 6) 0
noncomputable abbrev s_Deed_init : Stmt := inClass (top 8) 0
noncomputable abbrev s_Program_init : Stmt := inClass (top 9) 0
noncomputable abbrev s_shared : Stmt := top 10
noncomputable abbrev s_alike_numbers : Stmt := top 11
noncomputable abbrev s_ahead : Stmt := top 12
noncomputable abbrev s_nested : Stmt := top 13
noncomputable abbrev s_items_within : Stmt := top 14
noncomputable abbrev s_neighbours : Stmt := top 15
noncomputable abbrev s_deeds_within : Stmt := top 17
noncomputable abbrev s_own_plan : Stmt := top 18
noncomputable abbrev s_own_items : Stmt := top 19
noncomputable abbrev s_sweeps_of : Stmt := top 20
noncomputable abbrev s_sweeps_within : Stmt := top 21
noncomputable abbrev s_stand : Stmt := top 22
noncomputable abbrev s_round_both : Stmt := top 23
noncomputable abbrev s_ends : Stmt := top 37
noncomputable abbrev s_cut_paths : Stmt := top 38
noncomputable abbrev s_ends_at : Stmt := top 39
noncomputable abbrev s_rulers : Stmt := top 41
noncomputable abbrev s_number_shown : Stmt := top 42
noncomputable abbrev s_order_of : Stmt := top 43
noncomputable abbrev s_order_by_way : Stmt := top 44
noncomputable abbrev s_l_at : Stmt := top 46
noncomputable abbrev s_l_digits : Stmt := top 47
noncomputable abbrev s_l_loop : Stmt := top 48
noncomputable abbrev s_l_deeds : Stmt := top 49
noncomputable abbrev s_l_told : Stmt := top 50
noncomputable abbrev s_l_told_deeds : Stmt := top 51
noncomputable abbrev s_l_values : Stmt := top 52
noncomputable abbrev s_l_before : Stmt := top 53
noncomputable abbrev s_law : Stmt := top 54
theorem sc_Number_init : FnScope ["self", "n"] ["self", "n"] (defScope s_Number_init) := ⟨rfl, rfl, rfl, by decide +kernel, rfl, by decide +kernel, by decide +kernel⟩
theorem sc_Deed_init : FnScope ["self", "names", "lows", "highs", "table", "spots", "term", "path"] ["self", "names", "lows", "highs", "table", "spots", "term", "path"] (defScope s_Deed_init) := ⟨rfl, rfl, rfl, by decide +kernel, rfl, by decide +kernel, by decide +kernel⟩
theorem sc_Program_init : FnScope ["self", "size", "deeds"] ["self", "size", "deeds"] (defScope s_Program_init) := ⟨rfl, rfl, rfl, by decide +kernel, rfl, by decide +kernel, by decide +kernel⟩
theorem sc_shared : FnScope ["one", "other"] ["one", "other"] (defScope s_shared) := ⟨rfl, rfl, rfl, by decide +kernel, rfl, by decide +kernel, by decide +kernel⟩
theorem sc_alike_numbers : FnScope ["path", "other", "most", "e"] ["path", "other", "most"] (defScope s_alike_numbers) := ⟨rfl, rfl, rfl, by decide +kernel, rfl, by decide +kernel, by decide +kernel⟩
theorem sc_ahead : FnScope ["program", "one", "other", "depth", "e"] ["program", "one", "other"] (defScope s_ahead) := ⟨rfl, rfl, rfl, by decide +kernel, rfl, by decide +kernel, by decide +kernel⟩
theorem sc_nested : FnScope ["deeds"] ["deeds"] (defScope s_nested) := ⟨rfl, rfl, rfl, by decide +kernel, rfl, by decide +kernel, by decide +kernel⟩
theorem sc_items_within : FnScope ["deeds", "numbers", "depth", "items", "group", "k"] ["deeds", "numbers", "depth"] (defScope s_items_within) := ⟨rfl, rfl, rfl, by decide +kernel, rfl, by decide +kernel, by decide +kernel⟩
theorem sc_neighbours : FnScope ["deeds", "numbers", "depth", "groups", "k"] ["deeds", "numbers", "depth"] (defScope s_neighbours) := ⟨rfl, rfl, rfl, by decide +kernel, rfl, by decide +kernel, by decide +kernel⟩
theorem sc_deeds_within : FnScope ["items", "path", "cuts", "found", "number", "item", "here"] ["items", "path", "cuts"] (defScope s_deeds_within) := ⟨rfl, rfl, rfl, by decide +kernel, rfl, by decide +kernel, by decide +kernel⟩
theorem sc_own_plan : FnScope ["program"] ["program"] (defScope s_own_plan) := ⟨rfl, rfl, rfl, by decide +kernel, rfl, by decide +kernel, by decide +kernel⟩
theorem sc_own_items : FnScope ["deeds", "items", "found", "k", "inner"] ["deeds", "items"] (defScope s_own_items) := ⟨rfl, rfl, rfl, by decide +kernel, rfl, by decide +kernel, by decide +kernel⟩
theorem sc_sweeps_of : FnScope ["plan"] ["plan"] (defScope s_sweeps_of) := ⟨rfl, rfl, rfl, by decide +kernel, rfl, by decide +kernel, by decide +kernel⟩
theorem sc_sweeps_within : FnScope ["items", "path", "found", "number", "item", "here"] ["items", "path"] (defScope s_sweeps_within) := ⟨rfl, rfl, rfl, by decide +kernel, rfl, by decide +kernel, by decide +kernel⟩
theorem sc_stand : FnScope ["plan", "k", "number", "places", "path", "cuts"] ["plan", "k"] (defScope s_stand) := ⟨rfl, rfl, rfl, by decide +kernel, rfl, by decide +kernel, by decide +kernel⟩
theorem sc_round_both : FnScope ["plan", "k", "l", "one", "other", "found", "items", "level", "item"] ["plan", "k", "l"] (defScope s_round_both) := ⟨rfl, rfl, rfl, by decide +kernel, rfl, by decide +kernel, by decide +kernel⟩
theorem sc_ends : FnScope ["program", "plan"] ["program", "plan"] (defScope s_ends) := ⟨rfl, rfl, rfl, by decide +kernel, rfl, by decide +kernel, by decide +kernel⟩
theorem sc_cut_paths : FnScope ["plan"] ["plan"] (defScope s_cut_paths) := ⟨rfl, rfl, rfl, by decide +kernel, rfl, by decide +kernel, by decide +kernel⟩
theorem sc_rulers : FnScope ["plan", "found", "widths"] ["plan", "found", "widths"] (defScope s_rulers) := ⟨rfl, rfl, rfl, by decide +kernel, rfl, by decide +kernel, by decide +kernel⟩
theorem sc_number_shown : FnScope ["values", "pair", "ruler", "time"] ["values", "pair", "ruler"] (defScope s_number_shown) := ⟨rfl, rfl, rfl, by decide +kernel, rfl, by decide +kernel, by decide +kernel⟩
theorem sc_order_of : FnScope ["program", "plan", "widths", "one", "other", "ruled", "path", "cut", "way", "pair", "other_pair", "number", "other_number"] ["program", "plan", "widths", "one", "other"] (defScope s_order_of) := ⟨rfl, rfl, rfl, by decide +kernel, rfl, by decide +kernel, by decide +kernel⟩
theorem sc_order_by_way : FnScope ["way", "less"] ["way", "less"] (defScope s_order_by_way) := ⟨rfl, rfl, rfl, by decide +kernel, rfl, by decide +kernel, by decide +kernel⟩
theorem sc_l_at : FnScope ["_law_script", "_law_k", "_law_number"] ["_law_script", "_law_k"] (defScope s_l_at) := ⟨rfl, rfl, rfl, by decide +kernel, rfl, by decide +kernel, by decide +kernel⟩
theorem sc_l_digits : FnScope ["_law_cell", "_law_sizes", "_law_found", "_law_many"] ["_law_cell", "_law_sizes"] (defScope s_l_digits) := ⟨rfl, rfl, rfl, by decide +kernel, rfl, by decide +kernel, by decide +kernel⟩
theorem sc_l_loop : FnScope ["_law_cell", "_law_loops", "_law_kind", "_law_step", "_law_many", "_law_thin", "_law_which", "_law_sign", "_law_more", "_law_letters", "_law_name", "_law_at_here", "_law_high", "_law_outer", "_law_low", "_law_first", "_law_last", "_law_other"] ["_law_cell", "_law_loops"] (defScope s_l_loop) := ⟨rfl, rfl, rfl, by decide +kernel, rfl, by decide +kernel, by decide +kernel⟩
theorem sc_l_deeds : FnScope ["_law_script", "_law_first", "_law_count", "_law_deeds_here", "_law_n", "_law_deep", "_law_common", "_law_loops", "_law_path", "_law_old", "_law_cell"] ["_law_script", "_law_first", "_law_count"] (defScope s_l_deeds) := ⟨rfl, rfl, rfl, by decide +kernel, rfl, by decide +kernel, by decide +kernel⟩
theorem sc_l_told : FnScope ["_law_spot", "_law_scale", "_law_base"] ["_law_spot", "_law_scale", "_law_base"] (defScope s_l_told) := ⟨rfl, rfl, rfl, by decide +kernel, rfl, by decide +kernel, by decide +kernel⟩
theorem sc_l_told_deeds : FnScope ["_law_deeds_here", "_law_scale", "_law_base", "_law_found", "_law_loops", "_law_path", "_law_common", "_law_names", "_law_lows", "_law_highs"] ["_law_deeds_here", "_law_scale", "_law_base"] (defScope s_l_told_deeds) := ⟨rfl, rfl, rfl, by decide +kernel, rfl, by decide +kernel, by decide +kernel⟩
theorem sc_l_values : FnScope ["_law_loops", "_law_rows", "_law_loop_here", "_law_grown", "_law_row", "_law_worths", "_law_other", "_law_value", "_law_low", "_law_high"] ["_law_loops"] (defScope s_l_values) := ⟨rfl, rfl, rfl, by decide +kernel, rfl, by decide +kernel, by decide +kernel⟩
theorem sc_l_before : FnScope ["_law_one", "_law_other", "_law_deeds_here", "_law_low", "_law_many", "_law_k", "_law_e"] ["_law_one", "_law_other", "_law_deeds_here"] (defScope s_l_before) := ⟨rfl, rfl, rfl, by decide +kernel, rfl, by decide +kernel, by decide +kernel⟩
theorem sc_law : FnScope ["_law_script", "_law_deeds_here", "_law_base", "_law_program", "_law_plan", "_law_some", "_law_k", "_law_deed", "_law_at_here", "_law_step", "_law_one", "_law_other", "_law_due", "_law_said", "_law_found"] ["_law_script"] (defScope s_law) := ⟨rfl, rfl, rfl, by decide +kernel, rfl, by decide +kernel, by decide +kernel⟩
theorem c_own_items_0 : compB (mkSc [(".0", .local), ("e", .local)]) (defScope s_own_items) ["deeds", "items", "found", "k", "inner"] ["e"] [none] = true := by decide +kernel
theorem c_own_items_0n : (["e"] : List Str).Nodup := by decide +kernel
theorem c_cut_paths_0 : compB (mkSc [(".0", .local), ("path", .local), ("cut", .local), ("way", .local)]) (defScope s_cut_paths) ["plan"] ["path", "cut", "way"] [none, none, none] = true := by decide +kernel
theorem c_cut_paths_0n : (["path", "cut", "way"] : List Str).Nodup := by decide +kernel
theorem c_ends_0 : compB (mkSc [(".0", .local), ("path", .local), ("ends_at", .globalImplicit), ("plan", .free), ("program", .free)]) (defScope s_ends) ["program", "plan"] ["path", "plan", "program"] [none, some 1, some 0] = true := by decide +kernel
theorem c_ends_0n : (["path", "plan", "program"] : List Str).Nodup := by decide +kernel
theorem c_rulers_0 : compB (mkSc [(".0", .local), ("path", .local), ("pair", .local), ("width", .local)]) (defScope s_rulers) ["plan", "found", "widths"] ["path", "pair", "width"] [none, none, none] = true := by decide +kernel
theorem c_rulers_0n : (["path", "pair", "width"] : List Str).Nodup := by decide +kernel
theorem c_l_loop_0 : compB (mkSc [(".0", .local), ("_law_loop_here", .local)]) (defScope s_l_loop) ["_law_cell", "_law_loops", "_law_kind", "_law_step", "_law_many", "_law_thin", "_law_which", "_law_sign", "_law_more", "_law_letters", "_law_name", "_law_at_here", "_law_high", "_law_outer", "_law_low", "_law_first", "_law_last", "_law_other"] ["_law_loop_here"] [none] = true := by decide +kernel
theorem c_l_loop_0n : (["_law_loop_here"] : List Str).Nodup := by decide +kernel
theorem c_l_told_deeds_0 : compB (mkSc [(".0", .local), ("_law_loop_here", .local)]) (defScope s_l_told_deeds) ["_law_deeds_here", "_law_scale", "_law_base", "_law_found", "_law_loops", "_law_path", "_law_common", "_law_names", "_law_lows", "_law_highs"] ["_law_loop_here"] [none] = true := by decide +kernel
theorem c_l_told_deeds_0n : (["_law_loop_here"] : List Str).Nodup := by decide +kernel
theorem c_l_told_deeds_1 : compB (mkSc [(".0", .local), ("_law_loop_here", .local), ("_law_told", .globalImplicit), ("_law_base", .free), ("_law_scale", .free)]) (defScope s_l_told_deeds) ["_law_deeds_here", "_law_scale", "_law_base", "_law_found", "_law_loops", "_law_path", "_law_common", "_law_names", "_law_lows", "_law_highs"] ["_law_loop_here", "_law_base", "_law_scale"] [none, some 2, some 1] = true := by decide +kernel
theorem c_l_told_deeds_1n : (["_law_loop_here", "_law_base", "_law_scale"] : List Str).Nodup := by decide +kernel
theorem c_l_told_deeds_2 : compB (mkSc [(".0", .local), ("_law_loop_here", .local), ("_law_told", .globalImplicit), ("_law_base", .free), ("_law_scale", .free)]) (defScope s_l_told_deeds) ["_law_deeds_here", "_law_scale", "_law_base", "_law_found", "_law_loops", "_law_path", "_law_common", "_law_names", "_law_lows", "_law_highs"] ["_law_loop_here", "_law_base", "_law_scale"] [none, some 2, some 1] = true := by decide +kernel
theorem c_l_told_deeds_2n : (["_law_loop_here", "_law_base", "_law_scale"] : List Str).Nodup := by decide +kernel
theorem c_law_0 : compB (mkSc [(".0", .local), ("_law_small", .local), ("tuple", .globalImplicit), ("_law_base", .free), ("_law_k", .free)]) (defScope s_law) ["_law_script", "_law_deeds_here", "_law_base", "_law_program", "_law_plan", "_law_some", "_law_k", "_law_deed", "_law_at_here", "_law_step", "_law_one", "_law_other", "_law_due", "_law_said", "_law_found"] ["_law_small", "_law_base", "_law_k"] [none, some 2, some 6] = true := by decide +kernel
theorem c_law_0n : (["_law_small", "_law_base", "_law_k"] : List Str).Nodup := by decide +kernel
theorem c_law_1 : compB (mkSc [(".0", .local), ("_law_one", .local), ("_law_base", .free)]) (mkSc [(".0", .local), ("_law_small", .local), ("tuple", .globalImplicit), ("_law_base", .cell), ("_law_k", .cell)]) ["_law_small", "_law_base", "_law_k"] ["_law_one", "_law_base"] [none, some 1] = true := by decide +kernel
theorem c_law_1n : (["_law_one", "_law_base"] : List Str).Nodup := by decide +kernel
structure Ad where
  f_Number_init : Addr
  d_Number_init : FuncData
  f_Deed_init : Addr
  d_Deed_init : FuncData
  f_Program_init : Addr
  d_Program_init : FuncData
  f_shared : Addr
  d_shared : FuncData
  f_alike_numbers : Addr
  d_alike_numbers : FuncData
  f_ahead : Addr
  d_ahead : FuncData
  f_nested : Addr
  d_nested : FuncData
  f_items_within : Addr
  d_items_within : FuncData
  f_neighbours : Addr
  d_neighbours : FuncData
  f_deeds_within : Addr
  d_deeds_within : FuncData
  f_own_plan : Addr
  d_own_plan : FuncData
  f_own_items : Addr
  d_own_items : FuncData
  f_sweeps_of : Addr
  d_sweeps_of : FuncData
  f_sweeps_within : Addr
  d_sweeps_within : FuncData
  f_stand : Addr
  d_stand : FuncData
  f_round_both : Addr
  d_round_both : FuncData
  f_ends : Addr
  d_ends : FuncData
  f_cut_paths : Addr
  d_cut_paths : FuncData
  f_ends_at : Addr
  d_ends_at : FuncData
  f_rulers : Addr
  d_rulers : FuncData
  f_number_shown : Addr
  d_number_shown : FuncData
  f_order_of : Addr
  d_order_of : FuncData
  f_order_by_way : Addr
  d_order_by_way : FuncData
  f_l_at : Addr
  d_l_at : FuncData
  f_l_digits : Addr
  d_l_digits : FuncData
  f_l_loop : Addr
  d_l_loop : FuncData
  f_l_deeds : Addr
  d_l_deeds : FuncData
  f_l_told : Addr
  d_l_told : FuncData
  f_l_told_deeds : Addr
  d_l_told_deeds : FuncData
  f_l_values : Addr
  d_l_values : FuncData
  f_l_before : Addr
  d_l_before : FuncData
  f_law : Addr
  d_law : FuncData
  c_Number : Addr
  c_Deed : Addr
  c_Program : Addr
structure Tx (K : PySem.W.Frag) (mg : Str → Option Value) (a : Ad) : Prop where
  F_Number_init : Fun K "__init__" "Number.__init__" s_Number_init a.f_Number_init a.d_Number_init
  b_Number_init : Binds K a.d_Number_init ["self", "n"] []
  F_Deed_init : Fun K "__init__" "Deed.__init__" s_Deed_init a.f_Deed_init a.d_Deed_init
  b_Deed_init : Binds K a.d_Deed_init ["self", "names", "lows", "highs", "table", "spots", "term", "path"] []
  F_Program_init : Fun K "__init__" "Program.__init__" s_Program_init a.f_Program_init a.d_Program_init
  b_Program_init : Binds K a.d_Program_init ["self", "size", "deeds"] []
  F_shared : Fun K "shared" "shared" s_shared a.f_shared a.d_shared
  b_shared : Binds K a.d_shared ["one", "other"] []
  m_shared : mg "shared" = some (.ref a.f_shared)
  F_alike_numbers : Fun K "alike_numbers" "alike_numbers" s_alike_numbers a.f_alike_numbers a.d_alike_numbers
  b_alike_numbers : Binds K a.d_alike_numbers ["path", "other", "most"] []
  m_alike_numbers : mg "alike_numbers" = some (.ref a.f_alike_numbers)
  F_ahead : Fun K "ahead" "ahead" s_ahead a.f_ahead a.d_ahead
  b_ahead : Binds K a.d_ahead ["program", "one", "other"] []
  m_ahead : mg "ahead" = some (.ref a.f_ahead)
  F_nested : Fun K "nested" "nested" s_nested a.f_nested a.d_nested
  b_nested : Binds K a.d_nested ["deeds"] []
  m_nested : mg "nested" = some (.ref a.f_nested)
  F_items_within : Fun K "items_within" "items_within" s_items_within a.f_items_within a.d_items_within
  b_items_within : Binds K a.d_items_within ["deeds", "numbers", "depth"] []
  m_items_within : mg "items_within" = some (.ref a.f_items_within)
  F_neighbours : Fun K "neighbours" "neighbours" s_neighbours a.f_neighbours a.d_neighbours
  b_neighbours : Binds K a.d_neighbours ["deeds", "numbers", "depth"] []
  m_neighbours : mg "neighbours" = some (.ref a.f_neighbours)
  F_deeds_within : Fun K "deeds_within" "deeds_within" s_deeds_within a.f_deeds_within a.d_deeds_within
  b_deeds_within : Binds K a.d_deeds_within ["items", "path", "cuts"] []
  m_deeds_within : mg "deeds_within" = some (.ref a.f_deeds_within)
  F_own_plan : Fun K "own_plan" "own_plan" s_own_plan a.f_own_plan a.d_own_plan
  b_own_plan : Binds K a.d_own_plan ["program"] []
  m_own_plan : mg "own_plan" = some (.ref a.f_own_plan)
  F_own_items : Fun K "own_items" "own_items" s_own_items a.f_own_items a.d_own_items
  b_own_items : Binds K a.d_own_items ["deeds", "items"] []
  m_own_items : mg "own_items" = some (.ref a.f_own_items)
  F_sweeps_of : Fun K "sweeps_of" "sweeps_of" s_sweeps_of a.f_sweeps_of a.d_sweeps_of
  b_sweeps_of : Binds K a.d_sweeps_of ["plan"] []
  m_sweeps_of : mg "sweeps_of" = some (.ref a.f_sweeps_of)
  F_sweeps_within : Fun K "sweeps_within" "sweeps_within" s_sweeps_within a.f_sweeps_within a.d_sweeps_within
  b_sweeps_within : Binds K a.d_sweeps_within ["items", "path"] []
  m_sweeps_within : mg "sweeps_within" = some (.ref a.f_sweeps_within)
  F_stand : Fun K "stand" "stand" s_stand a.f_stand a.d_stand
  b_stand : Binds K a.d_stand ["plan", "k"] []
  m_stand : mg "stand" = some (.ref a.f_stand)
  F_round_both : Fun K "round_both" "round_both" s_round_both a.f_round_both a.d_round_both
  b_round_both : Binds K a.d_round_both ["plan", "k", "l"] []
  m_round_both : mg "round_both" = some (.ref a.f_round_both)
  F_ends : Fun K "ends" "ends" s_ends a.f_ends a.d_ends
  b_ends : Binds K a.d_ends ["program", "plan"] []
  m_ends : mg "ends" = some (.ref a.f_ends)
  F_cut_paths : Fun K "cut_paths" "cut_paths" s_cut_paths a.f_cut_paths a.d_cut_paths
  b_cut_paths : Binds K a.d_cut_paths ["plan"] []
  m_cut_paths : mg "cut_paths" = some (.ref a.f_cut_paths)
  F_ends_at : Fun K "ends_at" "ends_at" s_ends_at a.f_ends_at a.d_ends_at
  b_ends_at : Binds K a.d_ends_at ["program", "plan", "path"] []
  m_ends_at : mg "ends_at" = some (.ref a.f_ends_at)
  F_rulers : Fun K "rulers" "rulers" s_rulers a.f_rulers a.d_rulers
  b_rulers : Binds K a.d_rulers ["plan", "found", "widths"] []
  m_rulers : mg "rulers" = some (.ref a.f_rulers)
  F_number_shown : Fun K "number_shown" "number_shown" s_number_shown a.f_number_shown a.d_number_shown
  b_number_shown : Binds K a.d_number_shown ["values", "pair", "ruler"] []
  m_number_shown : mg "number_shown" = some (.ref a.f_number_shown)
  F_order_of : Fun K "order_of" "order_of" s_order_of a.f_order_of a.d_order_of
  b_order_of : Binds K a.d_order_of ["program", "plan", "widths", "one", "other"] []
  m_order_of : mg "order_of" = some (.ref a.f_order_of)
  F_order_by_way : Fun K "order_by_way" "order_by_way" s_order_by_way a.f_order_by_way a.d_order_by_way
  b_order_by_way : Binds K a.d_order_by_way ["way", "less"] []
  m_order_by_way : mg "order_by_way" = some (.ref a.f_order_by_way)
  F_l_at : Fun K "_law_at" "_law_at" s_l_at a.f_l_at a.d_l_at
  b_l_at : Binds K a.d_l_at ["_law_script", "_law_k"] []
  m_l_at : mg "_law_at" = some (.ref a.f_l_at)
  F_l_digits : Fun K "_law_digits" "_law_digits" s_l_digits a.f_l_digits a.d_l_digits
  b_l_digits : Binds K a.d_l_digits ["_law_cell", "_law_sizes"] []
  m_l_digits : mg "_law_digits" = some (.ref a.f_l_digits)
  F_l_loop : Fun K "_law_loop" "_law_loop" s_l_loop a.f_l_loop a.d_l_loop
  b_l_loop : Binds K a.d_l_loop ["_law_cell", "_law_loops"] []
  m_l_loop : mg "_law_loop" = some (.ref a.f_l_loop)
  F_l_deeds : Fun K "_law_deeds" "_law_deeds" s_l_deeds a.f_l_deeds a.d_l_deeds
  b_l_deeds : Binds K a.d_l_deeds ["_law_script", "_law_first", "_law_count"] []
  m_l_deeds : mg "_law_deeds" = some (.ref a.f_l_deeds)
  F_l_told : Fun K "_law_told" "_law_told" s_l_told a.f_l_told a.d_l_told
  b_l_told : Binds K a.d_l_told ["_law_spot", "_law_scale", "_law_base"] []
  m_l_told : mg "_law_told" = some (.ref a.f_l_told)
  F_l_told_deeds : Fun K "_law_told_deeds" "_law_told_deeds" s_l_told_deeds a.f_l_told_deeds a.d_l_told_deeds
  b_l_told_deeds : Binds K a.d_l_told_deeds ["_law_deeds_here", "_law_scale", "_law_base"] []
  m_l_told_deeds : mg "_law_told_deeds" = some (.ref a.f_l_told_deeds)
  F_l_values : Fun K "_law_values" "_law_values" s_l_values a.f_l_values a.d_l_values
  b_l_values : Binds K a.d_l_values ["_law_loops"] []
  m_l_values : mg "_law_values" = some (.ref a.f_l_values)
  F_l_before : Fun K "_law_before" "_law_before" s_l_before a.f_l_before a.d_l_before
  b_l_before : Binds K a.d_l_before ["_law_one", "_law_other", "_law_deeds_here"] []
  m_l_before : mg "_law_before" = some (.ref a.f_l_before)
  F_law : Fun K "law" "law" s_law a.f_law a.d_law
  b_law : Binds K a.d_law ["_law_script"] []
  m_law : mg "law" = some (.ref a.f_law)
  cl_Number : Cls K a.c_Number
  mc_Number : mg "Number" = some (.ref a.c_Number)
  mk_Number : Mk K a.c_Number a.f_Number_init
  n_Number_n : NoAttr K a.c_Number "n"
  cl_Deed : Cls K a.c_Deed
  mc_Deed : mg "Deed" = some (.ref a.c_Deed)
  mk_Deed : Mk K a.c_Deed a.f_Deed_init
  n_Deed_names : NoAttr K a.c_Deed "names"
  n_Deed_lows : NoAttr K a.c_Deed "lows"
  n_Deed_highs : NoAttr K a.c_Deed "highs"
  n_Deed_table : NoAttr K a.c_Deed "table"
  n_Deed_spots : NoAttr K a.c_Deed "spots"
  n_Deed_term : NoAttr K a.c_Deed "term"
  n_Deed_path : NoAttr K a.c_Deed "path"
  cl_Program : Cls K a.c_Program
  mc_Program : mg "Program" = some (.ref a.c_Program)
  mk_Program : Mk K a.c_Program a.f_Program_init
  n_Program_size : NoAttr K a.c_Program "size"
  n_Program_deeds : NoAttr K a.c_Program "deeds"
  z_bool : mg "bool" = none
  z_dict : mg "dict" = none
  z_enumerate : mg "enumerate" = none
  z_int : mg "int" = none
  z_isinstance : mg "isinstance" = none
  z_len : mg "len" = none
  z_list : mg "list" = none
  z_max : mg "max" = none
  z_min : mg "min" = none
  z_range : mg "range" = none
  z_tuple : mg "tuple" = none
  z_zip : mg "zip" = none
noncomputable def csOf (a : Ad) : Cs := ⟨a.c_Number, 0, 0, 0⟩
section
variable {P : Program} {w : World} {K : PySem.W.Frag} {mg : Str → Option Value} {base : Heap} {a : Ad}
theorem ok_at63 (T : Tx K mg a) : FnOk P w K mg base CX0 1 a.f_l_at a.d_l_at ["_law_script", "_law_k"] (spAt63 K) := by
  refine T.F_l_at.ok sc_l_at (fun vs H Q E h => ?_) (fun cdv A outer s H vs Q E hr h => ?_)
  · obtain ⟨_, _, _, rfl, _⟩ := h; rfl
  obtain ⟨p, ns, k, rfl, hS, h0, h1, q⟩ := h
  refine ⟨_, (@pss_cons _ _ _ _ _ (@ps_set _ _ (2) _ _ _ _ sc_l_at.nd rfl (Or.inl rfl) (@pe_op _ _ _ _ _ _ _ _ op_add (@pe_op _ _ _ _ _ _ _ _ op_mul pe_int (pv 1)) pe_int) (by rfl) (by first | exact .inl rfl | exact .inr rfl | assumption)) (@pss_cons _ _ _ _ _ (@ps_if _ _ _ _ _ _ _ _ (@pt_cmpR _ _ _ _ _ _ _ _ op_lt (pv 1) (@pe_callB _ _ _ _ _ _ _ _ _ call_len_seq (by rfl) T.z_len bt_len (@pa_cons _ _ _ _ _ (pv 0) pa_nil (by rfl)) (by decide) (by decide) (by rfl) (by rfl)) (@nomark _ _ (by decide) (by decide))) (@pss_one _ _ _ (@ps_set _ _ (2) _ _ _ _ sc_l_at.nd rfl (Or.inl rfl) (@pe_op _ _ _ _ _ _ _ _ op_add (pv 2) (@pe_ix _ _ _ _ _ _ _ ix_list (pv 0) (pv 1) (fun _ _ => rfl))) (by rfl) (by first | exact .inl rfl | exact .inr rfl | assumption))) (@pss_one _ _ _ (@ps_if _ _ _ _ _ _ _ _ (@pt_cmpR _ _ _ _ _ _ _ _ op_gt (@pe_callB _ _ _ _ _ _ _ _ _ call_len_seq (by rfl) T.z_len bt_len (@pa_cons _ _ _ _ _ (pv 0) pa_nil (by rfl)) (by decide) (by decide) (by rfl) (by rfl)) pe_int (@nomark _ _ (by decide) (by decide))) (@pss_one _ _ _ (@ps_set _ _ (2) _ _ _ _ sc_l_at.nd rfl (Or.inl rfl) (@pe_op _ _ _ _ _ _ _ _ op_add (@pe_op _ _ _ _ _ _ _ _ op_mul pe_int (pv 2)) (@pe_ix _ _ _ _ _ _ _ ix_list (pv 0) (@pe_op _ _ _ _ _ _ _ _ op_mod (@pe_op _ _ _ _ _ _ _ _ op_mul (pv 1) pe_int) (@pe_callB _ _ _ _ _ _ _ _ _ call_len_seq (by rfl) T.z_len bt_len (@pa_cons _ _ _ _ _ (pv 0) pa_nil (by rfl)) (by decide) (by decide) (by rfl) (by rfl))) (fun _ _ => rfl))) (by rfl) (by first | exact .inl rfl | exact .inr rfl | assumption))) pss_nil))) (@pss_cons _ _ _ _ _ (@ps_set _ _ (2) _ _ _ _ sc_l_at.nd rfl (Or.inl rfl) (@pe_op _ _ _ _ _ _ _ _ op_mod (@pe_op _ _ _ _ _ _ _ _ op_mul (pv 2) pe_int) pe_int) (by rfl) (by first | exact .inl rfl | exact .inr rfl | assumption)) (@pss_one _ _ _ (@ps_ret _ _ _ _ (@pe_op _ _ _ _ _ _ _ _ op_mod (@pe_op _ _ _ _ _ _ _ _ op_mul (pv 2) (pv 2)) pe_int)))))), ?_⟩
  have hl : (ns.map V.int).length = ns.length := List.length_map _
  have p64 : (2 : Int) ^ 64 = 18446744073709551616 := by decide
  refine ⟨_, rfl, _, _, rfl, rfl, .inl ⟨by decide, by decide⟩, _, _, rfl, rfl, ?_⟩
  dsimp only [gName]
  refine seq_any (fun σ' H' => H' = H ∧ ∃ n : Int, σ' = [some (.ref p), some (.int k), some (.int n)]) (fun σ' H' m => ?_) (fun nx => ?_)
  · obtain ⟨rfl, n, rfl⟩ := m
    have b0 := Int.emod_nonneg (n * 48271) (show (2147483647 : Int) ≠ 0 by decide)
    have b1 := Int.emod_lt_of_pos (n * 48271) (show (0 : Int) < 2147483647 by decide)
    refine ⟨_, rfl, _, _, rfl, rfl, .inr ⟨by decide, by decide⟩, _, _, rfl, rfl, (by show (0 : Int) < 2147483647; decide), ?_⟩
    exact ⟨_, rfl, _, rfl, _, _, rfl, rfl, .inl ⟨by omega, by omega⟩, _, _, rfl, rfl, (by show (0 : Int) < 2147483629; decide), q _ (Int.emod_nonneg _ (by decide)) (Int.emod_lt_of_pos _ (by decide))⟩
  refine ⟨_, rfl, _, rfl, p, _, rfl, .inl hS, _, _, rfl, rfl, _, rfl, ?_⟩
  refine ite2 (fun c => ?_) (fun c => ?_)
  · have c' := dT c
    rw [hl] at c'
    exact ⟨_, rfl, _, rfl, _, rfl, p, _, _, _, rfl, rfl, hS, cell_in h0 c', _, _, rfl, rfl, nx _ _ ⟨rfl, _, rfl⟩⟩
  refine ⟨_, rfl, p, _, rfl, .inl hS, _, _, rfl, rfl, _, rfl, ?_⟩
  refine ite2 (fun c2 => ?_) (fun c2 => nx _ _ ⟨rfl, _, rfl⟩)
  have c2 := dT c2
  have m0 := Int.emod_nonneg (k * 7) (show ((ns.map V.int).length : Int) ≠ 0 by omega)
  have m1 := Int.emod_lt_of_pos (k * 7) c2
  exact ⟨_, rfl, _, _, rfl, rfl, .inl ⟨by decide, by decide⟩, _, rfl, _, rfl, _, _, rfl, rfl, .inr ⟨by decide, by decide⟩, _, rfl, p, _, rfl, .inl hS, _, _, rfl, rfl, c2, p, _, _, _, rfl, rfl, hS, cell_in m0 (by rw [hl] at m1 ⊢; exact m1), _, _, rfl, rfl, nx _ _ ⟨rfl, _, rfl⟩⟩

theorem ok_digits (T : Tx K mg a) : FnOk P w K mg base CX0 1 a.f_l_digits a.d_l_digits ["_law_cell", "_law_sizes"] spDigits := by
  refine T.F_l_digits.ok sc_l_digits (fun vs H Q E h => ?_) (fun cdv A outer s H vs Q E hr h => ?_)
  · obtain ⟨_, _, _, rfl, _⟩ := h; rfl
  obtain ⟨c, l, ms, rfl, hl, c0, ml, mb, q⟩ := h
  refine ⟨_, (@pss_cons _ _ _ _ _ (@ps_set _ _ (2) _ _ _ _ sc_l_digits.nd rfl (Or.inl rfl) (@pe_lst _ _ _ _ pa_nil) (by rfl) (by first | exact .inl rfl | exact .inr rfl | assumption)) (@pss_cons _ _ _ _ _ (@ps_for _ _ _ _ _ _ _ _ PassesOwn.never rfl (@pi_list _ _ _ _ (pv 1)) (pg_name (i := 3) sc_l_digits.nd rfl (Or.inl rfl)) (@pss_cons _ _ _ _ _ (@ps_expr _ _ _ _ (@pe_bm _ _ _ _ _ _ _ _ _ _ _ _ PySem.F.plainAttrs_list PySem.F.slot_list_append PySem.F.type_list_append mt_append (pv 2) (@pa_cons _ _ _ _ _ (@pe_op _ _ _ _ _ _ _ _ op_mod (pv 0) (pv 3)) pa_nil (by rfl)) (by rfl) (by rfl) (by rfl) (by rfl) (by rfl)) (by rfl)) (@pss_one _ _ _ (@ps_set _ _ (0) _ _ _ _ sc_l_digits.nd rfl (Or.inl rfl) (@pe_op _ _ _ _ _ _ _ _ op_fdiv (pv 0) (pv 3)) (by rfl) (by first | exact .inl rfl | exact .inr rfl | assumption)))) (by intro _ ; rfl)) (@pss_one _ _ _ (@ps_ret _ _ _ _ (pv 2))))), ?_⟩
  refine ⟨szl (by show 0 ≤ 1000000; decide), fun r hr' => ?_⟩
  have s1 := same_new hr' (.lst [])
  refine ⟨_, rfl, l, rfl, ⟨_, SqL.of (s1 _ _ hl)⟩, ?_⟩
  refine for_list (xs := ms.map V.int) (fun i σ' H' => Same H H' ∧ ∃ (x : Int) (ds : List Int) (o3 : Option V), σ' = [some (.int x), some (.ref l), some (.ref r), o3] ∧ 0 ≤ x ∧ H' r = some (.lst (ds.map V.int)) ∧ ds.length = i ∧ ∀ (j : Nat) (d m : Int), ds[j]? = some d → ms[j]? = some m → 0 ≤ d ∧ d < m) ⟨s1, c, [], _, rfl, c0, upd_same, rfl, fun j d m hd => by simp at hd⟩ (fun i σ' H' _ p => SqL.of (p.1 _ _ hl)) (fun i x σ' H' hx p => ?_) (fun σ' H' p => ?_)
  · obtain ⟨e, x0, ds, o3, rfl, x0n, hr2, dl, db⟩ := p
    rw [List.getElem?_map] at hx
    cases hm : ms[i]? with
    | none => rw [hm] at hx; cases hx
    | some m =>
      rw [hm] at hx
      cases hx
      obtain ⟨m0, m1⟩ := mb m (List.mem_of_getElem? hm)
      have hi := (List.getElem?_eq_some_iff.mp hm).1
      refine ⟨_, rfl, .inl ⟨rfl, _, SqL.of hr2⟩, _, rfl, _, rfl, _, _, rfl, rfl, m0, r, _, _, rfl, rfl, hr2, szlt (by rw [List.length_map]; omega), ?_⟩
      refine ⟨_, rfl, _, rfl, _, _, rfl, rfl, ⟨m0, m1⟩, ?_⟩
      refine ⟨fun b o eb => by rw [upd_ne (ne_of_none eb hr')]; exact e _ _ eb, x0 / m, ds ++ [x0 % m], _, rfl, Int.ediv_nonneg x0n (Int.le_of_lt m0), by rw [upd_same, List.map_append]; rfl, by rw [List.length_append, dl]; rfl, fun j d m' hd hm' => ?_⟩
      by_cases cj : j < ds.length
      · rw [List.getElem?_append_left cj] at hd
        exact db j d m' hd hm'
      · have ej : j = ds.length := by
          have := (List.getElem?_eq_some_iff.mp hd).1
          rw [List.length_append, List.length_singleton] at this
          omega
        subst ej
        rw [List.getElem?_append_right (Nat.le_refl _), Nat.sub_self] at hd
        cases hd
        rw [dl, hm] at hm'
        cases hm'
        exact ⟨Int.emod_nonneg _ (by omega), Int.emod_lt_of_pos _ m0⟩
  · obtain ⟨e, x0, ds, o3, rfl, x0n, hr2, dl, db⟩ := p
    rw [List.length_map] at dl
    exact ⟨_, rfl, q r _ ds e hr2 dl db⟩

theorem ok_ninit (T : Tx K mg a) : FnOk P w K mg base CX0 1 a.f_Number_init a.d_Number_init ["self", "n"] (spNInit a.c_Number) := by
  refine T.F_Number_init.ok sc_Number_init (fun vs H Q E h => ?_) (fun cdv A outer s H vs Q E hr h => ?_)
  · obtain ⟨_, _, _, rfl, _⟩ := h; rfl
  obtain ⟨x, dx, n, rfl, hx, q⟩ := h
  refine ⟨_, (@pss_one _ _ _ (@ps_fld _ _ _ _ _ _ _ _ (pv 0) (pv 1) rfl)), ?_⟩
  exact ⟨_, rfl, _, rfl, x, _, dx, _, rfl, hx, T.cl_Number, T.n_Number_n, (by show 0 < 1000; decide), q _ (fun b o e hb => by rw [upd_ne hb]; exact e) ⟨dx, upd_same⟩⟩

theorem ok_dinit (T : Tx K mg a) : FnOk P w K mg base CX0 1 a.f_Deed_init a.d_Deed_init ["self", "names", "lows", "highs", "table", "spots", "term", "path"] (spDInit a.c_Deed) := by
  refine T.F_Deed_init.ok sc_Deed_init (fun vs H Q E h => ?_) (fun cdv A outer s H vs Q E hr h => ?_)
  · obtain ⟨_, _, _, _, _, _, _, _, _, rfl, _⟩ := h; rfl
  obtain ⟨x, dx, v1, v2, v3, v4, v5, v6, v7, rfl, hx, q⟩ := h
  refine ⟨_, (@pss_cons _ _ _ _ _ (@ps_fld _ _ _ _ _ _ _ _ (pv 0) (pv 1) rfl) (@pss_cons _ _ _ _ _ (@ps_fld _ _ _ _ _ _ _ _ (pv 0) (pv 2) rfl) (@pss_cons _ _ _ _ _ (@ps_fld _ _ _ _ _ _ _ _ (pv 0) (pv 3) rfl) (@pss_cons _ _ _ _ _ (@ps_fld _ _ _ _ _ _ _ _ (pv 0) (pv 4) rfl) (@pss_cons _ _ _ _ _ (@ps_fld _ _ _ _ _ _ _ _ (pv 0) (pv 5) rfl) (@pss_cons _ _ _ _ _ (@ps_fld _ _ _ _ _ _ _ _ (pv 0) (pv 6) rfl) (@pss_one _ _ _ (@ps_fld _ _ _ _ _ _ _ _ (pv 0) (pv 7) rfl)))))))), ?_⟩
  refine ⟨_, rfl, _, rfl, x, _, dx, _, rfl, hx, T.cl_Deed, T.n_Deed_names, (by show 0 < 1000; decide), ?_⟩
  refine ⟨_, rfl, _, rfl, x, _, dx, _, rfl, upd_same, T.cl_Deed, T.n_Deed_lows, (by show 1 < 1000; decide), ?_⟩
  refine ⟨_, rfl, _, rfl, x, _, dx, _, rfl, upd_same, T.cl_Deed, T.n_Deed_highs, (by show 2 < 1000; decide), ?_⟩
  refine ⟨_, rfl, _, rfl, x, _, dx, _, rfl, upd_same, T.cl_Deed, T.n_Deed_table, (by show 3 < 1000; decide), ?_⟩
  refine ⟨_, rfl, _, rfl, x, _, dx, _, rfl, upd_same, T.cl_Deed, T.n_Deed_spots, (by show 4 < 1000; decide), ?_⟩
  refine ⟨_, rfl, _, rfl, x, _, dx, _, rfl, upd_same, T.cl_Deed, T.n_Deed_term, (by show 5 < 1000; decide), ?_⟩
  refine ⟨_, rfl, _, rfl, x, _, dx, _, rfl, upd_same, T.cl_Deed, T.n_Deed_path, (by show 6 < 1000; decide), ?_⟩
  exact q _ (fun b o e hb => by repeat rw [upd_ne hb]
                                exact e) ⟨dx, upd_same⟩

theorem ok_pini (T : Tx K mg a) : FnOk P w K mg base CX0 1 a.f_Program_init a.d_Program_init ["self", "size", "deeds"] (spPIni K a.c_Program) := by
  refine T.F_Program_init.ok sc_Program_init (fun vs H Q E h => ?_) (fun cdv A outer s H vs Q E hr h => ?_)
  · obtain ⟨_, _, _, _, _, rfl, _⟩ := h; rfl
  obtain ⟨x, dx, sz, p, ys, rfl, hx, hp, q⟩ := h
  refine ⟨_, (@pss_cons _ _ _ _ _ (@ps_fld _ _ _ _ _ _ _ _ (pv 0) (pv 1) rfl) (@pss_one _ _ _ (@ps_fld _ _ _ _ _ _ _ _ (pv 0) (@pe_callTy _ _ _ _ _ _ _ _ _ call_list_of (by rfl) T.z_list bt_list (@pa_cons _ _ _ _ _ (pv 2) pa_nil (by rfl)) (by decide) (by decide) (by rfl) (by rfl)) rfl))), ?_⟩
  refine ⟨_, rfl, _, rfl, x, _, dx, _, rfl, hx, T.cl_Program, T.n_Program_size, (by show 0 < 1000; decide), ?_⟩
  refine ⟨_, rfl, p, ys, rfl, .inl (SqL.updI hp hx), fun l hl => ?_⟩
  have nxl : x ≠ l := fun e => by rw [e, upd_same] at hl; cases hl
  have hlH : H l = none := by rw [upd_ne (Ne.symm nxl)] at hl; exact hl
  refine ⟨_, rfl, x, _, dx, _, rfl, (by rw [upd_ne nxl]; exact upd_same), T.cl_Program, T.n_Program_deeds, (by show 1 < 1000; decide), ?_⟩
  refine q l _ hlH (fun b o e hb => ?_) ?_ ⟨dx, upd_same⟩
  · rw [upd_ne hb, upd_ne (ne_of_none e hlH), upd_ne hb]
    exact e
  · rw [upd_ne (Ne.symm nxl)]
    exact upd_same

theorem ok_neigh (T : Tx K mg a) : FnOk P w K mg base CX0 1 a.f_neighbours a.d_neighbours ["deeds", "numbers", "depth"] (spNeigh a.c_Deed (csOf a)) := by
  refine T.F_neighbours.ok sc_neighbours (fun vs H Q E h => ?_) (fun cdv A outer s H vs Q E hr h => ?_)
  · obtain ⟨_, _, _, _, _, rfl, _⟩ := h; rfl
  obtain ⟨dl, nl, d, Ds, ns, rfl, ⟨xs, hdl, ax⟩, hnl, hin, nlen, q⟩ := h
  refine ⟨_, (@pss_cons _ _ _ _ _ (@ps_set _ _ (3) _ _ _ _ sc_neighbours.nd rfl (Or.inl rfl) (@pe_lst _ _ _ _ pa_nil) (by rfl) (by first | exact .inl rfl | exact .inr rfl | assumption)) (@pss_cons _ _ _ _ _ (@ps_for _ _ _ _ _ _ _ _ PassesOwn.never rfl (@pi_list _ _ _ _ (pv 1)) (pg_name (i := 4) sc_neighbours.nd rfl (Or.inl rfl)) (@pss_one _ _ _ (@ps_if _ _ _ _ _ _ _ _ ((@pw_and _ _ _ _ _ _ _ (@pt_truth _ _ _ (pv 3) (fun _ => rfl)) (@pw_and1 _ _ _ _ (@pt_cmpR _ _ _ _ _ _ _ _ op_eq (@pe_ix _ _ _ _ _ _ _ ix_tup (@pe_fld _ _ _ _ _ (@pe_ix _ _ _ _ _ _ _ ix_list (pv 0) (@pe_ix _ _ _ _ _ _ _ ix_list (@pe_ix _ _ _ _ _ _ _ ix_list (pv 3) (@pe_un _ _ _ _ _ _ un_neg pe_int) (fun _ _ => rfl)) pe_int (fun _ _ => rfl)) (fun _ _ => rfl)) rfl) (pv 2) (fun _ _ => rfl)) (@pe_ix _ _ _ _ _ _ _ ix_tup (@pe_fld _ _ _ _ _ (@pe_ix _ _ _ _ _ _ _ ix_list (pv 0) (pv 4) (fun _ _ => rfl)) rfl) (pv 2) (fun _ _ => rfl)) (@nomark _ _ (by decide) (by decide)))))).pt (@pss_one _ _ _ (@ps_expr _ _ _ _ (@pe_bm _ _ _ _ _ _ _ _ _ _ _ _ PySem.F.plainAttrs_list PySem.F.slot_list_append PySem.F.type_list_append mt_append (@pe_ix _ _ _ _ _ _ _ ix_list (pv 3) (@pe_un _ _ _ _ _ _ un_neg pe_int) (fun _ _ => rfl)) (@pa_cons _ _ _ _ _ (pv 4) pa_nil (by rfl)) (by rfl) (by rfl) (by rfl) (by rfl) (by rfl)) (by rfl))) (@pss_one _ _ _ (@ps_expr _ _ _ _ (@pe_bm _ _ _ _ _ _ _ _ _ _ _ _ PySem.F.plainAttrs_list PySem.F.slot_list_append PySem.F.type_list_append mt_append (pv 3) (@pa_cons _ _ _ _ _ (@pe_lst _ _ _ _ (@pa_cons _ _ _ _ _ (pv 4) pa_nil (by rfl))) pa_nil (by rfl)) (by rfl) (by rfl) (by rfl) (by rfl) (by rfl)) (by rfl))))) (by intro _ ; rfl)) (@pss_one _ _ _ (@ps_ret _ _ _ _ (pv 3))))), ?_⟩
  refine ⟨szl (by show 0 ≤ 1000000; decide), fun gl hgl => ?_⟩
  have s1 := same_new hgl (.lst [])
  have hgl1 : (upd H gl (.lst [])) gl = some (.lst []) := upd_same
  dsimp only [gName]
  generalize upd H gl (.lst []) = H1 at s1 hgl1
  have nln : (ilst ns).length = ns.length := by unfold ilst; rw [List.length_map]
  refine ⟨_, rfl, nl, rfl, ⟨_, SqL.of (s1 _ _ hnl)⟩, ?_⟩
  refine for_list (xs := ilst ns) (fun i σ' H' => ∃ (ys : List V) (G : List (List Nat)) (o4 : Option V), σ' = [some (.ref dl), some (.ref nl), some (.int (d : Int)), some (.ref gl), o4] ∧ Same H H' ∧ H' gl = some (.lst ys) ∧ GSt H H' gl ys G ∧ GP Ds d (ns.take i) G ∧ G.length ≤ i) ⟨[], [], _, rfl, s1, hgl1, .inl ⟨rfl, rfl⟩, .nil, Nat.le_refl _⟩ (fun i σ' H' _ pp => by obtain ⟨_, _, _, _, e, _⟩ := pp; exact SqL.of (e _ _ hnl)) (fun i x σ' H' hx pp => ?_) (fun σ' H' pp => ?_)
  rotate_left
  · obtain ⟨ys, G, o4, rfl, e, hg, st, gp, _⟩ := pp
    rw [nln, List.take_length] at gp
    exact ⟨_, rfl, q gl _ G e hgl (st.all hg) gp.isG⟩
  obtain ⟨ys, G, o4, rfl, e, hg, st, gp, glen⟩ := pp
  have hi : i < ns.length := by have := (List.getElem?_eq_some_iff.mp hx).1; omega
  have hk : ns[i]? = some ns[i] := List.getElem?_eq_getElem hi
  obtain ⟨k, ek⟩ : ∃ k, ns[i] = k := ⟨_, rfl⟩
  rw [ek] at hk
  have exk : x = V.int (k : Int) := by unfold ilst at hx; rw [List.getElem?_map, hk] at hx; exact (Option.some.inj hx).symm
  subst exk
  obtain ⟨D, hD, ok, hd⟩ := hin k (List.mem_of_getElem? hk)
  obtain ⟨v, hv, ⟨p, dx, nm, lo, hi2, ps, pt, ob, ls, hs, rfl, h0, h1, h2, h3, h4, h5, h6, h7, h8⟩⟩ := ax.get hD
  have pk : atI (D.path.map V.int) (d : Int) = some (.int (pat Ds d k)) := by
    rw [pat_some hD]
    exact cell_in (ns := D.path) (k := (d : Int)) (Int.natCast_nonneg _) (by have := ok.pl; omega)
  have tks : ns.take (i + 1) = ns.take i ++ [k] := take_snoc hk
  rw [tks]
  have yl := st.len
  dsimp only [gName]
  refine if_any (fun H2 => H2 = H' ∧ ∀ g h, G.getLast? = some g → g.head? = some h → pat Ds d h ≠ pat Ds d k) (fun H2 pp => ?_) (fun els => ?_)
  · obtain ⟨rfl, hne⟩ := pp
    refine ⟨_, rfl, .inl ⟨rfl, _, SqL.of hg⟩, _, rfl, szl (by show 1 ≤ 1000000; decide), fun l hl => ?_⟩
    have s2 := same_new hl (.lst [V.int (k : Int)])
    refine ⟨gl, _, _, rfl, rfl, s2 _ _ hg, szlt (by omega), ?_⟩
    refine ⟨ys ++ [.ref l], G ++ [[k]], _, rfl, fun b ob eb => by rw [upd_ne (ne_of_none eb hgl)]; exact s2 _ _ (e _ _ eb), upd_same, st.new hg hl (e.free hl), .new gp hne, by rw [List.length_append, List.length_singleton]; omega⟩
  · refine ⟨_, rfl, _, .inl ⟨_, SqL.of hg, rfl⟩, ?_⟩
    have il0 : ∀ {h : Nat} {g : List Nat}, atI (ilst (h :: g)) (0 : Int) = some (.int (h : Int)) := fun {h g} => by unfold ilst; exact atI_nat (j := 0) rfl
    rcases st with ⟨rfl, rfl⟩ | ⟨ys', l, G', h, g, rfl, rfl, hall, hl, nlg, hl0⟩
    · exact iteF (els _ ⟨rfl, fun g h hG => by cases hG⟩)
    have ne1 : (!(ys' ++ [V.ref l]).isEmpty) = true := by cases ys' <;> rfl
    rw [ne1]
    refine iteT ?_
    have hmem : h ∈ ns := by
      have := gp.isG.mem (h :: g) (by simp) h List.mem_cons_self
      exact List.mem_of_mem_take this
    obtain ⟨Dh, hDh, okh, hdh⟩ := hin h hmem
    obtain ⟨vh, hvh, ⟨p', dx', nm', lo', hi', ps', pt', ob', ls', hs', rfl, k0, _, _, _, _, _, _, _, k8⟩⟩ := ax.get hDh
    have ph : atI (Dh.path.map V.int) (d : Int) = some (.int (pat Ds d h)) := by
      rw [pat_some hDh]
      exact cell_in (ns := Dh.path) (k := (d : Int)) (Int.natCast_nonneg _) (by have := okh.pl; omega)
    refine ⟨_, rfl, _, rfl, _, rfl, gl, _, _, _, rfl, rfl, SqL.of hg, atI_neg _ _ [] rfl, l, _, _, _, rfl, rfl, SqL.of hl, il0, dl, _, _, _, rfl, rfl, SqL.of (e _ _ hdl), atI_nat hvh, p', _, dx', _, _, rfl, e _ _ k0, T.cl_Deed, T.n_Deed_path, rfl, _, rfl, pt', _, _, _, rfl, rfl, SqT.of (e _ _ k8), ph, ?_⟩
    refine ⟨_, rfl, _, rfl, dl, _, _, _, rfl, rfl, SqL.of (e _ _ hdl), atI_nat hv, p, _, dx, _, _, rfl, e _ _ h0, T.cl_Deed, T.n_Deed_path, rfl, _, rfl, pt, _, _, _, rfl, rfl, SqT.of (e _ _ h8), pk, rfl, _, rfl, ?_⟩
    by_cases c : pat Ds d h = pat Ds d k
    · refine iteE (v := true) (decide_eq_true (congrArg V.int c)) (iteT ?_)
      refine ⟨_, rfl, _, rfl, gl, _, _, _, rfl, rfl, SqL.of hg, atI_neg _ _ [] rfl, .inl ⟨rfl, _, SqL.of hl⟩, _, rfl, l, _, _, rfl, rfl, hl, szlt ?_, ?_⟩
      · have := gp.isG.glen (h :: g) (by simp)
        unfold ilst
        rw [List.length_map]
        rw [List.length_take] at this
        omega
      · refine ⟨ys' ++ [.ref l], G' ++ [h :: g ++ [k]], _, rfl, fun b ob eb => by rw [upd_ne (ne_of_none eb hl0)]; exact e _ _ eb, by rw [upd_ne nlg.symm]; exact hg, ?_, .more gp c, by rw [List.length_append, List.length_singleton] at glen ⊢; omega⟩
        refine .inr ⟨ys', l, G', h, g ++ [k], rfl, rfl, ?_, ?_, nlg, hl0⟩
        · rw [wo2_upd_r]; exact hall
        · rw [upd_same, show ilst (h :: (g ++ [k])) = ilst (h :: g) ++ [V.int (k : Int)] from by unfold ilst; exact List.map_append (l₁ := h :: g) (l₂ := [k])]
    · refine iteE (v := false) (decide_eq_false fun z => c (V.int.inj z)) (iteF ?_)
      refine els _ ⟨rfl, fun g1 h1 hG hh => ?_⟩
      rw [List.getLast?_append] at hG
      cases hG
      cases hh
      exact c

theorem ok_items26 (T : Tx K mg a) : ∀ n : Nat, FnOk P w K mg base CX0 (n + 2) a.f_items_within a.d_items_within ["deeds", "numbers", "depth"] (spItemsW a.c_Deed (csOf a) n)
  | 0 => by
    have no : ∀ vs H Q E, ¬ spItemsW a.c_Deed (csOf a) 0 vs H Q E := fun vs H Q E h => by
      obtain ⟨dl, nl, d, Ds, ns, ds, _, _, _, _, _, _, _, h1, h2, _⟩ := h
      omega
    exact ⟨fun vs H Q E h => absurd h (no vs H Q E), fun A outer s H args us vs Q E _ _ _ _ h => absurd h (no vs H Q E)⟩
  | n + 1 => by
    have G_neighbours := ok_neigh (P := P) (w := w) (base := base) T
    have G_items_within := ok_items26 T n
    refine T.F_items_within.ok sc_items_within (fun vs H Q E h => ?_) (fun cdv A outer s H vs Q E hr h => ?_)
    · obtain ⟨_, _, _, _, _, _, rfl, _⟩ := h; rfl
    obtain ⟨dl, nl, d, Ds, ns, ds, rfl, hDo, hnl, hin, nlen, got, cc, d3, dn, q⟩ := h
    refine ⟨_, (@pss_cons _ _ _ _ _ (@ps_set _ _ (3) _ _ _ _ sc_items_within.nd rfl (Or.inl rfl) (@pe_lst _ _ _ _ pa_nil) (by rfl) (by first | exact .inl rfl | exact .inr rfl | assumption)) (@pss_cons _ _ _ _ _ (@ps_for _ _ _ _ _ _ _ _ PassesOwn.never rfl (@pi_list _ _ _ _ (@pe_call _ _ _ _ _ _ _ _ _ _ _ _ _ _ _ _ G_neighbours (hr.mono (by omega)) (by rfl) T.m_neighbours T.F_neighbours.kp T.b_neighbours .nil pass0 (@pa_cons _ _ _ _ _ (pv 0) (@pa_cons _ _ _ _ _ (pv 1) (@pa_cons _ _ _ _ _ (pv 2) pa_nil (by rfl)) (by rfl)) (by rfl)) (by decide) (by rfl) (by rfl))) (pg_name (i := 4) sc_items_within.nd rfl (Or.inl rfl)) (@pss_cons _ _ _ _ _ (@ps_set _ _ (5) _ _ _ _ sc_items_within.nd rfl (Or.inl rfl) (@pe_ix _ _ _ _ _ _ _ ix_list (pv 4) pe_int (fun _ _ => rfl)) (by rfl) (by first | exact .inl rfl | exact .inr rfl | assumption)) (@pss_one _ _ _ (@ps_if _ _ _ _ _ _ _ _ (@pt_cmpR _ _ _ _ _ _ _ _ op_eq (@pe_callB _ _ _ _ _ _ _ _ _ call_len_seq (by rfl) T.z_len bt_len (@pa_cons _ _ _ _ _ (@pe_fld _ _ _ _ _ (@pe_ix _ _ _ _ _ _ _ ix_list (pv 0) (pv 5) (fun _ _ => rfl)) rfl) pa_nil (by rfl)) (by decide) (by decide) (by rfl) (by rfl)) (pv 2) (@nomark _ _ (by decide) (by decide))) (@pss_one _ _ _ (@ps_expr _ _ _ _ (@pe_bm _ _ _ _ _ _ _ _ _ _ _ _ PySem.F.plainAttrs_list PySem.F.slot_list_append PySem.F.type_list_append mt_append (pv 3) (@pa_cons _ _ _ _ _ (@pe_tup _ _ _ _ _ (@pa_cons _ _ _ _ _ (pv 5) (@pa_cons _ _ _ _ _ pe_non pa_nil (by rfl)) (by rfl))) pa_nil (by rfl)) (by rfl) (by rfl) (by rfl) (by rfl) (by rfl)) (by rfl))) (@pss_one _ _ _ (@ps_expr _ _ _ _ (@pe_bm _ _ _ _ _ _ _ _ _ _ _ _ PySem.F.plainAttrs_list PySem.F.slot_list_append PySem.F.type_list_append mt_append (pv 3) (@pa_cons _ _ _ _ _ (@pe_tup _ _ _ _ _ (@pa_cons _ _ _ _ _ (pv 5) (@pa_cons _ _ _ _ _ (@pe_call _ _ _ _ _ _ _ _ _ _ _ _ _ _ _ _ G_items_within (hr.mono (by omega)) (by rfl) T.m_items_within T.F_items_within.kp T.b_items_within .nil pass0 (@pa_cons _ _ _ _ _ (pv 0) (@pa_cons _ _ _ _ _ (pv 4) (@pa_cons _ _ _ _ _ (@pe_op _ _ _ _ _ _ _ _ op_add (pv 2) pe_int) pa_nil (by rfl)) (by rfl)) (by rfl)) (by decide) (by rfl) (by rfl)) pa_nil (by rfl)) (by rfl))) pa_nil (by rfl)) (by rfl) (by rfl) (by rfl) (by rfl) (by rfl)) (by rfl)))))) (by intro _ ; rfl)) (@pss_one _ _ _ (@ps_ret _ _ _ _ (pv 3))))), ?_⟩
    refine ⟨szl (by show 0 ≤ 1000000; decide), fun it hit => ?_⟩
    have s1 := same_new hit (.lst [])
    have hit1 : (upd H it (.lst [])) it = some (.lst []) := upd_same
    dsimp only [gName]
    generalize upd H it (.lst []) = H1 at s1 hit1
    refine ⟨_, rfl, _, rfl, _, rfl, dl, nl, d, Ds, ns, rfl, hDo.over s1, s1 _ _ hnl, hin, nlen, fun gl H2 G e2 hglN hG isG => ?_⟩
    obtain ⟨ys, hgl, ay⟩ := hG
    have e02 := s1.trans e2
    have ngi : gl ≠ it := (ne_of_none hit1 hglN).symm
    refine ⟨gl, rfl, ⟨_, SqL.of hgl⟩, ?_⟩
    refine for_list (xs := ys) (fun i σ' H' => ∃ (zs : List V) (f : Pw.Fs) (done rest : List Nat) (o4 o5 : Option V), σ' = [some (.ref dl), some (.ref nl), some (.int (d : Int)), some (.ref it), o4, o5] ∧ (∀ b o, b ≠ it → H2 b = some o → H' b = some o) ∧ H' it = some (.lst zs) ∧ FsAt (nwi H H' it) f zs ∧ Pw.IsF (getD Ds) f done d ∧ IsG Ds d rest (G.drop i) ∧ ns = done ++ rest ∧ fdep f ≤ n + 1 ∧ zs.length ≤ done.length ∧ (∀ x y, done.getLast? = some x → rest.head? = some y → pat Ds d x ≠ pat Ds d y)) ⟨[], .nil, [], ns, _, _, rfl, fun _ _ _ h => h, e2 _ _ hit1, rfl, rfl, isG, rfl, Nat.zero_le _, Nat.le_refl _, fun x y hx => by cases hx⟩ (fun i σ' H' _ pp => by obtain ⟨_, _, _, _, _, _, _, k, _⟩ := pp; exact SqL.of (k _ _ ngi hgl)) (fun i x σ' H' hx pp => ?_) (fun σ' H' pp => ?_)
    rotate_left
    · obtain ⟨zs, f, done, rest, o4, o5, rfl, k, hz, fa, isf, ig, en, fd, zl, _⟩ := pp
      rw [ay.1, List.drop_length] at ig
      cases ig
      rw [List.append_nil] at en
      subst en
      exact ⟨_, rfl, q it _ f zs (fun b o hb => k b o (ne_of_none hb hit) (e02 _ _ hb)) hit hz (fa.over nwi_nw) isf fd zl⟩
    obtain ⟨zs, f, done, rest, o4, o5, rfl, k, hz, fa, isf, ig, en, fd, zl, hdf⟩ := pp
    obtain ⟨g, hg, l, rfl, hl⟩ := ay.get' hx
    have dc : G.drop i = g :: G.drop (i + 1) := by
      obtain ⟨hh, rfl⟩ := List.getElem?_eq_some_iff.mp hg
      exact List.drop_eq_getElem_cons hh
    rw [dc] at ig
    generalize G.drop (i + 1) = G2 at ig
    cases ig with
    | @cons kk g' rest' _ i1 i2 i3 =>
    have nli : l ≠ it := fun z => by
      have h1 := e2 _ _ hit1
      rw [← z, hl] at h1
      cases h1
    have keep : ∀ {b o}, H b = some o → H' b = some o := fun {b o} hb => k b o (ne_of_none hb hit) (e02 _ _ hb)
    have eH : Same H H' := fun b o hb => keep hb
    have hl' : H' l = some (.lst (ilst (kk :: g'))) := k _ _ nli hl
    subst en
    obtain ⟨D, hD, ok, hdl⟩ := hin kk (by simp)
    have hDo' := hDo.over eH
    obtain ⟨xs, hxs, ax⟩ := hDo'
    obtain ⟨v, hv, hvo⟩ := ax.get hD
    obtain ⟨p, dx, nm, lo, hi2, ps, pt, ob, ls, hs, rfl, h0, h1, h2, h3, h4, h5, h6, h7, h8⟩ := id hvo
    obtain ⟨ds1, ds2, rfl, got1, got2⟩ := Pw.Got.split got
    obtain ⟨dsg, ds3, rfl, got3, got4⟩ := Pw.Got.split (ns := kk :: g') got2
    have ccg : Pw.CC d dsg := Pw.CC.left (Pw.CC.right cc)
    have memD : ∀ x ∈ done, ∃ a, getD Ds x = some a := fun x hx => by
      obtain ⟨Dx, hDx, _⟩ := hin x (List.mem_append_left _ hx)
      exact ⟨_, getD_some hDx⟩
    have diff : ∀ (x y : Nat) (a b : Pw.Dd LpT Str), done.getLast? = some x → (kk :: g').head? = some y → getD Ds x = some a → getD Ds y = some b → a.path.getD d 0 ≠ b.path.getD d 0 := fun x y a b hx hy ha hb => by
      obtain ⟨Da, hDa, rfl⟩ := getD_inv ha
      obtain ⟨Db, hDb, rfl⟩ := getD_inv hb
      have := hdf x y hx (by cases hy; rfl)
      rw [pat_some hDa, pat_some hDb] at this
      exact this
    have nxt : ∀ x y, (done ++ (kk :: g')).getLast? = some x → rest'.head? = some y → pat Ds d x ≠ pat Ds d y := fun x y hx hy => by
      have hx' : x ∈ kk :: g' := by
        rw [List.getLast?_append] at hx
        cases hgl2 : (kk :: g').getLast? with
        | none => simp at hgl2
        | some z =>
          rw [hgl2] at hx
          cases hx
          exact List.mem_of_getLast? hgl2
      have e : pat Ds d x = pat Ds d kk := by
        rcases List.mem_cons.mp hx' with rfl | h
        · rfl
        · exact i1 x h
      rw [e]
      exact (i2 y hy).symm
    have zlen : zs.length ≤ 10 := by rw [List.length_append] at nlen; omega
    have nlen2 : (kk :: g').length ≤ 10 := by
      have := nlen
      rw [List.length_append, List.length_append] at this
      omega
    dsimp only [gName]
    refine ⟨_, rfl, l, _, _, _, rfl, rfl, SqL.of hl', (show atI (ilst (kk :: g')) (0 : Int) = some (.int (kk : Int)) from by unfold ilst; exact atI_nat (j := 0) rfl), ?_⟩
    dsimp only [gName]
    refine ⟨_, rfl, _, rfl, dl, _, _, _, rfl, rfl, SqL.of hxs, atI_nat hv, p, _, dx, _, _, rfl, h0, T.cl_Deed, T.n_Deed_names, rfl, nm, _, rfl, .inr (SqT.of h1), _, rfl, rfl, _, rfl, ?_⟩
    rw [List.length_map]
    by_cases c : D.loops.length = d
    · refine iteE (v := true) (decide_eq_true (congrArg (fun m : Nat => V.int (m : Int)) c)) (iteT ?_)
      have g0 : g' = [] := by
        cases g' with
        | nil => rfl
        | cons k2 g2 =>
          cases got3 with
          | cons q1 q2 =>
            cases q2 with
            | cons q3 q4 =>
              rw [getD_some hD] at q1
              cases q1
              obtain ⟨D2, hD2, rfl⟩ := getD_inv q3
              obtain ⟨⟨cx, c1, c2⟩, _⟩ := ccg
              have c3 : cx ≤ D.loops.length := c2.1
              have ce : cx = d := by omega
              subst ce
              have := i1 k2 List.mem_cons_self
              rw [pat_some hD2, pat_some hD] at this
              exact absurd this.symm c2.2.2.2.2
      subst g0
      refine ⟨_, rfl, .inl ⟨rfl, _, SqL.of hz⟩, _, rfl, szl (by show 2 ≤ 1000000; decide), fun t ht => ?_⟩
      have s3 := same_new ht (.tup [V.int (kk : Int), V.non])
      refine ⟨it, _, _, rfl, rfl, s3 _ _ hz, szlt (by omega), ?_⟩
      have nti : t ≠ it := (ne_of_none hz ht).symm
      refine ⟨zs ++ [.ref t], fapp f (.leaf kk .nil), done ++ [kk], rest', _, _, rfl, fun b o hb h => by rw [upd_ne hb]; exact s3 _ _ (k b o hb h), upd_same, ?_, isF_app isf ⟨[], D.dd, rfl, getD_some hD, c, rfl⟩ diff memD, i3, by rw [List.append_assoc], Nat.le_trans (fdep_app f _) (Nat.max_le.mpr ⟨fd, by show max 1 0 ≤ n + 1; omega⟩), by rw [List.length_append, List.length_append]; exact Nat.add_le_add zl (Nat.le_refl _), nxt⟩
      exact (fa.over (nwi_mono fun b o hb h => by rw [upd_ne hb]; exact s3 _ _ h)).app ⟨t, [], rfl, nwi_get (eH.free ht) nti (by rw [upd_ne nti]; exact upd_same), rfl⟩
    · refine iteE (v := false) (decide_eq_false fun z => c (by have := V.int.inj z; omega)) (iteF ?_)
      have hlt : d < D.loops.length := by omega
      have ll := ok.ll
      have hv2 : ∀ y ∈ dsg, y.path.getD d 0 = D.dd.path.getD d 0 := fun y hy => by
        obtain ⟨k', hk', e⟩ := got3.mem y hy
        obtain ⟨D', hD', rfl⟩ := getD_inv e
        have : pat Ds d k' = pat Ds d kk := by
          rcases List.mem_cons.mp hk' with rfl | h
          · rfl
          · exact i1 k' h
        rw [pat_some hD', pat_some hD] at this
        exact this
      have up := (Pw.CC.up ccg hv2 (fun y hy => by
        obtain ⟨k', hk', e⟩ := got3.head hy
        cases hk'
        rw [getD_some hD] at e
        cases e
        exact hlt)).1
      have hin2 : InD Ds (d + 1) (kk :: g') := fun x hx => by
        obtain ⟨Dx, hDx, okx, _⟩ := hin x (List.mem_append_right _ (List.mem_append_left _ hx))
        refine ⟨Dx, hDx, okx, ?_⟩
        obtain ⟨y, hy, ey⟩ := got3.find hx
        rw [getD_some hDx] at ey
        cases ey
        exact Pw.CC.le up _ hy
      have nlen3 : zs.length + 1 ≤ 11 := by omega
      refine ⟨_, rfl, .inl ⟨rfl, _, SqL.of hz⟩, _, rfl, _, rfl, _, rfl, _, rfl, _, _, rfl, rfl, dl, l, d + 1, Ds, kk :: g', dsg, rfl, ⟨xs, hxs, ax⟩, hl', hin2, nlen2, got3, up, by omega, by omega, fun r H3 sub ws e3 hrN hr3 fs3 is3 fd3 wl3 => ⟨szl (by show 2 ≤ 1000000; decide), fun t ht => ?_⟩⟩
      have s4 := same_new ht (.tup [V.int (kk : Int), V.ref r])
      have hz3 := e3 _ _ hz
      refine ⟨it, _, _, rfl, rfl, s4 _ _ hz3, szlt (by omega), ?_⟩
      have nti : t ≠ it := (ne_of_none hz3 ht).symm
      have nri : r ≠ it := (ne_of_none hz hrN).symm
      refine ⟨zs ++ [.ref t], fapp f (.node kk sub .nil), done ++ (kk :: g'), rest', _, _, rfl, fun b o hb h => by rw [upd_ne hb]; exact s4 _ _ (e3 _ _ (k b o hb h)), upd_same, ?_, isF_app isf ⟨g', [], D.dd, by simp, getD_some hD, hlt, fun x hx b hb => ?_, fun x b hx => (by cases hx), is3, rfl⟩ diff memD, i3, by rw [List.append_assoc], Nat.le_trans (fdep_app f _) (Nat.max_le.mpr ⟨fd, by show max (fdep sub + 1) 0 ≤ n + 1; omega⟩), by rw [List.length_append, List.length_append]; exact Nat.add_le_add zl (by rw [List.length_cons, List.length_cons]; exact Nat.succ_le_succ (Nat.zero_le _)), nxt⟩
      · have up4 : ∀ b o, b ≠ it → H3 b = some o → (upd (upd H3 t (.tup [V.int (kk : Int), V.ref r])) it (.lst (zs ++ [.ref t]))) b = some o := fun b o hb h => by rw [upd_ne hb]; exact s4 _ _ h
        exact (fa.over (nwi_mono fun b o hb h => up4 b o hb (e3 _ _ h))).app ⟨t, r, ws, [], rfl, nwi_get (eH.free (e3.free ht)) nti (by rw [upd_ne nti]; exact upd_same), nwi_get (eH.free hrN) nri (up4 _ _ nri hr3), (fs3.over (nw_nwi eH hz)).over (nwi_mono up4), rfl⟩
      · obtain ⟨Db, hDb, rfl⟩ := getD_inv hb
        have := i1 x hx
        rw [pat_some hDb, pat_some hD] at this
        exact this

theorem ok_nested (T : Tx K mg a) : FnOk P w K mg base CX0 7 a.f_nested a.d_nested ["deeds"] (spNested a.c_Deed (csOf a)) := by
  have G_items_within := ok_items26 (P := P) (w := w) (base := base) T 4
  refine T.F_nested.ok sc_nested (fun vs H Q E h => ?_) (fun cdv A outer s H vs Q E hr h => ?_)
  · obtain ⟨_, _, rfl, _⟩ := h; rfl
  obtain ⟨dl, Ds, rfl, hDo, ok, q⟩ := h
  refine ⟨_, (@pss_one _ _ _ (@ps_ret _ _ _ _ (@pe_call _ _ _ _ _ _ _ _ _ _ _ _ _ _ _ _ G_items_within (hr.mono (by omega)) (by rfl) T.m_items_within T.F_items_within.kp T.b_items_within .nil pass0 (@pa_cons _ _ _ _ _ (pv 0) (@pa_cons _ _ _ _ _ (@pe_lrange _ _ _ _ _ _ _ rfl (by rfl) T.z_list (by rfl) T.z_range (@pa_cons _ _ _ _ _ (@pe_callB _ _ _ _ _ _ _ _ _ call_len_seq (by rfl) T.z_len bt_len (@pa_cons _ _ _ _ _ (pv 0) pa_nil (by rfl)) (by decide) (by decide) (by rfl) (by rfl)) pa_nil (by rfl)) (by rfl)) (@pa_cons _ _ _ _ _ pe_int pa_nil (by rfl)) (by rfl)) (by rfl)) (by decide) (by rfl) (by rfl)))), ?_⟩
  obtain ⟨xs, hdl, ax⟩ := id hDo
  have xl := ax.1
  refine ⟨_, rfl, _, rfl, dl, _, rfl, .inl (SqL.of hdl), xs.length, rfl, by have := ok.2.1; omega, fun nl hnl => ?_⟩
  have s1 := same_new hnl (.lst (upto xs.length))
  have hnl1 : (upd H nl (.lst (upto xs.length))) nl = some (.lst (ilst (List.range Ds.length))) := by rw [upd_same, xl]; rfl
  generalize upd H nl (.lst (upto xs.length)) = H1 at s1 hnl1
  refine ⟨dl, nl, 0, Ds, List.range Ds.length, Ds.map Dw.dd, rfl, hDo.over s1, hnl1, fun k hk => ?_, by rw [List.length_range]; exact ok.2.1, got_range, ok.2.2, by decide, by decide, fun r H' f ys e hrN hr2 fs isf fd _ => ?_⟩
  · rw [List.mem_range] at hk
    exact ⟨Ds[k], List.getElem?_eq_getElem hk, ok.1 _ (List.getElem_mem hk), Nat.zero_le _⟩
  · exact q r _ f ys (s1.trans e) hr2 (fs.over nw_same) isf fd

theorem ok_ownit (T : Tx K mg a) : ∀ n : Nat, FnOk P w K mg base CX0 (n + 1) a.f_own_items a.d_own_items ["deeds", "items"] (spOwnIt a.c_Deed (csOf a) n)
  | 0 => by
    have no : ∀ vs H Q E, ¬ spOwnIt a.c_Deed (csOf a) 0 vs H Q E := fun vs H Q E h => by
      obtain ⟨_, _, _, _, _, _, _, _, _, _, h1, _⟩ := h
      omega
    exact ⟨fun vs H Q E h => absurd h (no vs H Q E), fun A outer s H args us vs Q E _ _ _ _ h => absurd h (no vs H Q E)⟩
  | n + 1 => by
    have G_own_items := ok_ownit T n
    refine T.F_own_items.ok sc_own_items (fun vs H Q E h => ?_) (fun cdv A outer s H vs Q E hr h => ?_)
    · obtain ⟨_, _, _, _, _, rfl, _⟩ := h; rfl
    obtain ⟨dl, il, Ds, f, xs, rfl, hDo, D3, hil, hfs, fd, hin, fz, q⟩ := h
    refine ⟨_, (@pss_cons _ _ _ _ _ (@ps_set _ _ (2) _ _ _ _ sc_own_items.nd rfl (Or.inl rfl) (@pe_lst _ _ _ _ pa_nil) (by rfl) (by first | exact .inl rfl | exact .inr rfl | assumption)) (@pss_cons _ _ _ _ _ (@ps_for _ _ _ _ _ _ _ _ PassesOwn.never rfl (@pi_list _ _ _ _ (pv 1)) (pg_tup rfl (pgs_cons (pg_name (i := 3) sc_own_items.nd rfl (Or.inl rfl)) (pgs_cons (pg_name (i := 4) sc_own_items.nd rfl (Or.inl rfl)) pgs_nil))) (@pss_one _ _ _ (@ps_if _ _ _ _ _ _ _ _ (@pt_cmpR _ _ _ _ _ _ _ _ op_isN (pv 4) pe_non (@nomark _ _ (by decide) (by decide))) (@pss_one _ _ _ (@ps_expr _ _ _ _ (@pe_bm _ _ _ _ _ _ _ _ _ _ _ _ PySem.F.plainAttrs_list PySem.F.slot_list_append PySem.F.type_list_append mt_append (pv 2) (@pa_cons _ _ _ _ _ (@pe_tupq _ _ _ _ _ (@paq_cons _ _ _ _ _ pe_str (@paq_cons _ _ _ _ _ (pv 3) (@paq_cons _ _ _ _ _ (@pe_callTy _ _ _ _ _ _ _ _ _ call_tuple_of (by rfl) T.z_tuple bt_tuple (@pa_cons _ _ _ _ _ (@pe_compB _ _ _ _ _ _ _ ["e"] [none] _ _ _ _ (by rfl) (@pi_range1 _ _ _ _ _ _ (by rfl) T.z_range (@pa_cons _ _ _ _ _ (@pe_callB _ _ _ _ _ _ _ _ _ call_len_seq (by rfl) T.z_len bt_len (@pa_cons _ _ _ _ _ (@pe_fld _ _ _ _ _ (@pe_ix _ _ _ _ _ _ _ ix_list (pv 0) (pv 3) (fun _ _ => rfl)) rfl) pa_nil (by rfl)) (by decide) (by decide) (by rfl) (by rfl)) pa_nil (by rfl)) (by rfl)) c_own_items_0 (fun _ _ _ _ _ _ => ⟨(pg_name (i := 0) c_own_items_0n rfl (Or.inl rfl)), @pts_nil _, (@pe_tup _ _ _ _ _ (@pa_cons _ _ _ _ _ (pv 0) (@pa_cons _ _ _ _ _ pe_int pa_nil (by rfl)) (by rfl)))⟩) (by intro _ ; rfl)) pa_nil (by rfl)) (by decide) (by decide) (by rfl) (by rfl)) paq_nil star_K) star_N) star_C)) pa_nil (by rfl)) (by rfl) (by rfl) (by rfl) (by rfl) (by rfl)) (by rfl))) (@pss_one _ _ _ (@ps_expr _ _ _ _ (@pe_bm _ _ _ _ _ _ _ _ _ _ _ _ PySem.F.plainAttrs_list PySem.F.slot_list_append PySem.F.type_list_append mt_append (pv 2) (@pa_cons _ _ _ _ _ (@pe_tupq _ _ _ _ _ (@paq_cons _ _ _ _ _ pe_str (@paq_cons _ _ _ _ _ pe_bl (@paq_cons _ _ _ _ _ pe_str (@paq_cons _ _ _ _ _ (@pe_call _ _ _ _ _ _ _ _ _ _ _ _ _ _ _ _ G_own_items (hr.mono (by omega)) (by rfl) T.m_own_items T.F_own_items.kp T.b_own_items .nil pass0 (@pa_cons _ _ _ _ _ (pv 0) (@pa_cons _ _ _ _ _ (pv 4) pa_nil (by rfl)) (by rfl)) (by decide) (by rfl) (by rfl)) paq_nil star_K) star_C) star_C) star_C)) pa_nil (by rfl)) (by rfl) (by rfl) (by rfl) (by rfl) (by rfl)) (by rfl))))) (by intro _ ; rfl)) (@pss_one _ _ _ (@ps_ret _ _ _ _ (@pe_callTy _ _ _ _ _ _ _ _ _ call_tuple_of (by rfl) T.z_tuple bt_tuple (@pa_cons _ _ _ _ _ (pv 2) pa_nil (by rfl)) (by decide) (by decide) (by rfl) (by rfl)))))), ?_⟩
    have xl := fs_len hfs
    refine ⟨szl (by show 0 ≤ 1000000; decide), fun fo hfo => ?_⟩
    have s1 := same_new hfo (.lst [])
    have hfo1 : (upd H fo (.lst [])) fo = some (.lst []) := upd_same
    dsimp only [gName]
    generalize upd H fo (.lst []) = H1 at s1 hfo1
    refine ⟨_, rfl, il, rfl, ⟨_, SqL.of (s1 _ _ hil)⟩, ?_⟩
    refine for_list (xs := xs) (fun i σ' H' => ∃ (g : Pw.Fs) (ys : List V) (done : Frs) (o3 o4 : Option V), σ' = [some (.ref dl), some (.ref il), some (.ref fo), o3, o4] ∧ Same H H' ∧ H' fo = some (.lst ys) ∧ FoAt H' ys done ∧ FsAt H g (xs.drop i) ∧ InF Ds g ∧ fdep g < n + 1 ∧ fsz g ≤ 1000 ∧ Fo.app done (ownT Ds g) = ownT Ds f ∧ ys.length = i) ⟨f, [], .nil, _, _, rfl, s1, hfo1, rfl, hfs, hin, fd, fz, rfl, rfl⟩ (fun i σ' H' _ pp => by obtain ⟨_, _, _, _, _, _, e, _⟩ := pp; exact SqL.of (e _ _ hil)) (fun i x σ' H' hx pp => ?_) (fun σ' H' pp => ?_)
    rotate_left
    · obtain ⟨g, ys, done, o3, o4, rfl, e, hf, hfa, hg, _, _, _, eq, yl⟩ := pp
      rw [List.drop_length] at hg
      have gn : g = .nil := by
        cases g with
        | nil => rfl
        | leaf k r => obtain ⟨_, _, z, _⟩ := hg; cases z
        | node k s r => obtain ⟨_, _, _, _, z, _⟩ := hg; cases z
      subst gn
      have eq : done = ownT Ds f := by rw [← eq]; exact (app_nil done).symm
      subst eq
      refine ⟨_, rfl, fo, ys, rfl, .inl ⟨SqL.of hf, fun r hr => ?_⟩⟩
      have s2 := same_new hr (.tup ys)
      exact q r _ (e.trans s2) ⟨ys, upd_same, FoAt.over s2 hfa⟩
    obtain ⟨g, ys, done, o3, o4, rfl, e, hf, hfa, hg, hig, fdg, fzg, eq, yl⟩ := pp
    have hi : i < xs.length := (List.getElem?_eq_some_iff.mp hx).1
    have dc : xs.drop i = x :: xs.drop (i + 1) := by
      obtain ⟨hh, rfl⟩ := List.getElem?_eq_some_iff.mp hx
      exact List.drop_eq_getElem_cons hh
    rw [dc] at hg
    cases g with
    | nil => cases hg
    | leaf k rest =>
      obtain ⟨t, xs', ex, ht, hrest⟩ := hg
      cases ex
      obtain ⟨⟨D, hD⟩, hir⟩ := hig
      have m3 := D3 D (List.mem_of_getElem? hD)
      have mo := mOf_some hD
      refine ⟨t, _, rfl, SqT.of (e _ _ ht), rfl, _, _, rfl, _, _, rfl, rfl, ?_⟩
      dsimp only [gName]
      refine ⟨_, rfl, rfl, _, rfl, iteE (v := true) (decide_eq_true rfl) (iteT ?_)⟩
      obtain ⟨zs, hdl, az⟩ := hDo.over e
      obtain ⟨v, hv, p, dx, nm, lo, hi2, ps, pt, ob, ls, hs, rfl, h0, h1, _⟩ := az.get hD
      have nl : (D.loops.map fun t => V.str t.nm).length = D.loops.length := List.length_map _
      refine ⟨_, rfl, .inl ⟨rfl, _, SqL.of hf⟩, _, rfl, _, rfl, _, rfl, dl, _, _, _, rfl, rfl, SqL.of hdl, atI_nat hv, p, _, dx, _, _, rfl, h0, T.cl_Deed, T.n_Deed_names, rfl, nm, _, rfl, .inr (SqT.of h1), (D.loops.length : Int), by rw [nl], by omega, by omega, ?_⟩
      rw [show ((D.loops.length : Int)).toNat = D.loops.length by omega]
      refine comp_range (lo := 0) (n := D.loops.length) (fun j zs' H2 => Same H' H2 ∧ All2 (PrAt H2) zs' ((Fo.ownP D.loops.length).take j)) ⟨Same.refl _, .nil⟩ (szl (by omega)) (fun j zs' H2 hj pp => by rw [pp.2.1, List.length_take, own_len]; omega) (fun j zs' H2 hj pp => ?_) (fun zs' H2 pp l hl => ?_)
      · obtain ⟨e2, ap⟩ := pp
        rw [Int.zero_add]
        refine ⟨_, rfl, szl (by show 2 ≤ 1000000; decide), fun u hu => ?_⟩
        have s3 := same_new hu (.tup [V.int (j : Int), V.int 0])
        refine ⟨e2.trans s3, ?_⟩
        rw [own_snoc _ j hj]
        exact (ap.mono fun _ _ z => z.over s3).snoc ⟨u, rfl, upd_same⟩
      obtain ⟨e2, ap⟩ := pp
      rw [List.take_of_length_le (by rw [own_len]; exact Nat.le_refl _)] at ap
      have s3 := same_new hl (.lst zs')
      refine ⟨l, zs', rfl, .inl ⟨SqL.of upd_same, fun pl hpl => ?_⟩⟩
      have s4 := same_new hpl (.tup zs')
      have hpl4 : (upd (upd H2 l (.lst zs')) pl (.tup zs')) pl = some (.tup zs') := upd_same
      have e4 := (e2.trans s3).trans s4
      generalize upd (upd H2 l (.lst zs')) pl (.tup zs') = H4 at s4 hpl4 e4
      refine ⟨szl (by show 3 ≤ 1000000; decide), fun r hr => ?_⟩
      have s5 := same_new hr (.tup [V.str "deed", V.int (k : Int), V.ref pl])
      have hr5 : (upd H4 r (.tup [V.str "deed", V.int (k : Int), V.ref pl])) r = some (.tup [V.str "deed", V.int (k : Int), V.ref pl]) := upd_same
      have e5 := e4.trans s5
      have hpl5 := s5 _ _ hpl4
      generalize upd H4 r (.tup [V.str "deed", V.int (k : Int), V.ref pl]) = H5 at s5 hr5 e5 hpl5
      have hf5 := e5 _ _ hf
      refine ⟨fo, _, _, rfl, rfl, hf5, szlt (by omega), ?_⟩
      have tk := TK.upd (o := .lst (ys ++ [V.ref r])) hf5
      refine ⟨rest, ys ++ [.ref r], Fo.app done (.leaf (k : Int) (Fo.ownP (mOf Ds k)) .nil), _, _, rfl, fun a o ha => by rw [upd_ne (ne_of_none ha hfo)]; exact e5 _ _ (e _ _ ha), upd_same, ?_, hrest, hir, by change max 1 (fdep rest) < n + 1 at fdg; omega, by change fsz rest + 1 ≤ 1000 at fzg; omega, by rw [app_one]; exact eq, by rw [List.length_append, yl]; rfl⟩
      rw [mo]
      exact FoAt.tk tk (FoAt.app (FoAt.over e5 hfa) ⟨r, pl, [], rfl, hr5, ⟨zs', hpl5, ap.mono fun _ _ z => (z.over s3).over (s4.trans s5)⟩, rfl⟩)
    | node k sub rest =>
      obtain ⟨t, l, zs, xs', ex, ht, hl, hsub, hrest⟩ := hg
      cases ex
      obtain ⟨his, hir⟩ := hig
      change max (fdep sub + 1) (fdep rest) < n + 1 at fdg
      change fsz sub + fsz rest + 1 ≤ 1000 at fzg
      refine ⟨t, _, rfl, SqT.of (e _ _ ht), rfl, _, _, rfl, _, _, rfl, rfl, ?_⟩
      dsimp only [gName]
      refine ⟨_, rfl, rfl, _, rfl, iteE (v := false) (decide_eq_false (fun z => by cases z)) (iteF ?_)⟩
      refine ⟨_, rfl, .inl ⟨rfl, _, SqL.of hf⟩, _, rfl, _, rfl, dl, l, Ds, sub, zs, rfl, hDo.over e, D3, e _ _ hl, FsAt.over e hsub, by omega, his, by omega, fun r2 H2 e2 hr2 => ⟨szl (by show 4 ≤ 1000000; decide), fun r hr => ?_⟩⟩
      obtain ⟨ws, hw1, hw2⟩ := hr2
      have s5 := same_new hr (.tup [V.str "sweep", V.bl false, V.str "up", V.ref r2])
      have hr5 : (upd H2 r (.tup [V.str "sweep", V.bl false, V.str "up", V.ref r2])) r = some (.tup [V.str "sweep", V.bl false, V.str "up", V.ref r2]) := upd_same
      have e5 := e2.trans s5
      have hw5 := s5 _ _ hw1
      have hw6 := FoAt.over s5 hw2
      generalize upd H2 r (.tup [V.str "sweep", V.bl false, V.str "up", V.ref r2]) = H5 at s5 hr5 e5 hw5 hw6
      have hf5 := e5 _ _ hf
      refine ⟨fo, _, _, rfl, rfl, hf5, szlt (by omega), ?_⟩
      have tk := TK.upd (o := .lst (ys ++ [V.ref r])) hf5
      refine ⟨rest, ys ++ [.ref r], Fo.app done (.node false "up" (ownT Ds sub) .nil), _, _, rfl, fun a o ha => by rw [upd_ne (ne_of_none ha hfo)]; exact e5 _ _ (e _ _ ha), upd_same, ?_, hrest, hir, by omega, by omega, by rw [app_one]; exact eq, by rw [List.length_append, yl]; rfl⟩
      exact FoAt.tk tk (FoAt.app (FoAt.over e5 hfa) ⟨r, r2, ws, [], rfl, hr5, hw5, hw6, rfl⟩)

theorem ok_ownplan (T : Tx K mg a) : FnOk P w K mg base CX0 9 a.f_own_plan a.d_own_plan ["program"] (spOwnPlan a.c_Program a.c_Deed (csOf a)) := by
  have G_nested := ok_nested (P := P) (w := w) (base := base) T
  have G_own_items := ok_ownit (P := P) (w := w) (base := base) T 5
  refine T.F_own_plan.ok sc_own_plan (fun vs H Q E h => ?_) (fun cdv A outer s H vs Q E hr h => ?_)
  · obtain ⟨_, _, _, rfl, _⟩ := h; rfl
  obtain ⟨v, n, Ds, rfl, ⟨x, dx, dl, rfl, hx, hDo⟩, ok, q⟩ := h
  refine ⟨_, (@pss_one _ _ _ (@ps_ret _ _ _ _ (@pe_call _ _ _ _ _ _ _ _ _ _ _ _ _ _ _ _ G_own_items (hr.mono (by omega)) (by rfl) T.m_own_items T.F_own_items.kp T.b_own_items .nil pass0 (@pa_cons _ _ _ _ _ (@pe_fld _ _ _ _ _ (pv 0) rfl) (@pa_cons _ _ _ _ _ (@pe_call _ _ _ _ _ _ _ _ _ _ _ _ _ _ _ _ G_nested (hr.mono (by omega)) (by rfl) T.m_nested T.F_nested.kp T.b_nested .nil pass0 (@pa_cons _ _ _ _ _ (@pe_fld _ _ _ _ _ (pv 0) rfl) pa_nil (by rfl)) (by decide) (by rfl) (by rfl)) pa_nil (by rfl)) (by rfl)) (by decide) (by rfl) (by rfl)))), ?_⟩
  refine ⟨_, rfl, x, _, dx, _, _, rfl, hx, T.cl_Program, T.n_Program_deeds, rfl, _, rfl, x, _, dx, _, _, rfl, hx, T.cl_Program, T.n_Program_deeds, rfl, dl, Ds, rfl, hDo, ok, fun r H1 f xs e1 hr1 hfs hI fd => ?_⟩
  obtain ⟨inF, fz⟩ := inF_of hI (fun D hD => (ok.1 D hD).ll) (by decide)
  refine ⟨dl, r, Ds, f, xs, rfl, hDo.over e1, fun D hD => (ok.1 D hD).ll, hr1, hfs, by omega, inF, by rw [List.length_range] at fz; have := ok.2.1; omega, fun r2 H2 e2 hf => q r2 H2 f (e1.trans e2) hf hI⟩

theorem ok_alike_numbers (T : Tx K mg a) : FnOk P w K mg base CX0 1 a.f_alike_numbers a.d_alike_numbers ["path", "other", "most"] spAlikeN := by
  refine T.F_alike_numbers.ok sc_alike_numbers (fun vs H Q E h => ?_) (fun cdv A outer s H vs Q E hr h => ?_)
  · obtain ⟨_, _, _, _, _, _, rfl, _⟩ := h; rfl
  obtain ⟨p1, p2, xs, ys, m, k, rfl, hp1, hp2, hm1, hm2, hm3, hkm, ke, kn, q⟩ := h
  refine ⟨_, (@pss_cons _ _ _ _ _ (@ps_for _ _ _ _ _ _ _ _ PassesOwn.never rfl (@pi_range1 _ _ _ _ _ _ (by rfl) T.z_range (@pa_cons _ _ _ _ _ (pv 2) pa_nil (by rfl)) (by rfl)) (pg_name (i := 3) sc_alike_numbers.nd rfl (Or.inl rfl)) (@pss_one _ _ _ (@ps_if _ _ _ _ _ _ _ _ (@pt_cmpR _ _ _ _ _ _ _ _ op_ne (@pe_ix _ _ _ _ _ _ _ ix_tup (pv 0) (pv 3) (fun _ _ => rfl)) (@pe_ix _ _ _ _ _ _ _ ix_tup (pv 1) (pv 3) (fun _ _ => rfl)) (@nomark _ _ (by decide) (by decide))) (@pss_one _ _ _ (@ps_ret _ _ _ _ (pv 3))) pss_nil)) (by intro _ ; rfl)) (@pss_one _ _ _ (@ps_ret _ _ _ _ (pv 2)))), ?_⟩
  refine ⟨_, rfl, _, rfl, by omega, by omega, ?_⟩
  refine for_range (lo := 0) (n := m) (fun i σ' H' => H' = H ∧ (∃ o, σ' = [some (.ref p1), some (.ref p2), some (.int (m : Int)), o]) ∧ i ≤ k) ⟨rfl, ⟨_, rfl⟩, Nat.zero_le _⟩ (fun i σ' H' hi p => ?_) (fun σ' H' p => ?_)
  · obtain ⟨rfl, ⟨o, rfl⟩, hik⟩ := p
    have a1 : atI (xs.map V.int) (0 + (i : Int)) = some (.int (xs.getD i 0)) := by
      have := cell_in (ns := xs) (k := 0 + (i : Int)) (by omega) (by omega)
      rwa [show (0 + (i : Int)).toNat = i by rw [Int.zero_add]; rfl] at this
    have a2 : atI (ys.map V.int) (0 + (i : Int)) = some (.int (ys.getD i 0)) := by
      have := cell_in (ns := ys) (k := 0 + (i : Int)) (by omega) (by omega)
      rwa [show (0 + (i : Int)).toNat = i by rw [Int.zero_add]; rfl] at this
    refine ⟨_, rfl, _, rfl, p1, _, _, _, rfl, rfl, SqT.of hp1, a1, ?_⟩
    refine ⟨_, rfl, _, rfl, p2, _, _, _, rfl, rfl, SqT.of hp2, a2, rfl, _, rfl, ?_⟩
    by_cases hk : i < k
    · refine iteE (ndF (congrArg V.int (ke i hk))) (iteF ?_)
      exact ⟨rfl, ⟨_, rfl⟩, hk⟩
    · have e : i = k := by omega
      subst e
      refine iteE (ndT (fun z => kn hi (V.int.inj z))) (iteT ?_)
      exact ⟨_, rfl, by rw [Int.zero_add]; exact q⟩
  · obtain ⟨rfl, ⟨o, rfl⟩, hik⟩ := p
    have e : m = k := by omega
    subst e
    exact ⟨_, rfl, q⟩

theorem ok_shared67 (T : Tx K mg a) (b : Int) : FnOk P w K mg base CX0 2 a.f_shared a.d_shared ["one", "other"] (spShared67 a.c_Deed (csOf a) b) := by
  have G_alike_numbers := ok_alike_numbers (P := P) (w := w) (base := base) T
  refine T.F_shared.ok sc_shared (fun vs H Q E h => ?_) (fun cdv A outer s H vs Q E hr h => ?_)
  · obtain ⟨_, _, _, _, _, rfl, _⟩ := h; rfl
  obtain ⟨x, y, D, E', k, rfl, hx, hy, oD, oE, ⟨k1, k2, ke, kn⟩, q⟩ := h
  refine ⟨_, (@pss_one _ _ _ (@ps_ret _ _ _ _ (@pe_call _ _ _ _ _ _ _ _ _ _ _ _ _ _ _ _ G_alike_numbers (hr.mono (by omega)) (by rfl) T.m_alike_numbers T.F_alike_numbers.kp T.b_alike_numbers .nil pass0 (@pa_cons _ _ _ _ _ (@pe_fld _ _ _ _ _ (pv 0) rfl) (@pa_cons _ _ _ _ _ (@pe_fld _ _ _ _ _ (pv 1) rfl) (@pa_cons _ _ _ _ _ (@pe_callB _ _ _ _ _ _ _ _ _ (@call_min2 _ rfl) (by rfl) T.z_min bt_min (@pa_cons _ _ _ _ _ (@pe_callB _ _ _ _ _ _ _ _ _ call_len_seq (by rfl) T.z_len bt_len (@pa_cons _ _ _ _ _ (@pe_fld _ _ _ _ _ (pv 0) rfl) pa_nil (by rfl)) (by decide) (by decide) (by rfl) (by rfl)) (@pa_cons _ _ _ _ _ (@pe_callB _ _ _ _ _ _ _ _ _ call_len_seq (by rfl) T.z_len bt_len (@pa_cons _ _ _ _ _ (@pe_fld _ _ _ _ _ (pv 1) rfl) pa_nil (by rfl)) (by decide) (by decide) (by rfl) (by rfl)) pa_nil (by rfl)) (by rfl)) (by decide) (by decide) (by rfl) (by rfl)) pa_nil (by rfl)) (by rfl)) (by rfl)) (by decide) (by rfl) (by rfl)))), ?_⟩
  obtain ⟨d1, dx1, nm1, lo1, hi1, ps1, pt1, ob1, ls1, hs1, rfl, hd1, hn1, _, _, _, _, _, _, hp1⟩ := hx
  obtain ⟨d2, dx2, nm2, lo2, hi2, ps2, pt2, ob2, ls2, hs2, rfl, hd2, hn2, _, _, _, _, _, _, hp2⟩ := hy
  have l1 : ((dwOf b D).loops.map fun t => V.str t.nm).length = D.L.length := by rw [List.length_map]; show (D.L.map _).length = _; rw [List.length_map]
  have l2 : ((dwOf b E').loops.map fun t => V.str t.nm).length = E'.L.length := by rw [List.length_map]; show (E'.L.map _).length = _; rw [List.length_map]
  generalize ((dwOf b D).loops.map fun t => V.str t.nm) = xs1 at hn1 l1
  generalize ((dwOf b E').loops.map fun t => V.str t.nm) = xs2 at hn2 l2
  have p1 := oD.pl
  have p2 := oE.pl
  have q1 := oD.ll
  have q2 := oE.ll
  have hm : (if ((xs2.length : Nat) : Int) < ((xs1.length : Nat) : Int) then ((xs2.length : Nat) : Int) else ((xs1.length : Nat) : Int)) = ((min D.L.length E'.L.length : Nat) : Int) := by split <;> omega
  refine ⟨_, rfl, d1, _, dx1, _, _, rfl, hd1, T.cl_Deed, T.n_Deed_path, rfl, _, rfl, d2, _, dx2, _, _, rfl, hd2, T.cl_Deed, T.n_Deed_path, rfl, ?_⟩
  refine ⟨_, rfl, d1, _, dx1, _, _, rfl, hd1, T.cl_Deed, T.n_Deed_names, rfl, nm1, _, rfl, .inr (SqT.of hn1), ?_⟩
  refine ⟨_, rfl, d2, _, dx2, _, _, rfl, hd2, T.cl_Deed, T.n_Deed_names, rfl, nm2, _, rfl, .inr (SqT.of hn2), ?_⟩
  refine ⟨_, _, rfl, ?_⟩
  rw [hm]
  exact ⟨pt1, pt2, D.path, E'.path, min D.L.length E'.L.length, k, rfl, hp1, hp2, by omega, by omega, by omega, by omega, ke, fun z => kn (by omega) (by omega), q⟩

theorem ok_ahead67 (T : Tx K mg a) : FnOk P w K mg base CX0 3 a.f_ahead a.d_ahead ["program", "one", "other"] (spAhead67 a.c_Program a.c_Deed (csOf a)) := by
  refine T.F_ahead.ok sc_ahead (fun vs H Q E h => ?_) (fun cdv A outer s H vs Q E hr h => ?_)
  · obtain ⟨_, _, _, _, _, _, _, _, _, _, _, rfl, _⟩ := h; rfl
  obtain ⟨v, x, y, n, bs, Ds, T1, U, k, e, b, rfl, hP, rq, ⟨t1, d1, rfl, ht1, hd1⟩, ⟨t2, d2, rfl, ht2, hd2⟩, ⟨D, hD, l1⟩, ⟨E', hE, l2⟩, hm, ah, q⟩ := h
  have G_shared := ok_shared67 (P := P) (w := w) (base := base) T bs
  refine ⟨_, (@pss_cons _ _ _ _ _ (@ps_set _ _ (3) _ _ _ _ sc_ahead.nd rfl (Or.inl rfl) (@pe_call _ _ _ _ _ _ _ _ _ _ _ _ _ _ _ _ G_shared (hr.mono (by omega)) (by rfl) T.m_shared T.F_shared.kp T.b_shared .nil pass0 (@pa_cons _ _ _ _ _ (@pe_ix _ _ _ _ _ _ _ ix_list (@pe_fld _ _ _ _ _ (pv 0) rfl) (@pe_ix _ _ _ _ _ _ _ ix_tup (pv 1) pe_int (fun _ _ => rfl)) (fun _ _ => rfl)) (@pa_cons _ _ _ _ _ (@pe_ix _ _ _ _ _ _ _ ix_list (@pe_fld _ _ _ _ _ (pv 0) rfl) (@pe_ix _ _ _ _ _ _ _ ix_tup (pv 2) pe_int (fun _ _ => rfl)) (fun _ _ => rfl)) pa_nil (by rfl)) (by rfl)) (by decide) (by rfl) (by rfl)) (by rfl) (by first | exact .inl rfl | exact .inr rfl | assumption)) (@pss_cons _ _ _ _ _ (@ps_for _ _ _ _ _ _ _ _ PassesOwn.never rfl (@pi_range1 _ _ _ _ _ _ (by rfl) T.z_range (@pa_cons _ _ _ _ _ (pv 3) pa_nil (by rfl)) (by rfl)) (pg_name (i := 4) sc_ahead.nd rfl (Or.inl rfl)) (@pss_one _ _ _ (@ps_if _ _ _ _ _ _ _ _ (@pt_cmpR _ _ _ _ _ _ _ _ op_ne (@pe_ix _ _ _ _ _ _ _ ix_tup (@pe_ix _ _ _ _ _ _ _ ix_tup (pv 1) pe_int (fun _ _ => rfl)) (pv 4) (fun _ _ => rfl)) (@pe_ix _ _ _ _ _ _ _ ix_tup (@pe_ix _ _ _ _ _ _ _ ix_tup (pv 2) pe_int (fun _ _ => rfl)) (pv 4) (fun _ _ => rfl)) (@nomark _ _ (by decide) (by decide))) (@pss_one _ _ _ (@ps_ret _ _ _ _ (@pe_cmpR _ _ _ _ _ _ _ _ op_lt (@pe_ix _ _ _ _ _ _ _ ix_tup (@pe_ix _ _ _ _ _ _ _ ix_tup (pv 1) pe_int (fun _ _ => rfl)) (pv 4) (fun _ _ => rfl)) (@pe_ix _ _ _ _ _ _ _ ix_tup (@pe_ix _ _ _ _ _ _ _ ix_tup (pv 2) pe_int (fun _ _ => rfl)) (pv 4) (fun _ _ => rfl)) (@nomark _ _ (by decide) (by decide))))) pss_nil)) (by intro _ ; rfl)) (@pss_one _ _ _ (@ps_ret _ _ _ _ (@pe_cmpR _ _ _ _ _ _ _ _ op_lt (@pe_ix _ _ _ _ _ _ _ ix_tup (pv 1) pe_int (fun _ _ => rfl)) (@pe_ix _ _ _ _ _ _ _ ix_tup (pv 2) pe_int (fun _ _ => rfl)) (@nomark _ _ (by decide) (by decide))))))), ?_⟩
  obtain ⟨pg, dx, dl, rfl, hpg, ys, hdl, hds⟩ := hP
  have rel := rel_of rq hD hE hm
  obtain ⟨y1, hy1, dd1⟩ := hds.get (i := T1.1) (a := dwOf bs D) (by rw [List.getElem?_map, hD]; rfl)
  obtain ⟨y2, hy2, dd2⟩ := hds.get (i := U.1) (a := dwOf bs E') (by rw [List.getElem?_map, hE]; rfl)
  have oD := rq.row.ok D (List.mem_of_getElem? hD)
  have oE := rq.row.ok E' (List.mem_of_getElem? hE)
  obtain ⟨a1, a2, a3, a4⟩ := ah
  have r1 := rel.1
  have r2 := rel.2.1
  have r3 := oD.ll
  refine ⟨_, rfl, pg, _, dx, _, _, rfl, hpg, T.cl_Program, T.n_Program_deeds, rfl, _, rfl, t1, _, 0, _, rfl, rfl, SqT.of ht1, rfl, dl, _, _, _, rfl, rfl, SqL.of hdl, atI_nat hy1, _, rfl, pg, _, dx, _, _, rfl, hpg, T.cl_Program, T.n_Program_deeds, rfl, _, rfl, t2, _, 0, _, rfl, rfl, SqT.of ht2, rfl, dl, _, _, _, rfl, rfl, SqL.of hdl, atI_nat hy2, y1, y2, D, E', k, rfl, dd1, dd2, oD, oE, rel, ?_⟩
  dsimp only [gName]
  refine ⟨_, rfl, _, rfl, by omega, by omega, ?_⟩
  rw [Int.toNat_natCast]
  refine for_range (lo := 0) (n := k) (fun i σ' H' => H' = H ∧ i ≤ e ∧ ∃ o4, σ' = [some (.ref pg), some (.ref t1), some (.ref t2), some (.int (k : Int)), o4]) ⟨rfl, Nat.zero_le _, _, rfl⟩ (fun i σ' H' hik pp => ?_) (fun σ' H' pp => ?_)
  rotate_left
  · obtain ⟨rfl, hi, o4, rfl⟩ := pp
    refine ⟨_, rfl, t1, _, 0, _, rfl, rfl, SqT.of ht1, rfl, _, rfl, t2, _, 0, _, rfl, rfl, SqT.of ht2, rfl, _, _, rfl, rfl, ?_⟩
    rw [a4 (by omega)] at q
    exact q
  obtain ⟨rfl, hie, o4, rfl⟩ := pp
  have at1 : atI (T1.2.map V.int) (0 + (i : Int)) = some (.int (T1.2.getD i 0)) := by
    rw [Int.zero_add]
    exact cell_in (ns := T1.2) (k := (i : Int)) (Int.natCast_nonneg _) (by omega)
  have at2 : atI (U.2.map V.int) (0 + (i : Int)) = some (.int (U.2.getD i 0)) := by
    rw [Int.zero_add]
    exact cell_in (ns := U.2) (k := (i : Int)) (Int.natCast_nonneg _) (by omega)
  refine ⟨_, rfl, t1, _, 1, _, rfl, rfl, SqT.of ht1, rfl, _, rfl, d1, _, _, _, rfl, rfl, SqT.of hd1, at1, _, rfl, t2, _, 1, _, rfl, rfl, SqT.of ht2, rfl, _, rfl, d2, _, _, _, rfl, rfl, SqT.of hd2, at2, rfl, _, rfl, ?_⟩
  by_cases hlt : i < e
  · refine iteE (ndF (congrArg V.int (a2 i hlt))) (iteF ?_)
    exact ⟨rfl, hlt, _, rfl⟩
  · have ei : i = e := by omega
    subst ei
    obtain ⟨a5, a6⟩ := a3 hik
    refine iteE (ndT (fun z => a5 (V.int.inj z))) (iteT ?_)
    refine ⟨_, rfl, t1, _, 1, _, rfl, rfl, SqT.of ht1, rfl, _, rfl, d1, _, _, _, rfl, rfl, SqT.of hd1, at1, _, rfl, t2, _, 1, _, rfl, rfl, SqT.of ht2, rfl, _, rfl, d2, _, _, _, rfl, rfl, SqT.of hd2, at2, _, _, rfl, rfl, ?_⟩
    rw [a6] at q
    exact q

theorem ok_deedsw (T : Tx K mg a) : ∀ n : Nat, FnOk P w K mg base CX0 (n + 2) a.f_deeds_within a.d_deeds_within ["items", "path", "cuts"] (spDeedsP n)
  | 0 => by
    have no : ∀ vs H Q E, ¬ spDeedsP 0 vs H Q E := fun vs H Q E h => by
      obtain ⟨it, pa, cu, f, P', cs, _, _, _, _, hd, _⟩ := h
      have := dep_pos f
      omega
    exact ⟨fun vs H Q E h => absurd h (no vs H Q E), fun A outer s H args us vs Q E _ _ _ _ h => absurd h (no vs H Q E)⟩
  | n + 1 => by
    have G_deeds_within := ok_deedsw T n
    refine T.F_deeds_within.ok sc_deeds_within (fun vs H Q E h => ?_) (fun cdv A outer s H vs Q E hr h => ?_)
    · obtain ⟨_, _, _, _, _, _, rfl, _⟩ := h; rfl
    obtain ⟨it, pa, cu, f, PP, cs, rfl, ⟨xs, hit, hf⟩, hpa, hcu, hdep, pl, cl, hlen, q⟩ := h
    refine ⟨_, (@pss_cons _ _ _ _ _ (@ps_set _ _ (3) _ _ _ _ sc_deeds_within.nd rfl (Or.inl rfl) (@pe_lst _ _ _ _ pa_nil) (by rfl) (by first | exact .inl rfl | exact .inr rfl | assumption)) (@pss_cons _ _ _ _ _ (@ps_for _ _ _ _ _ _ _ _ PassesOwn.never rfl (@pi_enumT _ _ _ _ _ _ _ _ (by rfl) T.z_enumerate (@pa_cons _ _ _ _ _ (pv 0) pa_nil (by rfl)) (by rfl)) (pg_tup rfl (pgs_cons (pg_name (i := 4) sc_deeds_within.nd rfl (Or.inl rfl)) (pgs_cons (pg_name (i := 5) sc_deeds_within.nd rfl (Or.inl rfl)) pgs_nil))) (@pss_cons _ _ _ _ _ (@ps_set _ _ (6) _ _ _ _ sc_deeds_within.nd rfl (Or.inl rfl) (@pe_op _ _ _ _ _ _ _ _ op_catH (pv 1) (@pe_tup _ _ _ _ _ (@pa_cons _ _ _ _ _ (pv 4) pa_nil (by rfl)))) (by rfl) (by first | exact .inl rfl | exact .inr rfl | assumption)) (@pss_one _ _ _ (@ps_if _ _ _ _ _ _ _ _ (@pt_cmpR _ _ _ _ _ _ _ _ op_eq (@pe_ix _ _ _ _ _ _ _ ix_tup (pv 5) pe_int (fun _ _ => rfl)) pe_str (@nomark _ _ (by decide) (by decide))) (@pss_one _ _ _ (@ps_expr _ _ _ _ (@pe_bm _ _ _ _ _ _ _ _ _ _ _ _ PySem.F.plainAttrs_list PySem.F.slot_list_append PySem.F.type_list_append mt_append (pv 3) (@pa_cons _ _ _ _ _ (@pe_tupq _ _ _ _ _ (@paq_cons _ _ _ _ _ (@pe_ix _ _ _ _ _ _ _ ix_tup (pv 5) pe_int (fun _ _ => rfl)) (@paq_cons _ _ _ _ _ (@pe_ix _ _ _ _ _ _ _ ix_tup (pv 5) pe_int (fun _ _ => rfl)) (@paq_cons _ _ _ _ _ (pv 6) (@paq_cons _ _ _ _ _ (pv 2) paq_nil star_N) star_N) star_S) star_S)) pa_nil (by rfl)) (by rfl) (by rfl) (by rfl) (by rfl) (by rfl)) (by rfl))) (@pss_one _ _ _ (@ps_expr _ _ _ _ (@pe_bm _ _ _ _ _ _ _ _ _ _ _ _ PySem.F.plainAttrs_list PySem.F.slot_list_extend PySem.F.type_list_extend mt_extend (pv 3) (@pa_cons _ _ _ _ _ (@pe_call _ _ _ _ _ _ _ _ _ _ _ _ _ _ _ _ G_deeds_within (hr.mono (by omega)) (by rfl) T.m_deeds_within T.F_deeds_within.kp T.b_deeds_within .nil pass0 (@pa_cons _ _ _ _ _ (@pe_ix _ _ _ _ _ _ _ ix_tup (pv 5) pe_int (fun _ _ => rfl)) (@pa_cons _ _ _ _ _ (pv 6) (@pa_cons _ _ _ _ _ (@pe_op _ _ _ _ _ _ _ _ op_catH (pv 2) (@pe_tup _ _ _ _ _ (@pa_cons _ _ _ _ _ (@pe_ix _ _ _ _ _ _ _ ix_tup (pv 5) pe_int (fun _ _ => rfl)) pa_nil (by rfl)))) pa_nil (by rfl)) (by rfl)) (by rfl)) (by decide) (by rfl) (by rfl)) pa_nil (by rfl)) (by rfl) (by rfl) (by rfl) (by rfl) (by rfl)) (by rfl)))))) (by intro _ ; rfl)) (@pss_one _ _ _ (@ps_ret _ _ _ _ (pv 3))))), ?_⟩
    refine ⟨szl (by show 0 ≤ 1000000; decide), fun fo hfo => ?_⟩
    have e1 := same_new hfo (.lst [])
    have hfo1 : (upd H fo (.lst [])) fo = some (.lst []) := upd_same
    generalize upd H fo (.lst []) = H1 at e1 hfo1
    refine ⟨_, rfl, it, rfl, ⟨_, SqT.of (e1 _ _ hit)⟩, ?_⟩
    refine for_enumT (xs := xs) (fun i σ' H' => ∃ (g : Frs) (done : List Fo.En) (ys : List V) (o4 o5 o6 : Option V), σ' = [some (.ref it), some (.ref pa), some (.ref cu), some (.ref fo), o4, o5, o6] ∧ Same H H' ∧ FoAt H (xs.drop i) g ∧ dep g ≤ n + 1 ∧ H' fo = some (.lst ys) ∧ All2 (EnAt H') ys done ∧ done ++ Fo.deedsF g PP i = Fo.deedsF f PP 0) ⟨f, [], [], _, _, _, rfl, e1, hf, hdep, hfo1, .nil, rfl⟩ (fun i σ' H' _ pp => by obtain ⟨_, _, _, _, _, _, _, e, _⟩ := pp; exact SqT.of (e _ _ hit)) (fun i x Tt σ' H' hx pp hT => ?_) (fun σ' H' pp => ?_)
    rotate_left
    · obtain ⟨g, done, ys, o4, o5, o6, rfl, e, hg, _, hy, ay, hd⟩ := pp
      have hz : xs.drop xs.length = [] := List.drop_eq_nil_of_le (Nat.le_refl _)
      rw [hz] at hg
      have gn : g = .nil := by
        cases g with
        | nil => rfl
        | leaf k pl r => obtain ⟨_, _, _, z, _⟩ := hg; cases z
        | node c w s r => obtain ⟨_, _, _, _, z, _⟩ := hg; cases z
      subst gn
      have : done = Fo.deedsF f PP 0 := by rw [← hd]; show done = done ++ []; rw [List.append_nil]
      rw [this] at ay
      exact ⟨_, rfl, q fo ys _ e hy ay⟩
    obtain ⟨g, done, ys, o4, o5, o6, rfl, e, hg, gdep, hy, ay, hd⟩ := pp
    obtain ⟨hi, ex⟩ := List.getElem?_eq_some_iff.mp hx
    rw [List.drop_eq_getElem_cons hi, ex] at hg
    have tot := congrArg List.length hd
    rw [List.length_append] at tot
    have yl := ay.1
    have sT := same_new hT (.tup [V.int (i : Int), x])
    have e2 := e.trans sT
    have hy2 := sT _ _ hy
    have ay2 := ay.mono fun y v z => z.over sT
    refine ⟨Tt, _, rfl, SqT.of upd_same, rfl, _, _, rfl, _, _, rfl, rfl, ?_⟩
    generalize upd H' Tt (.tup [V.int (i : Int), x]) = H2 at e2 hy2 ay2
    refine ⟨_, rfl, _, rfl, szl (by show 1 ≤ 1000000; decide), fun t1 ht1 => ?_⟩
    have s3 := same_new ht1 (.tup [V.int (i : Int)])
    refine ⟨pa, t1, _, [V.int (i : Int)], rfl, rfl, s3 _ _ (e2 _ _ hpa), upd_same, szl (by rw [List.length_map, List.length_singleton]; omega), fun he H3 e3 hhe => ?_⟩
    have hhe : H3 he = some (.tup ((PP ++ [(i : Int)]).map V.int)) := by rw [List.map_append]; exact hhe
    have e23 := s3.trans e3
    have eH3 := e2.trans e23
    have hy3 := e23 _ _ hy2
    have ay3 := ay2.mono fun y v z => z.over e23
    dsimp only [gName]
    clear s3 e3 sT
    cases g with
    | nil => cases hg
    | leaf k pl rest =>
      obtain ⟨t, pp, zs, z, ht, hpr, hrest⟩ := hg
      cases z
      change dep rest ≤ n + 1 at gdep
      change done ++ (⟨k, pl, PP ++ [(i : Int)]⟩ :: Fo.deedsF rest PP (i + 1)) = Fo.deedsF f PP 0 at hd
      have tot' : done.length + (Fo.deedsF rest PP (i + 1)).length + 1 = (Fo.deedsF f PP 0).length := by rw [← hd, List.length_append, List.length_cons]; omega
      refine ⟨_, rfl, t, _, 0, _, rfl, rfl, SqT.of (eH3 _ _ ht), rfl, rfl, _, rfl, iteE (v := true) (decide_eq_true rfl) (iteT ?_)⟩
      refine ⟨_, rfl, .inl ⟨rfl, _, SqL.of hy3⟩, _, rfl, t, _, 1, _, rfl, rfl, SqT.of (eH3 _ _ ht), rfl, _, rfl, t, _, 2, _, rfl, rfl, SqT.of (eH3 _ _ ht), rfl, _, rfl, _, rfl, szl (by show 4 ≤ 1000000; decide), fun r hr => ?_⟩
      have s4 := same_new hr (.tup [V.int k, V.ref pp, V.ref he, V.ref cu])
      have nr : r ≠ fo := fun z => by rw [z, hy3] at hr; cases hr
      refine ⟨fo, _, _, rfl, rfl, s4 _ _ hy3, szlt (by omega), ?_⟩
      have tk := (Same.tk s4).trans (TK.upd (o := .lst (ys ++ [V.ref r])) (s4 _ _ hy3))
      refine ⟨rest, done ++ [⟨k, pl, PP ++ [(i : Int)]⟩], _, _, _, _, rfl, fun a o ha => by rw [upd_ne (ne_of_none ha hfo)]; exact s4 _ _ (eH3 _ _ ha), hrest, gdep, upd_same, ?_, by rw [List.append_assoc]; exact hd⟩
      exact (ay3.mono fun y v z => z.tk tk).snoc ⟨r, pp, he, cu, rfl, by rw [upd_ne nr]; exact upd_same, (hpr.over eH3).tk tk, tk _ _ hhe⟩
    | node c w sub rest =>
      obtain ⟨t, pp, zs, us, z, ht, hpp, hsub, hrest⟩ := hg
      cases z
      unfold dep at gdep
      change done ++ (Fo.deedsF sub (PP ++ [(i : Int)]) 0 ++ Fo.deedsF rest PP (i + 1)) = Fo.deedsF f PP 0 at hd
      have tot' : done.length + ((Fo.deedsF sub (PP ++ [(i : Int)]) 0).length + (Fo.deedsF rest PP (i + 1)).length) = (Fo.deedsF f PP 0).length := by rw [← hd, List.length_append, List.length_append]
      refine ⟨_, rfl, t, _, 0, _, rfl, rfl, SqT.of (eH3 _ _ ht), rfl, rfl, _, rfl, iteE (v := false) (dS (by decide +kernel)) (iteF ?_)⟩
      refine ⟨_, rfl, .inl ⟨rfl, _, SqL.of hy3⟩, _, rfl, t, _, 3, _, rfl, rfl, SqT.of (eH3 _ _ ht), rfl, _, rfl, _, rfl, _, rfl, t, _, 1, _, rfl, rfl, SqT.of (eH3 _ _ ht), rfl, szl (by show 1 ≤ 1000000; decide), fun t2 ht2 => ?_⟩
      have s4 := same_new ht2 (.tup [V.bl c])
      refine ⟨cu, t2, cs, [V.bl c], rfl, rfl, s4 _ _ (eH3 _ _ hcu), upd_same, szl (by rw [List.length_singleton]; omega), fun cu2 H4 e4 hcu2 => ?_⟩
      have e34 := s4.trans e4
      have eH4 := eH3.trans e34
      refine ⟨pp, he, cu2, sub, PP ++ [(i : Int)], cs ++ [V.bl c], rfl, ⟨zs, eH4 _ _ hpp, FoAt.over eH4 hsub⟩, e34 _ _ hhe, hcu2, by omega, by rw [List.length_append, List.length_singleton]; omega, by rw [List.length_append, List.length_singleton]; omega, by omega, fun r ys2 H5 e5 hr5 ay5 => ?_⟩
      have yl5 := ay5.1
      have hy5 := (e34.trans e5) _ _ hy3
      refine ⟨fo, r, _, _, rfl, rfl, hy5, hr5, szl (by omega), ?_⟩
      have tk := TK.upd (o := .lst (ys ++ ys2)) hy5
      refine ⟨rest, done ++ Fo.deedsF sub (PP ++ [(i : Int)]) 0, _, _, _, _, rfl, fun a o ha => by rw [upd_ne (ne_of_none ha hfo)]; exact e5 _ _ (eH4 _ _ ha), hrest, by omega, upd_same, ?_, by rw [List.append_assoc]; exact hd⟩
      exact ((ay3.mono fun y v z => (z.over (e34.trans e5)).tk tk)).app (ay5.mono fun y v z => z.tk tk)

theorem ok_standp (T : Tx K mg a) : FnOk P w K mg base CX0 10 a.f_stand a.d_stand ["plan", "k"] spStandP := by
  have G_deeds_within := ok_deedsw (P := P) (w := w) (base := base) T 7
  refine T.F_stand.ok sc_stand (fun vs H Q E h => ?_) (fun cdv A outer s H vs Q E hr h => ?_)
  · obtain ⟨_, _, _, _, _, rfl, _⟩ := h; rfl
  obtain ⟨p, k, f, i, e0, rfl, hf, hdep, hlen, he0, hk0, hfirst, q⟩ := h
  refine ⟨_, (@pss_cons _ _ _ _ _ (@ps_for _ _ _ _ _ _ _ _ PassesOwn.never rfl (@pi_list _ _ _ _ (@pe_call _ _ _ _ _ _ _ _ _ _ _ _ _ _ _ _ G_deeds_within (hr.mono (by omega)) (by rfl) T.m_deeds_within T.F_deeds_within.kp T.b_deeds_within .nil pass0 (@pa_cons _ _ _ _ _ (pv 0) (@pa_cons _ _ _ _ _ (@pe_tup _ _ _ _ _ pa_nil) (@pa_cons _ _ _ _ _ (@pe_tup _ _ _ _ _ pa_nil) pa_nil (by rfl)) (by rfl)) (by rfl)) (by decide) (by rfl) (by rfl))) (pg_tup rfl (pgs_cons (pg_name (i := 2) sc_stand.nd rfl (Or.inl rfl)) (pgs_cons (pg_name (i := 3) sc_stand.nd rfl (Or.inl rfl)) (pgs_cons (pg_name (i := 4) sc_stand.nd rfl (Or.inl rfl)) (pgs_cons (pg_name (i := 5) sc_stand.nd rfl (Or.inl rfl)) pgs_nil))))) (@pss_one _ _ _ (@ps_if _ _ _ _ _ _ _ _ (@pt_cmpR _ _ _ _ _ _ _ _ op_eq (pv 2) (pv 1) (@nomark _ _ (by decide) (by decide))) (@pss_one _ _ _ (@ps_ret _ _ _ _ (@pe_tup _ _ _ _ _ (@pa_cons _ _ _ _ _ (pv 4) (@pa_cons _ _ _ _ _ (pv 3) pa_nil (by rfl)) (by rfl))))) pss_nil)) (by intro _ ; rfl)) (@pss_one _ _ _ (@ps_ret _ _ _ _ pe_non))), ?_⟩
  refine ⟨_, rfl, szl (by show 0 ≤ 1000000; decide), fun t1 ht1 => ⟨szl (by show 0 ≤ 1000000; decide), fun t2 ht2 => ?_⟩⟩
  have s1 := same_new ht1 (.tup [])
  have s2 := same_new ht2 (.tup [])
  have e2 := s1.trans s2
  refine ⟨p, t1, t2, f, [], [], rfl, hf.over e2, s2 _ _ upd_same, upd_same, hdep, by decide, by decide, hlen, fun l ys H3 e3 hl ay => ?_⟩
  have e23 := e2.trans e3
  have yl := ay.1
  have hi : i < ys.length := by rw [yl]; exact (List.getElem?_eq_some_iff.mp he0).1
  refine ⟨l, rfl, ⟨_, SqL.of hl⟩, ?_⟩
  refine for_list (xs := ys) (fun j σ' H' => H' = H3 ∧ j ≤ i ∧ ∃ o2 o3 o4 o5, σ' = [some (.ref p), some (.int k), o2, o3, o4, o5]) ⟨rfl, Nat.zero_le _, _, _, _, _, rfl⟩ (fun j σ' H' _ pp => by rw [pp.1]; exact SqL.of hl) (fun j x σ' H' hx pp => ?_) (fun σ' H' pp => ?_)
  · obtain ⟨rfl, hji, o2, o3, o4, o5, rfl⟩ := pp
    obtain ⟨en, hen, t, pl, pt, cu, rfl, ht, hpl, hpt⟩ := ay.get' hx
    refine ⟨t, _, rfl, SqT.of ht, rfl, _, _, rfl, _, _, rfl, _, _, rfl, _, _, rfl, rfl, ?_⟩
    refine ⟨_, rfl, _, rfl, rfl, _, rfl, ?_⟩
    by_cases c : j = i
    · subst c
      rw [he0] at hen
      cases hen
      refine iteE (v := true) (decide_eq_true (congrArg V.int hk0)) (iteT ?_)
      refine ⟨_, rfl, _, rfl, szl (by show 2 ≤ 1000000; decide), fun r hr => ?_⟩
      have s4 := same_new hr (.tup [V.ref pt, V.ref pl])
      exact q r pt pl _ (e23.trans s4) upd_same (s4 _ _ hpt) (hpl.over s4)
    · refine iteE (v := false) (decide_eq_false fun z => hfirst j en (by omega) hen (V.int.inj z)) (iteF ?_)
      exact ⟨rfl, by omega, _, _, _, _, rfl⟩
  · obtain ⟨_, h, _⟩ := pp
    omega

theorem ok_sww (T : Tx K mg a) : ∀ n : Nat, FnOk P w K mg base CX0 (n + 2) a.f_sweeps_within a.d_sweeps_within ["items", "path"] (spSweepsP n)
  | 0 => by
    have no : ∀ vs H Q E, ¬ spSweepsP 0 vs H Q E := fun vs H Q E h => by
      obtain ⟨it, pa, f, P', _, _, _, hd, _⟩ := h
      have := dep_pos f
      omega
    exact ⟨fun vs H Q E h => absurd h (no vs H Q E), fun A outer s H args us vs Q E _ _ _ _ h => absurd h (no vs H Q E)⟩
  | n + 1 => by
    have G_sweeps_within := ok_sww T n
    refine T.F_sweeps_within.ok sc_sweeps_within (fun vs H Q E h => ?_) (fun cdv A outer s H vs Q E hr h => ?_)
    · obtain ⟨_, _, _, _, rfl, _⟩ := h; rfl
    obtain ⟨it, pa, f, PP, rfl, ⟨xs, hit, hf⟩, hpa, hdep, pl, hlen, q⟩ := h
    refine ⟨_, (@pss_cons _ _ _ _ _ (@ps_set _ _ (2) _ _ _ _ sc_sweeps_within.nd rfl (Or.inl rfl) (@pe_lst _ _ _ _ pa_nil) (by rfl) (by first | exact .inl rfl | exact .inr rfl | assumption)) (@pss_cons _ _ _ _ _ (@ps_for _ _ _ _ _ _ _ _ PassesOwn.never rfl (@pi_enumT _ _ _ _ _ _ _ _ (by rfl) T.z_enumerate (@pa_cons _ _ _ _ _ (pv 0) pa_nil (by rfl)) (by rfl)) (pg_tup rfl (pgs_cons (pg_name (i := 3) sc_sweeps_within.nd rfl (Or.inl rfl)) (pgs_cons (pg_name (i := 4) sc_sweeps_within.nd rfl (Or.inl rfl)) pgs_nil))) (@pss_one _ _ _ (@ps_if _ _ _ _ _ _ _ _ (@pt_cmpR _ _ _ _ _ _ _ _ op_eq (@pe_ix _ _ _ _ _ _ _ ix_tup (pv 4) pe_int (fun _ _ => rfl)) pe_str (@nomark _ _ (by decide) (by decide))) (@pss_cons _ _ _ _ _ (@ps_set _ _ (5) _ _ _ _ sc_sweeps_within.nd rfl (Or.inl rfl) (@pe_op _ _ _ _ _ _ _ _ op_catH (pv 1) (@pe_tup _ _ _ _ _ (@pa_cons _ _ _ _ _ (pv 3) pa_nil (by rfl)))) (by rfl) (by first | exact .inl rfl | exact .inr rfl | assumption)) (@pss_cons _ _ _ _ _ (@ps_expr _ _ _ _ (@pe_bm _ _ _ _ _ _ _ _ _ _ _ _ PySem.F.plainAttrs_list PySem.F.slot_list_append PySem.F.type_list_append mt_append (pv 2) (@pa_cons _ _ _ _ _ (@pe_tupq _ _ _ _ _ (@paq_cons _ _ _ _ _ (pv 5) (@paq_cons _ _ _ _ _ (@pe_ix _ _ _ _ _ _ _ ix_tup (pv 4) pe_int (fun _ _ => rfl)) (@paq_cons _ _ _ _ _ (@pe_ix _ _ _ _ _ _ _ ix_tup (pv 4) pe_int (fun _ _ => rfl)) paq_nil star_S) star_S) star_N)) pa_nil (by rfl)) (by rfl) (by rfl) (by rfl) (by rfl) (by rfl)) (by rfl)) (@pss_one _ _ _ (@ps_expr _ _ _ _ (@pe_bm _ _ _ _ _ _ _ _ _ _ _ _ PySem.F.plainAttrs_list PySem.F.slot_list_extend PySem.F.type_list_extend mt_extend (pv 2) (@pa_cons _ _ _ _ _ (@pe_call _ _ _ _ _ _ _ _ _ _ _ _ _ _ _ _ G_sweeps_within (hr.mono (by omega)) (by rfl) T.m_sweeps_within T.F_sweeps_within.kp T.b_sweeps_within .nil pass0 (@pa_cons _ _ _ _ _ (@pe_ix _ _ _ _ _ _ _ ix_tup (pv 4) pe_int (fun _ _ => rfl)) (@pa_cons _ _ _ _ _ (pv 5) pa_nil (by rfl)) (by rfl)) (by decide) (by rfl) (by rfl)) pa_nil (by rfl)) (by rfl) (by rfl) (by rfl) (by rfl) (by rfl)) (by rfl))))) pss_nil)) (by intro _ ; rfl)) (@pss_one _ _ _ (@ps_ret _ _ _ _ (pv 2))))), ?_⟩
    refine ⟨szl (by show 0 ≤ 1000000; decide), fun fo hfo => ?_⟩
    have e1 := same_new hfo (.lst [])
    have hfo1 : (upd H fo (.lst [])) fo = some (.lst []) := upd_same
    generalize upd H fo (.lst []) = H1 at e1 hfo1
    refine ⟨_, rfl, it, rfl, ⟨_, SqT.of (e1 _ _ hit)⟩, ?_⟩
    refine for_enumT (xs := xs) (fun i σ' H' => ∃ (g : Frs) (done : List (Fo.Sw Str)) (ys : List V) (o4 o5 o6 : Option V), σ' = [some (.ref it), some (.ref pa), some (.ref fo), o4, o5, o6] ∧ Same H H' ∧ FoAt H (xs.drop i) g ∧ dep g ≤ n + 1 ∧ H' fo = some (.lst ys) ∧ All2 (SwAt H') ys done ∧ done ++ Fo.swF g PP i = Fo.swF f PP 0) ⟨f, [], [], _, _, _, rfl, e1, hf, hdep, hfo1, .nil, rfl⟩ (fun i σ' H' _ pp => by obtain ⟨_, _, _, _, _, _, _, e, _⟩ := pp; exact SqT.of (e _ _ hit)) (fun i x Tt σ' H' hx pp hT => ?_) (fun σ' H' pp => ?_)
    rotate_left
    · obtain ⟨g, done, ys, o4, o5, o6, rfl, e, hg, _, hy, ay, hd⟩ := pp
      have hz : xs.drop xs.length = [] := List.drop_eq_nil_of_le (Nat.le_refl _)
      rw [hz] at hg
      have gn : g = .nil := by
        cases g with
        | nil => rfl
        | leaf k pl r => obtain ⟨_, _, _, z, _⟩ := hg; cases z
        | node c w s r => obtain ⟨_, _, _, _, z, _⟩ := hg; cases z
      subst gn
      have : done = Fo.swF f PP 0 := by rw [← hd]; show done = done ++ []; rw [List.append_nil]
      rw [this] at ay
      exact ⟨_, rfl, q fo ys _ e hfo hy ay⟩
    obtain ⟨g, done, ys, o4, o5, o6, rfl, e, hg, gdep, hy, ay, hd⟩ := pp
    obtain ⟨hi, ex⟩ := List.getElem?_eq_some_iff.mp hx
    rw [List.drop_eq_getElem_cons hi, ex] at hg
    have tot := congrArg List.length hd
    rw [List.length_append] at tot
    have yl := ay.1
    have sT := same_new hT (.tup [V.int (i : Int), x])
    have e2 := e.trans sT
    have hy2 := sT _ _ hy
    have ay2 := ay.mono fun y v z => z.over sT
    refine ⟨Tt, _, rfl, SqT.of upd_same, rfl, _, _, rfl, _, _, rfl, rfl, ?_⟩
    generalize upd H' Tt (.tup [V.int (i : Int), x]) = H2 at e2 hy2 ay2
    cases g with
    | nil => cases hg
    | leaf k pl rest =>
      obtain ⟨t, pp, zs, z, ht, hpr, hrest⟩ := hg
      cases z
      change dep rest ≤ n + 1 at gdep
      change done ++ Fo.swF rest PP (i + 1) = Fo.swF f PP 0 at hd
      refine ⟨_, rfl, t, _, 0, _, rfl, rfl, SqT.of (e2 _ _ ht), rfl, rfl, _, rfl, iteE (v := false) (dS (by decide +kernel)) (iteF ?_)⟩
      exact ⟨rest, done, ys, _, _, _, rfl, e2, hrest, gdep, hy2, ay2, hd⟩
    | node c w sub rest =>
      obtain ⟨t, pp, zs, us, z, ht, hpp, hsub, hrest⟩ := hg
      cases z
      unfold dep at gdep
      change done ++ ((PP ++ [(i : Int)], c, w) :: (Fo.swF sub (PP ++ [(i : Int)]) 0 ++ Fo.swF rest PP (i + 1))) = Fo.swF f PP 0 at hd
      have tot' : done.length + (((Fo.swF sub (PP ++ [(i : Int)]) 0).length + (Fo.swF rest PP (i + 1)).length) + 1) = (Fo.swF f PP 0).length := by rw [← hd, List.length_append, List.length_cons, List.length_append]
      refine ⟨_, rfl, t, _, 0, _, rfl, rfl, SqT.of (e2 _ _ ht), rfl, rfl, _, rfl, iteE (v := true) (decide_eq_true rfl) (iteT ?_)⟩
      refine ⟨_, rfl, _, rfl, szl (by show 1 ≤ 1000000; decide), fun t1 ht1 => ?_⟩
      have s3 := same_new ht1 (.tup [V.int (i : Int)])
      refine ⟨pa, t1, _, [V.int (i : Int)], rfl, rfl, s3 _ _ (e2 _ _ hpa), upd_same, szl (by rw [List.length_map, List.length_singleton]; omega), fun he H3 e3 hhe => ?_⟩
      have hhe : H3 he = some (.tup ((PP ++ [(i : Int)]).map V.int)) := by rw [List.map_append]; exact hhe
      have e23 := s3.trans e3
      have eH3 := e2.trans e23
      have hy3 := e23 _ _ hy2
      have ay3 := ay2.mono fun y v z => z.over e23
      dsimp only [gName]
      clear s3 e3 sT
      refine ⟨_, rfl, .inl ⟨rfl, _, SqL.of hy3⟩, _, rfl, _, rfl, t, _, 1, _, rfl, rfl, SqT.of (eH3 _ _ ht), rfl, _, rfl, t, _, 2, _, rfl, rfl, SqT.of (eH3 _ _ ht), rfl, szl (by show 3 ≤ 1000000; decide), fun r hr => ?_⟩
      have s4 := same_new hr (.tup [V.ref he, V.bl c, V.str w])
      have nr : r ≠ fo := fun z => by rw [z, hy3] at hr; cases hr
      refine ⟨fo, _, _, rfl, rfl, s4 _ _ hy3, szlt (by omega), ?_⟩
      have tk := (Same.tk s4).trans (TK.upd (o := .lst (ys ++ [V.ref r])) (s4 _ _ hy3))
      have hhe4 := tk _ _ hhe
      have hfo4 : (upd (upd H3 r (.tup [V.ref he, V.bl c, V.str w])) fo (.lst (ys ++ [V.ref r]))) fo = some (.lst (ys ++ [V.ref r])) := upd_same
      have eH4 : Same H (upd (upd H3 r (.tup [V.ref he, V.bl c, V.str w])) fo (.lst (ys ++ [V.ref r]))) := fun a o ha => by rw [upd_ne (ne_of_none ha hfo)]; exact s4 _ _ (eH3 _ _ ha)
      have ay4 : All2 (SwAt (upd (upd H3 r (.tup [V.ref he, V.bl c, V.str w])) fo (.lst (ys ++ [V.ref r])))) (ys ++ [V.ref r]) (done ++ [(PP ++ [(i : Int)], c, w)]) := (ay3.mono fun y v z => z.tk tk).snoc ⟨r, he, rfl, by rw [upd_ne nr]; exact upd_same, hhe4⟩
      generalize upd (upd H3 r (.tup [V.ref he, V.bl c, V.str w])) fo (.lst (ys ++ [V.ref r])) = H4 at tk hhe4 hfo4 eH4 ay4
      refine ⟨_, rfl, .inl ⟨rfl, _, SqL.of hfo4⟩, _, rfl, t, _, 3, _, rfl, rfl, SqT.of (eH4 _ _ ht), rfl, _, rfl, ?_⟩
      refine ⟨pp, he, sub, PP ++ [(i : Int)], rfl, ⟨zs, eH4 _ _ hpp, FoAt.over eH4 hsub⟩, hhe4, by omega, by rw [List.length_append, List.length_singleton]; omega, by omega, fun rr ys2 H5 e5 _ hr5 ay5 => ?_⟩
      have yl5 := ay5.1
      have hy5 := e5 _ _ hfo4
      refine ⟨fo, rr, _, _, rfl, rfl, hy5, hr5, szl (by rw [List.length_append, List.length_singleton]; omega), ?_⟩
      have tk := TK.upd (o := .lst ((ys ++ [V.ref r]) ++ ys2)) hy5
      refine ⟨rest, (done ++ [(PP ++ [(i : Int)], c, w)]) ++ Fo.swF sub (PP ++ [(i : Int)]) 0, _, _, _, _, rfl, fun a o ha => by rw [upd_ne (ne_of_none ha hfo)]; exact e5 _ _ (eH4 _ _ ha), hrest, by omega, upd_same, ?_, by rw [← hd]; simp⟩
      exact ((ay4.mono fun y v z => (z.over e5).tk tk)).app (ay5.mono fun y v z => z.tk tk)

theorem ok_swo (T : Tx K mg a) : FnOk P w K mg base CX0 10 a.f_sweeps_of a.d_sweeps_of ["plan"] spSweepsOf := by
  have G_sweeps_within := ok_sww (P := P) (w := w) (base := base) T 7
  refine T.F_sweeps_of.ok sc_sweeps_of (fun vs H Q E h => ?_) (fun cdv A outer s H vs Q E hr h => ?_)
  · obtain ⟨_, _, rfl, _⟩ := h; rfl
  obtain ⟨p, f, rfl, hf, hdep, hlen, q⟩ := h
  refine ⟨_, (@pss_one _ _ _ (@ps_ret _ _ _ _ (@pe_call _ _ _ _ _ _ _ _ _ _ _ _ _ _ _ _ G_sweeps_within (hr.mono (by omega)) (by rfl) T.m_sweeps_within T.F_sweeps_within.kp T.b_sweeps_within .nil pass0 (@pa_cons _ _ _ _ _ (pv 0) (@pa_cons _ _ _ _ _ (@pe_tup _ _ _ _ _ pa_nil) pa_nil (by rfl)) (by rfl)) (by decide) (by rfl) (by rfl)))), ?_⟩
  refine ⟨_, rfl, szl (by show 0 ≤ 1000000; decide), fun t1 ht1 => ?_⟩
  have s1 := same_new ht1 (.tup [])
  exact ⟨p, t1, f, [], rfl, hf.over s1, upd_same, hdep, by decide, hlen, fun l ys H3 e3 hn hl ay => q l ys H3 (s1.trans e3) (s1.free hn) hl ay⟩

theorem ok_round67 (T : Tx K mg a) : FnOk P w K mg base CX0 11 a.f_round_both a.d_round_both ["plan", "k", "l"] spRound67 := by
  have G_stand := ok_standp (P := P) (w := w) (base := base) T
  have G_alike_numbers := ok_alike_numbers (P := P) (w := w) (base := base) T
  refine T.F_round_both.ok sc_round_both (fun vs H Q E h => ?_) (fun cdv A outer s H vs Q E hr h => ?_)
  · obtain ⟨_, _, _, _, _, _, _, _, _, rfl, _⟩ := h; rfl
  obtain ⟨p, B, f, i, j, s, b, c, x, rfl, ⟨hf, hI, g, nd⟩, hb, hc, hx, hm, q⟩ := h
  refine ⟨_, (@pss_cons _ _ _ _ _ (@ps_set _ _ (3) _ _ _ _ sc_round_both.nd rfl (Or.inl rfl) (@pe_call _ _ _ _ _ _ _ _ _ _ _ _ _ _ _ _ G_stand (hr.mono (by omega)) (by rfl) T.m_stand T.F_stand.kp T.b_stand .nil pass0 (@pa_cons _ _ _ _ _ (pv 0) (@pa_cons _ _ _ _ _ (pv 1) pa_nil (by rfl)) (by rfl)) (by decide) (by rfl) (by rfl)) (by rfl) (by first | exact .inl rfl | exact .inr rfl | assumption)) (@pss_cons _ _ _ _ _ (@ps_set _ _ (4) _ _ _ _ sc_round_both.nd rfl (Or.inl rfl) (@pe_call _ _ _ _ _ _ _ _ _ _ _ _ _ _ _ _ G_stand (hr.mono (by omega)) (by rfl) T.m_stand T.F_stand.kp T.b_stand .nil pass0 (@pa_cons _ _ _ _ _ (pv 0) (@pa_cons _ _ _ _ _ (pv 2) pa_nil (by rfl)) (by rfl)) (by decide) (by rfl) (by rfl)) (by rfl) (by first | exact .inl rfl | exact .inr rfl | assumption)) (@pss_cons _ _ _ _ _ (@ps_set _ _ (5) _ _ _ _ sc_round_both.nd rfl (Or.inl rfl) (@pe_lst _ _ _ _ pa_nil) (by rfl) (by first | exact .inl rfl | exact .inr rfl | assumption)) (@pss_cons _ _ _ _ _ (@ps_set _ _ (6) _ _ _ _ sc_round_both.nd rfl (Or.inl rfl) (pv 0) (by rfl) (by first | exact .inl rfl | exact .inr rfl | assumption)) (@pss_cons _ _ _ _ _ (@ps_for _ _ _ _ _ _ _ _ PassesOwn.never rfl (@pi_range1 _ _ _ _ _ _ (by rfl) T.z_range (@pa_cons _ _ _ _ _ (@pe_call _ _ _ _ _ _ _ _ _ _ _ _ _ _ _ _ G_alike_numbers (hr.mono (by omega)) (by rfl) T.m_alike_numbers T.F_alike_numbers.kp T.b_alike_numbers .nil pass0 (@pa_cons _ _ _ _ _ (@pe_ix _ _ _ _ _ _ _ ix_tup (pv 3) pe_int (fun _ _ => rfl)) (@pa_cons _ _ _ _ _ (@pe_ix _ _ _ _ _ _ _ ix_tup (pv 4) pe_int (fun _ _ => rfl)) (@pa_cons _ _ _ _ _ (@pe_callB _ _ _ _ _ _ _ _ _ (@call_min2 _ rfl) (by rfl) T.z_min bt_min (@pa_cons _ _ _ _ _ (@pe_callB _ _ _ _ _ _ _ _ _ call_len_seq (by rfl) T.z_len bt_len (@pa_cons _ _ _ _ _ (@pe_ix _ _ _ _ _ _ _ ix_tup (pv 3) pe_int (fun _ _ => rfl)) pa_nil (by rfl)) (by decide) (by decide) (by rfl) (by rfl)) (@pa_cons _ _ _ _ _ (@pe_callB _ _ _ _ _ _ _ _ _ call_len_seq (by rfl) T.z_len bt_len (@pa_cons _ _ _ _ _ (@pe_ix _ _ _ _ _ _ _ ix_tup (pv 4) pe_int (fun _ _ => rfl)) pa_nil (by rfl)) (by decide) (by decide) (by rfl) (by rfl)) pa_nil (by rfl)) (by rfl)) (by decide) (by decide) (by rfl) (by rfl)) pa_nil (by rfl)) (by rfl)) (by rfl)) (by decide) (by rfl) (by rfl)) pa_nil (by rfl)) (by rfl)) (pg_name (i := 7) sc_round_both.nd rfl (Or.inl rfl)) (@pss_cons _ _ _ _ _ (@ps_set _ _ (8) _ _ _ _ sc_round_both.nd rfl (Or.inl rfl) (@pe_ix _ _ _ _ _ _ _ ix_tup (pv 6) (@pe_ix _ _ _ _ _ _ _ ix_tup (@pe_ix _ _ _ _ _ _ _ ix_tup (pv 3) pe_int (fun _ _ => rfl)) (pv 7) (fun _ _ => rfl)) (fun _ _ => rfl)) (by rfl) (by first | exact .inl rfl | exact .inr rfl | assumption)) (@pss_cons _ _ _ _ _ (@ps_expr _ _ _ _ (@pe_bm _ _ _ _ _ _ _ _ _ _ _ _ PySem.F.plainAttrs_list PySem.F.slot_list_append PySem.F.type_list_append mt_append (pv 5) (@pa_cons _ _ _ _ _ (@pe_tupq _ _ _ _ _ (@paq_cons _ _ _ _ _ (@pe_slice _ _ _ _ _ _ _ _ _ _ sl_tupH (@pe_ix _ _ _ _ _ _ _ ix_tup (pv 3) pe_int (fun _ _ => rfl)) po_none (@po_some _ _ _ (@pe_op _ _ _ _ _ _ _ _ op_add (pv 7) pe_int))) (@paq_cons _ _ _ _ _ (@pe_ix _ _ _ _ _ _ _ ix_tup (pv 8) pe_int (fun _ _ => rfl)) (@paq_cons _ _ _ _ _ (@pe_ix _ _ _ _ _ _ _ ix_tup (pv 8) pe_int (fun _ _ => rfl)) (@paq_cons _ _ _ _ _ (@pe_ix _ _ _ _ _ _ _ ix_tup (@pe_ix _ _ _ _ _ _ _ ix_tup (pv 3) pe_int (fun _ _ => rfl)) (pv 7) (fun _ _ => rfl)) (@paq_cons _ _ _ _ _ (@pe_ix _ _ _ _ _ _ _ ix_tup (@pe_ix _ _ _ _ _ _ _ ix_tup (pv 4) pe_int (fun _ _ => rfl)) (pv 7) (fun _ _ => rfl)) paq_nil star_S) star_S) star_S) star_S) star_S)) pa_nil (by rfl)) (by rfl) (by rfl) (by rfl) (by rfl) (by rfl)) (by rfl)) (@pss_one _ _ _ (@ps_set _ _ (6) _ _ _ _ sc_round_both.nd rfl (Or.inl rfl) (@pe_ix _ _ _ _ _ _ _ ix_tup (pv 8) pe_int (fun _ _ => rfl)) (by rfl) (by first | exact .inl rfl | exact .inr rfl | assumption))))) (by intro _ ; rfl)) (@pss_one _ _ _ (@ps_ret _ _ _ _ (pv 5)))))))), ?_⟩
  have dep7 : dep f ≤ 7 := dep_of f B 0 6 hI fun b hb => by have := (g.all b hb).len; omega
  have dl : (Fo.deedsF f [] 0).length ≤ 1000 := by rw [Fo.deeds_len [] 0 hI]; have := g.len; omega
  obtain ⟨xk, xpl⟩ : x.k = b.k ∧ x.pl = b.pl := by
    obtain ⟨x2, hx2, a1, a2⟩ := en_at hI hb
    rw [hx] at hx2
    cases hx2
    exact ⟨a1, a2⟩
  obtain ⟨y, hy, yk, ypl⟩ := en_at hI hc
  obtain ⟨sb, sc, agree, differ, xl, yl⟩ := paths hI g hb hc hx hy hm
  have gb := g.all b (List.mem_of_getElem? hb)
  have gc := g.all c (List.mem_of_getElem? hc)
  have bw := gb.len
  have cw := gc.len
  obtain ⟨r0, rs0, ep, dn⟩ := Fo.deeds_down f B 0 [] 0 i x b hI (fun _ _ _ => Nat.zero_le _) g.ok (fun _ _ => Nat.zero_le _) hx hb
  rw [Nat.zero_add, List.nil_append] at ep
  refine ⟨_, rfl, _, rfl, p, b.k, f, i, x, rfl, hf, dep7, dl, hx, xk, en_first hI nd hb, fun r1 pt1 pl1 H1 e1 hr1 hpt1 hpl1 => ?_⟩
  refine ⟨_, rfl, _, rfl, p, c.k, f, j, y, rfl, hf.over e1, dep7, dl, hy, yk, en_first hI nd hc, fun r2 pt2 pl2 H2 e2 hr2 hpt2 hpl2 => ?_⟩
  dsimp only [gName]
  have hr1 := e2 _ _ hr1
  have hpt1 := e2 _ _ hpt1
  obtain ⟨px, hpx, apx⟩ := hpl1.over e2
  obtain ⟨qx, hqx, aqx⟩ := hpl2
  rw [xpl] at apx
  rw [ypl] at aqx
  have pxl : px.length = b.ways.length := by rw [apx.1, gb.pll]
  have qxl : qx.length = c.ways.length := by rw [aqx.1, gc.pll]
  have e2 := e1.trans e2
  refine ⟨szl (by show 0 ≤ 1000000; decide), fun fo hfo => ?_⟩
  have s3 := same_new hfo (.lst [])
  have hfo3 : (upd H2 fo (.lst [])) fo = some (.lst []) := upd_same
  have fo0 := e2.free hfo
  generalize upd H2 fo (.lst []) = H3 at s3 hfo3
  refine ⟨_, rfl, ?_⟩
  have e3 := e2.trans s3
  have hmin : (if ((qx.length : Nat) : Int) < ((px.length : Nat) : Int) then ((qx.length : Nat) : Int) else ((px.length : Nat) : Int)) = ((min b.ways.length c.ways.length : Nat) : Int) := by split <;> omega
  refine ⟨_, rfl, r1, _, 0, _, rfl, rfl, SqT.of (s3 _ _ hr1), rfl, _, rfl, r2, _, 0, _, rfl, rfl, SqT.of (s3 _ _ hr2), rfl, _, rfl, r1, _, 1, _, rfl, rfl, SqT.of (s3 _ _ hr1), rfl, pl1, _, rfl, .inr (SqT.of (s3 _ _ hpx)), _, rfl, r2, _, 1, _, rfl, rfl, SqT.of (s3 _ _ hr2), rfl, pl2, _, rfl, .inr (SqT.of (s3 _ _ hqx)), _, _, rfl, ?_⟩
  rw [hmin]
  refine ⟨pt1, pt2, x.path, y.path, min b.ways.length c.ways.length, s, rfl, s3 _ _ hpt1, s3 _ _ hpt2, by omega, by omega, by omega, by omega, agree, fun z => differ (by omega) (by omega), _, rfl, by omega, by omega, ?_⟩
  refine for_range (lo := 0) (n := s) (fun e σ' H' => ∃ (ite : Addr) (fe : Frs) (rs : List Nat) (ys : List V) (o7 o8 : Option V), σ' = [some (.ref p), some (.int b.k), some (.int c.k), some (.ref r1), some (.ref r2), some (.ref fo), some (.ref ite), o7, o8] ∧ (∀ a o, a ≠ fo → H3 a = some o → H' a = some o) ∧ FoT H3 ite fe ∧ Fo.Down fe rs (b.ways.drop e) ∧ x.path.drop e = rs.map (fun n : Nat => (n : Int)) ∧ H' fo = some (.lst ys) ∧ All2 (RbP H') ys (rbp b c x.path e)) ⟨p, f, r0 :: rs0, [], _, _, rfl, fun _ _ _ h => h, hf.over e3, dn, ep, hfo3, .nil⟩ (fun e σ' H' he pp => ?_) (fun σ' H' pp => ?_)
  rotate_left
  · obtain ⟨ite, fe, rs, ys, o7, o8, rfl, k, _, _, _, hy', ay⟩ := pp
    exact ⟨_, rfl, q fo ys _ (fun a o ha => k a o (ne_of_none ha fo0) (e3 _ _ ha)) fo0 hy' ay ⟨sb, sc⟩⟩
  obtain ⟨ite, fe, rs, ys, o7, o8, rfl, k, ⟨zs, hite, hfe⟩, dne, epe, hy', ay⟩ := pp
  have ylen : ys.length = e := by rw [ay.1, rbp_len]
  have tk : TK H3 H' := fun a o ha => k a _ (ne_of ha hfo3 (by intro z; cases z)) ha
  have hew : e < b.ways.length := Nat.lt_of_lt_of_le he sb
  have hec : e < c.ways.length := Nat.lt_of_lt_of_le he sc
  have dw : b.ways.drop e = b.ways[e] :: b.ways.drop (e + 1) := List.drop_eq_getElem_cons hew
  have gw : b.ways.getD e (false, "") = b.ways[e] := by rw [List.getD_eq_getElem?_getD, List.getElem?_eq_getElem hew]; rfl
  rw [dw] at dne
  cases rs with
  | nil => exact dne.elim
  | cons r rs =>
    rcases dne with ⟨_, _, _, _, z⟩ | ⟨cc, w, sub, ws', him, z, dsub⟩
    · cases z
    obtain ⟨zw, zd⟩ := List.cons.inj z
    obtain ⟨t, p', zs', hzt, ht, hp', hsub⟩ := itm_at hfe him
    have xe : x.path[e]? = some (r : Int) := by
      have := congrArg (fun l : List Int => l[0]?) epe
      simpa using this
    have xd : x.path.drop (e + 1) = rs.map (fun n : Nat => (n : Int)) := by
      have := congrArg List.tail epe
      rw [List.tail_drop] at this
      exact this
    have z0 : (0 + (e : Int)) = (e : Int) := Int.zero_add _
    have at1 : atI (x.path.map V.int) (0 + (e : Int)) = some (.int (r : Int)) := by rw [z0]; exact atI_nat (by rw [List.getElem?_map, xe]; rfl)
    have at2 : atI zs (r : Int) = some (.ref t) := atI_nat hzt
    have pe : px[e]? = some (px[e]'(pxl ▸ hew)) := List.getElem?_eq_getElem (pxl ▸ hew)
    have qe : qx[e]? = some (qx[e]'(qxl ▸ hec)) := List.getElem?_eq_getElem (qxl ▸ hec)
    obtain ⟨pv, hpv, ta, eta, hta⟩ := apx.get' pe
    obtain ⟨qv, hqv, tb, etb, htb⟩ := aqx.get' qe
    have at3 : atI px (0 + (e : Int)) = some (.ref ta) := by rw [z0]; exact (atI_nat pe).trans (congrArg some eta)
    have at4 : atI qx (0 + (e : Int)) = some (.ref tb) := by rw [z0]; exact (atI_nat qe).trans (congrArg some etb)
    have k1 := tk _ _ (s3 _ _ hr1)
    have k2 := tk _ _ (s3 _ _ hr2)
    have kp := tk _ _ (s3 _ _ hpt1)
    refine ⟨_, rfl, _, rfl, r1, _, 0, _, rfl, rfl, SqT.of k1, rfl, _, rfl, pt1, _, _, _, rfl, rfl, SqT.of kp, at1, ite, _, _, _, rfl, rfl, SqT.of (tk _ _ hite), at2, ?_⟩
    refine ⟨_, rfl, .inl ⟨rfl, _, SqL.of hy'⟩, _, rfl, r1, _, 0, _, rfl, rfl, SqT.of k1, rfl, _, rfl, _, _, rfl, rfl, _, rfl, pt1, _, rfl, kp, fun sl H4 e4 hsl => ?_⟩
    have ht4 := e4 _ _ (tk _ _ ht)
    refine ⟨_, rfl, t, _, 1, _, rfl, rfl, SqT.of ht4, rfl, _, rfl, t, _, 2, _, rfl, rfl, SqT.of ht4, rfl, _, rfl, r1, _, 1, _, rfl, rfl, SqT.of (e4 _ _ k1), rfl, _, rfl, pl1, _, _, _, rfl, rfl, SqT.of (e4 _ _ (tk _ _ (s3 _ _ hpx))), at3, _, rfl, r2, _, 1, _, rfl, rfl, SqT.of (e4 _ _ k2), rfl, _, rfl, pl2, _, _, _, rfl, rfl, SqT.of (e4 _ _ (tk _ _ (s3 _ _ hqx))), at4, szl (by show 5 ≤ 1000000; decide), fun rr hrr => ?_⟩
    have s5 := same_new hrr (.tup [V.ref sl, V.bl cc, V.str w, V.ref ta, V.ref tb])
    have hy5 := s5 _ _ (e4 _ _ hy')
    have nr : rr ≠ fo := fun z => by rw [z, e4 _ _ hy'] at hrr; cases hrr
    refine ⟨fo, _, _, rfl, rfl, hy5, szlt (by omega), ?_⟩
    have tk5 := ((Same.tk e4).trans (Same.tk s5)).trans (TK.upd (o := .lst (ys ++ [V.ref rr])) hy5)
    have htF := tk5 _ _ (tk _ _ ht)
    have htaF := tk5 _ _ (tk _ _ (s3 _ _ (show H2 ta = _ from hta)))
    have htbF := tk5 _ _ (tk _ _ (s3 _ _ (show H2 tb = _ from htb)))
    refine ⟨_, rfl, t, _, 3, _, rfl, rfl, SqT.of htF, rfl, ?_⟩
    refine ⟨p', sub, rs, _, _, _, rfl, fun a o ha h => by rw [upd_ne ha]; exact s5 _ _ (e4 _ _ (k a o ha h)), ⟨zs', hp', hsub⟩, by rw [zd]; exact dsub, xd, upd_same, ?_⟩
    rw [rbp_succ]
    refine (ay.mono fun u v z => z.tk tk5).snoc ⟨rr, sl, ta, tb, rfl, ?_, ?_, ?_, ?_⟩
    · rw [upd_ne nr, gw, zw]
      exact upd_same
    · have : b.pl.getD e (0, 0) = pv := by rw [List.getD_eq_getElem?_getD, hpv]; rfl
      rw [this]
      exact htaF
    · have : c.pl.getD e (0, 0) = qv := by rw [List.getD_eq_getElem?_getD, hqv]; rfl
      rw [this]
      exact htbF
    · have cy : cutV (x.path.map V.int) none (some (0 + (e : Int) + 1)) = (x.path.take (e + 1)).map V.int := by
        have h : cutV (x.path.map V.int) none (some (0 + (e : Int) + 1)) = (x.path.map V.int).take (0 + (e : Int) + 1).toNat := cut_to _ (by omega)
        rw [h, show (0 + (e : Int) + 1).toNat = e + 1 by omega, List.map_take]
      rw [cy] at hsl
      exact ((Same.tk s5).trans (TK.upd (o := .lst (ys ++ [V.ref rr])) hy5)) _ _ hsl

theorem ok_endsat67 (T : Tx K mg a) : FnOk P w K mg base CX0 1 a.f_ends_at a.d_ends_at ["program", "plan", "path"] spNever := by
  exact ⟨fun vs H Q E h => h.elim, fun A outer s H args us vs Q E _ _ _ _ h => h.elim⟩

theorem ok_cutp67 (T : Tx K mg a) : FnOk P w K mg base CX0 11 a.f_cut_paths a.d_cut_paths ["plan"] spCutP67 := by
  have G_sweeps_of := ok_swo (P := P) (w := w) (base := base) T
  refine T.F_cut_paths.ok sc_cut_paths (fun vs H Q E h => ?_) (fun cdv A outer s H vs Q E hr h => ?_)
  · obtain ⟨_, _, _, rfl, _⟩ := h; rfl
  obtain ⟨p, B, f, rfl, ⟨hf, hI, g, nd⟩, own, q⟩ := h
  refine ⟨_, (@pss_one _ _ _ (@ps_ret _ _ _ _ (@pe_compB _ _ _ _ _ _ _ ["path", "cut", "way"] [none, none, none] _ _ _ _ (by rfl) (@pi_list _ _ _ _ (@pe_call _ _ _ _ _ _ _ _ _ _ _ _ _ _ _ _ G_sweeps_of (hr.mono (by omega)) (by rfl) T.m_sweeps_of T.F_sweeps_of.kp T.b_sweeps_of .nil pass0 (@pa_cons _ _ _ _ _ (pv 0) pa_nil (by rfl)) (by decide) (by rfl) (by rfl))) c_cut_paths_0 (fun _ _ _ _ _ _ => ⟨(show PG _ _ (gTup K 3 _) from (pg_tup rfl (pgs_cons (pg_name (i := 0) c_cut_paths_0n rfl (Or.inl rfl)) (pgs_cons (pg_name (i := 1) c_cut_paths_0n rfl (Or.inl rfl)) (pgs_cons (pg_name (i := 2) c_cut_paths_0n rfl (Or.inl rfl)) pgs_nil))))), (@pts_one _ _ _ (@pt_val _ _ _ (pv 1) (by intro _ ; rfl))), (pv 0)⟩) (by intro _ ; rfl)))), ?_⟩
  have dep7 : dep f ≤ 7 := dep_of f B 0 6 hI fun b hb => by have := (g.all b hb).len; omega
  have cnt := fcnt_le f B 0 6 hI fun b hb => by have := (g.all b hb).len; omega
  have sl := sw_len f [] 0
  have gl := g.len
  refine ⟨_, rfl, p, f, rfl, hf, dep7, by omega, fun l ys H1 e1 hn hl ay => ?_⟩
  have yl := ay.1
  refine ⟨l, rfl, ⟨_, SqL.of hl⟩, ?_⟩
  refine comp_listG (xs := ys) (fun i zs H' => H' = H1 ∧ zs = []) ⟨rfl, rfl⟩ (szl (by omega)) (fun i zs H' hi pp => ⟨by rw [pp.1]; exact SqL.of hl, by rw [pp.2]; exact Nat.zero_le _⟩) (fun i x zs H' hx pp => ?_) (fun zs H' pp r hr => ?_)
  · obtain ⟨rfl, rfl⟩ := pp
    obtain ⟨sw, hsw, t, pt, rfl, ht, hpt⟩ := ay.get' hx
    have c0 := sw_own f B 0 [] 0 hI own sw (List.mem_of_getElem? hsw)
    rw [c0] at ht
    refine ⟨t, _, rfl, SqT.of ht, rfl, _, _, rfl, _, _, rfl, _, _, rfl, rfl, outs3q (ρ := []) _ _ _, ?_⟩
    exact ⟨_, rfl, _, rfl, iteF ⟨rfl, rfl⟩⟩
  obtain ⟨rfl, rfl⟩ := pp
  exact q r _ (e1.trans (same_new hr _)) upd_same

theorem ok_ends67 (T : Tx K mg a) : FnOk P w K mg base CX0 12 a.f_ends a.d_ends ["program", "plan"] spEnds67 := by
  have G_cut_paths := ok_cutp67 (P := P) (w := w) (base := base) T
  have G_ends_at := ok_endsat67 (P := P) (w := w) (base := base) T
  refine T.F_ends.ok sc_ends (fun vs H Q E h => ?_) (fun cdv A outer s H vs Q E hr h => ?_)
  · obtain ⟨_, _, _, _, rfl, _⟩ := h; rfl
  obtain ⟨v, p, B, f, rfl, hp, own, q⟩ := h
  refine ⟨_, (@pss_one _ _ _ (@ps_ret _ _ _ _ (@pe_compB _ _ _ _ _ _ _ ["path", "plan", "program"] [none, some 1, some 0] _ _ _ _ (by rfl) (@pi_list _ _ _ _ (@pe_call _ _ _ _ _ _ _ _ _ _ _ _ _ _ _ _ G_cut_paths (hr.mono (by omega)) (by rfl) T.m_cut_paths T.F_cut_paths.kp T.b_cut_paths .nil pass0 (@pa_cons _ _ _ _ _ (pv 1) pa_nil (by rfl)) (by decide) (by rfl) (by rfl))) c_ends_0 (fun _ _ _ _ _ _ => ⟨(pg_name (i := 0) c_ends_0n rfl (Or.inl rfl)), @pts_nil _, (@pe_call _ _ _ _ _ _ _ _ _ _ _ _ _ _ _ _ G_ends_at (hr.mono (by omega)) (by rfl) T.m_ends_at T.F_ends_at.kp T.b_ends_at .nil pass0 (@pa_cons _ _ _ _ _ (pv 2) (@pa_cons _ _ _ _ _ (pv 1) (@pa_cons _ _ _ _ _ (pv 0) pa_nil (by rfl)) (by rfl)) (by rfl)) (by decide) (by rfl) (by rfl))⟩) (by intro _ ; rfl)))), ?_⟩
  refine ⟨_, rfl, p, B, f, rfl, hp, own, fun l H1 e1 hl => ?_⟩
  refine ⟨l, rfl, ⟨_, SqL.of hl⟩, ?_⟩
  refine comp_list (xs := []) (fun i zs H' => H' = H1 ∧ zs = []) ⟨rfl, rfl⟩ (szl (by show 0 ≤ 1000000; decide)) (fun i zs H' hi pp => ⟨by rw [pp.1]; exact SqL.of hl, by rw [pp.2]; exact Nat.zero_le _⟩) (fun i x zs H' hx pp => (by cases hx)) (fun zs H' pp r hr => ?_)
  obtain ⟨rfl, rfl⟩ := pp
  exact q r _ (e1.trans (same_new hr _)) upd_same

theorem ok_rulers67 (T : Tx K mg a) : FnOk P w K mg base CX0 12 a.f_rulers a.d_rulers ["plan", "found", "widths"] spRulers67 := by
  have G_cut_paths := ok_cutp67 (P := P) (w := w) (base := base) T
  refine T.F_rulers.ok sc_rulers (fun vs H Q E h => ?_) (fun cdv A outer s H vs Q E hr h => ?_)
  · obtain ⟨_, _, _, _, _, rfl, _⟩ := h; rfl
  obtain ⟨p, l, m, B, f, rfl, hp, own, hl, hm, q⟩ := h
  refine ⟨_, (@pss_one _ _ _ (@ps_ret _ _ _ _ (@pe_callTy _ _ _ _ _ _ _ _ _ (call_dictT rfl (hu4 hr)) (by rfl) T.z_dict bt_dict (@pa_cons _ _ _ _ _ (@pe_compB _ _ _ _ _ _ _ ["path", "pair", "width"] [none, none, none] _ _ _ _ (by rfl) (pi_zip3 (by rfl) T.z_zip (@pa_cons _ _ _ _ _ (@pe_call _ _ _ _ _ _ _ _ _ _ _ _ _ _ _ _ G_cut_paths (hr.mono (by omega)) (by rfl) T.m_cut_paths T.F_cut_paths.kp T.b_cut_paths .nil pass0 (@pa_cons _ _ _ _ _ (pv 0) pa_nil (by rfl)) (by decide) (by rfl) (by rfl)) (@pa_cons _ _ _ _ _ (pv 1) (@pa_cons _ _ _ _ _ (pv 2) pa_nil (by rfl)) (by rfl)) (by rfl))) c_rulers_0 (fun _ _ _ _ _ _ => ⟨(show PG _ _ (gTup K 3 _) from (pg_tup rfl (pgs_cons (pg_name (i := 0) c_rulers_0n rfl (Or.inl rfl)) (pgs_cons (pg_name (i := 1) c_rulers_0n rfl (Or.inl rfl)) (pgs_cons (pg_name (i := 2) c_rulers_0n rfl (Or.inl rfl)) pgs_nil))))), @pts_nil _, (@pe_tup _ _ _ _ _ (@pa_cons _ _ _ _ _ (pv 0) (@pa_cons _ _ _ _ _ (@pe_tup _ _ _ _ _ (@pa_cons _ _ _ _ _ (@pe_ix _ _ _ _ _ _ _ (show IxR _ (rIxT K) from ix_tup) (pv 1) pe_int (fun _ _ => rfl)) (@pa_cons _ _ _ _ _ (pv 2) pa_nil (by rfl)) (by rfl))) pa_nil (by rfl)) (by rfl)))⟩) (by intro _ ; rfl)) pa_nil (by rfl)) (by decide) (by decide) (by rfl) (by rfl)))), ?_⟩
  refine ⟨_, rfl, p, B, f, rfl, hp, own, fun c H1 e1 hc => ?_⟩
  refine ⟨_, rfl, _, rfl, c, l, m, rfl, ⟨_, SqL.of hc⟩, ⟨_, SqL.of (e1 _ _ hl)⟩, ⟨_, SqL.of (e1 _ _ hm)⟩, ?_⟩
  refine comp_zip3 (xs := []) (ys := []) (ws := []) rfl rfl (fun i zs H' => H' = H1 ∧ zs = []) ⟨rfl, rfl⟩ (szl (by show 0 ≤ 1000000; decide)) (fun i zs H' hi pp => ⟨by rw [pp.1]; exact SqL.of hc, by rw [pp.1]; exact SqL.of (e1 _ _ hl), by rw [pp.1]; exact SqL.of (e1 _ _ hm), by rw [pp.2]; exact Nat.zero_le _⟩) (fun i x y v Tt zs H' hx => (by cases hx)) (fun zs H' pp r hr => ?_)
  obtain ⟨rfl, rfl⟩ := pp
  have s2 := same_new hr (.lst [])
  exact ⟨r, [], [], rfl, upd_same, .nil, fun d hd => q d _ (e1.trans (s2.trans (same_new hd _))) upd_same⟩

theorem ok_shown67 (T : Tx K mg a) : FnOk P w K mg base CX0 1 a.f_number_shown a.d_number_shown ["values", "pair", "ruler"] spShown67 := by
  refine T.F_number_shown.ok sc_number_shown (fun vs H Q E h => ?_) (fun cdv A outer s H vs Q E hr h => ?_)
  · obtain ⟨_, _, _, _, _, rfl, _⟩ := h; rfl
  obtain ⟨v, p, W, e, d, rfl, hv, hp, he, q⟩ := h
  refine ⟨_, (@pss_cons _ _ _ _ _ (@ps_set _ _ (3) _ _ _ _ sc_number_shown.nd rfl (Or.inl rfl) (@pe_op _ _ _ _ _ _ _ _ op_add (@pe_ix _ _ _ _ _ _ _ ix_tup (pv 0) (@pe_ix _ _ _ _ _ _ _ ix_tup (pv 1) pe_int (fun _ _ => rfl)) (fun _ _ => rfl)) (@pe_ix _ _ _ _ _ _ _ ix_tup (pv 1) pe_int (fun _ _ => rfl))) (by rfl) (by first | exact .inl rfl | exact .inr rfl | assumption)) (@pss_cons _ _ _ _ _ (@ps_if _ _ _ _ _ _ _ _ (@pt_cmpR _ _ _ _ _ _ _ _ op_isN (pv 2) pe_non (@nomark _ _ (by decide) (by decide))) (@pss_one _ _ _ (@ps_ret _ _ _ _ (pv 3))) pss_nil) (@pss_one _ _ _ (@ps_ret _ _ _ _ (@pe_op _ _ _ _ _ _ _ _ op_fdiv (@pe_op _ _ _ _ _ _ _ _ op_sub (pv 3) (@pe_ix _ _ _ _ _ _ _ ix_seq (pv 2) pe_int (fun _ _ => rfl))) (@pe_ix _ _ _ _ _ _ _ ix_seq (pv 2) pe_int (fun _ _ => rfl))))))), ?_⟩
  have at1 : atI (W.map V.int) (e : Int) = some (.int (W.getD e 0)) := by
    have := cell_in (ns := W) (k := (e : Int)) (Int.natCast_nonneg _) (by omega)
    rwa [Int.toNat_natCast] at this
  refine ⟨_, rfl, _, rfl, p, _, 0, _, rfl, rfl, SqT.of hp, rfl, v, _, _, _, rfl, rfl, SqT.of hv, at1, _, rfl, p, _, 1, _, rfl, rfl, SqT.of hp, rfl, _, _, rfl, rfl, ?_⟩
  dsimp only [gName]
  exact ⟨_, rfl, rfl, _, rfl, iteE (v := true) (decide_eq_true rfl) (iteT ⟨_, rfl, q⟩)⟩

theorem ok_byway67 (T : Tx K mg a) : FnOk P w K mg base CX0 1 a.f_order_by_way a.d_order_by_way ["way", "less"] spByWay67 := by
  refine T.F_order_by_way.ok sc_order_by_way (fun vs H Q E h => ?_) (fun cdv A outer s H vs Q E hr h => ?_)
  · obtain ⟨_, rfl, _⟩ := h; rfl
  obtain ⟨b, rfl, q⟩ := h
  refine ⟨_, (@pss_cons _ _ _ _ _ (@ps_if _ _ _ _ _ _ _ _ (@pt_cmpR _ _ _ _ _ _ _ _ op_eq (pv 0) pe_str (@nomark _ _ (by decide) (by decide))) (@pss_one _ _ _ (@ps_ret _ _ _ _ pe_int)) pss_nil) (@pss_one _ _ _ (@ps_ret _ _ _ _ (@pe_ifExp _ _ _ _ _ _ _ _ (@pt_cmpR _ _ _ _ _ _ _ _ op_eq (pv 1) (@pe_cmpR _ _ _ _ _ _ _ _ op_eq (pv 0) pe_str (@nomark _ _ (by decide) (by decide))) (@nomark _ _ (by decide) (by decide))) (@pe_un _ _ _ _ _ _ un_neg pe_int) pe_int)))), ?_⟩
  refine ⟨_, rfl, rfl, _, rfl, iteE (v := false) (dS (by decide +kernel)) (iteF ?_)⟩
  refine ⟨_, rfl, _, rfl, rfl, rfl, _, rfl, ?_⟩
  cases b with
  | true => exact iteE (v := true) rfl (iteT ⟨_, rfl, q⟩)
  | false => exact iteE (v := false) rfl (iteF q)

theorem ok_order67 (T : Tx K mg a) : FnOk P w K mg base CX0 13 a.f_order_of a.d_order_of ["program", "plan", "widths", "one", "other"] (spOrder67 a.c_Program a.c_Deed (csOf a)) := by
  have G_rulers := ok_rulers67 (P := P) (w := w) (base := base) T
  have G_ends := ok_ends67 (P := P) (w := w) (base := base) T
  have G_round_both := ok_round67 (P := P) (w := w) (base := base) T
  have G_number_shown := ok_shown67 (P := P) (w := w) (base := base) T
  have G_order_by_way := ok_byway67 (P := P) (w := w) (base := base) T
  have G_stand := ok_standp (P := P) (w := w) (base := base) T
  refine T.F_order_of.ok sc_order_of (fun vs H Q E h => ?_) (fun cdv A outer s H vs Q E hr h => ?_)
  · obtain ⟨_, _, _, _, _, _, _, _, _, _, _, _, _, _, rfl, _⟩ := h; rfl
  obtain ⟨v, x, y, p, wl, n, bs, Ds, f, T1, U, k, e, bb, rfl, hP, rq, n6, hF, hwl, ⟨t1, d1, rfl, ht1, hd1⟩, ⟨t2, d2, rfl, ht2, hd2⟩, ⟨D, hD, l1⟩, ⟨E', hE, l2⟩, hm, ah, q⟩ := h
  refine ⟨_, (@pss_cons _ _ _ _ _ (@ps_set _ _ (5) _ _ _ _ sc_order_of.nd rfl (Or.inl rfl) (@pe_call _ _ _ _ _ _ _ _ _ _ _ _ _ _ _ _ G_rulers (hr.mono (by omega)) (by rfl) T.m_rulers T.F_rulers.kp T.b_rulers .nil pass0 (@pa_cons _ _ _ _ _ (pv 1) (@pa_cons _ _ _ _ _ (@pe_call _ _ _ _ _ _ _ _ _ _ _ _ _ _ _ _ G_ends (hr.mono (by omega)) (by rfl) T.m_ends T.F_ends.kp T.b_ends .nil pass0 (@pa_cons _ _ _ _ _ (pv 0) (@pa_cons _ _ _ _ _ (pv 1) pa_nil (by rfl)) (by rfl)) (by decide) (by rfl) (by rfl)) (@pa_cons _ _ _ _ _ (pv 2) pa_nil (by rfl)) (by rfl)) (by rfl)) (by decide) (by rfl) (by rfl)) (by rfl) (by first | exact .inl rfl | exact .inr rfl | assumption)) (@pss_cons _ _ _ _ _ (@ps_for _ _ _ _ _ _ _ _ PassesOwn.never rfl (@pi_list _ _ _ _ (@pe_call _ _ _ _ _ _ _ _ _ _ _ _ _ _ _ _ G_round_both (hr.mono (by omega)) (by rfl) T.m_round_both T.F_round_both.kp T.b_round_both .nil pass0 (@pa_cons _ _ _ _ _ (pv 1) (@pa_cons _ _ _ _ _ (@pe_ix _ _ _ _ _ _ _ ix_tup (pv 3) pe_int (fun _ _ => rfl)) (@pa_cons _ _ _ _ _ (@pe_ix _ _ _ _ _ _ _ ix_tup (pv 4) pe_int (fun _ _ => rfl)) pa_nil (by rfl)) (by rfl)) (by rfl)) (by decide) (by rfl) (by rfl))) (pg_tup rfl (pgs_cons (pg_name (i := 6) sc_order_of.nd rfl (Or.inl rfl)) (pgs_cons (pg_name (i := 7) sc_order_of.nd rfl (Or.inl rfl)) (pgs_cons (pg_name (i := 8) sc_order_of.nd rfl (Or.inl rfl)) (pgs_cons (pg_name (i := 9) sc_order_of.nd rfl (Or.inl rfl)) (pgs_cons (pg_name (i := 10) sc_order_of.nd rfl (Or.inl rfl)) pgs_nil)))))) (@pss_cons _ _ _ _ _ (@ps_set _ _ (11) _ _ _ _ sc_order_of.nd rfl (Or.inl rfl) (@pe_call _ _ _ _ _ _ _ _ _ _ _ _ _ _ _ _ G_number_shown (hr.mono (by omega)) (by rfl) T.m_number_shown T.F_number_shown.kp T.b_number_shown .nil pass0 (@pa_cons _ _ _ _ _ (@pe_ix _ _ _ _ _ _ _ ix_tup (pv 3) pe_int (fun _ _ => rfl)) (@pa_cons _ _ _ _ _ (pv 9) (@pa_cons _ _ _ _ _ (@pe_dget1 _ _ _ _ _ _ _ (@hu_of _ _ hr) (pv 5) (pv 6) ⟨rfl, rfl, rfl, rfl⟩) pa_nil (by rfl)) (by rfl)) (by rfl)) (by decide) (by rfl) (by rfl)) (by rfl) (by first | exact .inl rfl | exact .inr rfl | assumption)) (@pss_cons _ _ _ _ _ (@ps_set _ _ (12) _ _ _ _ sc_order_of.nd rfl (Or.inl rfl) (@pe_call _ _ _ _ _ _ _ _ _ _ _ _ _ _ _ _ G_number_shown (hr.mono (by omega)) (by rfl) T.m_number_shown T.F_number_shown.kp T.b_number_shown .nil pass0 (@pa_cons _ _ _ _ _ (@pe_ix _ _ _ _ _ _ _ ix_tup (pv 4) pe_int (fun _ _ => rfl)) (@pa_cons _ _ _ _ _ (pv 10) (@pa_cons _ _ _ _ _ (@pe_dget1 _ _ _ _ _ _ _ (@hu_of _ _ hr) (pv 5) (pv 6) ⟨rfl, rfl, rfl, rfl⟩) pa_nil (by rfl)) (by rfl)) (by rfl)) (by decide) (by rfl) (by rfl)) (by rfl) (by first | exact .inl rfl | exact .inr rfl | assumption)) (@pss_one _ _ _ (@ps_if _ _ _ _ _ _ _ _ (@pt_cmpR _ _ _ _ _ _ _ _ op_ne (pv 11) (pv 12) (@nomark _ _ (by decide) (by decide))) (@pss_one _ _ _ (@ps_ret _ _ _ _ (@pe_call _ _ _ _ _ _ _ _ _ _ _ _ _ _ _ _ G_order_by_way (hr.mono (by omega)) (by rfl) T.m_order_by_way T.F_order_by_way.kp T.b_order_by_way .nil pass0 (@pa_cons _ _ _ _ _ (pv 8) (@pa_cons _ _ _ _ _ (@pe_cmpR _ _ _ _ _ _ _ _ op_lt (pv 11) (pv 12) (@nomark _ _ (by decide) (by decide))) pa_nil (by rfl)) (by rfl)) (by decide) (by rfl) (by rfl)))) pss_nil)))) (by intro _ ; rfl)) (@pss_one _ _ _ (@ps_ret _ _ _ _ (@pe_ifExp _ _ _ _ _ _ _ _ (@pt_cmpR _ _ _ _ _ _ _ _ (@op_ltT _ (Nat.lt_of_succ_lt (@hu_of _ _ hr))) (@pe_ix _ _ _ _ _ _ _ ix_tup (@pe_call _ _ _ _ _ _ _ _ _ _ _ _ _ _ _ _ G_stand (hr.mono (by omega)) (by rfl) T.m_stand T.F_stand.kp T.b_stand .nil pass0 (@pa_cons _ _ _ _ _ (pv 1) (@pa_cons _ _ _ _ _ (@pe_ix _ _ _ _ _ _ _ ix_tup (pv 3) pe_int (fun _ _ => rfl)) pa_nil (by rfl)) (by rfl)) (by decide) (by rfl) (by rfl)) pe_int (fun _ _ => rfl)) (@pe_ix _ _ _ _ _ _ _ ix_tup (@pe_call _ _ _ _ _ _ _ _ _ _ _ _ _ _ _ _ G_stand (hr.mono (by omega)) (by rfl) T.m_stand T.F_stand.kp T.b_stand .nil pass0 (@pa_cons _ _ _ _ _ (pv 1) (@pa_cons _ _ _ _ _ (@pe_ix _ _ _ _ _ _ _ ix_tup (pv 4) pe_int (fun _ _ => rfl)) pa_nil (by rfl)) (by rfl)) (by decide) (by rfl) (by rfl)) pe_int (fun _ _ => rfl)) (@nomark _ _ (by decide) (by decide))) (@pe_un _ _ _ _ _ _ un_neg pe_int) pe_int))))), ?_⟩
  have own := bq_own bs Ds
  have hB := bq_get (b := bs) hD
  have hC := bq_get (b := bs) hE
  have oD := rq.row.ok D (List.mem_of_getElem? hD)
  have oE := rq.row.ok E' (List.mem_of_getElem? hE)
  have hI := hF.2.1
  have g := hF.2.2.1
  have nd := hF.2.2.2
  have dep7 : dep f ≤ 7 := dep_of f _ 0 6 hI fun b hb => by have := (g.all b hb).len; omega
  have dl : (Fo.deedsF f [] 0).length ≤ 1000 := by rw [Fo.deeds_len [] 0 hI]; have := g.len; omega
  obtain ⟨en, hen, ek, epl⟩ := en_at hI hB
  obtain ⟨en2, hen2, ek2, epl2⟩ := en_at hI hC
  refine ⟨_, rfl, _, rfl, _, rfl, v, p, _, f, rfl, hF, own, fun l H1 e1 hl => ?_⟩
  refine ⟨_, rfl, p, l, wl, _, f, rfl, hF.over e1, own, hl, e1 _ _ hwl, fun ru H2 e2 hru => ?_⟩
  have e02 := e1.trans e2
  dsimp only [gName]
  refine ⟨_, rfl, _, rfl, t1, _, 0, _, rfl, rfl, SqT.of (e02 _ _ ht1), rfl, _, rfl, t2, _, 0, _, rfl, rfl, SqT.of (e02 _ _ ht2), rfl, p, _, f, T1.1, U.1, k, _, _, en, rfl, hF.over e02, hB, hC, hen, hm, fun r ys H3 e3 hn hr3 ay sl => ?_⟩
  obtain ⟨sl1, sl2⟩ := sl
  have sl1 : k ≤ D.L.length := by have : k ≤ (List.replicate D.L.length (false, ("up" : Str))).length := sl1; rwa [List.length_replicate] at this
  have sl2 : k ≤ E'.L.length := by have : k ≤ (List.replicate E'.L.length (false, ("up" : Str))).length := sl2; rwa [List.length_replicate] at this
  have e03 := e02.trans e3
  have hru3 := e3 _ _ hru
  have ht13 := e03 _ _ ht1
  have ht23 := e03 _ _ ht2
  have yl := ay.1
  rw [rbp_len] at yl
  obtain ⟨a1, a2, a3, a4⟩ := ah
  have oll := oD.ll
  refine ⟨r, rfl, ⟨_, SqL.of hr3⟩, ?_⟩
  refine for_list (xs := ys) (fun i σ' H' => H' = H3 ∧ i ≤ e ∧ ∃ o6 o7 o8 o9 o10 o11 o12, σ' = [some v, some (.ref p), some (.ref wl), some (.ref t1), some (.ref t2), some (.ref ru), o6, o7, o8, o9, o10, o11, o12]) ⟨rfl, Nat.zero_le _, _, _, _, _, _, _, _, rfl⟩ (fun i σ' H' _ pp => by rw [pp.1]; exact SqL.of hr3) (fun i x σ' H' hx pp => ?_) (fun σ' H' pp => ?_)
  · obtain ⟨rfl, hie, o6, o7, o8, o9, o10, o11, o12, rfl⟩ := pp
    have hik : i < k := by rw [← yl]; exact (List.getElem?_eq_some_iff.mp hx).1
    obtain ⟨rb, hrb, t, pt, ta, tb, rfl, ht, hta, htb, hpt⟩ := ay.get' hx
    rw [rbp_get hik] at hrb
    cases hrb
    have w1 : (List.replicate D.L.length (false, ("up" : Str))).getD i (false, "") = (false, ("up" : Str)) := by
      rw [List.getD_eq_getElem?_getD, List.getElem?_replicate, if_pos (by omega)]; rfl
    have w2 : ∀ {m : Nat}, i < m → (Fo.ownP m).getD i (0, 0) = ((i : Int), 0) := fun {m} hm => by
      unfold Fo.ownP
      rw [List.getD_eq_getElem?_getD, List.getElem?_map, List.getElem?_range hm]; rfl
    have ht : H' t = some (.tup [.ref pt, .bl false, .str "up", .ref ta, .ref tb]) := by rw [ht, w1]
    have hta : H' ta = some (.tup [.int (i : Int), .int 0]) := by rw [hta]; show some (HO.tup [V.int ((Fo.ownP D.L.length).getD i (0, 0)).1, V.int ((Fo.ownP D.L.length).getD i (0, 0)).2]) = _; rw [w2 (by omega)]
    have htb : H' tb = some (.tup [.int (i : Int), .int 0]) := by rw [htb]; show some (HO.tup [V.int ((Fo.ownP E'.L.length).getD i (0, 0)).1, V.int ((Fo.ownP E'.L.length).getD i (0, 0)).2]) = _; rw [w2 (by omega)]
    have hg : ∀ P : List Int, H' pt = some (.tup (P.map V.int)) → DGet H' ru (.ref pt) none := fun P hP => .inr ⟨[], P.map Sum.inl, pt, .inl hru3, rfl, by rw [hP, List.map_map]; rfl, rfl⟩
    have hg := hg _ hpt
    refine ⟨t, _, rfl, SqT.of ht, rfl, _, _, rfl, _, _, rfl, _, _, rfl, _, _, rfl, _, _, rfl, rfl, ?_⟩
    refine ⟨_, rfl, t1, _, 1, _, rfl, rfl, SqT.of ht13, rfl, _, rfl, _, rfl, ru, rfl, .inr ⟨_, .inl hru3⟩, _, rfl, none, hg, d1, ta, T1.2, i, 0, rfl, e03 _ _ hd1, hta, by omega, ?_⟩
    dsimp only [gName]
    refine ⟨_, rfl, t2, _, 1, _, rfl, rfl, SqT.of ht23, rfl, _, rfl, _, rfl, ru, rfl, .inr ⟨_, .inl hru3⟩, _, rfl, none, hg, d2, tb, U.2, i, 0, rfl, e03 _ _ hd2, htb, by omega, ?_⟩
    dsimp only [gName]
    rw [Int.add_zero, Int.add_zero]
    refine ⟨_, rfl, _, rfl, rfl, _, rfl, ?_⟩
    by_cases hlt : i < e
    · refine iteE (ndF (congrArg V.int (a2 i hlt))) (iteF ?_)
      exact ⟨rfl, hlt, _, _, _, _, _, _, _, rfl⟩
    · have ei : i = e := by omega
      subst ei
      obtain ⟨a5, a6⟩ := a3 hik
      refine iteE (ndT (fun z => a5 (V.int.inj z))) (iteT ?_)
      refine ⟨_, rfl, _, rfl, _, rfl, _, _, rfl, rfl, _, rfl, ?_⟩
      have := q _ e03
      rw [a6] at this
      exact this
  · obtain ⟨rfl, hie, o6, o7, o8, o9, o10, o11, o12, rfl⟩ := pp
    have ee : e = k := by omega
    refine ⟨_, rfl, _, rfl, t1, _, 0, _, rfl, rfl, SqT.of ht13, rfl, p, _, f, T1.1, en, rfl, (hF.over e03).1, dep7, dl, hen, ek, en_first hI nd hB, fun r1 pt1 pl1 H4 e4 hr4 hpt4 hpl4 => ?_⟩
    refine ⟨r1, _, 0, _, rfl, rfl, SqT.of hr4, rfl, ?_⟩
    refine ⟨_, rfl, _, rfl, t2, _, 0, _, rfl, rfl, SqT.of (e4 _ _ ht23), rfl, p, _, f, U.1, en2, rfl, ((hF.over e03).over e4).1, dep7, dl, hen2, ek2, en_first hI nd hC, fun r2 pt2 pl2 H5 e5 hr5 hpt5 hpl5 => ?_⟩
    refine ⟨r2, _, 0, _, rfl, rfl, SqT.of hr5, rfl, ?_⟩
    refine ⟨pt1, pt2, en.path, en2.path, rfl, rfl, SqT.of (e5 _ _ hpt4), SqT.of hpt5, _, rfl, ?_⟩
    have := q _ (e03.trans (e4.trans e5))
    rw [a4 ee] at this
    rw [lex_of hI hen hen2 hm]
    by_cases c : (T1.1 : Int) < (U.1 : Int)
    · rw [decide_eq_true c] at this ⊢; exact iteT ⟨_, rfl, this⟩
    · rw [decide_eq_false c] at this ⊢; exact iteF this

theorem ok_loop67 (T : Tx K mg a) : FnOk P w K mg base CX0 2 a.f_l_loop a.d_l_loop ["_law_cell", "_law_loops"] spLoop67 := by
  have G_l_digits := ok_digits (P := P) (w := w) (base := base) T
  refine T.F_l_loop.ok sc_l_loop (fun vs H Q E h => ?_) (fun cdv A outer s H vs Q E hr h => ?_)
  · obtain ⟨_, _, _, rfl, _⟩ := h; rfl
  obtain ⟨cell, ll, L, rfl, c0, hL, okL, l2, q⟩ := h
  refine ⟨_, (@pss_cons _ _ _ _ _ (@ps_asg _ _ _ _ _ _ (@pe_call _ _ _ _ _ _ _ _ _ _ _ _ _ _ _ _ G_l_digits (hr.mono (by omega)) (by rfl) T.m_l_digits T.F_l_digits.kp T.b_l_digits .nil pass0 (@pa_cons _ _ _ _ _ (pv 0) (@pa_cons _ _ _ _ _ (@pe_lstq _ _ _ _ (@paq_cons _ _ _ _ _ pe_int (@paq_cons _ _ _ _ _ pe_int (@paq_cons _ _ _ _ _ pe_int (@paq_cons _ _ _ _ _ pe_int (@paq_cons _ _ _ _ _ pe_int (@paq_cons _ _ _ _ _ pe_int (@paq_cons _ _ _ _ _ pe_int paq_nil star_C) star_C) star_C) star_C) star_C) star_C) star_C)) pa_nil (by rfl)) (by rfl)) (by decide) (by rfl) (by rfl)) (pg_lst rfl (pgs_cons (pg_name (i := 2) sc_l_loop.nd rfl (Or.inl rfl)) (pgs_cons (pg_name (i := 3) sc_l_loop.nd rfl (Or.inl rfl)) (pgs_cons (pg_name (i := 4) sc_l_loop.nd rfl (Or.inl rfl)) (pgs_cons (pg_name (i := 5) sc_l_loop.nd rfl (Or.inl rfl)) (pgs_cons (pg_name (i := 6) sc_l_loop.nd rfl (Or.inl rfl)) (pgs_cons (pg_name (i := 7) sc_l_loop.nd rfl (Or.inl rfl)) (pgs_cons (pg_name (i := 8) sc_l_loop.nd rfl (Or.inl rfl)) pgs_nil)))))))) (by rfl) (by rfl) (by rfl)) (@pss_cons _ _ _ _ _ (@ps_set _ _ (9) _ _ _ _ sc_l_loop.nd rfl (Or.inl rfl) pe_str (by rfl) (by first | exact .inl rfl | exact .inr rfl | assumption)) (@pss_cons _ _ _ _ _ (@ps_set _ _ (10) _ _ _ _ sc_l_loop.nd rfl (Or.inl rfl) (@pe_op _ _ _ _ _ _ _ _ op_add_str (@pe_ix _ _ _ _ _ _ _ ix_str (pv 9) (pv 7) (fun _ _ => rfl)) (@pe_op _ _ _ _ _ _ _ _ op_mulS (@pe_ix _ _ _ _ _ _ _ ix_str (pv 9) (@pe_op _ _ _ _ _ _ _ _ op_mod (pv 8) pe_int) (fun _ _ => rfl)) (@pe_op _ _ _ _ _ _ _ _ op_fdiv (pv 8) pe_int))) (by rfl) (by first | exact .inl rfl | exact .inr rfl | assumption)) (@pss_cons _ _ _ _ _ (@ps_while _ _ _ _ _ _ PassesOwn.never (@pt_cmpR _ _ _ _ _ _ _ _ op_in_seq (pv 10) (@pe_compB _ _ _ _ _ _ _ ["_law_loop_here"] [none] _ _ _ _ (by rfl) (@pi_list _ _ _ _ (pv 1)) c_l_loop_0 (fun _ _ _ _ _ _ => ⟨(pg_name (i := 0) c_l_loop_0n rfl (Or.inl rfl)), @pts_nil _, (@pe_ix _ _ _ _ _ _ _ (show IxR _ (rIxT K) from ix_tup) (pv 0) pe_int (fun _ _ => rfl))⟩) (by intro _ ; rfl)) (by with_unfolding_all rfl)) (@pss_one _ _ _ (@ps_set _ _ (10) _ _ _ _ sc_l_loop.nd rfl (Or.inl rfl) (@pe_op _ _ _ _ _ _ _ _ op_add_str (pv 10) pe_str) (by rfl) (by first | exact .inl rfl | exact .inr rfl | assumption)))) (@pss_cons _ _ _ _ _ (@ps_set _ _ (11) _ _ _ _ sc_l_loop.nd rfl (Or.inl rfl) (@pe_op _ _ _ _ _ _ _ _ op_sub (pv 3) pe_int) (by rfl) (by first | exact .inl rfl | exact .inr rfl | assumption)) (@pss_cons _ _ _ _ _ (@ps_if _ _ _ _ _ _ _ _ (@pt_cmpR _ _ _ _ _ _ _ _ (@op_eqS _ (@hu64 _ _ hr)) (pv 1) (@pe_lst _ _ _ _ pa_nil) (@nomark _ _ (by decide) (by decide))) (@pss_cons _ _ _ _ _ (@ps_set _ _ (12) _ _ _ _ sc_l_loop.nd rfl (Or.inl rfl) (@pe_op _ _ _ _ _ _ _ _ op_sub (@pe_op _ _ _ _ _ _ _ _ op_add (pv 11) (@pe_ix _ _ _ _ _ _ _ ix_list (@pe_lstq _ _ _ _ (@paq_cons _ _ _ _ _ pe_int (@paq_cons _ _ _ _ _ pe_int (@paq_cons _ _ _ _ _ pe_int paq_nil star_C) star_C) star_C)) (pv 4) (fun _ _ => rfl))) (@pe_op _ _ _ _ _ _ _ _ op_mul pe_int (@pe_callTy _ _ _ _ _ _ _ _ _ call_int1 (by rfl) T.z_int bt_int (@pa_cons _ _ _ _ _ (@pe_cmpR _ _ _ _ _ _ _ _ op_eq (pv 5) pe_int (@nomark _ _ (by decide) (by decide))) pa_nil (by rfl)) (by decide) (by decide) (by rfl) (by rfl)))) (by rfl) (by first | exact .inl rfl | exact .inr rfl | assumption)) (@pss_one _ _ _ (@ps_ret _ _ _ _ (@pe_tupq _ _ _ _ _ (@paq_cons _ _ _ _ _ (pv 10) (@paq_cons _ _ _ _ _ (@pe_tup _ _ _ _ _ (@pa_cons _ _ _ _ _ pe_str (@pa_cons _ _ _ _ _ (pv 11) pa_nil (by rfl)) (by rfl))) (@paq_cons _ _ _ _ _ (@pe_tup _ _ _ _ _ (@pa_cons _ _ _ _ _ pe_str (@pa_cons _ _ _ _ _ (pv 12) pa_nil (by rfl)) (by rfl))) (@paq_cons _ _ _ _ _ (pv 11) (@paq_cons _ _ _ _ _ (pv 12) paq_nil star_N) star_N) star_T) star_T) star_N))))) pss_nil) (@pss_cons _ _ _ _ _ (@ps_asg _ _ _ _ _ _ (@pe_ix _ _ _ _ _ _ _ ix_list (pv 1) (@pe_op _ _ _ _ _ _ _ _ op_mod (pv 6) (@pe_callB _ _ _ _ _ _ _ _ _ call_len_seq (by rfl) T.z_len bt_len (@pa_cons _ _ _ _ _ (pv 1) pa_nil (by rfl)) (by decide) (by decide) (by rfl) (by rfl))) (fun _ _ => rfl)) (pg_tup rfl (pgs_cons (pg_name (i := 13) sc_l_loop.nd rfl (Or.inl rfl)) (pgs_cons (pg_name (i := 14) sc_l_loop.nd rfl (Or.inl rfl)) (pgs_cons (pg_name (i := 12) sc_l_loop.nd rfl (Or.inl rfl)) (pgs_cons (pg_name (i := 15) sc_l_loop.nd rfl (Or.inl rfl)) (pgs_cons (pg_name (i := 16) sc_l_loop.nd rfl (Or.inl rfl)) pgs_nil)))))) (by rfl) (by rfl) (by rfl)) (@pss_cons _ _ _ _ _ (@ps_if _ _ _ _ _ _ _ _ (@pt_cmpR _ _ _ _ _ _ _ _ op_eq (pv 2) pe_int (@nomark _ _ (by decide) (by decide))) (@pss_cons _ _ _ _ _ (@ps_set _ _ (12) _ _ _ _ sc_l_loop.nd rfl (Or.inl rfl) (@pe_op _ _ _ _ _ _ _ _ op_sub (@pe_op _ _ _ _ _ _ _ _ op_add (pv 11) (@pe_op _ _ _ _ _ _ _ _ op_mod (pv 4) pe_int)) (@pe_op _ _ _ _ _ _ _ _ op_mul pe_int (@pe_callTy _ _ _ _ _ _ _ _ _ call_int1 (by rfl) T.z_int bt_int (@pa_cons _ _ _ _ _ (@pe_cmpR _ _ _ _ _ _ _ _ op_eq (pv 5) pe_int (@nomark _ _ (by decide) (by decide))) pa_nil (by rfl)) (by decide) (by decide) (by rfl) (by rfl)))) (by rfl) (by first | exact .inl rfl | exact .inr rfl | assumption)) (@pss_one _ _ _ (@ps_ret _ _ _ _ (@pe_tupq _ _ _ _ _ (@paq_cons _ _ _ _ _ (pv 10) (@paq_cons _ _ _ _ _ (@pe_tup _ _ _ _ _ (@pa_cons _ _ _ _ _ pe_str (@pa_cons _ _ _ _ _ (pv 11) pa_nil (by rfl)) (by rfl))) (@paq_cons _ _ _ _ _ (@pe_tup _ _ _ _ _ (@pa_cons _ _ _ _ _ pe_str (@pa_cons _ _ _ _ _ (pv 12) pa_nil (by rfl)) (by rfl))) (@paq_cons _ _ _ _ _ (pv 11) (@paq_cons _ _ _ _ _ (pv 12) paq_nil star_N) star_N) star_T) star_T) star_N))))) pss_nil) (@pss_cons _ _ _ _ _ (@ps_if _ _ _ _ _ _ _ _ (@pt_cmpR _ _ _ _ _ _ _ _ op_eq (pv 2) pe_int (@nomark _ _ (by decide) (by decide))) (@pss_cons _ _ _ _ _ (@ps_set _ _ (8) _ _ _ _ sc_l_loop.nd rfl (Or.inl rfl) (@pe_op _ _ _ _ _ _ _ _ op_sub (@pe_callTy _ _ _ _ _ _ _ _ _ call_int1 (by rfl) T.z_int bt_int (@pa_cons _ _ _ _ _ (@pe_and _ _ _ _ _ _ _ (@pe_cmpR _ _ _ _ _ _ _ _ op_gt (pv 4) pe_int (@nomark _ _ (by decide) (by decide))) (@pe_one _ _ _ _ _ (@pe_cmpR _ _ _ _ _ _ _ _ op_lt (@pe_op _ _ _ _ _ _ _ _ op_sub (pv 16) (pv 15)) pe_int (@nomark _ _ (by decide) (by decide))))) pa_nil (by rfl)) (by decide) (by decide) (by rfl) (by rfl)) (@pe_op _ _ _ _ _ _ _ _ op_mul pe_int (@pe_callTy _ _ _ _ _ _ _ _ _ call_int1 (by rfl) T.z_int bt_int (@pa_cons _ _ _ _ _ (@pe_cmpR _ _ _ _ _ _ _ _ op_eq (pv 5) pe_int (@nomark _ _ (by decide) (by decide))) pa_nil (by rfl)) (by decide) (by decide) (by rfl) (by rfl)))) (by rfl) (by first | exact .inl rfl | exact .inr rfl | assumption)) (@pss_one _ _ _ (@ps_ret _ _ _ _ (@pe_tupq _ _ _ _ _ (@paq_cons _ _ _ _ _ (pv 10) (@paq_cons _ _ _ _ _ (@pe_tup _ _ _ _ _ (@pa_cons _ _ _ _ _ (pv 13) (@pa_cons _ _ _ _ _ (pv 11) pa_nil (by rfl)) (by rfl))) (@paq_cons _ _ _ _ _ (@pe_tup _ _ _ _ _ (@pa_cons _ _ _ _ _ (pv 13) (@pa_cons _ _ _ _ _ (@pe_op _ _ _ _ _ _ _ _ op_add (pv 11) (pv 8)) pa_nil (by rfl)) (by rfl))) (@paq_cons _ _ _ _ _ (@pe_op _ _ _ _ _ _ _ _ op_add (pv 15) (pv 11)) (@paq_cons _ _ _ _ _ (@pe_op _ _ _ _ _ _ _ _ op_add (@pe_op _ _ _ _ _ _ _ _ op_add (pv 16) (pv 11)) (pv 8)) paq_nil star_B) star_B) star_T) star_T) star_N))))) pss_nil) (@pss_cons _ _ _ _ _ (@ps_if _ _ _ _ _ _ _ _ (@pt_cmpR _ _ _ _ _ _ _ _ op_eq (pv 2) pe_int (@nomark _ _ (by decide) (by decide))) (@pss_cons _ _ _ _ _ (@ps_set _ _ (12) _ _ _ _ sc_l_loop.nd rfl (Or.inl rfl) (@pe_op _ _ _ _ _ _ _ _ op_sub (@pe_op _ _ _ _ _ _ _ _ op_add (pv 16) (pv 11)) (@pe_callTy _ _ _ _ _ _ _ _ _ call_int1 (by rfl) T.z_int bt_int (@pa_cons _ _ _ _ _ (@pe_cmpR _ _ _ _ _ _ _ _ op_eq (@pe_op _ _ _ _ _ _ _ _ op_mod (pv 5) pe_int) pe_int (@nomark _ _ (by decide) (by decide))) pa_nil (by rfl)) (by decide) (by decide) (by rfl) (by rfl))) (by rfl) (by first | exact .inl rfl | exact .inr rfl | assumption)) (@pss_one _ _ _ (@ps_ret _ _ _ _ (@pe_tupq _ _ _ _ _ (@paq_cons _ _ _ _ _ (pv 10) (@paq_cons _ _ _ _ _ (@pe_tup _ _ _ _ _ (@pa_cons _ _ _ _ _ (pv 13) (@pa_cons _ _ _ _ _ (pv 11) pa_nil (by rfl)) (by rfl))) (@paq_cons _ _ _ _ _ (@pe_tup _ _ _ _ _ (@pa_cons _ _ _ _ _ pe_str (@pa_cons _ _ _ _ _ (pv 12) pa_nil (by rfl)) (by rfl))) (@paq_cons _ _ _ _ _ (@pe_op _ _ _ _ _ _ _ _ op_add (pv 15) (pv 11)) (@paq_cons _ _ _ _ _ (pv 12) paq_nil star_N) star_B) star_T) star_T) star_N))))) pss_nil) (@pss_cons _ _ _ _ _ (@ps_if _ _ _ _ _ _ _ _ (@pt_cmpR _ _ _ _ _ _ _ _ op_eq (pv 2) pe_int (@nomark _ _ (by decide) (by decide))) (@pss_one _ _ _ (@ps_ret _ _ _ _ (@pe_tupq _ _ _ _ _ (@paq_cons _ _ _ _ _ (pv 10) (@paq_cons _ _ _ _ _ (@pe_tup _ _ _ _ _ (@pa_cons _ _ _ _ _ pe_str (@pa_cons _ _ _ _ _ (@pe_op _ _ _ _ _ _ _ _ op_add (pv 15) (pv 11)) pa_nil (by rfl)) (by rfl))) (@paq_cons _ _ _ _ _ (@pe_tup _ _ _ _ _ (@pa_cons _ _ _ _ _ (pv 13) (@pa_cons _ _ _ _ _ (pv 11) pa_nil (by rfl)) (by rfl))) (@paq_cons _ _ _ _ _ (@pe_op _ _ _ _ _ _ _ _ op_add (pv 15) (pv 11)) (@paq_cons _ _ _ _ _ (@pe_op _ _ _ _ _ _ _ _ op_add (pv 16) (pv 11)) paq_nil star_B) star_B) star_T) star_T) star_N)))) pss_nil) (@pss_cons _ _ _ _ _ (@ps_set _ _ (17) _ _ _ _ sc_l_loop.nd rfl (Or.inl rfl) (@pe_ix _ _ _ _ _ _ _ ix_list (pv 1) (@pe_op _ _ _ _ _ _ _ _ op_mod (@pe_op _ _ _ _ _ _ _ _ op_add (pv 6) pe_int) (@pe_callB _ _ _ _ _ _ _ _ _ call_len_seq (by rfl) T.z_len bt_len (@pa_cons _ _ _ _ _ (pv 1) pa_nil (by rfl)) (by decide) (by decide) (by rfl) (by rfl))) (fun _ _ => rfl)) (by rfl) (by first | exact .inl rfl | exact .inr rfl | assumption)) (@pss_cons _ _ _ _ _ (@ps_set _ _ (12) _ _ _ _ sc_l_loop.nd rfl (Or.inl rfl) (@pe_op _ _ _ _ _ _ _ _ op_add (@pe_op _ _ _ _ _ _ _ _ op_add (@pe_op _ _ _ _ _ _ _ _ op_add (pv 15) (pv 11)) pe_int) (pv 4)) (by rfl) (by first | exact .inl rfl | exact .inr rfl | assumption)) (@pss_one _ _ _ (@ps_ret _ _ _ _ (@pe_tupq _ _ _ _ _ (@paq_cons _ _ _ _ _ (pv 10) (@paq_cons _ _ _ _ _ (@pe_tup _ _ _ _ _ (@pa_cons _ _ _ _ _ (pv 13) (@pa_cons _ _ _ _ _ (pv 11) pa_nil (by rfl)) (by rfl))) (@paq_cons _ _ _ _ _ (@pe_tup _ _ _ _ _ (@pa_cons _ _ _ _ _ (@pe_ix _ _ _ _ _ _ _ ix_tup (pv 17) pe_int (fun _ _ => rfl)) (@pa_cons _ _ _ _ _ (@pe_op _ _ _ _ _ _ _ _ op_sub (pv 12) (@pe_ix _ _ _ _ _ _ _ ix_tup (pv 17) pe_int (fun _ _ => rfl))) pa_nil (by rfl)) (by rfl))) (@paq_cons _ _ _ _ _ (@pe_op _ _ _ _ _ _ _ _ op_add (pv 15) (pv 11)) (@paq_cons _ _ _ _ _ (pv 12) paq_nil star_N) star_B) star_T) star_T) star_N))))))))))))))))), ?_⟩
  refine ⟨_, rfl, szl (by show 7 ≤ 1000000; decide), fun d1 hd1 => ?_⟩
  have s1 := same_new hd1 (.lst [V.int 5, V.int 5, V.int 3, V.int 12, V.int 3, V.int 26, V.int 40])
  refine ⟨cell, d1, [5, 5, 3, 12, 3, 26, 40], rfl, upd_same, c0, by decide, by decide, fun r1 H1 ds e1 hr1 dl db => ?_⟩
  obtain ⟨x0, x1, x2, x3, x4, x5, x6, rfl⟩ : ∃ x0 x1 x2 x3 x4 x5 x6, ds = [x0, x1, x2, x3, x4, x5, x6] := by
    match ds, dl with
    | [x0, x1, x2, x3, x4, x5, x6], _ => exact ⟨x0, x1, x2, x3, x4, x5, x6, rfl⟩
  have b0 := db 0 x0 5 rfl rfl
  have b1 := db 1 x1 5 rfl rfl
  have b2 := db 2 x2 3 rfl rfl
  have b3 := db 3 x3 12 rfl rfl
  have b4 := db 4 x4 3 rfl rfl
  have b5 := db 5 x5 26 rfl rfl
  have b6 := db 6 x6 40 rfl rfl
  clear db dl
  refine ⟨r1, _, rfl, hr1, rfl, _, _, rfl, _, _, rfl, _, _, rfl, _, _, rfl, _, _, rfl, _, _, rfl, _, _, rfl, rfl, ?_⟩
  dsimp only [gName]
  have eH1 := s1.trans e1
  clear s1 e1 hr1 hd1
  have at5 : atI (cds abc) x5 = some (letC x5) := by
    have := abc_at x5
    rwa [show x5 % 26 = x5 by omega] at this
  refine ⟨_, rfl, _, rfl, abc, _, _, rfl, rfl, abc_len, at5, _, rfl, _, rfl, _, _, rfl, rfl, (by show (0 : Int) < 26; decide), abc, _, _, rfl, rfl, abc_len, abc_at x6, _, rfl, _, _, rfl, rfl, ⟨by decide, by decide⟩, _, _, rfl, rfl, by omega, by omega, by rw [one_len]; decide, _, _, rfl, rfl, szl (by rw [one_len, mul_len]; omega), ?_⟩
  have z0l : ((⟨#[letC x5]⟩ : Str) ++ Txt.mul ⟨#[letC x6]⟩ (x6 / 26)).length ≤ 2 := by rw [sLen, one_len, mul_len]; omega
  generalize (⟨#[letC x5]⟩ : Str) ++ Txt.mul ⟨#[letC x6]⟩ (x6 / 26) = z0 at z0l
  obtain ⟨xs, hll0, ax0⟩ := hL
  have xl := ax0.1
  have eq1 : ("q" : Str).length = 1 := by decide +kernel
  dsimp only [gName]
  refine seq_any (fun σ' H' => Same H H' ∧ ∃ nm : Str, σ' = [some (.int cell), some (.ref ll), some (.int x0), some (.int x1), some (.int x2), some (.int x3), some (.int x4), some (.int x5), some (.int x6), some (.str abc), some (.str nm), none, none, none, none, none, none, none] ∧ nm.length ≤ 10) (fun σ' H2 pp => ?_) (fun nx => ?_)
  rotate_left
  · refine while_ix L.length (fun i σ' H' => Same H H' ∧ σ' = [some (.int cell), some (.ref ll), some (.int x0), some (.int x1), some (.int x2), some (.int x3), some (.int x4), some (.int x5), some (.int x6), some (.str abc), some (.str (grow z0 i)), none, none, none, none, none, none, none] ∧ ∀ j < i, grow z0 j ∈ L.map (·.nm)) ⟨eH1, rfl, fun j hj => absurd hj (Nat.not_lt_zero _)⟩ (fun i σ' H' hi pp => ?_) (MT.test (ME.op (MR.isIn _ _) (ME.var _) (ME.comp fun σ H R R' h ⟨v, e, a, r, s, k⟩ => ⟨v, e, a, r, s, h _ _ k⟩)))
    obtain ⟨e, rfl, hj⟩ := pp
    have gl := grow_len z0 i
    refine ⟨_, rfl, _, rfl, ll, rfl, ⟨_, SqL.of (e _ _ hll0)⟩, ?_⟩
    refine comp_list (xs := xs) (fun k ys H2 => H2 = H' ∧ ys = ((L.take k).map (·.nm)).map V.str) ⟨rfl, rfl⟩ (szl (by omega)) (fun k ys H2 hk pp => ⟨by rw [pp.1]; exact SqL.of (e _ _ hll0), by rw [pp.2, List.length_map, List.length_map, List.length_take]; omega⟩) (fun k x ys H2 hx pp => ?_) (fun ys H2 pp p hp => ?_)
    · obtain ⟨rfl, rfl⟩ := pp
      obtain ⟨qq, hq, t, ta, tb, rfl, ht, _, _⟩ := ax0.get' hx
      refine ⟨_, rfl, t, _, 0, _, rfl, rfl, SqT.of (e _ _ ht), rfl, rfl, ?_⟩
      rw [take_snoc hq, List.map_append, List.map_append]
      rfl
    obtain ⟨rfl, rfl⟩ := pp
    rw [List.take_of_length_le (by omega)]
    have s2 := same_new hp (.lst ((L.map (·.nm)).map V.str))
    refine ⟨p, _, rfl, .inl (SqL.of upd_same), rfl, ?_, _, rfl, ?_⟩
    · rw [List.all_eq_true]
      intro y hy
      obtain ⟨n, _, rfl⟩ := List.mem_map.mp hy
      rfl
    refine ite2 (fun c => ?_) (fun c => ?_)
    · have c : grow z0 i ∈ L.map (·.nm) := (inV_ss _ _).mp c
      have hj' : ∀ j < i + 1, grow z0 j ∈ L.map (·.nm) := fun j hj2 => by
        rcases Nat.lt_or_ge j i with z | z
        · exact hj j z
        · rw [show j = i by omega]; exact c
      have few := grow_few hj'
      rw [List.length_map] at few
      exact ⟨by omega, _, rfl, _, _, rfl, rfl, szl (by rw [gl, eq1]; omega), e.trans s2, rfl, hj'⟩
    · exact nx _ _ ⟨e.trans s2, grow z0 i, rfl, by omega⟩
  obtain ⟨e, nm, rfl, nl⟩ := pp
  refine ⟨_, rfl, _, _, rfl, rfl, ?_⟩
  dsimp only [gName]
  have e0l : ("" : Str).length ≤ 10 := by decide +kernel
  have i01 : ∀ b : Bool, (if b then (1 : Int) else 0) = 0 ∨ (if b then (1 : Int) else 0) = 1 := fun b => by cases b <;> decide
  refine ⟨_, rfl, szl (by show 0 ≤ 1000000; decide), fun z hz => ?_⟩
  have s3 := same_new hz (.lst [])
  have e3 := e.trans s3
  have hll3 := e3 _ _ hll0
  have ax3 := ax0.mono fun _ _ y => y.over e3
  have dq := qs_dep L
  refine ⟨.lst (L.map qT), .lst [], qs_tr hll3 ax3, .lst (SqL.of upd_same) .nil, ⟨_, rfl⟩, ⟨_, rfl⟩, by rw [simT]; exact qs_sim L [], by rw [depT]; omega, _, rfl, ?_⟩
  generalize upd H2 z (.lst []) = H3 at s3 e3 hll3 ax3
  cases L with
  | nil =>
    refine iteE (v := true) rfl (iteT ?_)
    obtain ⟨y, hy, ey⟩ := pickN (L := [1, 2, 0]) (i := x2) 3 rfl b2.1 b2.2
    have hy : y = 1 ∨ y = 2 ∨ y = 0 := by simpa using hy
    refine ⟨_, rfl, szl (by show 3 ≤ 1000000; decide), fun l hl => ⟨_, rfl, l, _, _, _, rfl, rfl, SqL.of upd_same, ey, _, _, rfl, rfl, _, rfl, rfl, .inr ⟨_, rfl, _, _, rfl, rfl, .inl ⟨by decide, by decide⟩, _, _, rfl, rfl, ?_⟩⟩⟩
    have s4 := same_new hl (.lst [V.int 1, V.int 2, V.int 0])
    have e4 := e3.trans s4
    dsimp only [gName]
    have k1 := i01 (decide (V.int x3 = V.int 5))
    generalize (if decide (V.int x3 = V.int 5) = true then (1 : Int) else 0) = u at k1
    refine ⟨_, rfl, _, rfl, szl (by show 2 ≤ 1000000; decide), fun ta hta => ⟨_, rfl, szl (by show 2 ≤ 1000000; decide), fun tb htb => ⟨_, rfl, _, rfl, szl (by show 5 ≤ 1000000; decide), fun r hr => ?_⟩⟩⟩
    have m := LqAt.made (nm := nm) (f := x1 - 2) (l := x1 - 2 + y - 3 * u) hta htb hr
    exact q r _ _ (e4.trans m.1) m.2 ⟨lq_ok (lq0 (u := 3 * u) b1 (by rcases hy with rfl | rfl | rfl <;> decide) (by rcases k1 with rfl | rfl <;> decide)) nl e0l e0l, .inl rfl, .inl rfl, by show -(5 + 20 * (0 : Int)) ≤ x1 - 2 ∧ x1 - 2 ≤ 5 + 20 * (0 : Int); omega, by show -(5 + 20 * (0 : Int)) ≤ x1 - 2 + y - 3 * u ∧ x1 - 2 + y - 3 * u ≤ 5 + 20 * (0 : Int); omega⟩
  | cons q0 L' =>
    refine iteE (v := false) rfl (iteF ?_)
    generalize hLL : q0 :: L' = L at *
    have Lp : 0 < L.length := by rw [← hLL]; exact Nat.succ_pos _
    clear hLL
    have pick : ∀ x : Int, ∃ (io : Nat) (qo : Lq) (t ta tb : Addr), L[io]? = some qo ∧ atI xs (x % (xs.length : Int)) = some (.ref t) ∧ H3 t = some (.tup [.str qo.nm, .ref ta, .ref tb, .int qo.fi, .int qo.la]) ∧ io < L.length := fun x => by
      have m0 := Int.emod_nonneg x (show (xs.length : Int) ≠ 0 by omega)
      have m1 := Int.emod_lt_of_pos x (show (0 : Int) < (xs.length : Int) by omega)
      obtain ⟨io, hio⟩ : ∃ io : Nat, x % (xs.length : Int) = (io : Int) := ⟨(x % (xs.length : Int)).toNat, by omega⟩
      have hil : io < L.length := by omega
      have hq : L[io]? = some L[io] := List.getElem?_eq_getElem hil
      obtain ⟨y, hy, t, ta, tb, rfl, ht, _, _⟩ := ax3.get hq
      exact ⟨io, L[io], t, ta, tb, hq, by rw [hio]; exact atI_nat hy, ht, hil⟩
    obtain ⟨io, qo, t, ta, tb, hqo, ato, ht, hio⟩ := pick x4
    have ok := okL io qo hqo
    have mqo := List.mem_of_getElem? hqo
    have okf := ok.f
    have oka := ok.a
    have okn := ok.n
    have pos : (0 : Int) < (xs.length : Int) := by omega
    refine ⟨_, rfl, _, rfl, _, rfl, ll, _, rfl, .inl (SqL.of hll3), _, _, rfl, rfl, pos, ll, _, _, _, rfl, rfl, SqL.of hll3, ato, t, _, rfl, SqT.of ht, rfl, _, _, rfl, _, _, rfl, _, _, rfl, _, _, rfl, _, _, rfl, rfl, ?_⟩
    dsimp only [gName]
    have k1 := i01 (decide (V.int x3 = V.int 5))
    refine ⟨_, rfl, rfl, _, rfl, ite2 (fun _ => ?_) (fun _ => ?_)⟩
    · refine ⟨_, rfl, _, rfl, _, _, rfl, rfl, (by show (0 : Int) < 2; decide), _, _, rfl, rfl, _, rfl, rfl, .inr ⟨_, rfl, _, _, rfl, rfl, .inl ⟨by decide, by decide⟩, _, _, rfl, rfl, ?_⟩⟩
      dsimp only [gName]
      generalize (if decide (V.int x3 = V.int 5) = true then (1 : Int) else 0) = u at k1
      have m2 : 0 ≤ x2 % 2 ∧ x2 % 2 < 2 := ⟨by omega, by omega⟩
      generalize x2 % 2 = y at m2
      refine ⟨_, rfl, _, rfl, szl (by show 2 ≤ 1000000; decide), fun ta hta => ⟨_, rfl, szl (by show 2 ≤ 1000000; decide), fun tb htb => ⟨_, rfl, _, rfl, szl (by show 5 ≤ 1000000; decide), fun r hr => ?_⟩⟩⟩
      have m := LqAt.made (nm := nm) (f := x1 - 2) (l := x1 - 2 + y - 2 * u) hta htb hr
      exact q r _ _ (e3.trans m.1) m.2 ⟨lq_ok (lq0 (u := 2 * u) b1 ⟨m2.1, Int.le_of_lt m2.2⟩ (by rcases k1 with rfl | rfl <;> decide)) nl e0l e0l, .inl rfl, .inl rfl, by show -(5 + 20 * (L.length : Int)) ≤ x1 - 2 ∧ x1 - 2 ≤ 5 + 20 * (L.length : Int); omega, by show -(5 + 20 * (L.length : Int)) ≤ x1 - 2 + y - 2 * u ∧ x1 - 2 + y - 2 * u ≤ 5 + 20 * (L.length : Int); omega⟩
    refine ⟨_, rfl, rfl, _, rfl, ite2 (fun _ => ?_) (fun _ => ?_)⟩
    · refine seq_any (fun σ' H' => H' = H3 ∧ ∃ u : Int, (-2 ≤ u ∧ u ≤ 1) ∧ σ' = [some (.int cell), some (.ref ll), some (.int x0), some (.int x1), some (.int x2), some (.int x3), some (.int x4), some (.int x5), some (.int u), some (.str abc), some (.str nm), some (.int (x1 - 2)), some (.ref tb), some (.str qo.nm), some (.ref ta), some (.int qo.fi), some (.int qo.la), none]) (fun σ' H' pp => ?_) (fun nx2 => ?_)
      rotate_left
      · generalize hu : (if decide (V.int x3 = V.int 5) = true then (1 : Int) else 0) = u at k1
        refine ⟨_, rfl, _, _, rfl, rfl, _, rfl, ite2 (fun _ => ?_) (fun c => ?_)⟩
        · have k2 := i01 (decide (qo.la - qo.fi < 3))
          refine ⟨_, rfl, _, rfl, _, _, rfl, rfl, _, _, rfl, rfl, .inr ⟨_, rfl, _, rfl, rfl, .inr ⟨_, rfl, _, _, rfl, rfl, .inl ⟨by decide, by decide⟩, _, _, rfl, rfl, nx2 _ _ ⟨rfl, _, ⟨?_, ?_⟩, rfl⟩⟩⟩⟩
          · show -2 ≤ (if decide (qo.la - qo.fi < 3) = true then (1 : Int) else 0) - 2 * (if decide (V.int x3 = V.int 5) = true then (1 : Int) else 0)
            rw [hu]
            omega
          · show (if decide (qo.la - qo.fi < 3) = true then (1 : Int) else 0) - 2 * (if decide (V.int x3 = V.int 5) = true then (1 : Int) else 0) ≤ 1
            rw [hu]
            omega
        · have k2 : ((if false = true then (1 : Int) else 0)) = 0 := rfl
          refine .inr ⟨_, rfl, _, rfl, rfl, .inr ⟨_, rfl, _, _, rfl, rfl, .inl ⟨by decide, by decide⟩, _, _, rfl, rfl, nx2 _ _ ⟨rfl, _, ⟨?_, ?_⟩, rfl⟩⟩⟩
          · show -2 ≤ (if false = true then (1 : Int) else 0) - 2 * (if decide (V.int x3 = V.int 5) = true then (1 : Int) else 0)
            rw [hu]
            omega
          · show (if false = true then (1 : Int) else 0) - 2 * (if decide (V.int x3 = V.int 5) = true then (1 : Int) else 0) ≤ 1
            rw [hu]
            omega
      obtain ⟨rfl, u, hu, rfl⟩ := pp
      refine ⟨_, rfl, _, rfl, _, rfl, szl (by show 2 ≤ 1000000; decide), fun a1 ha1 => ⟨_, rfl, _, rfl, _, rfl, _, _, rfl, rfl, szl (by show 2 ≤ 1000000; decide), fun a2 ha2 => ⟨_, rfl, _, rfl, _, _, rfl, rfl, _, rfl, _, rfl, _, _, rfl, rfl, _, rfl, _, _, rfl, rfl, szl (by show 5 ≤ 1000000; decide), fun r hr => ?_⟩⟩⟩
      have m := LqAt.made (nm := nm) (f := qo.fi + (x1 - 2)) (l := qo.la + (x1 - 2) + u) ha1 ha2 hr
      exact q r _ _ (e3.trans m.1) m.2 ⟨lq_ok (lq1 b1 hu hio l2 okf oka) nl okn okn, .inr ⟨qo, mqo, rfl⟩, .inr ⟨qo, mqo, rfl⟩, by show -(5 + 20 * (L.length : Int)) ≤ x1 - 2 ∧ x1 - 2 ≤ 5 + 20 * (L.length : Int); omega, by show -(5 + 20 * (L.length : Int)) ≤ x1 - 2 + u ∧ x1 - 2 + u ≤ 5 + 20 * (L.length : Int); omega⟩
    refine ⟨_, rfl, rfl, _, rfl, ite2 (fun _ => ?_) (fun _ => ?_)⟩
    · have k2 := i01 (decide (V.int (x3 % 3) = V.int 1))
      refine ⟨_, rfl, _, rfl, _, _, rfl, rfl, _, rfl, _, _, rfl, rfl, (by show (0 : Int) < 3; decide), rfl, .inr ⟨_, rfl, _, _, rfl, rfl, ?_⟩⟩
      dsimp only [gName]
      generalize (if decide (V.int (x3 % 3) = V.int 1) = true then (1 : Int) else 0) = u at k2
      refine ⟨_, rfl, _, rfl, _, rfl, szl (by show 2 ≤ 1000000; decide), fun a1 ha1 => ⟨_, rfl, szl (by show 2 ≤ 1000000; decide), fun a2 ha2 => ⟨_, rfl, _, rfl, _, _, rfl, rfl, _, rfl, szl (by show 5 ≤ 1000000; decide), fun r hr => ?_⟩⟩⟩
      have m := LqAt.made (nm := nm) (f := qo.fi + (x1 - 2)) (l := qo.la + (x1 - 2) - u) ha1 ha2 hr
      exact q r _ _ (e3.trans m.1) m.2 ⟨lq_ok (lq2 b1 k2 hio l2 okf oka) nl okn e0l, .inr ⟨qo, mqo, rfl⟩, .inl rfl, by show -(5 + 20 * (L.length : Int)) ≤ x1 - 2 ∧ x1 - 2 ≤ 5 + 20 * (L.length : Int); omega, by show -(5 + 20 * (L.length : Int)) ≤ qo.la + (x1 - 2) - u ∧ qo.la + (x1 - 2) - u ≤ 5 + 20 * (L.length : Int); omega⟩
    refine ⟨_, rfl, rfl, _, rfl, ite2 (fun _ => ?_) (fun _ => ?_)⟩
    · refine ⟨_, rfl, _, rfl, _, rfl, _, _, rfl, rfl, szl (by show 2 ≤ 1000000; decide), fun a1 ha1 => ⟨_, rfl, _, rfl, szl (by show 2 ≤ 1000000; decide), fun a2 ha2 => ⟨_, rfl, _, rfl, _, _, rfl, rfl, _, rfl, _, rfl, _, _, rfl, rfl, szl (by show 5 ≤ 1000000; decide), fun r hr => ?_⟩⟩⟩
      have m := LqAt.made (nm := nm) (f := qo.fi + (x1 - 2)) (l := qo.la + (x1 - 2)) ha1 ha2 hr
      exact q r _ _ (e3.trans m.1) m.2 ⟨lq_ok (lq3 b1 hio l2 okf oka) nl e0l okn, .inl rfl, .inr ⟨qo, mqo, rfl⟩, by show -(5 + 20 * (L.length : Int)) ≤ qo.fi + (x1 - 2) ∧ qo.fi + (x1 - 2) ≤ 5 + 20 * (L.length : Int); omega, by show -(5 + 20 * (L.length : Int)) ≤ x1 - 2 ∧ x1 - 2 ≤ 5 + 20 * (L.length : Int); omega⟩
    obtain ⟨i2, q2, t2, ta2, tb2, hq2, at2, ht2, hi2⟩ := pick (x4 + 1)
    have ok2 := okL i2 q2 hq2
    have mq2 := List.mem_of_getElem? hq2
    have oka2 := ok2.a
    refine ⟨_, rfl, _, rfl, _, _, rfl, rfl, _, rfl, ll, _, rfl, .inl (SqL.of hll3), _, _, rfl, rfl, pos, ll, _, _, _, rfl, rfl, SqL.of hll3, at2, ?_⟩
    dsimp only [gName]
    refine ⟨_, rfl, _, rfl, _, _, rfl, rfl, _, _, rfl, rfl, _, rfl, _, _, rfl, rfl, ?_⟩
    dsimp only [gName]
    refine ⟨_, rfl, _, rfl, _, rfl, szl (by show 2 ≤ 1000000; decide), fun a1 ha1 => ?_⟩
    have n1 := same_new ha1 (.tup [V.str qo.nm, V.int (x1 - 2)])
    refine ⟨_, rfl, t2, _, 0, _, rfl, rfl, SqT.of (n1 _ _ ht2), rfl, _, rfl, _, rfl, t2, _, 4, _, rfl, rfl, SqT.of (n1 _ _ ht2), rfl, _, _, rfl, rfl, szl (by show 2 ≤ 1000000; decide), fun a2 ha2 => ⟨_, rfl, _, rfl, _, _, rfl, rfl, _, rfl, szl (by show 5 ≤ 1000000; decide), fun r hr => ?_⟩⟩
    have m := LqAt.made (nm := nm) (f := qo.fi + (x1 - 2)) (l := qo.fi + (x1 - 2) + 1 + x2) ha1 ha2 hr
    exact q r _ _ (e3.trans m.1) m.2 ⟨lq_ok (lq4 b1 b2 hio hi2 l2 okf oka2) nl okn ok2.n, .inr ⟨qo, mqo, rfl⟩, .inr ⟨q2, mq2, rfl⟩, by show -(5 + 20 * (L.length : Int)) ≤ x1 - 2 ∧ x1 - 2 ≤ 5 + 20 * (L.length : Int); omega, by show -(5 + 20 * (L.length : Int)) ≤ qo.fi + (x1 - 2) + 1 + x2 - q2.la ∧ qo.fi + (x1 - 2) + 1 + x2 - q2.la ≤ 5 + 20 * (L.length : Int); omega⟩

theorem ok_told62 (T : Tx K mg a) : FnOk P w K mg base CX0 1 a.f_l_told a.d_l_told ["_law_spot", "_law_scale", "_law_base"] spTold62 := by
  refine T.F_l_told.ok sc_l_told (fun vs H Q E h => ?_) (fun cdv A outer s H vs Q E hr h => ?_)
  · obtain ⟨_, _, _, rfl, _⟩ := h; rfl
  obtain ⟨x, b, ⟨z, n⟩, rfl, ⟨t, rfl, ht⟩, q⟩ := h
  refine ⟨_, (@pss_cons _ _ _ _ _ (@ps_if _ _ _ _ _ _ _ _ (@pt_cmpR _ _ _ _ _ _ _ _ op_eq (@pe_ix _ _ _ _ _ _ _ ix_tup (pv 0) pe_int (fun _ _ => rfl)) pe_str (@nomark _ _ (by decide) (by decide))) (@pss_one _ _ _ (@ps_ret _ _ _ _ (@pe_tup _ _ _ _ _ (@pa_cons _ _ _ _ _ pe_str (@pa_cons _ _ _ _ _ (@pe_op _ _ _ _ _ _ _ _ op_add (@pe_op _ _ _ _ _ _ _ _ op_mul (pv 1) (@pe_ix _ _ _ _ _ _ _ ix_tup (pv 0) pe_int (fun _ _ => rfl))) (pv 2)) pa_nil (by rfl)) (by rfl))))) pss_nil) (@pss_one _ _ _ (@ps_ret _ _ _ _ (@pe_tup _ _ _ _ _ (@pa_cons _ _ _ _ _ (@pe_ix _ _ _ _ _ _ _ ix_tup (pv 0) pe_int (fun _ _ => rfl)) (@pa_cons _ _ _ _ _ (@pe_op _ _ _ _ _ _ _ _ op_mul (pv 1) (@pe_ix _ _ _ _ _ _ _ ix_tup (pv 0) pe_int (fun _ _ => rfl))) pa_nil (by rfl)) (by rfl)))))), ?_⟩
  refine ⟨_, rfl, t, _, 0, _, rfl, rfl, SqT.of ht, rfl, rfl, _, rfl, ite2 (fun c => ?_) (fun c => ?_)⟩
  · have c : z = "" := by have := of_decide_eq_true c; injection this
    refine ⟨_, rfl, _, rfl, t, _, 1, _, rfl, rfl, SqT.of ht, rfl, _, _, rfl, rfl, .inl ⟨by decide, by decide⟩, _, rfl, _, _, rfl, rfl, szl (by show 2 ≤ 1000000; decide), fun r hr => ?_⟩
    refine q _ _ (same_new hr _) ⟨r, rfl, ?_⟩
    unfold toldS
    rw [if_pos c, upd_same]
    show some (HO.tup [V.str "", V.int (1 * n + b)]) = _
    rw [Int.one_mul]
  · have c : ¬ z = "" := fun e => dF c (congrArg V.str e)
    refine ⟨_, rfl, t, _, 0, _, rfl, rfl, SqT.of ht, rfl, _, rfl, _, rfl, t, _, 1, _, rfl, rfl, SqT.of ht, rfl, _, _, rfl, rfl, .inl ⟨by decide, by decide⟩, szl (by show 2 ≤ 1000000; decide), fun r hr => ?_⟩
    refine q _ _ (same_new hr _) ⟨r, rfl, ?_⟩
    unfold toldS
    rw [if_neg c, upd_same]
    show some (HO.tup [V.str z, V.int (1 * n)]) = _
    rw [Int.one_mul]

theorem ok_toldd62 (T : Tx K mg a) : FnOk P w K mg base CX0 3 a.f_l_told_deeds a.d_l_told_deeds ["_law_deeds_here", "_law_scale", "_law_base"] (spToldD62 a.c_Deed (csOf a)) := by
  have G_Deed_init := ok_dinit (P := P) (w := w) (base := base) T
  have G_Number_init := ok_ninit (P := P) (w := w) (base := base) T
  have G_l_told := ok_told62 (P := P) (w := w) (base := base) T
  refine T.F_l_told_deeds.ok sc_l_told_deeds (fun vs H Q E h => ?_) (fun cdv A outer s H vs Q E hr h => ?_)
  · obtain ⟨_, _, _, _, rfl, _⟩ := h; rfl
  obtain ⟨l, b, xs0, Ds, rfl, hl, aD, n6, D3, q⟩ := h
  refine ⟨_, (@pss_cons _ _ _ _ _ (@ps_set _ _ (3) _ _ _ _ sc_l_told_deeds.nd rfl (Or.inl rfl) (@pe_lst _ _ _ _ pa_nil) (by rfl) (by first | exact .inl rfl | exact .inr rfl | assumption)) (@pss_cons _ _ _ _ _ (@ps_for _ _ _ _ _ _ _ _ PassesOwn.never rfl (@pi_list _ _ _ _ (pv 0)) (pg_tup rfl (pgs_cons (pg_name (i := 4) sc_l_told_deeds.nd rfl (Or.inl rfl)) (pgs_cons (pg_name (i := 5) sc_l_told_deeds.nd rfl (Or.inl rfl)) (pgs_cons (pg_name (i := 6) sc_l_told_deeds.nd rfl (Or.inl rfl)) pgs_nil)))) (@pss_cons _ _ _ _ _ (@ps_set _ _ (7) _ _ _ _ sc_l_told_deeds.nd rfl (Or.inl rfl) (@pe_callTy _ _ _ _ _ _ _ _ _ call_tuple_of (by rfl) T.z_tuple bt_tuple (@pa_cons _ _ _ _ _ (@pe_compB _ _ _ _ _ _ _ ["_law_loop_here"] [none] _ _ _ _ (by rfl) (@pi_list _ _ _ _ (pv 4)) c_l_told_deeds_0 (fun _ _ _ _ _ _ => ⟨(pg_name (i := 0) c_l_told_deeds_0n rfl (Or.inl rfl)), @pts_nil _, (@pe_ix _ _ _ _ _ _ _ (show IxR _ (rIxT K) from ix_tup) (pv 0) pe_int (fun _ _ => rfl))⟩) (by intro _ ; rfl)) pa_nil (by rfl)) (by decide) (by decide) (by rfl) (by rfl)) (by rfl) (by first | exact .inl rfl | exact .inr rfl | assumption)) (@pss_cons _ _ _ _ _ (@ps_set _ _ (8) _ _ _ _ sc_l_told_deeds.nd rfl (Or.inl rfl) (@pe_callTy _ _ _ _ _ _ _ _ _ call_tuple_of (by rfl) T.z_tuple bt_tuple (@pa_cons _ _ _ _ _ (@pe_compB _ _ _ _ _ _ _ ["_law_loop_here", "_law_base", "_law_scale"] [none, some 2, some 1] _ _ _ _ (by rfl) (@pi_list _ _ _ _ (pv 4)) c_l_told_deeds_1 (fun _ _ _ _ _ _ => ⟨(pg_name (i := 0) c_l_told_deeds_1n rfl (Or.inl rfl)), @pts_nil _, (@pe_call _ _ _ _ _ _ _ _ _ _ _ _ _ _ _ _ G_l_told (hr.mono (by omega)) (by rfl) T.m_l_told T.F_l_told.kp T.b_l_told .nil pass0 (@pa_cons _ _ _ _ _ (@pe_ix _ _ _ _ _ _ _ (show IxR _ (rIxT K) from ix_tup) (pv 0) pe_int (fun _ _ => rfl)) (@pa_cons _ _ _ _ _ (pv 2) (@pa_cons _ _ _ _ _ (pv 1) pa_nil (by rfl)) (by rfl)) (by rfl)) (by decide) (by rfl) (by rfl))⟩) (by intro _ ; rfl)) pa_nil (by rfl)) (by decide) (by decide) (by rfl) (by rfl)) (by rfl) (by first | exact .inl rfl | exact .inr rfl | assumption)) (@pss_cons _ _ _ _ _ (@ps_set _ _ (9) _ _ _ _ sc_l_told_deeds.nd rfl (Or.inl rfl) (@pe_callTy _ _ _ _ _ _ _ _ _ call_tuple_of (by rfl) T.z_tuple bt_tuple (@pa_cons _ _ _ _ _ (@pe_compB _ _ _ _ _ _ _ ["_law_loop_here", "_law_base", "_law_scale"] [none, some 2, some 1] _ _ _ _ (by rfl) (@pi_list _ _ _ _ (pv 4)) c_l_told_deeds_2 (fun _ _ _ _ _ _ => ⟨(pg_name (i := 0) c_l_told_deeds_2n rfl (Or.inl rfl)), @pts_nil _, (@pe_call _ _ _ _ _ _ _ _ _ _ _ _ _ _ _ _ G_l_told (hr.mono (by omega)) (by rfl) T.m_l_told T.F_l_told.kp T.b_l_told .nil pass0 (@pa_cons _ _ _ _ _ (@pe_ix _ _ _ _ _ _ _ (show IxR _ (rIxT K) from ix_tup) (pv 0) pe_int (fun _ _ => rfl)) (@pa_cons _ _ _ _ _ (pv 2) (@pa_cons _ _ _ _ _ (pv 1) pa_nil (by rfl)) (by rfl)) (by rfl)) (by decide) (by rfl) (by rfl))⟩) (by intro _ ; rfl)) pa_nil (by rfl)) (by decide) (by decide) (by rfl) (by rfl)) (by rfl) (by first | exact .inl rfl | exact .inr rfl | assumption)) (@pss_one _ _ _ (@ps_expr _ _ _ _ (@pe_bm _ _ _ _ _ _ _ _ _ _ _ _ PySem.F.plainAttrs_list PySem.F.slot_list_append PySem.F.type_list_append mt_append (pv 3) (@pa_cons _ _ _ _ _ (@pe_make _ _ _ _ _ _ _ _ _ _ _ _ _ _ _ _ _ T.mk_Deed G_Deed_init (hr.mono (by omega)) (by rfl) T.mc_Deed T.b_Deed_init .nil pass0 (@pa_cons _ _ _ _ _ (pv 7) (@pa_cons _ _ _ _ _ (pv 8) (@pa_cons _ _ _ _ _ (pv 9) (@pa_cons _ _ _ _ _ pe_str (@pa_cons _ _ _ _ _ (@pe_tup _ _ _ _ _ (@pa_cons _ _ _ _ _ (@pe_tup _ _ _ _ _ (@pa_cons _ _ _ _ _ pe_str (@pa_cons _ _ _ _ _ pe_int pa_nil (by rfl)) (by rfl))) pa_nil (by rfl))) (@pa_cons _ _ _ _ _ (@pe_make _ _ _ _ _ _ _ _ _ _ _ _ _ _ _ _ _ T.mk_Number G_Number_init (hr.mono (by omega)) (by rfl) T.mc_Number T.b_Number_init .nil pass0 (@pa_cons _ _ _ _ _ pe_int pa_nil (by rfl)) (by decide) (by rfl) (by rfl)) (@pa_cons _ _ _ _ _ (pv 5) pa_nil (by rfl)) (by rfl)) (by rfl)) (by rfl)) (by rfl)) (by rfl)) (by rfl)) (by decide) (by rfl) (by rfl)) pa_nil (by rfl)) (by rfl) (by rfl) (by rfl) (by rfl) (by rfl)) (by rfl)))))) (by intro _ ; rfl)) (@pss_one _ _ _ (@ps_ret _ _ _ _ (pv 3))))), ?_⟩
  have xl0 := aD.1
  refine ⟨szl (by show 0 ≤ 1000000; decide), fun fo hfo => ?_⟩
  have e1 := same_new hfo (.lst [])
  have hfo1 : (upd H fo (.lst [])) fo = some (.lst []) := upd_same
  dsimp only [gName]
  generalize upd H fo (.lst []) = H1 at e1 hfo1
  refine ⟨_, rfl, l, rfl, ⟨_, SqL.of (e1 _ _ hl)⟩, ?_⟩
  refine for_list (xs := xs0) (fun i σ' H' => ∃ (ys : List V) (o4 o5 o6 o7 o8 o9 : Option V), σ' = [some (.ref l), some (.int 1), some (.int b), some (.ref fo), o4, o5, o6, o7, o8, o9] ∧ Same H H' ∧ H' fo = some (.lst ys) ∧ All2 (DoAt a.c_Deed (csOf a) H') ys ((Ds.take i).map (dwOf b))) ⟨[], _, _, _, _, _, _, rfl, e1, hfo1, .nil⟩ (fun i σ' H' _ pp => by obtain ⟨_, _, _, _, _, _, _, _, e, _⟩ := pp; exact SqL.of (e _ _ hl)) (fun i x σ' H' hx pp => ?_) (fun σ' H' pp => ?_)
  rotate_left
  · obtain ⟨ys, o4, o5, o6, o7, o8, o9, rfl, e, hy, ay⟩ := pp
    rw [List.take_of_length_le (by omega)] at ay
    exact ⟨_, rfl, q fo ys _ e hy ay⟩
  obtain ⟨ys, o4, o5, o6, o7, o8, o9, rfl, e, hy, ay⟩ := pp
  obtain ⟨D, hD, t, o, pt, rfl, ht, ⟨vs, hvs, av0⟩, hpt⟩ := aD.get' hx
  have d3 := D3 D (List.mem_of_getElem? hD)
  have vl := av0.1
  have yl := ay.1
  rw [List.length_map, List.length_take] at yl
  refine ⟨t, _, rfl, SqT.of (e _ _ ht), rfl, _, _, rfl, _, _, rfl, _, _, rfl, rfl, ?_⟩
  dsimp only [gName]
  have av1 := av0.mono fun _ _ z => z.over e
  have hvs1 := e _ _ hvs
  have hpt1 := e _ _ hpt
  -- the names
  refine ⟨_, rfl, o, rfl, ⟨_, SqL.of hvs1⟩, ?_⟩
  refine comp_list (xs := vs) (fun i ys H2 => H2 = H' ∧ ys = (D.L.take i).map fun t => V.str t.nm) ⟨rfl, rfl⟩ (szl (by omega)) (fun i ys H2 hi pp => ⟨by rw [pp.1]; exact SqL.of hvs1, by rw [pp.2, List.length_map, List.length_take]; omega⟩) (fun i x ys H2 hc pp => ?_) (fun ys1 H2 pp r1 hr1 => ?_)
  · obtain ⟨rfl, rfl⟩ := pp
    obtain ⟨t, ht, q0, xa, xb, rfl, hq0, _, _⟩ := av1.get' hc
    refine ⟨_, rfl, q0, _, 0, _, rfl, rfl, SqT.of hq0, rfl, rfl, ?_⟩
    rw [take_snoc ht, List.map_append]
    rfl
  obtain ⟨rfl, rfl⟩ := pp
  rw [List.take_of_length_le (by omega)]
  refine ⟨r1, _, rfl, .inl ⟨SqL.of upd_same, fun t1 ht1 => ?_⟩⟩
  have s1 := (same_new hr1 (.lst (D.L.map fun t => V.str t.nm))).trans (same_new ht1 (.tup (D.L.map fun t => V.str t.nm)))
  have f1 : (upd (upd H2 r1 (HO.lst (D.L.map fun t => V.str t.nm))) t1 (HO.tup (D.L.map fun t => V.str t.nm))) t1 = some (.tup (D.L.map fun t => V.str t.nm)) := upd_same
  dsimp only [gName]
  generalize upd (upd H2 r1 (HO.lst (D.L.map fun t => V.str t.nm))) t1 (HO.tup (D.L.map fun t => V.str t.nm)) = H3 at s1 f1
  -- the lows
  refine ⟨_, rfl, o, rfl, ⟨_, SqL.of (s1 _ _ hvs1)⟩, ?_⟩
  refine comp_list (xs := vs) (fun i ys H4 => Same H3 H4 ∧ All2 (fun v t => SpoAt H4 v (LpT.lo t)) ys ((D.L.take i).map (lpOf b))) ⟨Same.refl _, .nil⟩ (szl (by omega)) (fun i ys H4 hi pp => ⟨SqL.of (pp.1 _ _ (s1 _ _ hvs1)), by rw [pp.2.1, List.length_map, List.length_take]; omega⟩) (fun i x ys H4 hc pp => ?_) (fun ys2 H4 pp r2 hr2 => ?_)
  · obtain ⟨e4, ay4⟩ := pp
    obtain ⟨t, ht, q0, xa, xb, rfl, hq0, ha, hb⟩ := av1.get' hc
    have e24 := s1.trans e4
    refine ⟨_, rfl, q0, _, 1, _, rfl, rfl, SqT.of (e24 _ _ hq0), rfl, _, rfl, _, rfl, .ref xa, b, t.lo, rfl, ⟨xa, rfl, e24 _ _ ha⟩, fun r H5 e5 hr5 => ⟨e4.trans e5, ?_⟩⟩
    rw [take_snoc ht, List.map_append]
    exact (ay4.mono fun _ _ z => SpoAt.tk (Same.tk e5) z).snoc hr5
  obtain ⟨e4, ay2⟩ := pp
  rw [List.take_of_length_le (by omega)] at ay2
  refine ⟨r2, _, rfl, .inl ⟨SqL.of upd_same, fun t2 ht2 => ?_⟩⟩
  have s2 := (same_new hr2 (.lst ys2)).trans (same_new ht2 (.tup ys2))
  have f2 : (upd (upd H4 r2 (HO.lst ys2)) t2 (HO.tup ys2)) t2 = some (.tup ys2) := upd_same
  have ay2 := ay2.mono fun _ _ z => SpoAt.tk (Same.tk s2) z
  have e25 := s1.trans (e4.trans s2)
  have f1 := (e4.trans s2) _ _ f1
  dsimp only [gName]
  generalize upd (upd H4 r2 (HO.lst ys2)) t2 (HO.tup ys2) = H5 at s2 f2 ay2 e25 f1
  -- the highs
  refine ⟨_, rfl, o, rfl, ⟨_, SqL.of (e25 _ _ hvs1)⟩, ?_⟩
  refine comp_list (xs := vs) (fun i ys H6 => Same H5 H6 ∧ All2 (fun v t => SpoAt H6 v (LpT.hi t)) ys ((D.L.take i).map (lpOf b))) ⟨Same.refl _, .nil⟩ (szl (by omega)) (fun i ys H6 hi pp => ⟨SqL.of (pp.1 _ _ (e25 _ _ hvs1)), by rw [pp.2.1, List.length_map, List.length_take]; omega⟩) (fun i x ys H6 hc pp => ?_) (fun ys3 H6 pp r3 hr3 => ?_)
  · obtain ⟨e6, ay6⟩ := pp
    obtain ⟨t, ht, q0, xa, xb, rfl, hq0, ha, hb⟩ := av1.get' hc
    have e26 := e25.trans e6
    refine ⟨_, rfl, q0, _, 2, _, rfl, rfl, SqT.of (e26 _ _ hq0), rfl, _, rfl, _, rfl, .ref xb, b, t.hi, rfl, ⟨xb, rfl, e26 _ _ hb⟩, fun r H7 e7 hr7 => ⟨e6.trans e7, ?_⟩⟩
    rw [take_snoc ht, List.map_append]
    exact (ay6.mono fun _ _ z => SpoAt.tk (Same.tk e7) z).snoc hr7
  obtain ⟨e6, ay3⟩ := pp
  rw [List.take_of_length_le (by omega)] at ay3
  refine ⟨r3, _, rfl, .inl ⟨SqL.of upd_same, fun t3 ht3 => ?_⟩⟩
  have s3 := (same_new hr3 (.lst ys3)).trans (same_new ht3 (.tup ys3))
  have f3 : (upd (upd H6 r3 (HO.lst ys3)) t3 (HO.tup ys3)) t3 = some (.tup ys3) := upd_same
  have e57 := e6.trans s3
  have ay2 := ay2.mono fun _ _ z => SpoAt.tk (Same.tk e57) z
  have ay3 := ay3.mono fun _ _ z => SpoAt.tk (Same.tk s3) z
  have e27 := e25.trans e57
  have f1 := e57 _ _ f1
  have f2 := e57 _ _ f2
  dsimp only [gName]
  generalize upd (upd H6 r3 (HO.lst ys3)) t3 (HO.tup ys3) = H7 at s3 f3 ay2 ay3 e27 f1 f2
  -- the deed
  have hy7 := e27 _ _ hy
  refine ⟨_, rfl, .inl ⟨rfl, _, SqL.of hy7⟩, _, rfl, _, rfl, _, rfl, szl (by show 2 ≤ 1000000; decide), fun u1 hu1 => ⟨szl (by show 1 ≤ 1000000; decide), fun u2 hu2 => ?_⟩⟩
  have v1 := same_new hu1 (.tup [V.str "", V.int 0])
  have v2 := same_new hu2 (.tup [V.ref u1])
  have g1 : (upd (upd H7 u1 (.tup [V.str "", V.int 0])) u2 (.tup [V.ref u1])) u1 = some (.tup [V.str "", V.int 0]) := v2 _ _ upd_same
  have g2 : (upd (upd H7 u1 (.tup [V.str "", V.int 0])) u2 (.tup [V.ref u1])) u2 = some (.tup [V.ref u1]) := upd_same
  have e79 := v1.trans v2
  generalize upd (upd H7 u1 (.tup [V.str "", V.int 0])) u2 (.tup [V.ref u1]) = H9 at e79 g1 g2
  intro n dn hn hdn hne
  refine ⟨n, dn, _, rfl, upd_same, fun HA kA hnA => ⟨rfl, ?_⟩⟩
  obtain ⟨dxA, hnA⟩ := hnA
  have e9A := made_same hn hdn kA
  have e7A := e79.trans e9A
  refine ⟨_, rfl, ?_⟩
  intro d dd hd hdd hne2
  refine ⟨d, dd, _, _, _, _, _, _, _, rfl, upd_same, fun HB kB hdB => ⟨rfl, ?_⟩⟩
  obtain ⟨dxB, hdB⟩ := hdB
  have eAB := made_same hd hdd kB
  have e7B := e7A.trans eAB
  have e2B := e27.trans e7B
  have hyB := e7B _ _ hy7
  refine ⟨fo, _, _, rfl, rfl, hyB, szlt (by omega), ?_⟩
  have nlB : NL HB (upd HB fo (.lst (ys ++ [V.ref d]))) := NL.upd hyB
  refine ⟨ys ++ [.ref d], _, _, _, _, _, _, rfl, fun a o ha => by rw [upd_ne (ne_of_none ha hfo)]; exact e2B _ _ (e _ _ ha), upd_same, ?_⟩
  rw [take_snoc hD, List.map_append]
  refine ((ay.mono fun _ _ z => DoAt.over e2B z).snoc (a := dwOf b D) ?_).mono fun _ _ z => DoAt.nl nlB z
  have e9B := e9A.trans eAB
  refine ⟨d, dxB, t1, t2, t3, u2, pt, _, ys2, ys3, rfl, hdB, ?_, e7B _ _ f2, ay2.mono fun _ _ z => SpoAt.tk (Same.tk e7B) z, e7B _ _ f3, ay3.mono fun _ _ z => SpoAt.tk (Same.tk e7B) z, ?_, ⟨n, dxA, rfl, eAB _ _ hnA⟩, e2B _ _ hpt1⟩
  · have := e7B _ _ f1
    rw [this]
    show _ = some (HO.tup ((D.L.map (lpOf b)).map _))
    rw [List.map_map]
    rfl
  · exact ⟨_, e9B _ _ g2, All2.one ⟨u1, rfl, e9B _ _ g1⟩⟩

theorem ok_deeds67 (T : Tx K mg a) : FnOk P w K mg base CX0 3 a.f_l_deeds a.d_l_deeds ["_law_script", "_law_first", "_law_count"] (spDeeds67 K) := by
  have G_l_at := ok_at63 (P := P) (w := w) (base := base) T
  have G_l_digits := ok_digits (P := P) (w := w) (base := base) T
  have G_l_loop := ok_loop67 (P := P) (w := w) (base := base) T
  refine T.F_l_deeds.ok sc_l_deeds (fun vs H Q E h => ?_) (fun cdv A outer s H vs Q E hr h => ?_)
  · obtain ⟨_, _, _, _, rfl, _⟩ := h; rfl
  obtain ⟨p, ns, fi, n, rfl, hp, f0, f1, n6, q⟩ := h
  refine ⟨_, (@pss_cons _ _ _ _ _ (@ps_set _ _ (3) _ _ _ _ sc_l_deeds.nd rfl (Or.inl rfl) (@pe_lst _ _ _ _ pa_nil) (by rfl) (by first | exact .inl rfl | exact .inr rfl | assumption)) (@pss_cons _ _ _ _ _ (@ps_for _ _ _ _ _ _ _ _ PassesOwn.never rfl (@pi_range1 _ _ _ _ _ _ (by rfl) T.z_range (@pa_cons _ _ _ _ _ (pv 2) pa_nil (by rfl)) (by rfl)) (pg_name (i := 4) sc_l_deeds.nd rfl (Or.inl rfl)) (@pss_cons _ _ _ _ _ (@ps_asg _ _ _ _ _ _ (@pe_call _ _ _ _ _ _ _ _ _ _ _ _ _ _ _ _ G_l_digits (hr.mono (by omega)) (by rfl) T.m_l_digits T.F_l_digits.kp T.b_l_digits .nil pass0 (@pa_cons _ _ _ _ _ (@pe_call _ _ _ _ _ _ _ _ _ _ _ _ _ _ _ _ G_l_at (hr.mono (by omega)) (by rfl) T.m_l_at T.F_l_at.kp T.b_l_at .nil pass0 (@pa_cons _ _ _ _ _ (pv 0) (@pa_cons _ _ _ _ _ (@pe_op _ _ _ _ _ _ _ _ op_add (pv 1) (@pe_op _ _ _ _ _ _ _ _ op_mul pe_int (pv 4))) pa_nil (by rfl)) (by rfl)) (by decide) (by rfl) (by rfl)) (@pa_cons _ _ _ _ _ (@pe_lst _ _ _ _ (@pa_cons _ _ _ _ _ pe_int (@pa_cons _ _ _ _ _ pe_int pa_nil (by rfl)) (by rfl))) pa_nil (by rfl)) (by rfl)) (by decide) (by rfl) (by rfl)) (pg_lst rfl (pgs_cons (pg_name (i := 5) sc_l_deeds.nd rfl (Or.inl rfl)) (pgs_cons (pg_name (i := 6) sc_l_deeds.nd rfl (Or.inl rfl)) pgs_nil))) (by rfl) (by rfl) (by rfl)) (@pss_cons _ _ _ _ _ (@ps_set _ _ (5) _ _ _ _ sc_l_deeds.nd rfl (Or.inl rfl) (@pe_callB _ _ _ _ _ _ _ _ _ (@call_min2 _ rfl) (by rfl) T.z_min bt_min (@pa_cons _ _ _ _ _ (@pe_ix _ _ _ _ _ _ _ ix_list (@pe_lstq _ _ _ _ (@paq_cons _ _ _ _ _ pe_int (@paq_cons _ _ _ _ _ pe_int (@paq_cons _ _ _ _ _ pe_int (@paq_cons _ _ _ _ _ pe_int (@paq_cons _ _ _ _ _ pe_int (@paq_cons _ _ _ _ _ pe_int (@paq_cons _ _ _ _ _ pe_int paq_nil star_C) star_C) star_C) star_C) star_C) star_C) star_C)) (pv 5) (fun _ _ => rfl)) (@pa_cons _ _ _ _ _ (@pe_op _ _ _ _ _ _ _ _ op_sub pe_int (@pe_callTy _ _ _ _ _ _ _ _ _ call_int1 (by rfl) T.z_int bt_int (@pa_cons _ _ _ _ _ (@pe_cmpR _ _ _ _ _ _ _ _ op_gt (pv 2) pe_int (@nomark _ _ (by decide) (by decide))) pa_nil (by rfl)) (by decide) (by decide) (by rfl) (by rfl))) pa_nil (by rfl)) (by rfl)) (by decide) (by decide) (by rfl) (by rfl)) (by rfl) (by first | exact .inl rfl | exact .inr rfl | assumption)) (@pss_cons _ _ _ _ _ (@ps_set _ _ (7) _ _ _ _ sc_l_deeds.nd rfl (Or.inl rfl) (@pe_lst _ _ _ _ pa_nil) (by rfl) (by first | exact .inl rfl | exact .inr rfl | assumption)) (@pss_cons _ _ _ _ _ (@ps_set _ _ (8) _ _ _ _ sc_l_deeds.nd rfl (Or.inl rfl) (@pe_tup _ _ _ _ _ (@pa_cons _ _ _ _ _ pe_int pa_nil (by rfl))) (by rfl) (by first | exact .inl rfl | exact .inr rfl | assumption)) (@pss_cons _ _ _ _ _ (@ps_set _ _ (9) _ _ _ _ sc_l_deeds.nd rfl (Or.inl rfl) (@pe_lst _ _ _ _ pa_nil) (by rfl) (by first | exact .inl rfl | exact .inr rfl | assumption)) (@pss_cons _ _ _ _ _ (@ps_if _ _ _ _ _ _ _ _ (@pt_cmpR _ _ _ _ _ _ _ _ op_eq (pv 4) pe_int (@nomark _ _ (by decide) (by decide))) (@pss_one _ _ _ (@ps_set _ _ (6) _ _ _ _ sc_l_deeds.nd rfl (Or.inl rfl) pe_int (by rfl) (by first | exact .inl rfl | exact .inr rfl | assumption))) (@pss_cons _ _ _ _ _ (@ps_set _ _ (9) _ _ _ _ sc_l_deeds.nd rfl (Or.inl rfl) (@pe_ix _ _ _ _ _ _ _ ix_tup (@pe_ix _ _ _ _ _ _ _ ix_list (pv 3) (@pe_op _ _ _ _ _ _ _ _ op_sub (pv 4) pe_int) (fun _ _ => rfl)) pe_int (fun _ _ => rfl)) (by rfl) (by first | exact .inl rfl | exact .inr rfl | assumption)) (@pss_cons _ _ _ _ _ (@ps_set _ _ (6) _ _ _ _ sc_l_deeds.nd rfl (Or.inl rfl) (@pe_callB _ _ _ _ _ _ _ _ _ (@call_min3 _ rfl) (by rfl) T.z_min bt_min (@pa_cons _ _ _ _ _ (pv 6) (@pa_cons _ _ _ _ _ (@pe_callB _ _ _ _ _ _ _ _ _ call_len_seq (by rfl) T.z_len bt_len (@pa_cons _ _ _ _ _ (pv 9) pa_nil (by rfl)) (by decide) (by decide) (by rfl) (by rfl)) (@pa_cons _ _ _ _ _ (pv 5) pa_nil (by rfl)) (by rfl)) (by rfl)) (by decide) (by decide) (by rfl) (by rfl)) (by rfl) (by first | exact .inl rfl | exact .inr rfl | assumption)) (@pss_cons _ _ _ _ _ (@ps_set _ _ (7) _ _ _ _ sc_l_deeds.nd rfl (Or.inl rfl) (@pe_slice _ _ _ _ _ _ _ _ _ _ sl_list (pv 9) po_none (@po_some _ _ _ (pv 6))) (by rfl) (by first | exact .inl rfl | exact .inr rfl | assumption)) (@pss_one _ _ _ (@ps_set _ _ (8) _ _ _ _ sc_l_deeds.nd rfl (Or.inl rfl) (@pe_op _ _ _ _ _ _ _ _ op_catH (@pe_slice _ _ _ _ _ _ _ _ _ _ sl_tupH (@pe_ix _ _ _ _ _ _ _ ix_tup (@pe_ix _ _ _ _ _ _ _ ix_list (pv 3) (@pe_op _ _ _ _ _ _ _ _ op_sub (pv 4) pe_int) (fun _ _ => rfl)) pe_int (fun _ _ => rfl)) po_none (@po_some _ _ _ (pv 6))) (@pe_tup _ _ _ _ _ (@pa_cons _ _ _ _ _ (@pe_op _ _ _ _ _ _ _ _ op_add (@pe_ix _ _ _ _ _ _ _ ix_tup (@pe_ix _ _ _ _ _ _ _ ix_tup (@pe_ix _ _ _ _ _ _ _ ix_list (pv 3) (@pe_op _ _ _ _ _ _ _ _ op_sub (pv 4) pe_int) (fun _ _ => rfl)) pe_int (fun _ _ => rfl)) (pv 6) (fun _ _ => rfl)) pe_int) pa_nil (by rfl)))) (by rfl) (by first | exact .inl rfl | exact .inr rfl | assumption))))))) (@pss_cons _ _ _ _ _ (@ps_while _ _ _ _ _ _ PassesOwn.never (@pt_cmpR _ _ _ _ _ _ _ _ op_lt (@pe_callB _ _ _ _ _ _ _ _ _ call_len_seq (by rfl) T.z_len bt_len (@pa_cons _ _ _ _ _ (pv 7) pa_nil (by rfl)) (by decide) (by decide) (by rfl) (by rfl)) (pv 5) (@nomark _ _ (by decide) (by decide))) (@pss_cons _ _ _ _ _ (@ps_set _ _ (10) _ _ _ _ sc_l_deeds.nd rfl (Or.inl rfl) (@pe_call _ _ _ _ _ _ _ _ _ _ _ _ _ _ _ _ G_l_at (hr.mono (by omega)) (by rfl) T.m_l_at T.F_l_at.kp T.b_l_at .nil pass0 (@pa_cons _ _ _ _ _ (pv 0) (@pa_cons _ _ _ _ _ (@pe_op _ _ _ _ _ _ _ _ op_add (@pe_op _ _ _ _ _ _ _ _ op_add (@pe_op _ _ _ _ _ _ _ _ op_add (pv 1) (@pe_op _ _ _ _ _ _ _ _ op_mul pe_int (pv 4))) pe_int) (@pe_callB _ _ _ _ _ _ _ _ _ call_len_seq (by rfl) T.z_len bt_len (@pa_cons _ _ _ _ _ (pv 7) pa_nil (by rfl)) (by decide) (by decide) (by rfl) (by rfl))) pa_nil (by rfl)) (by rfl)) (by decide) (by rfl) (by rfl)) (by rfl) (by first | exact .inl rfl | exact .inr rfl | assumption)) (@pss_cons _ _ _ _ _ (@ps_if _ _ _ _ _ _ _ _ ((@pw_and _ _ _ _ _ _ _ (@pt_cmpR _ _ _ _ _ _ _ _ (@op_eqS _ (@hu64 _ _ hr)) (@pe_slice _ _ _ _ _ _ _ _ _ _ sl_list (pv 9) po_none (@po_some _ _ _ (@pe_callB _ _ _ _ _ _ _ _ _ call_len_seq (by rfl) T.z_len bt_len (@pa_cons _ _ _ _ _ (pv 7) pa_nil (by rfl)) (by decide) (by decide) (by rfl) (by rfl)))) (pv 7) (@nomark _ _ (by decide) (by decide))) (@pw_and _ _ _ _ _ _ _ (@pt_cmpR _ _ _ _ _ _ _ _ op_gt (@pe_callB _ _ _ _ _ _ _ _ _ call_len_seq (by rfl) T.z_len bt_len (@pa_cons _ _ _ _ _ (pv 9) pa_nil (by rfl)) (by decide) (by decide) (by rfl) (by rfl)) (@pe_callB _ _ _ _ _ _ _ _ _ call_len_seq (by rfl) T.z_len bt_len (@pa_cons _ _ _ _ _ (pv 7) pa_nil (by rfl)) (by decide) (by decide) (by rfl) (by rfl)) (@nomark _ _ (by decide) (by decide))) (@pw_and1 _ _ _ _ (@pt_cmpR _ _ _ _ _ _ _ _ op_eq (@pe_op _ _ _ _ _ _ _ _ op_mod (@pe_op _ _ _ _ _ _ _ _ op_fdiv (pv 10) pe_int) pe_int) pe_int (@nomark _ _ (by decide) (by decide))))))).pt (@pss_one _ _ _ (@ps_set _ _ (7) _ _ _ _ sc_l_deeds.nd rfl (Or.inl rfl) (@pe_op _ _ _ _ _ _ _ _ op_cat (pv 7) (@pe_lst _ _ _ _ (@pa_cons _ _ _ _ _ (@pe_ix _ _ _ _ _ _ _ ix_list (pv 9) (@pe_callB _ _ _ _ _ _ _ _ _ call_len_seq (by rfl) T.z_len bt_len (@pa_cons _ _ _ _ _ (pv 7) pa_nil (by rfl)) (by decide) (by decide) (by rfl) (by rfl)) (fun _ _ => rfl)) pa_nil (by rfl)))) (by rfl) (by first | exact .inl rfl | exact .inr rfl | assumption))) (@pss_one _ _ _ (@ps_set _ _ (7) _ _ _ _ sc_l_deeds.nd rfl (Or.inl rfl) (@pe_op _ _ _ _ _ _ _ _ op_cat (pv 7) (@pe_lst _ _ _ _ (@pa_cons _ _ _ _ _ (@pe_call _ _ _ _ _ _ _ _ _ _ _ _ _ _ _ _ G_l_loop (hr.mono (by omega)) (by rfl) T.m_l_loop T.F_l_loop.kp T.b_l_loop .nil pass0 (@pa_cons _ _ _ _ _ (pv 10) (@pa_cons _ _ _ _ _ (pv 7) pa_nil (by rfl)) (by rfl)) (by decide) (by rfl) (by rfl)) pa_nil (by rfl)))) (by rfl) (by first | exact .inl rfl | exact .inr rfl | assumption)))) (@pss_one _ _ _ (@ps_set _ _ (8) _ _ _ _ sc_l_deeds.nd rfl (Or.inl rfl) (@pe_op _ _ _ _ _ _ _ _ op_catH (pv 8) (@pe_tup _ _ _ _ _ (@pa_cons _ _ _ _ _ pe_int pa_nil (by rfl)))) (by rfl) (by first | exact .inl rfl | exact .inr rfl | assumption)))))) (@pss_one _ _ _ (@ps_expr _ _ _ _ (@pe_bm _ _ _ _ _ _ _ _ _ _ _ _ PySem.F.plainAttrs_list PySem.F.slot_list_append PySem.F.type_list_append mt_append (pv 3) (@pa_cons _ _ _ _ _ (@pe_tupq _ _ _ _ _ (@paq_cons _ _ _ _ _ (pv 7) (@paq_cons _ _ _ _ _ (pv 8) (@paq_cons _ _ _ _ _ (pv 6) paq_nil star_N) star_N) star_N)) pa_nil (by rfl)) (by rfl) (by rfl) (by rfl) (by rfl) (by rfl)) (by rfl)))))))))) (by intro _ ; rfl)) (@pss_one _ _ _ (@ps_ret _ _ _ _ (pv 3))))), ?_⟩
  have ne_of_none' : ∀ {HH : Hp} {x y : Addr} {o : HO}, HH x = none → HH y = some o → x ≠ y := fun h1 h2 z => by rw [z, h2] at h1; cases h1
  refine ⟨szl (by show 0 ≤ 1000000; decide), fun fo hfo => ?_⟩
  have e1 := same_new hfo (.lst [])
  have hfo1 : (upd H fo (.lst [])) fo = some (.lst []) := upd_same
  dsimp only [gName]
  generalize upd H fo (.lst []) = H1 at e1 hfo1
  refine ⟨_, rfl, (n : Int), rfl, by omega, by omega, ?_⟩
  rw [show ((n : Nat) : Int).toNat = n by omega]
  refine for_range (lo := 0) (n := n) (fun i σ' H' => ∃ (xs : List V) (Ds : List Dq) (o4 o5 o6 o7 o8 o9 o10 : Option V), σ' = [some (.ref p), some (.int fi), some (.int (n : Int)), some (.ref fo), o4, o5, o6, o7, o8, o9, o10] ∧ Same H H' ∧ H' fo = some (.lst xs) ∧ All2 (DqAt (av H' [fo])) xs Ds ∧ Ds.length = i ∧ RowQ7 Ds) ⟨[], [], _, _, _, _, _, _, _, rfl, e1, hfo1, .nil, rfl, RowQ7.nil⟩ (fun i σ' H' hi pp => ?_) (fun σ' H' pp => ?_)
  rotate_left
  · obtain ⟨xs, Ds, o4, o5, o6, o7, o8, o9, o10, rfl, e, hx, ax, dl, rq⟩ := pp
    exact ⟨_, rfl, q fo xs _ Ds e hx (ax.mono fun _ _ z => z.over av_same) dl rq⟩
  obtain ⟨xs, Ds, o4, o5, o6, o7, o8, o9, o10, rfl, e, hx, ax, dl, rq⟩ := pp
  have xsl := ax.1
  rw [Int.zero_add]
  dsimp only [gName]
  refine ⟨_, rfl, _, rfl, _, rfl, _, _, rfl, rfl, .inl ⟨by decide, by decide⟩, _, _, rfl, rfl, p, ns, _, rfl, e.seq hp, by omega, by omega, fun m m0 _ => ⟨szl (by show 2 ≤ 1000000; decide), fun d1 hd1 => ?_⟩⟩
  have s2 := same_new hd1 (.lst [V.int 7, V.int 4])
  refine ⟨m, d1, [7, 4], rfl, upd_same, m0, by decide, by decide, fun r1 H2 ds e2 hr1 dsl db => ?_⟩
  have e2 := s2.trans e2
  obtain ⟨x0, x1, rfl⟩ : ∃ d0 d1, ds = [d0, d1] := by
    match ds, dsl with
    | [x, y], _ => exact ⟨x, y, rfl⟩
  have b0 := db 0 x0 7 rfl rfl
  have b1 := db 1 x1 4 rfl rfl
  clear db dsl
  refine ⟨r1, _, rfl, hr1, rfl, _, _, rfl, _, _, rfl, rfl, ?_⟩
  dsimp only [gName]
  obtain ⟨v7, at7, v70, v71⟩ := seven b0.1 b0.2
  have i01 : ∀ b : Bool, (if b then (1 : Int) else 0) = 0 ∨ (if b then (1 : Int) else 0) = 1 := fun b => by cases b <;> decide
  refine ⟨szl (by show 7 ≤ 1000000; decide), fun l7 hl7 => ⟨_, rfl, l7, _, _, _, rfl, rfl, SqL.of upd_same, at7, _, rfl, _, _, rfl, rfl, .inr ⟨_, rfl, _, _, rfl, rfl, _, _, rfl, ?_⟩⟩⟩
  have s3 := same_new hl7 (.lst [V.int 2, V.int 1, V.int 3, V.int 2, V.int 0, V.int 1, V.int 2])
  have e3 := e2.trans s3
  generalize upd H2 l7 (.lst [V.int 2, V.int 1, V.int 3, V.int 2, V.int 0, V.int 1, V.int 2]) = H3 at s3 e3
  have k2 := i01 (decide ((n : Int) > 3))
  obtain ⟨dp, edp, dp3⟩ : ∃ dp : Nat, (if 3 - (if decide ((n : Int) > 3) = true then (1 : Int) else 0) < v7 then 3 - (if decide ((n : Int) > 3) = true then (1 : Int) else 0) else v7) = (dp : Int) ∧ dp ≤ 3 := by
    generalize (if decide ((n : Int) > 3) = true then (1 : Int) else 0) = u at k2
    split
    · exact ⟨(3 - u).toNat, by omega, by omega⟩
    · exact ⟨v7.toNat, by omega, by omega⟩
  rw [edp]
  dsimp only [gName]
  refine ⟨szl (by show 0 ≤ 1000000; decide), fun lo0 hlo0 => ?_⟩
  have s4 := same_new hlo0 (.lst [])
  have hlo4 : (upd H3 lo0 (.lst [])) lo0 = some (.lst []) := upd_same
  have nlo0 := ne_of_none' hlo0 (e3 _ _ hx)
  dsimp only [gName]
  generalize upd H3 lo0 (.lst []) = H4 at s4 hlo4
  refine ⟨szl (by show 1 ≤ 1000000; decide), fun pt0 hpt0 => ?_⟩
  have s5 := same_new hpt0 (.tup [V.int 0])
  have hpt5 : (upd H4 pt0 (.tup [V.int 0])) pt0 = some (.tup [V.int 0]) := upd_same
  have hlo5 := s5 _ _ hlo4
  dsimp only [gName]
  generalize upd H4 pt0 (.tup [V.int 0]) = H5 at s5 hpt5 hlo5
  refine ⟨szl (by show 0 ≤ 1000000; decide), fun ol0 hol0 => ?_⟩
  have s6 := same_new hol0 (.lst [])
  have hol6 : (upd H5 ol0 (.lst [])) ol0 = some (.lst []) := upd_same
  have hpt6 := s6 _ _ hpt5
  have hlo6 := s6 _ _ hlo5
  have e6 := e3.trans (s4.trans (s5.trans s6))
  dsimp only [gName]
  generalize upd H5 ol0 (.lst []) = H6 at s6 hol6 hpt6 hlo6 e6
  have hx6 := e6 _ _ hx
  have ax6 := ax.mono fun y v z => z.over (av_mono (S := [fo]) e6)
  have eH6 := e.trans e6
  clear ax s2 s3 s4 s5 s6 hlo5 hlo4 hpt5 e3 e2 at7 k2
  refine seq_any (fun σ' H' => ∃ (lo pt ol : Addr) (L old : List Lq) (pa : List Int) (sh : Nat), σ' = [some (.ref p), some (.int fi), some (.int (n : Int)), some (.ref fo), some (.int (i : Int)), some (.int (dp : Int)), some (.int (sh : Int)), some (.ref lo), some (.ref pt), some (.ref ol), o10] ∧ Same H6 H' ∧ LqsAt H' lo L ∧ LqsAt H' ol old ∧ H' pt = some (.tup (pa.map V.int)) ∧ OkL7 L ∧ OkL7 old ∧ old.length ≤ 3 ∧ L.length = sh ∧ sh ≤ dp ∧ pa.length = sh + 1 ∧ lo ≠ fo ∧ (i = 0 → sh = 0) ∧ ∀ c, Ds.getLast? = some c → sh ≤ c.L.length ∧ c.L.take sh = L ∧ ∃ v, c.path[sh]? = some v ∧ pa = c.path.take sh ++ [v + 1]) (fun σ' HB pp => ?_) (fun nx => ?_)
  rotate_left
  · refine ⟨_, rfl, rfl, _, rfl, ite2 (fun c => ?_) (fun c => ?_)⟩
    · have c : i = 0 := by
        have := of_decide_eq_true c
        injection this with z
        omega
      refine nx _ _ ⟨lo0, pt0, ol0, [], [], [0], 0, rfl, Same.refl _, ⟨[], hlo6, .nil⟩, ⟨[], hol6, .nil⟩, hpt6, OkL7.nil, OkL7.nil, Nat.zero_le _, rfl, Nat.zero_le _, rfl, nlo0, fun _ => rfl, fun c hc => ?_⟩
      have : Ds = [] := List.eq_nil_of_length_eq_zero (by omega)
      rw [this] at hc
      cases hc
    · have c : i ≠ 0 := fun z => dF c (congrArg V.int (by rw [z]; rfl))
      obtain ⟨i', rfl⟩ : ∃ j, i = j + 1 := ⟨i - 1, by omega⟩
      have hDi : Ds[i']? = some Ds[i'] := List.getElem?_eq_getElem (by omega)
      have hlast : Ds.getLast? = some Ds[i'] := by rw [List.getLast?_eq_getElem?, show Ds.length - 1 = i' by omega]; exact hDi
      have okc := rq.row.ok _ (List.mem_of_getElem? hDi)
      have okc7 := rq.in7 _ (List.mem_of_getElem? hDi)
      generalize Ds[i'] = cc at hDi hlast okc okc7
      obtain ⟨xp, hxp, dq⟩ := ax6.get hDi
      obtain ⟨t, ol, pt, rfl, ht, ⟨lx, hol, alx⟩, hpt⟩ := dq.over av_same
      have aj : atI xs (((i' + 1 : Nat) : Int) - 1) = some (.ref t) := by
        rw [show (((i' + 1 : Nat) : Int) - 1) = (i' : Int) by omega]
        exact atI_nat hxp
      have lxl := alx.1
      have ccl := okc.ll
      refine ⟨_, rfl, _, rfl, _, _, rfl, rfl, fo, _, _, _, rfl, rfl, SqL.of hx6, aj, t, _, 0, _, rfl, rfl, SqT.of ht, rfl, ?_⟩
      dsimp only [gName]
      refine ⟨_, rfl, _, rfl, ol, _, rfl, .inl (SqL.of hol), _, rfl, _, _, _, rfl, ?_⟩
      obtain ⟨sh, esh, sh1, sh2⟩ : ∃ sh : Nat, (if (lx.length : Int) < x1 then (if (dp : Int) < (lx.length : Int) then (dp : Int) else (lx.length : Int)) else (if (dp : Int) < x1 then (dp : Int) else x1)) = (sh : Int) ∧ sh ≤ lx.length ∧ sh ≤ dp := by
        split
        · split
          · exact ⟨dp, rfl, by omega, by omega⟩
          · exact ⟨lx.length, rfl, by omega, by omega⟩
        · split
          · exact ⟨dp, rfl, by omega, by omega⟩
          · exact ⟨x1.toNat, by omega, by omega, by omega⟩
      rw [esh]
      dsimp only [gName]
      refine ⟨_, rfl, _, rfl, _, rfl, ol, _, rfl, SqL.of hol, fun sl hsl => ?_⟩
      have cy : cutV lx none (some (sh : Int)) = lx.take sh := cutN62 _ _
      rw [cy]
      have s7 := same_new hsl (.lst (lx.take sh))
      have hsl7 : (upd H6 sl (.lst (lx.take sh))) sl = some (.lst (lx.take sh)) := upd_same
      have nsl := ne_of_none' hsl hx6
      dsimp only [gName]
      generalize upd H6 sl (.lst (lx.take sh)) = H7 at s7 hsl7
      have hlt : sh < cc.path.length := by have := okc.pl; omega
      have hcv : cc.path[sh]? = some cc.path[sh] := List.getElem?_eq_getElem hlt
      generalize cc.path[sh] = cv at hcv
      refine ⟨_, rfl, _, rfl, _, _, rfl, rfl, fo, _, _, _, rfl, rfl, SqL.of (s7 _ _ hx6), aj, t, _, 1, _, rfl, rfl, SqT.of (s7 _ _ ht), rfl, _, rfl, _, rfl, pt, _, rfl, s7 _ _ hpt, fun p2 H8 e8 hp2 => ?_⟩
      have e78 := s7.trans e8
      have cp : cutV (cc.path.map V.int) none (some (sh : Int)) = (cc.path.take sh).map V.int := by rw [cutN62, List.map_take]
      rw [cp] at hp2
      refine ⟨_, rfl, _, rfl, _, _, rfl, rfl, fo, _, _, _, rfl, rfl, SqL.of (e78 _ _ hx6), aj, t, _, 1, _, rfl, rfl, SqT.of (e78 _ _ ht), rfl, _, rfl, pt, _, (sh : Int), _, rfl, rfl, SqT.of (e78 _ _ hpt), atI_nat (by rw [List.getElem?_map, hcv]; rfl), _, _, rfl, rfl, szl (by show 1 ≤ 1000000; decide), fun u hu => ?_⟩
      have s9 := same_new hu (.tup [V.int (cv + 1)])
      have tl : (cc.path.take sh).length ≤ 3 := by rw [List.length_take]; omega
      refine ⟨p2, u, _, _, rfl, rfl, s9 _ _ hp2, upd_same, szl (by rw [List.length_map, List.length_singleton]; omega), fun p3 H10 e10 hp3 => ?_⟩
      have e7A := e8.trans (s9.trans e10)
      have e6A := s7.trans e7A
      have tlen : (cc.L.take sh).length = sh := by rw [List.length_take]; omega
      refine nx _ _ ⟨sl, p3, ol, cc.L.take sh, cc.L, cc.path.take sh ++ [cv + 1], sh, rfl, e6A, ⟨_, e7A _ _ hsl7, (alx.take sh).mono fun _ _ z => z.over e6A⟩, ⟨_, e6A _ _ hol, alx.mono fun _ _ z => z.over e6A⟩, by rw [List.map_append]; exact hp3, okc7.take sh, okc7, ccl, tlen, sh2, by rw [List.length_append, List.length_singleton, List.length_take]; omega, nsl, fun z => absurd z (Nat.succ_ne_zero _), fun c hc => ?_⟩
      rw [hlast] at hc
      cases hc
      exact ⟨by omega, rfl, cv, hcv, rfl⟩
  obtain ⟨lo1, pt1, ol, L1, old, pa1, sh, rfl, eB, hL1, hold, hpt1, okL1, oko, old3, L1l, shd, pa1l, nlo1, sh0, last⟩ := pp
  have hfoB := eB _ _ hx6
  have axB := ax6.mono fun y v z => z.over (av_mono (S := [fo]) eB)
  have eHB := eH6.trans eB
  obtain ⟨ox, hox, aox⟩ := hold
  have oxl := aox.1
  refine seq_any (fun σ' H' => ∃ (lo pt : Addr) (L : List Lq) (pa : List Int) (o10 : Option V), σ' = [some (.ref p), some (.int fi), some (.int (n : Int)), some (.ref fo), some (.int (i : Int)), some (.int (dp : Int)), some (.int (sh : Int)), some (.ref lo), some (.ref pt), some (.ref ol), o10] ∧ Same HB H' ∧ LqsAt H' lo L ∧ H' pt = some (.tup (pa.map V.int)) ∧ OkL7 L ∧ L.length = dp ∧ pa.length = dp + 1 ∧ lo ≠ fo ∧ L.take sh = L1 ∧ pa.take (sh + 1) = pa1) (fun σ' HC pp => ?_) (fun nx => ?_)
  rotate_left
  · refine while_ix (dp - sh) (fun j σ' H' => ∃ (lo pt : Addr) (L : List Lq) (pa : List Int) (o10 : Option V), σ' = [some (.ref p), some (.int fi), some (.int (n : Int)), some (.ref fo), some (.int (i : Int)), some (.int (dp : Int)), some (.int (sh : Int)), some (.ref lo), some (.ref pt), some (.ref ol), o10] ∧ Same HB H' ∧ LqsAt H' lo L ∧ H' pt = some (.tup (pa.map V.int)) ∧ OkL7 L ∧ L.length = sh + j ∧ pa.length = L.length + 1 ∧ lo ≠ fo ∧ L.take sh = L1 ∧ pa.take (sh + 1) = pa1) ⟨lo1, pt1, L1, pa1, _, rfl, Same.refl _, hL1, hpt1, okL1, L1l, by omega, nlo1, List.take_of_length_le (by omega), List.take_of_length_le (by omega)⟩ (fun j σ' HG hj pp => ?_) (MT.test (ME.op (MR.i0 _) (ME.cb MB.len (MA.cons (ME.var _) MA.nil)) (ME.var _)))
    obtain ⟨lo, pt, L, pa, o10, rfl, eG, ⟨lx, hlo0, alx⟩, hpt, okL, Ll, pal, nlo, Lt, pat⟩ := pp
    have loL := alx.1
    have hoxG := eG _ _ hox
    have aoxG := aox.mono fun _ _ z => z.over eG
    refine ⟨_, rfl, lo, _, rfl, .inl (SqL.of hlo0), _, rfl, _, _, rfl, rfl, _, rfl, ite2 (fun c => ?_) (fun c => ?_)⟩
    rotate_left
    · have c := dF c
      exact nx _ _ ⟨lo, pt, L, pa, _, rfl, eG, ⟨lx, hlo0, alx⟩, hpt, okL, by omega, by omega, nlo, Lt, pat⟩
    have c := dT c
    refine ⟨by omega, ?_⟩
    refine ⟨_, rfl, _, rfl, _, rfl, _, _, rfl, rfl, .inl ⟨by decide, by decide⟩, _, _, rfl, rfl, _, _, rfl, rfl, _, rfl, lo, _, rfl, .inl (SqL.of hlo0), _, _, rfl, rfl, p, ns, _, rfl, (eHB.trans eG).seq hp, by omega, by omega, fun m2 m20 _ => ?_⟩
    dsimp only [gName]
    refine seq_any (fun σ' H' => ∃ (kl : Addr) (qn : Lq), σ' = [some (.ref p), some (.int fi), some (.int (n : Int)), some (.ref fo), some (.int (i : Int)), some (.int (dp : Int)), some (.int (sh : Int)), some (.ref kl), some (.ref pt), some (.ref ol), some (.int m2)] ∧ Same HG H' ∧ LqsAt H' kl (L ++ [qn]) ∧ qn.Ok7 L ∧ kl ≠ fo) (fun σ' HX pp => ?_) (fun nx2 => ?_)
    · obtain ⟨kl, qn, rfl, eX, hkl, okq, nkl⟩ := pp
      refine ⟨_, rfl, szl (by show 1 ≤ 1000000; decide), fun u hu => ?_⟩
      have sU := same_new hu (.tup [V.int 0])
      refine ⟨pt, u, _, _, rfl, rfl, (eX.trans sU) _ _ hpt, upd_same, szl (by rw [List.length_map, List.length_singleton]; omega), fun p3 HY eY hp3 => ?_⟩
      have eXY := sU.trans eY
      exact ⟨kl, p3, L ++ [qn], pa ++ [0], _, rfl, eG.trans (eX.trans eXY), hkl.over eXY, by rw [List.map_append]; exact hp3, okL.snoc okq, by rw [List.length_append, List.length_singleton]; omega, by rw [List.length_append, List.length_append, List.length_singleton, List.length_singleton]; omega, nkl, by rw [List.take_append_of_le_length (by omega)]; exact Lt, by rw [List.take_append_of_le_length (by omega)]; exact pat⟩
    refine if_els (fun H'' => Same HG H'') (fun H'' eS => ?_) (fun go => ?_)
    · refine ⟨_, rfl, _, rfl, _, rfl, m2, lo, L, rfl, m20, ⟨lx, eS _ _ hlo0, alx.mono fun _ _ z => z.over eS⟩, okL.ok, by omega, fun r HX qn eX hqn okq => ⟨szl (by show 1 ≤ 1000000; decide), fun u hu => ?_⟩⟩
      have sU := same_new hu (.lst [V.ref r])
      have eE := (eS).trans (eX.trans sU)
      have huU : (upd HX u (.lst [V.ref r])) u = some (.lst [V.ref r]) := upd_same
      have hqU := hqn.over sU
      generalize upd HX u (.lst [V.ref r]) = HY at eE huU hqU
      refine ⟨lo, u, _, _, rfl, rfl, eE _ _ hlo0, huU, szl (by rw [loL, List.length_singleton]; omega), fun kl hkl => ?_⟩
      have sK := same_new hkl (.lst (lx ++ [V.ref r]))
      refine nx2 _ _ ⟨kl, qn, rfl, eE.trans sK, ⟨_, upd_same, ((alx.mono fun _ _ z => z.over (eE.trans sK))).snoc (hqU.over sK)⟩, okq, ne_of_none' hkl ((eG.trans eE) _ _ hfoB)⟩
    refine ⟨_, rfl, _, rfl, lo, _, rfl, .inl (SqL.of hlo0), _, rfl, ol, _, rfl, SqL.of hoxG, fun sl hsl => ?_⟩
    have cy : cutV ox none (some (lx.length : Int)) = ox.take L.length := by rw [cutN62, loL]
    rw [cy]
    have sS := same_new hsl (.lst (ox.take L.length))
    have hslS : (upd HG sl (.lst (ox.take L.length))) sl = some (.lst (ox.take L.length)) := upd_same
    generalize upd HG sl (.lst (ox.take L.length)) = HS at sS hslS
    have dq1 := qs_dep (old.take L.length)
    refine ⟨_, rfl, _, _, qs_tr hslS ((aoxG.take L.length).mono fun _ _ z => z.over sS), qs_tr (sS _ _ hlo0) (alx.mono fun _ _ z => z.over sS), ⟨_, rfl⟩, ⟨_, rfl⟩, by rw [simT]; exact qs_sim _ _, by rw [depT]; omega, _, rfl, ite2 (fun cT => ?_) (fun _ => ?_)⟩
    rotate_left
    · exact go _ sS
    refine ⟨_, rfl, ol, _, rfl, .inl (SqL.of (sS _ _ hoxG)), _, rfl, lo, _, rfl, .inl (SqL.of (sS _ _ hlo0)), _, _, rfl, rfl, _, rfl, ite2 (fun c2 => ?_) (fun _ => ?_)⟩
    rotate_left
    · exact go _ sS
    have c2 := dT c2
    refine ⟨_, rfl, _, _, rfl, rfl, ⟨by decide, by decide⟩, _, _, rfl, rfl, (by show (0 : Int) < 3; decide), rfl, _, rfl, ite2 (fun _ => ?_) (fun _ => ?_)⟩
    rotate_left
    · exact go _ sS
    have hoq : old[L.length]? = some old[L.length] := List.getElem?_eq_getElem (by omega)
    have okq := oko _ _ hoq
    have eoL : old.take L.length = L := eq_qTs cT
    rw [eoL] at okq
    generalize old[L.length] = qo at hoq okq
    obtain ⟨xo, hxo, hqo⟩ := aoxG.get hoq
    refine ⟨_, rfl, _, rfl, _, rfl, lo, _, rfl, .inl (SqL.of (sS _ _ hlo0)), ol, _, _, _, rfl, rfl, SqL.of (sS _ _ hoxG), (by rw [loL]; exact atI_nat hxo), szl (by show 1 ≤ 1000000; decide), fun u hu => ?_⟩
    have sU := same_new hu (.lst [xo])
    have eE := sS.trans sU
    have huU : (upd HS u (.lst [xo])) u = some (.lst [xo]) := upd_same
    generalize upd HS u (.lst [xo]) = HY at eE huU
    refine ⟨lo, u, _, _, rfl, rfl, eE _ _ hlo0, huU, szl (by rw [loL, List.length_singleton]; omega), fun kl hkl => ?_⟩
    have sK := same_new hkl (.lst (lx ++ [xo]))
    exact nx2 _ _ ⟨kl, qo, rfl, eE.trans sK, ⟨_, upd_same, ((alx.mono fun _ _ z => z.over (eE.trans sK))).snoc (hqo.over (eE.trans sK))⟩, okq, ne_of_none' hkl ((eG.trans eE) _ _ hfoB)⟩
  obtain ⟨lo, pt, L, pa, o10', rfl, eC, hL, hpt, okL, Ll, pal, nlo, Lt, pat⟩ := pp
  have hfoC := eC _ _ hfoB
  refine ⟨_, rfl, .inl ⟨rfl, _, SqL.of hfoC⟩, _, rfl, _, rfl, _, rfl, szl (by show 3 ≤ 1000000; decide), fun t ht => ?_⟩
  have sT := same_new ht (.tup [V.ref lo, V.ref pt, V.int (sh : Int)])
  have htT : (upd HC t (.tup [V.ref lo, V.ref pt, V.int (sh : Int)])) t = some (.tup [V.ref lo, V.ref pt, V.int (sh : Int)]) := upd_same
  have hfoT := sT _ _ hfoC
  generalize upd HC t (.tup [V.ref lo, V.ref pt, V.int (sh : Int)]) = HT at sT htT hfoT
  refine ⟨fo, _, _, rfl, rfl, hfoT, szlt (by omega), ?_⟩
  have eT := eC.trans sT
  refine ⟨xs ++ [.ref t], Ds ++ [⟨L, pa, sh⟩], _, _, _, _, _, _, _, rfl, fun a o ha => by rw [upd_ne (ne_of_none ha hfo)]; exact eT _ _ (eHB _ _ ha), upd_same, ?_, by rw [List.length_append, dl]; rfl, rq.snoc ⟨okL.ok, by show L.length ≤ 3; omega, by show pa.length = L.length + 1; omega, by show sh ≤ L.length; omega⟩ okL (fun z => sh0 (by rw [z] at dl; exact dl.symm)) (fun c hc => ?_)⟩
  · rw [av_upd (by simp)]
    exact (axB.mono fun y v z => z.over (av_mono (S := [fo]) eT)).snoc ⟨t, lo, pt, rfl, av_tk hfoT _ _ htT, (hL.over sT).av hfoT nlo, av_tk hfoT _ _ (sT _ _ hpt)⟩
  · obtain ⟨l1, l2, v, l3, l4⟩ := last c hc
    obtain ⟨n1, n2⟩ := next_path l3 (pat.trans l4)
    exact ⟨⟨l1, by rw [l2]; exact Lt.symm, n1, n2⟩, next_up l3 (pat.trans l4)⟩

theorem ok_before67 (T : Tx K mg a) : FnOk P w K mg base CX0 1 a.f_l_before a.d_l_before ["_law_one", "_law_other", "_law_deeds_here"] spBefore67 := by
  refine T.F_l_before.ok sc_l_before (fun vs H Q E h => ?_) (fun cdv A outer s H vs Q E hr h => ?_)
  · obtain ⟨_, _, _, _, _, _, _, _, _, _, _, rfl, _⟩ := h; rfl
  obtain ⟨x, y, l, xs, bs, Ds, T1, U, k, e, bb, rfl, hl, ax, rq, n6, ⟨t1, d1, rfl, ht1, hd1⟩, ⟨t2, d2, rfl, ht2, hd2⟩, ⟨D, hD, l1⟩, ⟨E', hE, l2⟩, hm, ah, q⟩ := h
  refine ⟨_, (@pss_cons _ _ _ _ _ (@ps_set _ _ (3) _ _ _ _ sc_l_before.nd rfl (Or.inl rfl) (@pe_callB _ _ _ _ _ _ _ _ _ (@call_min2 _ rfl) (by rfl) T.z_min bt_min (@pa_cons _ _ _ _ _ (@pe_ix _ _ _ _ _ _ _ ix_tup (pv 0) pe_int (fun _ _ => rfl)) (@pa_cons _ _ _ _ _ (@pe_ix _ _ _ _ _ _ _ ix_tup (pv 1) pe_int (fun _ _ => rfl)) pa_nil (by rfl)) (by rfl)) (by decide) (by decide) (by rfl) (by rfl)) (by rfl) (by first | exact .inl rfl | exact .inr rfl | assumption)) (@pss_cons _ _ _ _ _ (@ps_set _ _ (4) _ _ _ _ sc_l_before.nd rfl (Or.inl rfl) (@pe_callB _ _ _ _ _ _ _ _ _ call_len_seq (by rfl) T.z_len bt_len (@pa_cons _ _ _ _ _ (@pe_ix _ _ _ _ _ _ _ ix_tup (@pe_ix _ _ _ _ _ _ _ ix_list (pv 2) (pv 3) (fun _ _ => rfl)) pe_int (fun _ _ => rfl)) pa_nil (by rfl)) (by decide) (by decide) (by rfl) (by rfl)) (by rfl) (by first | exact .inl rfl | exact .inr rfl | assumption)) (@pss_cons _ _ _ _ _ (@ps_for _ _ _ _ _ _ _ _ PassesOwn.never rfl (@pi_range2 _ _ _ _ _ _ _ (by rfl) T.z_range (@pa_cons _ _ _ _ _ (@pe_op _ _ _ _ _ _ _ _ op_add (pv 3) pe_int) (@pa_cons _ _ _ _ _ (@pe_op _ _ _ _ _ _ _ _ op_add (@pe_callB _ _ _ _ _ _ _ _ _ (@call_max2 _ rfl) (by rfl) T.z_max bt_max (@pa_cons _ _ _ _ _ (@pe_ix _ _ _ _ _ _ _ ix_tup (pv 0) pe_int (fun _ _ => rfl)) (@pa_cons _ _ _ _ _ (@pe_ix _ _ _ _ _ _ _ ix_tup (pv 1) pe_int (fun _ _ => rfl)) pa_nil (by rfl)) (by rfl)) (by decide) (by decide) (by rfl) (by rfl)) pe_int) pa_nil (by rfl)) (by rfl)) (by rfl) (by rfl)) (pg_name (i := 5) sc_l_before.nd rfl (Or.inl rfl)) (@pss_one _ _ _ (@ps_set _ _ (4) _ _ _ _ sc_l_before.nd rfl (Or.inl rfl) (@pe_callB _ _ _ _ _ _ _ _ _ (@call_min2 _ rfl) (by rfl) T.z_min bt_min (@pa_cons _ _ _ _ _ (pv 4) (@pa_cons _ _ _ _ _ (@pe_ix _ _ _ _ _ _ _ ix_tup (@pe_ix _ _ _ _ _ _ _ ix_list (pv 2) (pv 5) (fun _ _ => rfl)) pe_int (fun _ _ => rfl)) pa_nil (by rfl)) (by rfl)) (by decide) (by decide) (by rfl) (by rfl)) (by rfl) (by first | exact .inl rfl | exact .inr rfl | assumption))) (by intro _ ; rfl)) (@pss_cons _ _ _ _ _ (@ps_for _ _ _ _ _ _ _ _ PassesOwn.never rfl (@pi_range1 _ _ _ _ _ _ (by rfl) T.z_range (@pa_cons _ _ _ _ _ (pv 4) pa_nil (by rfl)) (by rfl)) (pg_name (i := 6) sc_l_before.nd rfl (Or.inl rfl)) (@pss_one _ _ _ (@ps_if _ _ _ _ _ _ _ _ (@pt_cmpR _ _ _ _ _ _ _ _ op_ne (@pe_ix _ _ _ _ _ _ _ ix_tup (@pe_ix _ _ _ _ _ _ _ ix_tup (pv 0) pe_int (fun _ _ => rfl)) (pv 6) (fun _ _ => rfl)) (@pe_ix _ _ _ _ _ _ _ ix_tup (@pe_ix _ _ _ _ _ _ _ ix_tup (pv 1) pe_int (fun _ _ => rfl)) (pv 6) (fun _ _ => rfl)) (@nomark _ _ (by decide) (by decide))) (@pss_one _ _ _ (@ps_ret _ _ _ _ (@pe_cmpR _ _ _ _ _ _ _ _ op_lt (@pe_ix _ _ _ _ _ _ _ ix_tup (@pe_ix _ _ _ _ _ _ _ ix_tup (pv 0) pe_int (fun _ _ => rfl)) (pv 6) (fun _ _ => rfl)) (@pe_ix _ _ _ _ _ _ _ ix_tup (@pe_ix _ _ _ _ _ _ _ ix_tup (pv 1) pe_int (fun _ _ => rfl)) (pv 6) (fun _ _ => rfl)) (@nomark _ _ (by decide) (by decide))))) pss_nil)) (by intro _ ; rfl)) (@pss_one _ _ _ (@ps_ret _ _ _ _ (@pe_cmpR _ _ _ _ _ _ _ _ op_lt (@pe_ix _ _ _ _ _ _ _ ix_tup (pv 0) pe_int (fun _ _ => rfl)) (@pe_ix _ _ _ _ _ _ _ ix_tup (pv 1) pe_int (fun _ _ => rfl)) (@nomark _ _ (by decide) (by decide))))))))), ?_⟩
  have iD := (List.getElem?_eq_some_iff.mp hD).1
  have iE := (List.getElem?_eq_some_iff.mp hE).1
  obtain ⟨lo, up, Dl, c1, c2, lu, ul, hDl, key⟩ := least_min rq.row hm iD iE
  have rel := rel_of rq hD hE hm
  have r1 := rel.1
  have r2 := rel.2.1
  have oD := rq.row.ok D (List.mem_of_getElem? hD)
  have r3 := oD.ll
  obtain ⟨a1, a2, a3, a4⟩ := ah
  obtain ⟨xl, hxl, tl, ol, ptl, rfl, htl, ⟨lx, hol, alx⟩, _⟩ := ax.get hDl
  refine ⟨_, rfl, t1, _, 0, _, rfl, rfl, SqT.of ht1, rfl, _, rfl, t2, _, 0, _, rfl, rfl, SqT.of ht2, rfl, _, _, rfl, ?_⟩
  rw [c1]
  dsimp only [gName]
  refine ⟨_, rfl, _, rfl, l, _, _, _, rfl, rfl, SqL.of hl, atI_nat hxl, tl, _, 0, _, rfl, rfl, SqT.of htl, rfl, ol, _, rfl, .inl (SqL.of hol), ?_⟩
  have lxl := alx.1
  rw [lxl]
  dsimp only [gName]
  refine seq_any (fun σ' H' => ∃ o6 o7, H' = H ∧ σ' = [some (.ref t1), some (.ref t2), some (.ref l), some (.int (lo : Int)), some (.int (k : Int)), o6, o7]) (fun σ' H' pp => ?_) (fun nx => ?_)
  rotate_left
  · refine ⟨_, rfl, _, _, rfl, rfl, _, rfl, t1, _, 0, _, rfl, rfl, SqT.of ht1, rfl, _, rfl, t2, _, 0, _, rfl, rfl, SqT.of ht2, rfl, _, _, rfl, _, _, rfl, rfl, _, _, rfl, ?_, ?_⟩
    · rw [c2]; omega
    rw [c2, show ((up : Int) + 1 - ((lo : Int) + 1)).toNat = up - lo by omega]
    refine for_range (lo := (lo : Int) + 1) (n := up - lo) (fun i σ' H' => ∃ (M : Nat) (o6 o7 : Option V), H' = H ∧ σ' = [some (.ref t1), some (.ref t2), some (.ref l), some (.int (lo : Int)), some (.int (M : Int)), o6, o7] ∧ MinTo Ds Dl.L.length lo (lo + i) M) ⟨Dl.L.length, _, _, rfl, rfl, MinTo.zero _ _ _⟩ (fun i σ' H' hi pp => ?_) (fun σ' H' pp => ?_)
    · obtain ⟨M, o6, o7, rfl, rfl, mt⟩ := pp
      have hDk : Ds[lo + i + 1]? = some (Ds[lo + i + 1]'(by omega)) := List.getElem?_eq_getElem (by omega)
      generalize Ds[lo + i + 1]'(by omega) = Dk at hDk
      obtain ⟨xk, hxk, tk, ok, ptk, rfl, htk, _, _⟩ := ax.get hDk
      have atk : atI xs ((lo : Int) + 1 + (i : Int)) = some (.ref tk) := by
        rw [show ((lo : Int) + 1 + (i : Int)) = ((lo + i + 1 : Nat) : Int) by omega]
        exact atI_nat hxk
      refine ⟨_, rfl, _, rfl, _, rfl, l, _, _, _, rfl, rfl, SqL.of hl, atk, tk, _, 2, _, rfl, rfl, SqT.of htk, rfl, _, _, rfl, ?_⟩
      refine ⟨min M Dk.sh, some (.int ((lo : Int) + 1 + (i : Int))), o7, rfl, ?_, mt.step (by omega) hDk⟩
      have : (if ((Dk.sh : Nat) : Int) < ((M : Nat) : Int) then ((Dk.sh : Nat) : Int) else ((M : Nat) : Int)) = ((min M Dk.sh : Nat) : Int) := by split <;> omega
      rw [this]
      rfl
    · obtain ⟨M, o6, o7, rfl, rfl, mt⟩ := pp
      rw [show lo + (up - lo) = up by omega] at mt
      rw [key M mt]
      exact nx _ _ ⟨_, _, rfl, rfl⟩
  obtain ⟨o6, o7, rfl, rfl⟩ := pp
  refine ⟨_, rfl, _, rfl, by omega, by omega, ?_⟩
  rw [Int.toNat_natCast]
  refine for_range (lo := 0) (n := k) (fun i σ' H2 => H2 = H' ∧ i ≤ e ∧ ∃ o6 o7, σ' = [some (.ref t1), some (.ref t2), some (.ref l), some (.int (lo : Int)), some (.int (k : Int)), o6, o7]) ⟨rfl, Nat.zero_le _, _, _, rfl⟩ (fun i σ' H' hik pp => ?_) (fun σ' H' pp => ?_)
  rotate_left
  · obtain ⟨rfl, hi, o6, o7, rfl⟩ := pp
    refine ⟨_, rfl, t1, _, 0, _, rfl, rfl, SqT.of ht1, rfl, _, rfl, t2, _, 0, _, rfl, rfl, SqT.of ht2, rfl, _, _, rfl, rfl, ?_⟩
    rw [a4 (by omega)] at q
    exact q
  obtain ⟨rfl, hie, o6, o7, rfl⟩ := pp
  have at1 : atI (T1.2.map V.int) (0 + (i : Int)) = some (.int (T1.2.getD i 0)) := by
    rw [Int.zero_add]
    exact cell_in (ns := T1.2) (k := (i : Int)) (Int.natCast_nonneg _) (by omega)
  have at2 : atI (U.2.map V.int) (0 + (i : Int)) = some (.int (U.2.getD i 0)) := by
    rw [Int.zero_add]
    exact cell_in (ns := U.2) (k := (i : Int)) (Int.natCast_nonneg _) (by omega)
  refine ⟨_, rfl, t1, _, 1, _, rfl, rfl, SqT.of ht1, rfl, _, rfl, d1, _, _, _, rfl, rfl, SqT.of hd1, at1, _, rfl, t2, _, 1, _, rfl, rfl, SqT.of ht2, rfl, _, rfl, d2, _, _, _, rfl, rfl, SqT.of hd2, at2, rfl, _, rfl, ?_⟩
  by_cases hlt : i < e
  · refine iteE (ndF (congrArg V.int (a2 i hlt))) (iteF ?_)
    exact ⟨rfl, hlt, _, _, rfl⟩
  · have ei : i = e := by omega
    subst ei
    obtain ⟨a5, a6⟩ := a3 hik
    refine iteE (ndT (fun z => a5 (V.int.inj z))) (iteT ?_)
    refine ⟨_, rfl, t1, _, 1, _, rfl, rfl, SqT.of ht1, rfl, _, rfl, d1, _, _, _, rfl, rfl, SqT.of hd1, at1, _, rfl, t2, _, 1, _, rfl, rfl, SqT.of ht2, rfl, _, rfl, d2, _, _, _, rfl, rfl, SqT.of hd2, at2, _, _, rfl, rfl, ?_⟩
    rw [a6] at q
    exact q

theorem ok_values67 (T : Tx K mg a) : FnOk P w K mg base CX0 1 a.f_l_values a.d_l_values ["_law_loops"] spValues67 := by
  refine T.F_l_values.ok sc_l_values (fun vs H Q E h => ?_) (fun cdv A outer s H vs Q E hr h => ?_)
  · obtain ⟨_, _, rfl, _⟩ := h; rfl
  obtain ⟨ll, L, rfl, ⟨xs, hll, ax⟩, okL, L3, q⟩ := h
  refine ⟨_, (@pss_cons _ _ _ _ _ (@ps_set _ _ (1) _ _ _ _ sc_l_values.nd rfl (Or.inl rfl) (@pe_lst _ _ _ _ (@pa_cons _ _ _ _ _ (@pe_tup _ _ _ _ _ pa_nil) pa_nil (by rfl))) (by rfl) (by first | exact .inl rfl | exact .inr rfl | assumption)) (@pss_cons _ _ _ _ _ (@ps_for _ _ _ _ _ _ _ _ PassesOwn.never rfl (@pi_list _ _ _ _ (pv 0)) (pg_name (i := 2) sc_l_values.nd rfl (Or.inl rfl)) (@pss_cons _ _ _ _ _ (@ps_set _ _ (3) _ _ _ _ sc_l_values.nd rfl (Or.inl rfl) (@pe_lst _ _ _ _ pa_nil) (by rfl) (by first | exact .inl rfl | exact .inr rfl | assumption)) (@pss_cons _ _ _ _ _ (@ps_for _ _ _ _ _ _ _ _ PassesOwn.never rfl (@pi_list _ _ _ _ (pv 1)) (pg_name (i := 4) sc_l_values.nd rfl (Or.inl rfl)) (@pss_cons _ _ _ _ _ (@ps_set _ _ (5) _ _ _ _ sc_l_values.nd rfl (Or.inl rfl) (@pe_dict1 _ _ _ _ _ _ pe_str pe_int) (by rfl) (by first | exact .inl rfl | exact .inr rfl | assumption)) (@pss_cons _ _ _ _ _ (@ps_for _ _ _ _ _ _ _ _ PassesOwn.never rfl (pi_zipLT (by rfl) T.z_zip (@pa_cons _ _ _ _ _ (pv 0) (@pa_cons _ _ _ _ _ (pv 4) pa_nil (by rfl)) (by rfl))) (pg_tup rfl (pgs_cons (pg_name (i := 6) sc_l_values.nd rfl (Or.inl rfl)) (pgs_cons (pg_name (i := 7) sc_l_values.nd rfl (Or.inl rfl)) pgs_nil))) (@pss_one _ _ _ (@ps_dput _ _ _ _ _ _ _ _ _ (@hu_of _ _ hr) (pv 5) (@pe_ix _ _ _ _ _ _ _ ix_tup (pv 6) pe_int (fun _ _ => rfl)) (pv 7) rfl)) (by intro _ ; rfl)) (@pss_cons _ _ _ _ _ (@ps_set _ _ (8) _ _ _ _ sc_l_values.nd rfl (Or.inl rfl) (@pe_op _ _ _ _ _ _ _ _ op_add (@pe_dget _ _ _ _ _ _ (@hu_of _ _ hr) (pv 5) (@pe_ix _ _ _ _ _ _ _ ix_tup (@pe_ix _ _ _ _ _ _ _ ix_tup (pv 2) pe_int (fun _ _ => rfl)) pe_int (fun _ _ => rfl)) (fun _ _ => rfl)) (@pe_ix _ _ _ _ _ _ _ ix_tup (@pe_ix _ _ _ _ _ _ _ ix_tup (pv 2) pe_int (fun _ _ => rfl)) pe_int (fun _ _ => rfl))) (by rfl) (by first | exact .inl rfl | exact .inr rfl | assumption)) (@pss_cons _ _ _ _ _ (@ps_set _ _ (9) _ _ _ _ sc_l_values.nd rfl (Or.inl rfl) (@pe_op _ _ _ _ _ _ _ _ op_add (@pe_dget _ _ _ _ _ _ (@hu_of _ _ hr) (pv 5) (@pe_ix _ _ _ _ _ _ _ ix_tup (@pe_ix _ _ _ _ _ _ _ ix_tup (pv 2) pe_int (fun _ _ => rfl)) pe_int (fun _ _ => rfl)) (fun _ _ => rfl)) (@pe_ix _ _ _ _ _ _ _ ix_tup (@pe_ix _ _ _ _ _ _ _ ix_tup (pv 2) pe_int (fun _ _ => rfl)) pe_int (fun _ _ => rfl))) (by rfl) (by first | exact .inl rfl | exact .inr rfl | assumption)) (@pss_one _ _ _ (@ps_for _ _ _ _ _ _ _ _ PassesOwn.never rfl (@pi_range2 _ _ _ _ _ _ _ (by rfl) T.z_range (@pa_cons _ _ _ _ _ (pv 8) (@pa_cons _ _ _ _ _ (@pe_op _ _ _ _ _ _ _ _ op_add (pv 9) pe_int) pa_nil (by rfl)) (by rfl)) (by rfl) (by rfl)) (pg_name (i := 7) sc_l_values.nd rfl (Or.inl rfl)) (@pss_one _ _ _ (@ps_expr _ _ _ _ (@pe_bm _ _ _ _ _ _ _ _ _ _ _ _ PySem.F.plainAttrs_list PySem.F.slot_list_append PySem.F.type_list_append mt_append (pv 3) (@pa_cons _ _ _ _ _ (@pe_op _ _ _ _ _ _ _ _ op_catH (pv 4) (@pe_tup _ _ _ _ _ (@pa_cons _ _ _ _ _ (pv 7) pa_nil (by rfl)))) pa_nil (by rfl)) (by rfl) (by rfl) (by rfl) (by rfl) (by rfl)) (by rfl))) (by intro _ ; rfl))))))) (by intro _ ; rfl)) (@pss_one _ _ _ (@ps_set _ _ (1) _ _ _ _ sc_l_values.nd rfl (Or.inl rfl) (pv 3) (by rfl) (by first | exact .inl rfl | exact .inr rfl | assumption))))) (by intro _ ; rfl)) (@pss_one _ _ _ (@ps_ret _ _ _ _ (pv 1))))), ?_⟩
  have xl := ax.1
  refine ⟨szl (by show 0 ≤ 1000000; decide), fun t0 ht0 => ⟨szl (by show 1 ≤ 1000000; decide), fun r0 hr0 => ?_⟩⟩
  have e0 := (same_new ht0 (.tup [])).trans (same_new hr0 (.lst [V.ref t0]))
  have hr00 : (upd (upd H t0 (.tup [])) r0 (.lst [V.ref t0])) r0 = some (.lst [V.ref t0]) := upd_same
  have ht00 : (upd (upd H t0 (.tup [])) r0 (.lst [V.ref t0])) t0 = some (.tup []) := same_new hr0 _ _ _ upd_same
  dsimp only [gName]
  generalize upd (upd H t0 (.tup [])) r0 (.lst [V.ref t0]) = H0 at e0 hr00 ht00
  refine ⟨_, rfl, ll, rfl, ⟨_, SqL.of (e0 _ _ hll)⟩, ?_⟩
  refine for_list (xs := xs) (fun i σ' H' => ∃ (r : Addr) (ys : List V) (R : List (List Int)) (o2 o3 o4 o5 o6 o7 o8 o9 : Option V), σ' = [some (.ref ll), some (.ref r), o2, o3, o4, o5, o6, o7, o8, o9] ∧ Same H H' ∧ H' r = some (.lst ys) ∧ All2 (PaAt H') ys R ∧ (∀ v ∈ R, v.length = i ∧ InB (vb i) v) ∧ R.length ≤ cn i) ⟨r0, [.ref t0], [[]], _, _, _, _, _, _, _, _, rfl, e0, hr00, All2.one ⟨t0, rfl, ht00⟩, fun v hv => ?_, Nat.le_refl _⟩ (fun i σ' H' _ pp => by obtain ⟨_, _, _, _, _, _, _, _, _, _, _, _, e, _⟩ := pp; exact SqL.of (e _ _ hll)) (fun i x σ' H' hx pp => ?_) (fun σ' H' pp => ?_)
  · rw [List.mem_singleton.mp hv]
    exact ⟨rfl, fun n hn => nomatch hn⟩
  rotate_left
  · obtain ⟨r, ys, R, _, _, _, _, _, _, _, _, rfl, e, hr1, ay, hR, cR⟩ := pp
    rw [xl] at hR cR
    exact ⟨_, rfl, q r ys _ R e hr1 ay (fun v hv => (hR v hv).1) (Nat.le_trans cR (cn3 L3))⟩
  obtain ⟨r, ys, R, o2, o3, o4, o5, o6, o7, o8, o9, rfl, e, hr1, ay, hR, cR⟩ := pp
  obtain ⟨qq, hq, t, ta, tb, rfl, ht, hta, htb⟩ := ax.get' hx
  have ok7 := okL i qq hq
  have il : i < L.length := (List.getElem?_eq_some_iff.mp hq).1
  have tl : (L.take i).length = i := by rw [List.length_take]; omega
  have yl := ay.1
  have lb := ok7.lb
  have hb := ok7.hb
  rw [tl] at lb hb
  have vbs : vb (i + 1) = vb i + (5 + 20 * (i : Int)) := rfl
  have vbp := vb_pos i
  have cns : cn (i + 1) = cn i * (2 * (vb (i + 1)).toNat + 1) := rfl
  have cnl := cn3 (j := i + 1) (by omega)
  obtain ⟨m1, hm1⟩ : ∃ m1 : Nat, vb (i + 1) = (m1 : Int) := ⟨(vb (i + 1)).toNat, by omega⟩
  have wd : (2 * (vb (i + 1)).toNat + 1) = 2 * m1 + 1 := by rw [hm1]; rfl
  rw [wd] at cns
  have rw1 : R.length * (2 * m1 + 1) ≤ cn (i + 1) := by rw [cns]; exact Nat.mul_le_mul_right _ cR
  refine ⟨szl (by show 0 ≤ 1000000; decide), fun g hg => ?_⟩
  have s1 := same_new hg (.lst [])
  have hg1 : (upd H' g (.lst [])) g = some (.lst []) := upd_same
  dsimp only [gName]
  generalize upd H' g (.lst []) = H1 at s1 hg1
  refine ⟨_, rfl, r, rfl, ⟨_, SqL.of (s1 _ _ hr1)⟩, ?_⟩
  refine for_list (xs := ys) (fun j σ' H2 => ∃ (zs : List V) (G : List (List Int)) (o4 o5 o6 o7 o8 o9 : Option V), σ' = [some (.ref ll), some (.ref r), some (.ref t), some (.ref g), o4, o5, o6, o7, o8, o9] ∧ Same H' H2 ∧ H2 g = some (.lst zs) ∧ All2 (PaAt H2) zs G ∧ (∀ v ∈ G, v.length = i + 1 ∧ InB (vb (i + 1)) v) ∧ G.length ≤ j * (2 * m1 + 1)) ⟨[], [], _, _, _, _, _, _, rfl, s1, hg1, .nil, (fun v hv => by cases hv), Nat.zero_le _⟩ (fun j σ' H2 _ pp => by obtain ⟨_, _, _, _, _, _, _, _, _, e2, _⟩ := pp; exact SqL.of (e2 _ _ hr1)) (fun j x σ' H2 hx2 pp => ?_) (fun σ' H2 pp => ?_)
  rotate_left
  · obtain ⟨zs, G, o4, o5, o6, o7, o8, o9, rfl, e2, hg2, az, hG, cG⟩ := pp
    rw [yl] at cG
    exact ⟨_, rfl, g, zs, G, _, _, _, _, _, _, _, _, rfl, e.trans e2, hg2, az, hG, Nat.le_trans cG rw1⟩
  obtain ⟨zs, G, o4, o5, o6, o7, o8, o9, rfl, e2, hg2, az, hG, cG⟩ := pp
  obtain ⟨v, hv, tv, rfl, htv⟩ := (ay.mono fun _ _ z => (let ⟨t, a, b⟩ := z; ⟨t, a, e2 _ _ b⟩ : PaAt H2 _ _)).get' hx2
  obtain ⟨vl, vB⟩ := hR v (List.mem_of_getElem? hv)
  have jl : j < R.length := (List.getElem?_eq_some_iff.mp hv).1
  have jw : j * (2 * m1 + 1) + (2 * m1 + 1) ≤ cn (i + 1) := by
    refine Nat.le_trans ?_ rw1
    rw [← Nat.succ_mul]
    exact Nat.mul_le_mul_right _ jl
  refine fun d hd => ⟨.inr "", rfl, upd_same, ?_⟩
  dsimp only [gName]
  have s3 : Same H2 (upd (upd H2 d (.dK [])) d (.dK [(.inr "", .int 0)])) := fun b o hb' => by rw [upd_ne (ne_of_none hb' hd), upd_ne (ne_of_none hb' hd)]; exact hb'
  have hd3 : (upd (upd H2 d (.dK [])) d (.dK [(.inr "", .int 0)])) d = some (.dK [(.inr "", .int 0)]) := upd_same
  generalize upd (upd H2 d (.dK [])) d (.dK [(.inr "", .int 0)]) = H3 at s3 hd3
  have eH2 := e.trans e2
  refine ⟨_, rfl, _, rfl, ll, tv, rfl, ⟨_, SqL.of (s3 _ _ (eH2 _ _ hll))⟩, ⟨_, SqT.of (s3 _ _ htv)⟩, ?_⟩
  refine for_zipLT (xs := xs) (ys := v.map V.int) (by rw [List.length_map]; omega) (fun m σ' H4 => ∃ (kvs : List (Key × V)) (o6 o7 : Option V), σ' = [some (.ref ll), some (.ref r), some (.ref t), some (.ref g), some (.ref tv), some (.ref d), o6, o7, o8, o9] ∧ Same H2 H4 ∧ H4 d = some (.dK kvs) ∧ WoD (vb i) ((L.take m).map (·.nm)) kvs) ⟨_, _, _, rfl, s3, hd3, ⟨fun z hz => ?_, Nat.le_refl _⟩⟩ (fun m σ' H4 _ pp => by obtain ⟨_, _, _, _, e4, _⟩ := pp; exact ⟨SqL.of (e4 _ _ (eH2 _ _ hll)), SqT.of (e4 _ _ htv)⟩) (fun m x y Tt σ' H4 hx4 hy4 pp hT => ?_) (fun σ' H4 pp => ?_)
  · rcases hz with rfl | hz
    · exact ⟨0, rfl, by omega, by omega⟩
    · simp at hz
  · obtain ⟨kvs, o6, o7, rfl, e4, hd4, wo⟩ := pp
    obtain ⟨qm, hqm, tm, tma, tmb, rfl, htm, _, _⟩ := ax.get' hx4
    have hv4 : ∃ n, v[m]? = some n ∧ y = V.int n := by
      rw [List.getElem?_map] at hy4
      cases c : v[m]? with
      | none => rw [c] at hy4; cases hy4
      | some n => rw [c] at hy4; cases hy4; exact ⟨n, rfl, rfl⟩
    obtain ⟨n, hn, rfl⟩ := hv4
    have nb := vB n (List.mem_of_getElem? hn)
    have sT := same_new hT (.tup [V.ref tm, V.int n])
    have ml : m < L.length := (List.getElem?_eq_some_iff.mp hqm).1
    have w2 := wo.2
    rw [List.length_map, List.length_take] at w2
    refine ⟨Tt, _, rfl, SqT.of upd_same, rfl, _, _, rfl, _, _, rfl, rfl, ?_⟩
    refine ⟨_, rfl, _, rfl, _, rfl, tm, _, 0, _, rfl, rfl, SqT.of ((eH2.trans (e4.trans sT)) _ _ htm), rfl, d, _, rfl, DPut.k (k := .inr qm.nm) (sT _ _ hd4) (szlt (by omega)), ?_⟩
    refine ⟨_, _, _, rfl, fun b o hb' => ?_, upd_same, ?_⟩
    · rw [upd_ne (ne_of_none hb' hd)]
      exact sT _ _ (e4 _ _ hb')
    · rw [take_snoc hqm, List.map_append]
      exact wo.put nb.1 nb.2
  obtain ⟨kvs, o6, o7, rfl, e4, hd4, wo⟩ := pp
  rw [List.length_map, vl] at wo
  have eH4 := eH2.trans e4
  have look : ∀ z : Str, (z = "" ∨ ∃ y ∈ L.take i, z = y.nm) → ∃ n, DGet H4 d (.str z) (some (.int n)) ∧ -(vb i) ≤ n ∧ n ≤ vb i := fun z hz => by
    obtain ⟨n, h1, h2⟩ := wo.1 z (by
      rcases hz with hz | ⟨y, hy, hz⟩
      · exact .inl hz
      · exact .inr (by rw [hz]; exact List.mem_map.mpr ⟨y, hy, rfl⟩))
    exact ⟨n, .inl ⟨kvs, .inr z, .inl hd4, rfl, h1.symm⟩, h2⟩
  obtain ⟨n1, g1, b1⟩ := look _ ok7.l1
  obtain ⟨n2, g2, b2⟩ := look _ ok7.h1
  have ht4 := eH4 _ _ ht
  have hta4 := eH4 _ _ hta
  have htb4 := eH4 _ _ htb
  refine ⟨_, rfl, _, rfl, t, _, 1, _, rfl, rfl, SqT.of ht4, rfl, ta, _, 0, _, rfl, rfl, SqT.of hta4, rfl, d, _, rfl, g1, _, rfl, t, _, 1, _, rfl, rfl, SqT.of ht4, rfl, ta, _, 1, _, rfl, rfl, SqT.of hta4, rfl, _, _, rfl, rfl, ?_⟩
  dsimp only [gName]
  refine ⟨_, rfl, _, rfl, t, _, 2, _, rfl, rfl, SqT.of ht4, rfl, tb, _, 0, _, rfl, rfl, SqT.of htb4, rfl, d, _, rfl, g2, _, rfl, t, _, 2, _, rfl, rfl, SqT.of ht4, rfl, tb, _, 1, _, rfl, rfl, SqT.of htb4, rfl, _, _, rfl, rfl, ?_⟩
  dsimp only [gName]
  have lo1 : -(m1 : Int) ≤ n1 + qq.lo.2 ∧ n1 + qq.lo.2 ≤ m1 := by omega
  have hi1 : -(m1 : Int) ≤ n2 + qq.hi.2 ∧ n2 + qq.hi.2 ≤ m1 := by omega
  generalize n1 + qq.lo.2 = low at lo1
  generalize n2 + qq.hi.2 = high at hi1
  have m1l : m1 ≤ 75 := by
    have : vb (i + 1) ≤ 75 := by
      match i, il, L3 with
      | 0, _, _ => decide
      | 1, _, _ => decide
      | 2, _, _ => decide
      | k + 3, z, _ => omega
    omega
  refine ⟨_, rfl, _, rfl, _, _, rfl, rfl, _, _, rfl, ⟨by omega, by omega, by omega, by omega⟩, ?_⟩
  have az4 := az.mono fun _ _ z => (let ⟨t, a, b⟩ := z; ⟨t, a, e4 _ _ b⟩ : PaAt H4 _ _)
  have zl := az.1
  refine for_range (lo := low) (n := (high + 1 - low).toNat) (fun m σ' H5 => ∃ (zs2 : List V) (G2 : List (List Int)) (o6 o7 : Option V), σ' = [some (.ref ll), some (.ref r), some (.ref t), some (.ref g), some (.ref tv), some (.ref d), o6, o7, some (.int low), some (.int high)] ∧ (∀ a o, a ≠ g → H4 a = some o → H5 a = some o) ∧ H5 g = some (.lst zs2) ∧ All2 (PaAt H5) zs2 G2 ∧ (∀ v ∈ G2, v.length = i + 1 ∧ InB (vb (i + 1)) v) ∧ G2.length = G.length + m) ⟨zs, G, _, _, rfl, fun _ _ _ h => h, e4 _ _ hg2, az4, hG, rfl⟩ (fun m σ' H5 hm pp => ?_) (fun σ' H5 pp => ?_)
  · obtain ⟨zs2, G2, o6, o7, rfl, k5, hg5, az5, hG5, c5⟩ := pp
    have ngv : tv ≠ g := fun z => by rw [z, hg2] at htv; cases htv
    have zl2 := az5.1
    refine ⟨_, rfl, .inl ⟨rfl, _, SqL.of hg5⟩, _, rfl, _, rfl, szl (by show 1 ≤ 1000000; decide), fun u hu => ?_⟩
    have sU := same_new hu (.tup [V.int (low + (m : Int))])
    refine ⟨tv, u, _, _, rfl, rfl, sU _ _ (k5 _ _ ngv (e4 _ _ htv)), upd_same, szl (by rw [List.length_map, List.length_singleton]; omega), fun w HW eW hw => ?_⟩
    have sW := sU.trans eW
    have hgW := sW _ _ hg5
    refine ⟨g, _, _, rfl, rfl, hgW, szlt (by omega), ?_⟩
    have tkW : TK HW (upd HW g (.lst (zs2 ++ [V.ref w]))) := TK.upd hgW
    refine ⟨zs2 ++ [.ref w], G2 ++ [v ++ [low + (m : Int)]], _, _, rfl, fun a o ha h => by rw [upd_ne ha]; exact sW _ _ (k5 a o ha h), upd_same, ?_, fun x hx => ?_, by rw [List.length_append, List.length_singleton]; omega⟩
    · refine (az5.mono fun _ _ z => (let ⟨t, a, b⟩ := z; ⟨t, a, tkW _ _ (sW _ _ b)⟩ : PaAt _ _ _)).snoc ⟨w, rfl, ?_⟩
      rw [List.map_append]
      exact tkW _ _ hw
    · rcases List.mem_append.mp hx with z | z
      · exact hG5 x z
      · rw [List.mem_singleton.mp z]
        refine ⟨by rw [List.length_append, List.length_singleton, vl], (vB.mono (by omega)).snoc (by omega) (by omega)⟩
  · obtain ⟨zs2, G2, o6, o7, rfl, k5, hg5, az5, hG5, c5⟩ := pp
    refine ⟨zs2, G2, _, _, _, _, _, _, rfl, fun a o ha => k5 _ _ (ne_of_none ha hg) (e4 _ _ (e2 _ _ ha)), hg5, az5, hG5, ?_⟩
    rw [c5, Nat.succ_mul]
    omega

theorem ok_law (T : Tx K mg a) : FnOk P w K mg base CX0 14 a.f_law a.d_law ["_law_script"] (spLaw K) := by
  have G_l_at := ok_at63 (P := P) (w := w) (base := base) T
  have G_l_digits := ok_digits (P := P) (w := w) (base := base) T
  have G_l_deeds := ok_deeds67 (P := P) (w := w) (base := base) T
  have G_l_told_deeds := ok_toldd62 (P := P) (w := w) (base := base) T
  have G_Program_init := ok_pini (P := P) (w := w) (base := base) T
  have G_own_plan := ok_ownplan (P := P) (w := w) (base := base) T
  have G_l_values := ok_values67 (P := P) (w := w) (base := base) T
  have G_l_before := ok_before67 (P := P) (w := w) (base := base) T
  have G_ahead := ok_ahead67 (P := P) (w := w) (base := base) T
  have G_order_of := ok_order67 (P := P) (w := w) (base := base) T
  refine T.F_law.ok sc_law (fun vs H Q E h => ?_) (fun cdv A outer s H vs Q E hr h => ?_)
  · obtain ⟨_, _, rfl, _⟩ := h; rfl
  obtain ⟨p, ns, rfl, hp, h63, _, q⟩ := h
  refine ⟨_, (@pss_cons _ _ _ _ _ (@ps_set _ _ (1) _ _ _ _ sc_law.nd rfl (Or.inl rfl) (@pe_call _ _ _ _ _ _ _ _ _ _ _ _ _ _ _ _ G_l_deeds (hr.mono (by omega)) (by rfl) T.m_l_deeds T.F_l_deeds.kp T.b_l_deeds .nil pass0 (@pa_cons _ _ _ _ _ (pv 0) (@pa_cons _ _ _ _ _ pe_int (@pa_cons _ _ _ _ _ (@pe_op _ _ _ _ _ _ _ _ op_add pe_int (@pe_op _ _ _ _ _ _ _ _ op_mod (@pe_call _ _ _ _ _ _ _ _ _ _ _ _ _ _ _ _ G_l_at (hr.mono (by omega)) (by rfl) T.m_l_at T.F_l_at.kp T.b_l_at .nil pass0 (@pa_cons _ _ _ _ _ (pv 0) (@pa_cons _ _ _ _ _ pe_int pa_nil (by rfl)) (by rfl)) (by decide) (by rfl) (by rfl)) pe_int)) pa_nil (by rfl)) (by rfl)) (by rfl)) (by decide) (by rfl) (by rfl)) (by rfl) (by first | exact .inl rfl | exact .inr rfl | assumption)) (@pss_cons _ _ _ _ _ (@ps_set _ _ (2) _ _ _ _ sc_law.nd rfl (Or.inr rfl) pe_int (by rfl) (by first | exact .inl rfl | exact .inr rfl | assumption)) (@pss_cons _ _ _ _ _ (@ps_if _ _ _ _ _ _ _ _ (@pt_cmpR _ _ _ _ _ _ _ _ op_eq (@pe_op _ _ _ _ _ _ _ _ op_mod (@pe_call _ _ _ _ _ _ _ _ _ _ _ _ _ _ _ _ G_l_at (hr.mono (by omega)) (by rfl) T.m_l_at T.F_l_at.kp T.b_l_at .nil pass0 (@pa_cons _ _ _ _ _ (pv 0) (@pa_cons _ _ _ _ _ pe_int pa_nil (by rfl)) (by rfl)) (by decide) (by rfl) (by rfl)) pe_int) pe_int (@nomark _ _ (by decide) (by decide))) (@pss_one _ _ _ (@ps_set _ _ (2) _ _ _ _ sc_law.nd rfl (Or.inr rfl) (@pe_op _ _ _ _ _ _ _ _ op_sub (@pe_op _ _ _ _ _ _ _ _ op_mod (@pe_op _ _ _ _ _ _ _ _ op_mul (@pe_call _ _ _ _ _ _ _ _ _ _ _ _ _ _ _ _ G_l_at (hr.mono (by omega)) (by rfl) T.m_l_at T.F_l_at.kp T.b_l_at .nil pass0 (@pa_cons _ _ _ _ _ (pv 0) (@pa_cons _ _ _ _ _ pe_int pa_nil (by rfl)) (by rfl)) (by decide) (by rfl) (by rfl)) pe_int) (@pe_op _ _ _ _ _ _ _ _ op_add (@pe_op _ _ _ _ _ _ _ _ op_mul pe_int (@pe_op _ _ _ _ _ _ _ _ op_pow pe_int pe_int)) pe_int)) (@pe_op _ _ _ _ _ _ _ _ op_pow pe_int pe_int)) (by rfl) (by first | exact .inl rfl | exact .inr rfl | assumption))) pss_nil) (@pss_cons _ _ _ _ _ (@ps_set _ _ (3) _ _ _ _ sc_law.nd rfl (Or.inl rfl) (@pe_make _ _ _ _ _ _ _ _ _ _ _ _ _ _ _ _ _ T.mk_Program G_Program_init (hr.mono (by omega)) (by rfl) T.mc_Program T.b_Program_init .nil pass0 (@pa_cons _ _ _ _ _ pe_int (@pa_cons _ _ _ _ _ (@pe_call _ _ _ _ _ _ _ _ _ _ _ _ _ _ _ _ G_l_told_deeds (hr.mono (by omega)) (by rfl) T.m_l_told_deeds T.F_l_told_deeds.kp T.b_l_told_deeds .nil pass0 (@pa_cons _ _ _ _ _ (pv 1) (@pa_cons _ _ _ _ _ pe_int (@pa_cons _ _ _ _ _ (pv 2) pa_nil (by rfl)) (by rfl)) (by rfl)) (by decide) (by rfl) (by rfl)) pa_nil (by rfl)) (by rfl)) (by decide) (by rfl) (by rfl)) (by rfl) (by first | exact .inl rfl | exact .inr rfl | assumption)) (@pss_cons _ _ _ _ _ (@ps_set _ _ (4) _ _ _ _ sc_law.nd rfl (Or.inl rfl) (@pe_call _ _ _ _ _ _ _ _ _ _ _ _ _ _ _ _ G_own_plan (hr.mono (by omega)) (by rfl) T.m_own_plan T.F_own_plan.kp T.b_own_plan .nil pass0 (@pa_cons _ _ _ _ _ (pv 3) pa_nil (by rfl)) (by decide) (by rfl) (by rfl)) (by rfl) (by first | exact .inl rfl | exact .inr rfl | assumption)) (@pss_cons _ _ _ _ _ (@ps_set _ _ (5) _ _ _ _ sc_law.nd rfl (Or.inl rfl) (@pe_lst _ _ _ _ pa_nil) (by rfl) (by first | exact .inl rfl | exact .inr rfl | assumption)) (@pss_cons _ _ _ _ _ (@ps_for _ _ _ _ _ _ _ _ PassesOwn.never rfl (@pi_enum _ _ _ _ _ _ _ _ (by rfl) T.z_enumerate (@pa_cons _ _ _ _ _ (pv 1) pa_nil (by rfl)) (by rfl)) (pg_tup rfl (pgs_cons (pg_name (i := 6) sc_law.nd rfl (Or.inr rfl)) (pgs_cons (pg_name (i := 7) sc_law.nd rfl (Or.inl rfl)) pgs_nil))) (@pss_one _ _ _ (@ps_expr _ _ _ _ (@pe_bm _ _ _ _ _ _ _ _ _ _ _ _ PySem.F.plainAttrs_list PySem.F.slot_list_extend PySem.F.type_list_extend mt_extend (pv 5) (@pa_cons _ _ _ _ _ (@pe_compB _ _ _ _ _ _ _ ["_law_small", "_law_base", "_law_k"] [none, some 2, some 6] _ _ _ _ (by rfl) (@pi_list _ _ _ _ (@pe_call _ _ _ _ _ _ _ _ _ _ _ _ _ _ _ _ G_l_values (hr.mono (by omega)) (by rfl) T.m_l_values T.F_l_values.kp T.b_l_values .nil pass0 (@pa_cons _ _ _ _ _ (@pe_ix _ _ _ _ _ _ _ ix_tup (pv 7) pe_int (fun _ _ => rfl)) pa_nil (by rfl)) (by decide) (by rfl) (by rfl))) c_law_0 (fun _ _ _ _ _ _ => ⟨(pg_name (i := 0) c_law_0n rfl (Or.inl rfl)), @pts_nil _, (@pe_tup _ _ _ _ _ (@pa_cons _ _ _ _ _ (pv 2) (@pa_cons _ _ _ _ _ (@pe_callTy _ _ _ _ _ _ _ _ _ (show CallR _ _ (rTupOf K) from call_tuple_of) (by rfl) T.z_tuple bt_tuple (@pa_cons _ _ _ _ _ (@pe_compB _ _ _ _ _ _ _ ["_law_one", "_law_base"] [none, some 1] _ _ _ _ (by rfl) (show PI _ _ _ (iTup K _) from (@pi_tup _ _ _ _ (pv 0))) c_law_1 (fun _ _ _ _ _ _ => ⟨(pg_name (i := 0) c_law_1n rfl (Or.inl rfl)), @pts_nil _, (@pe_op _ _ _ _ _ _ _ _ op_add (pv 0) (pv 1))⟩) (by intro _ ; rfl)) pa_nil (by rfl)) (by decide) (by decide) (by rfl) (by rfl)) pa_nil (by rfl)) (by rfl)))⟩) (by intro _ ; rfl)) pa_nil (by rfl)) (by rfl) (by rfl) (by rfl) (by rfl) (by rfl)) (by rfl))) (by intro _ ; rfl)) (@pss_cons _ _ _ _ _ (@ps_if _ _ _ _ _ _ _ _ (@pt_cmpR _ _ _ _ _ _ _ _ op_lt (@pe_callB _ _ _ _ _ _ _ _ _ call_len_seq (by rfl) T.z_len bt_len (@pa_cons _ _ _ _ _ (pv 5) pa_nil (by rfl)) (by decide) (by decide) (by rfl) (by rfl)) pe_int (@nomark _ _ (by decide) (by decide))) (@pss_one _ _ _ (@ps_ret _ _ _ _ pe_bl)) pss_nil) (@pss_cons _ _ _ _ _ (@ps_for _ _ _ _ _ _ _ _ PassesOwn.never rfl (@pi_range2 _ _ _ _ _ _ _ (by rfl) T.z_range (@pa_cons _ _ _ _ _ pe_int (@pa_cons _ _ _ _ _ (@pe_callB _ _ _ _ _ _ _ _ _ (@call_min2 _ rfl) (by rfl) T.z_min bt_min (@pa_cons _ _ _ _ _ (@pe_callB _ _ _ _ _ _ _ _ _ (@call_max2 _ rfl) (by rfl) T.z_max bt_max (@pa_cons _ _ _ _ _ (@pe_callB _ _ _ _ _ _ _ _ _ call_len_seq (by rfl) T.z_len bt_len (@pa_cons _ _ _ _ _ (pv 0) pa_nil (by rfl)) (by decide) (by decide) (by rfl) (by rfl)) (@pa_cons _ _ _ _ _ pe_int pa_nil (by rfl)) (by rfl)) (by decide) (by decide) (by rfl) (by rfl)) (@pa_cons _ _ _ _ _ pe_int pa_nil (by rfl)) (by rfl)) (by decide) (by decide) (by rfl) (by rfl)) pa_nil (by rfl)) (by rfl)) (by rfl) (by rfl)) (pg_name (i := 6) sc_law.nd rfl (Or.inr rfl)) (@pss_cons _ _ _ _ _ (@ps_asg _ _ _ _ _ _ (@pe_call _ _ _ _ _ _ _ _ _ _ _ _ _ _ _ _ G_l_digits (hr.mono (by omega)) (by rfl) T.m_l_digits T.F_l_digits.kp T.b_l_digits .nil pass0 (@pa_cons _ _ _ _ _ (@pe_call _ _ _ _ _ _ _ _ _ _ _ _ _ _ _ _ G_l_at (hr.mono (by omega)) (by rfl) T.m_l_at T.F_l_at.kp T.b_l_at .nil pass0 (@pa_cons _ _ _ _ _ (pv 0) (@pa_cons _ _ _ _ _ (pv 6) pa_nil (by rfl)) (by rfl)) (by decide) (by rfl) (by rfl)) (@pa_cons _ _ _ _ _ (@pe_lst _ _ _ _ (@pa_cons _ _ _ _ _ (@pe_callB _ _ _ _ _ _ _ _ _ call_len_seq (by rfl) T.z_len bt_len (@pa_cons _ _ _ _ _ (pv 5) pa_nil (by rfl)) (by decide) (by decide) (by rfl) (by rfl)) (@pa_cons _ _ _ _ _ (@pe_op _ _ _ _ _ _ _ _ op_sub (@pe_callB _ _ _ _ _ _ _ _ _ call_len_seq (by rfl) T.z_len bt_len (@pa_cons _ _ _ _ _ (pv 5) pa_nil (by rfl)) (by decide) (by decide) (by rfl) (by rfl)) pe_int) pa_nil (by rfl)) (by rfl))) pa_nil (by rfl)) (by rfl)) (by decide) (by rfl) (by rfl)) (pg_lst rfl (pgs_cons (pg_name (i := 8) sc_law.nd rfl (Or.inl rfl)) (pgs_cons (pg_name (i := 9) sc_law.nd rfl (Or.inl rfl)) pgs_nil))) (by rfl) (by rfl) (by rfl)) (@pss_cons _ _ _ _ _ (@ps_set _ _ (10) _ _ _ _ sc_law.nd rfl (Or.inl rfl) (@pe_ix _ _ _ _ _ _ _ ix_list (pv 5) (pv 8) (fun _ _ => rfl)) (by rfl) (by first | exact .inl rfl | exact .inr rfl | assumption)) (@pss_cons _ _ _ _ _ (@ps_set _ _ (11) _ _ _ _ sc_law.nd rfl (Or.inl rfl) (@pe_ix _ _ _ _ _ _ _ ix_list (pv 5) (@pe_op _ _ _ _ _ _ _ _ op_mod (@pe_op _ _ _ _ _ _ _ _ op_add (@pe_op _ _ _ _ _ _ _ _ op_add (pv 8) pe_int) (pv 9)) (@pe_callB _ _ _ _ _ _ _ _ _ call_len_seq (by rfl) T.z_len bt_len (@pa_cons _ _ _ _ _ (pv 5) pa_nil (by rfl)) (by decide) (by decide) (by rfl) (by rfl))) (fun _ _ => rfl)) (by rfl) (by first | exact .inl rfl | exact .inr rfl | assumption)) (@pss_cons _ _ _ _ _ (@ps_set _ _ (12) _ _ _ _ sc_law.nd rfl (Or.inl rfl) (@pe_call _ _ _ _ _ _ _ _ _ _ _ _ _ _ _ _ G_l_before (hr.mono (by omega)) (by rfl) T.m_l_before T.F_l_before.kp T.b_l_before .nil pass0 (@pa_cons _ _ _ _ _ (pv 10) (@pa_cons _ _ _ _ _ (pv 11) (@pa_cons _ _ _ _ _ (pv 1) pa_nil (by rfl)) (by rfl)) (by rfl)) (by decide) (by rfl) (by rfl)) (by rfl) (by first | exact .inl rfl | exact .inr rfl | assumption)) (@pss_cons _ _ _ _ _ (@ps_set _ _ (13) _ _ _ _ sc_law.nd rfl (Or.inl rfl) (@pe_call _ _ _ _ _ _ _ _ _ _ _ _ _ _ _ _ G_ahead (hr.mono (by omega)) (by rfl) T.m_ahead T.F_ahead.kp T.b_ahead .nil pass0 (@pa_cons _ _ _ _ _ (pv 3) (@pa_cons _ _ _ _ _ (pv 10) (@pa_cons _ _ _ _ _ (pv 11) pa_nil (by rfl)) (by rfl)) (by rfl)) (by decide) (by rfl) (by rfl)) (by rfl) (by first | exact .inl rfl | exact .inr rfl | assumption)) (@pss_cons _ _ _ _ _ (@ps_if _ _ _ _ _ _ _ _ ((@pw_or _ _ _ _ _ _ _ (@pt_not _ _ _ _ (@pt_val _ _ _ (@pe_callB _ _ _ _ _ _ _ _ _ call_isi (by rfl) T.z_isinstance bt_isinstance (@pa_cons _ _ _ _ _ (pv 13) (@pa_cons _ _ _ _ _ (@pe_bltn _ _ (.ty "bool") _ _ (by rfl) T.z_bool bt_bool rfl (by decide) (by decide)) pa_nil (by rfl)) (by rfl)) (by decide) (by decide) (by rfl) (by rfl)) (by intro _ ; rfl))) (@pw_or1 _ _ _ _ (@pt_cmpR _ _ _ _ _ _ _ _ op_ne (pv 13) (pv 12) (@nomark _ _ (by decide) (by decide)))))).pt (@pss_one _ _ _ (@ps_ret _ _ _ _ pe_bl)) pss_nil) (@pss_cons _ _ _ _ _ (@ps_set _ _ (14) _ _ _ _ sc_law.nd rfl (Or.inl rfl) (@pe_call _ _ _ _ _ _ _ _ _ _ _ _ _ _ _ _ G_order_of (hr.mono (by omega)) (by rfl) T.m_order_of T.F_order_of.kp T.b_order_of .nil pass0 (@pa_cons _ _ _ _ _ (pv 3) (@pa_cons _ _ _ _ _ (pv 4) (@pa_cons _ _ _ _ _ (@pe_lst _ _ _ _ pa_nil) (@pa_cons _ _ _ _ _ (pv 10) (@pa_cons _ _ _ _ _ (pv 11) pa_nil (by rfl)) (by rfl)) (by rfl)) (by rfl)) (by rfl)) (by decide) (by rfl) (by rfl)) (by rfl) (by first | exact .inl rfl | exact .inr rfl | assumption)) (@pss_one _ _ _ (@ps_if _ _ _ _ _ _ _ _ ((@pw_or _ _ _ _ _ _ _ (@pt_not _ _ _ _ (@pt_val _ _ _ (@pe_callB _ _ _ _ _ _ _ _ _ call_isi (by rfl) T.z_isinstance bt_isinstance (@pa_cons _ _ _ _ _ (pv 14) (@pa_cons _ _ _ _ _ (@pe_bltn _ _ (.ty "int") _ _ (by rfl) T.z_int bt_int rfl (by decide) (by decide)) pa_nil (by rfl)) (by rfl)) (by decide) (by decide) (by rfl) (by rfl)) (by intro _ ; rfl))) (@pw_or _ _ _ _ _ _ _ (@pt_val _ _ _ (@pe_callB _ _ _ _ _ _ _ _ _ call_isi (by rfl) T.z_isinstance bt_isinstance (@pa_cons _ _ _ _ _ (pv 14) (@pa_cons _ _ _ _ _ (@pe_bltn _ _ (.ty "bool") _ _ (by rfl) T.z_bool bt_bool rfl (by decide) (by decide)) pa_nil (by rfl)) (by rfl)) (by decide) (by decide) (by rfl) (by rfl)) (by intro _ ; rfl)) (@pw_or1 _ _ _ _ (@pt_cmpR _ _ _ _ _ _ _ _ op_ne (pv 14) (@pe_op _ _ _ _ _ _ _ _ op_sub pe_int (@pe_op _ _ _ _ _ _ _ _ op_mul pe_int (@pe_callTy _ _ _ _ _ _ _ _ _ call_int1 (by rfl) T.z_int bt_int (@pa_cons _ _ _ _ _ (pv 12) pa_nil (by rfl)) (by decide) (by decide) (by rfl) (by rfl)))) (@nomark _ _ (by decide) (by decide))))))).pt (@pss_one _ _ _ (@ps_ret _ _ _ _ pe_bl)) pss_nil))))))))) (by intro _ ; rfl)) (@pss_one _ _ _ (@ps_ret _ _ _ _ pe_bl))))))))))), ?_⟩
  -- the deeds
  refine ⟨_, rfl, _, rfl, p, ns, 0, rfl, hp, by decide, by decide, fun m m0 _ => ⟨_, _, rfl, rfl, (by show (0 : Int) < 6; decide), _, _, rfl, rfl, ?_⟩⟩
  obtain ⟨n, hn, n1, n6⟩ : ∃ n : Nat, 1 + m % 6 = (n : Int) ∧ 1 ≤ n ∧ n ≤ 6 := ⟨(1 + m % 6).toNat, by omega, by omega, by omega⟩
  refine ⟨p, ns, 2, n, by show [V.ref p, V.int 2, V.int (1 + m % 6)] = _; rw [hn], hp, by decide, by decide, n6, fun dl xs H1 Ds e1 hdl axd Dsl rq => ?_⟩
  have xl := axd.1
  dsimp only [gName]
  refine seq_asgC ?_
  refine seq_any (fun σ' H' => ∃ b : Int, H' = H1 ∧ σ' = [some (.ref p), some (.ref dl), some (.int b), none, none, none, none, none, none, none, none, none, none, none, none] ∧ -100000000000000000 ≤ b ∧ b ≤ 100000000000000000) (fun σ' H' pp => ?_) (fun nx => ?_)
  rotate_left
  · refine ⟨_, rfl, p, ns, 1, rfl, e1.seq hp, by decide, by decide, fun m2 m20 m21 => ⟨_, _, rfl, rfl, (by show (0 : Int) < 2; decide), rfl, _, rfl, ite2 (fun _ => ?_) (fun _ => ?_)⟩⟩
    rotate_left
    · exact nx _ _ ⟨0, rfl, rfl, by decide, by decide⟩
    refine ⟨_, rfl, p, ns, 1, rfl, e1.seq hp, by decide, by decide, fun m3 m30 m31 => ⟨_, _, rfl, rfl, .inr ⟨by decide, by decide⟩, _, _, rfl, rfl, ⟨by decide, by decide, by decide⟩, _, _, rfl, rfl, .inl ⟨by decide, by decide⟩, _, _, rfl, rfl, _, _, rfl, rfl, (by show (0 : Int) < 2 * 10 ^ (17 : Int).toNat + 1; decide), _, _, rfl, rfl, ⟨by decide, by decide, by decide⟩, _, _, rfl, rfl, ?_⟩⟩
    have ee : (10 ^ (17 : Int).toNat : Int) = 100000000000000000 := by decide
    have h1 := Int.emod_nonneg (m3 * 998244353) (show (2 * 10 ^ (17 : Int).toNat + 1 : Int) ≠ 0 by decide)
    have h2 := Int.emod_lt_of_pos (m3 * 998244353) (show (0 : Int) < 2 * 10 ^ (17 : Int).toNat + 1 by decide)
    exact nx _ _ ⟨m3 * 998244353 % (2 * 10 ^ (17 : Int).toNat + 1) - 10 ^ (17 : Int).toNat, rfl, rfl, by omega, by omega⟩
  obtain ⟨b, hH, rfl, b0, b1⟩ := pp
  rw [hH]
  clear hH
  -- the program
  refine ⟨_, rfl, _, rfl, dl, b, xs, Ds, rfl, hdl, axd, by omega, fun D hD => (rq.row.ok D hD).ll, fun tl ws H4 e4 htl aw => ?_⟩
  have wl := aw.1
  rw [List.length_map] at wl
  have okD := okD_of7 (b := b) rq.row (by omega) b0 b1
  have eH4 := e1.trans e4
  intro x dx hx hdx hxd
  have ntx : tl ≠ x := ne_of_none htl hx
  have ntd : tl ≠ dx := ne_of_none htl hdx
  refine ⟨x, dx, _, tl, ws, rfl, upd_same, SqL.of (by rw [upd_ne ntx, upd_ne ntd]; exact htl), fun d5 H6 hd5 k6 hd6 hx6 => ⟨rfl, ?_⟩⟩
  obtain ⟨dx6, hx6⟩ := hx6
  have e6 := made_same hx hdx k6
  have aw6 := aw.mono fun y R z => DoAt.over e6 z
  dsimp only [gName]
  have hP : ∀ HX, Same H6 HX → PrgW a.c_Program a.c_Deed (csOf a) HX (.ref x) 97 (Ds.map (dwOf b)) := fun HX e => ⟨x, dx6, d5, rfl, e _ _ hx6, ws, e _ _ hd6, aw6.mono fun _ _ z => DoAt.over e z⟩
  -- its plan
  refine ⟨_, rfl, .ref x, 97, _, rfl, hP _ (Same.refl _), okD, fun pl H7 f e7 hpl hf => ?_⟩
  have hF : ∀ HX, Same H7 HX → PlanF HX pl (bq b Ds) (ownT (Ds.map (dwOf b)) f) := fun HX e => ⟨hpl.over e, own_q rq.row hf, bq_good rq (by omega), bq_nodup _ _⟩
  dsimp only [gName]
  refine ⟨szl (by show 0 ≤ 1000000; decide), fun so hso => ?_⟩
  have s8 := same_new hso (.lst [])
  have hso8 : (upd H7 so (.lst [])) so = some (.lst []) := upd_same
  dsimp only [gName]
  generalize upd H7 so (.lst []) = H8 at s8 hso8
  have e18 := (e4.trans e6).trans (e7.trans s8)
  have hdl8 := e18 _ _ hdl
  have axd8 := axd.mono fun _ _ z => z.over e18
  have e08 := e1.trans e18
  have e17 := (e4.trans e6).trans e7
  have nso : dl ≠ so := ne_of_none (e17 _ _ hdl) hso
  -- all turns
  refine seq_any (fun σ' H' => ∃ (ts : List V) (Ts : List Trn) (o6 o7 : Option V), σ' = [some (.ref p), some (.ref dl), some (.int b), some (.ref x), some (.ref pl), some (.ref so), o6, o7, none, none, none, none, none, none, none] ∧ Same H7 H' ∧ H' so = some (.lst ts) ∧ All2 (TrAt H') ts Ts ∧ (∀ T ∈ Ts, TrIn Ds T) ∧ Ts.length ≤ 607926) (fun σ' H' pp => ?_) (fun nx => ?_)
  rotate_left
  · refine ⟨_, rfl, dl, rfl, ⟨_, SqL.of hdl8⟩, ?_⟩
    refine for_enum (xs := xs) (fun i σ' H' => ∃ (ts : List V) (Ts : List Trn) (o6 o7 : Option V), σ' = [some (.ref p), some (.ref dl), some (.int b), some (.ref x), some (.ref pl), some (.ref so), o6, o7, none, none, none, none, none, none, none] ∧ Same H7 H' ∧ H' so = some (.lst ts) ∧ All2 (TrAt H') ts Ts ∧ (∀ T ∈ Ts, TrIn Ds T) ∧ Ts.length ≤ i * 101321) ⟨[], [], _, _, rfl, s8, hso8, .nil, (fun T hT => by cases hT), Nat.zero_le _⟩ (fun i σ' H' _ pp => by obtain ⟨_, _, _, _, _, e, _⟩ := pp; exact SqL.of (e _ _ (e17 _ _ hdl))) (fun i y Tt σ' H' hy pp hT => ?_) (fun σ' H' pp => ?_)
    rotate_left
    · obtain ⟨ts, Ts, o6, o7, rfl, e, h1, h2, h3, h4⟩ := pp
      exact nx _ _ ⟨ts, Ts, _, _, rfl, e, h1, h2, h3, by omega⟩
    obtain ⟨ts, Ts, o6, o7, rfl, e, hts, ats, hTs, cT⟩ := pp
    have il : i < xs.length := (List.getElem?_eq_some_iff.mp hy).1
    obtain ⟨D, hD, t, o, pt, rfl, ht, ⟨lx, hlx, alx⟩, hpt⟩ := (axd.mono fun _ _ z => z.over (e17.trans e)).get' hy
    have okd := rq.row.ok D (List.mem_of_getElem? hD)
    have ok7 := rq.in7 D (List.mem_of_getElem? hD)
    have sT := same_new hT (.tup [V.int (i : Int), V.ref t])
    refine ⟨Tt, _, rfl, SqT.of upd_same, rfl, _, _, rfl, _, _, rfl, rfl, ?_⟩
    refine ⟨_, rfl, .inl ⟨rfl, _, SqL.of (sT _ _ hts)⟩, _, rfl, t, _, 0, _, rfl, rfl, SqT.of (sT _ _ ht), rfl, o, D.L, rfl, ⟨lx, sT _ _ hlx, alx.mono fun _ _ z => z.over sT⟩, ok7, okd.ll, fun rl ys H9 R e9 hrl ay hR cR => ?_⟩
    have yl := ay.1
    refine ⟨rl, rfl, ⟨_, SqL.of hrl⟩, ?_⟩
    refine comp_list (xs := ys) (fun j zs H2 => Same H9 H2 ∧ All2 (TrAt H2) zs ((R.take j).map fun v => ((i, v.map (· + b)) : Trn))) ⟨Same.refl _, .nil⟩ (szl (by omega)) (fun j zs H2 hj pp => ⟨SqL.of (pp.1 _ _ hrl), by rw [pp.2.1, List.length_map, List.length_take]; omega⟩) (fun j y zs H2 hy2 pp => ?_) (fun zs H2 pp rz hrz => ?_)
    · obtain ⟨e2, az⟩ := pp
      obtain ⟨v, hv, tv, rfl, htv⟩ := ay.get' hy2
      have vl := hR v (List.mem_of_getElem? hv)
      have dll := okd.ll
      refine ⟨_, rfl, _, rfl, tv, rfl, ⟨_, SqT.of (e2 _ _ htv)⟩, ?_⟩
      refine comp_tup (xs := v.map V.int) (fun k us H3 => H3 = H2 ∧ us = ((v.take k).map (· + b)).map V.int) ⟨rfl, rfl⟩ (szl (by rw [List.length_map]; omega)) (fun k us H3 hk pp => ⟨by rw [pp.1]; exact SqT.of (e2 _ _ htv), by rw [pp.2, List.length_map, List.length_map, List.length_take]; omega⟩) (fun k u us H3 hu pp => ?_) (fun us H3 pp l1 hl1 => ?_)
      · obtain ⟨rfl, rfl⟩ := pp
        rw [List.getElem?_map] at hu
        cases c : v[k]? with
        | none => rw [c] at hu; cases hu
        | some n0 =>
          rw [c] at hu
          cases hu
          refine ⟨_, rfl, _, rfl, _, _, rfl, rfl, rfl, ?_⟩
          rw [take_snoc c, List.map_append, List.map_append]
          rfl
      obtain ⟨rfl, rfl⟩ := pp
      rw [List.length_map, List.take_length]
      have sl := same_new hl1 (.lst ((v.map (· + b)).map V.int))
      refine ⟨l1, _, rfl, .inl ⟨SqL.of upd_same, fun tt htt => ⟨szl (by show 2 ≤ 1000000; decide), fun r hr => ?_⟩⟩⟩
      have st := same_new htt (.tup ((v.map (· + b)).map V.int))
      have sr := same_new hr (.tup [V.int (i : Int), V.ref tt])
      refine ⟨e2.trans (sl.trans (st.trans sr)), ?_⟩
      rw [take_snoc hv, List.map_append]
      exact (az.mono fun _ _ z => z.over (sl.trans (st.trans sr))).snoc ⟨r, tt, rfl, upd_same, sr _ _ upd_same⟩
    obtain ⟨e2, az⟩ := pp
    rw [List.take_of_length_le (by omega)] at az
    have zl := az.1
    rw [List.length_map] at zl
    have sz := same_new hrz (.lst zs)
    have hts2 := (sT.trans (e9.trans (e2.trans sz))) _ _ hts
    have tl2 := ats.1
    refine ⟨so, rz, _, _, rfl, rfl, hts2, upd_same, szl (by omega), ?_⟩
    have tk := TK.upd (o := .lst (ts ++ zs)) hts2
    refine ⟨ts ++ zs, Ts ++ R.map fun v => ((i, v.map (· + b)) : Trn), _, _, rfl, fun c o hc => ?_, upd_same, ?_, fun T hT => ?_, ?_⟩
    · rw [upd_ne (ne_of_none hc hso)]
      exact (e.trans (sT.trans (e9.trans (e2.trans sz)))) _ _ hc
    · exact (ats.mono fun _ _ z => (z.over (sT.trans (e9.trans (e2.trans sz)))).tk tk).app (az.mono fun _ _ z => (z.over sz).tk tk)
    · rcases List.mem_append.mp hT with z | z
      · exact hTs T z
      · obtain ⟨v, hv, rfl⟩ := List.mem_map.mp z
        exact ⟨D, hD, by show (v.map _).length = _; rw [List.length_map]; exact hR v hv⟩
    · rw [List.length_append, List.length_map, Nat.succ_mul]
      omega
  obtain ⟨ts, Ts, o6, o7, rfl, e, hts, ats, hTs, cT⟩ := pp
  have tl2 := ats.1
  refine ⟨_, rfl, so, _, rfl, .inl (SqL.of hts), _, _, rfl, rfl, _, rfl, ite2 (fun _ => q _) (fun c => ?_)⟩
  have c := dF c
  have hpH := (e1.trans (e17.trans e)).seq hp
  have nsl : ns.length ≤ 63 := h63
  refine ⟨_, rfl, p, _, rfl, .inl hpH, _, _, rfl, _, _, rfl, _, _, rfl, ?_, ?_⟩
  · rw [List.length_map]
    refine ⟨by decide, by decide, ?_, ?_⟩ <;> split <;> first | decide | (split <;> omega)
  refine for_range (fun i σ' H2 => ∃ o6 o7 o8 o9 o10 o11 o12 o13 o14, σ' = [some (.ref p), some (.ref dl), some (.int b), some (.ref x), some (.ref pl), some (.ref so), o6, o7, o8, o9, o10, o11, o12, o13, o14] ∧ Same H' H2) ⟨_, _, _, _, _, _, _, _, _, rfl, Same.refl _⟩ (fun i σ' H2 hi pp => ?_) (fun σ' H2 pp => q _)
  obtain ⟨_, _, _, _, _, _, _, _, _, rfl, e2⟩ := pp
  have hi : i ≤ 78 := by
    refine Nat.le_of_lt (Nat.lt_of_lt_of_le hi ?_)
    rw [List.length_map]
    split <;> (try split) <;> omega
  refine ⟨_, rfl, _, rfl, p, ns, _, rfl, e2.seq hpH, by omega, by omega, fun m4 m40 _ => ?_⟩
  refine ⟨_, rfl, so, _, rfl, .inl (SqL.of (e2 _ _ hts)), _, rfl, so, _, rfl, .inl (SqL.of (e2 _ _ hts)), _, _, rfl, rfl, szl (by show 2 ≤ 1000000; decide), fun l1 hl1 => ?_⟩
  have s3 := same_new hl1 (.lst [V.int (ts.length : Int), V.int ((ts.length : Int) - 1)])
  refine ⟨m4, l1, [(ts.length : Int), (ts.length : Int) - 1], rfl, upd_same, m40, by show 2 ≤ 100; decide, fun m hm => ?_, fun r1 H3 ds e3 hr1 dsl db => ?_⟩
  · rcases List.mem_cons.mp hm with rfl | hm
    · omega
    · rw [List.mem_singleton.mp hm]; omega
  obtain ⟨x0, x1, rfl⟩ : ∃ x0 x1, ds = [x0, x1] := by
    match ds, dsl with
    | [x0, x1], _ => exact ⟨x0, x1, rfl⟩
  have d0 := db 0 x0 _ rfl rfl
  have d1 := db 1 x1 _ rfl rfl
  clear db dsl
  refine ⟨r1, _, rfl, hr1, rfl, _, _, rfl, _, _, rfl, rfl, ?_⟩
  dsimp only [gName]
  have e23 := e2.trans (s3.trans e3)
  have hts3 := e23 _ _ hts
  have ats3 := ats.mono fun _ _ z => z.over e23
  have pick : ∀ z : Int, 0 ≤ z → z < (ts.length : Int) → ∃ (y : V) (T1 : Trn), atI ts z = some y ∧ TrAt H3 y T1 ∧ TrIn Ds T1 := fun z z0 z1 => by
    obtain ⟨k, rfl⟩ : ∃ k : Nat, z = (k : Int) := ⟨z.toNat, by omega⟩
    have hk : ts[k]? = some (ts[k]'(by omega)) := List.getElem?_eq_getElem (by omega)
    obtain ⟨T1, hT1, ta⟩ := ats3.get' hk
    exact ⟨_, T1, atI_nat hk, ta, hTs T1 (List.mem_of_getElem? hT1)⟩
  obtain ⟨y1, T1, at1, ta1, in1⟩ := pick x0 d0.1 d0.2
  refine ⟨_, rfl, _, rfl, so, _, _, _, rfl, rfl, SqL.of hts3, at1, ?_⟩
  dsimp only [gName]
  have pos : (0 : Int) < (ts.length : Int) := by omega
  obtain ⟨y2, T2, at2, ta2, in2⟩ := pick ((x0 + 1 + x1) % (ts.length : Int)) (Int.emod_nonneg _ (by omega)) (Int.emod_lt_of_pos _ pos)
  refine ⟨_, rfl, _, rfl, _, _, rfl, rfl, _, rfl, _, _, rfl, rfl, _, rfl, so, _, rfl, .inl (SqL.of hts3), _, _, rfl, rfl, pos, so, _, _, _, rfl, rfl, SqL.of hts3, at2, ?_⟩
  dsimp only [gName]
  obtain ⟨D1, hD1, _⟩ := id in1
  obtain ⟨D2, hD2, _⟩ := id in2
  obtain ⟨k, hm⟩ := many_ex (B := bq b Ds) (i := T1.1) (j := T2.1) (by rw [bq_len]; exact (List.getElem?_eq_some_iff.mp hD1).1) (by rw [bq_len]; exact (List.getElem?_eq_some_iff.mp hD2).1)
  obtain ⟨ee, bb, ah⟩ := ah_ex k T1 T2
  have eL := (e17.trans e).trans e23
  have e73 := e.trans e23
  refine ⟨_, rfl, _, rfl, _, rfl, y1, y2, dl, xs, b, Ds, T1, T2, k, ee, bb, rfl, eL _ _ hdl, axd.mono fun _ _ z => z.over eL, rq, by omega, ta1, ta2, in1, in2, hm, ah, ?_⟩
  dsimp only [gName]
  refine ⟨_, rfl, _, rfl, _, rfl, .ref x, y1, y2, 97, b, Ds, T1, T2, k, ee, bb, rfl, hP _ (e7.trans e73), rq, ta1, ta2, in1, in2, hm, ah, ?_⟩
  dsimp only [gName]
  refine ⟨_, rfl, _, _, _, _, _, rfl, rfl, .bl bb, rfl, _, rfl, iteF ?_⟩
  refine ⟨_, rfl, _, rfl, rfl, _, rfl, iteE (ndF rfl) (iteF ?_)⟩
  refine ⟨_, rfl, _, rfl, szl (by show 0 ≤ 1000000; decide), fun wl0 hwl => ?_⟩
  have s5 := same_new hwl (.lst [])
  refine ⟨_, rfl, _, rfl, .ref x, y1, y2, pl, wl0, 97, b, Ds, _, T1, T2, k, ee, bb, rfl, hP _ ((e7.trans e73).trans s5), rq, by omega, hF _ (e73.trans s5), upd_same, ta1.over s5, ta2.over s5, in1, in2, hm, ah, fun H6' e6' => ?_⟩
  dsimp only [gName]
  refine ⟨_, rfl, _, _, _, _, _, rfl, rfl, .int _, rfl, _, rfl, iteF ?_⟩
  refine ⟨_, rfl, _, _, _, _, _, rfl, rfl, .int _, rfl, _, rfl, iteF ?_⟩
  refine ⟨_, rfl, _, rfl, .inr ⟨bb, rfl, _, _, rfl, rfl, .inl ⟨by decide, by decide⟩, _, _, rfl, rfl, rfl, _, rfl, iteE (ndF ?_) (iteF ?_)⟩⟩
  · cases bb <;> rfl
  exact ⟨_, _, _, _, _, _, _, _, _, rfl, e23.trans (s5.trans e6')⟩


end
theorem len_1 {us : List Value} (h : us.length = 1) : ∃ x0, us = [x0] := by
  rcases us with _ | ⟨x0, us⟩
  · cases h
  rcases us with _ | ⟨y, us⟩
  · exact ⟨x0, rfl⟩
  · simp only [List.length_cons] at h; omega
theorem len_2 {us : List Value} (h : us.length = 2) : ∃ x0 x1, us = [x0, x1] := by
  rcases us with _ | ⟨x0, us⟩
  · cases h
  rcases us with _ | ⟨x1, us⟩
  · cases h
  rcases us with _ | ⟨y, us⟩
  · exact ⟨x0, x1, rfl⟩
  · simp only [List.length_cons] at h; omega
theorem len_3 {us : List Value} (h : us.length = 3) : ∃ x0 x1 x2, us = [x0, x1, x2] := by
  rcases us with _ | ⟨x0, us⟩
  · cases h
  rcases us with _ | ⟨x1, us⟩
  · cases h
  rcases us with _ | ⟨x2, us⟩
  · cases h
  rcases us with _ | ⟨y, us⟩
  · exact ⟨x0, x1, x2, rfl⟩
  · simp only [List.length_cons] at h; omega
theorem len_5 {us : List Value} (h : us.length = 5) : ∃ x0 x1 x2 x3 x4, us = [x0, x1, x2, x3, x4] := by
  rcases us with _ | ⟨x0, us⟩
  · cases h
  rcases us with _ | ⟨x1, us⟩
  · cases h
  rcases us with _ | ⟨x2, us⟩
  · cases h
  rcases us with _ | ⟨x3, us⟩
  · cases h
  rcases us with _ | ⟨x4, us⟩
  · cases h
  rcases us with _ | ⟨y, us⟩
  · exact ⟨x0, x1, x2, x3, x4, rfl⟩
  · simp only [List.length_cons] at h; omega
theorem len_8 {us : List Value} (h : us.length = 8) : ∃ x0 x1 x2 x3 x4 x5 x6 x7, us = [x0, x1, x2, x3, x4, x5, x6, x7] := by
  rcases us with _ | ⟨x0, us⟩
  · cases h
  rcases us with _ | ⟨x1, us⟩
  · cases h
  rcases us with _ | ⟨x2, us⟩
  · cases h
  rcases us with _ | ⟨x3, us⟩
  · cases h
  rcases us with _ | ⟨x4, us⟩
  · cases h
  rcases us with _ | ⟨x5, us⟩
  · cases h
  rcases us with _ | ⟨x6, us⟩
  · cases h
  rcases us with _ | ⟨x7, us⟩
  · cases h
  rcases us with _ | ⟨y, us⟩
  · exact ⟨x0, x1, x2, x3, x4, x5, x6, x7, rfl⟩
  · simp only [List.length_cons] at h; omega
theorem bd_Number_init {kV doc pm : Value} {an : Option Addr} {cdv ct : Value} {us : List Value} (h : us.length = 2) : bindArgs (PySem.W.fnOf "__init__" "Number.__init__" (defArgs s_Number_init) (defBody s_Number_init) (defScope s_Number_init) .none kV doc pm an cdv ct) ⟨us, []⟩ = pure ((["self", "n"] : List Str).zip us) := by
  obtain ⟨_, _, rfl⟩ := len_2 h
  rfl
theorem bd_Deed_init {kV doc pm : Value} {an : Option Addr} {cdv ct : Value} {us : List Value} (h : us.length = 8) : bindArgs (PySem.W.fnOf "__init__" "Deed.__init__" (defArgs s_Deed_init) (defBody s_Deed_init) (defScope s_Deed_init) .none kV doc pm an cdv ct) ⟨us, []⟩ = pure ((["self", "names", "lows", "highs", "table", "spots", "term", "path"] : List Str).zip us) := by
  obtain ⟨_, _, _, _, _, _, _, _, rfl⟩ := len_8 h
  rfl
theorem bd_Program_init {kV doc pm : Value} {an : Option Addr} {cdv ct : Value} {us : List Value} (h : us.length = 3) : bindArgs (PySem.W.fnOf "__init__" "Program.__init__" (defArgs s_Program_init) (defBody s_Program_init) (defScope s_Program_init) .none kV doc pm an cdv ct) ⟨us, []⟩ = pure ((["self", "size", "deeds"] : List Str).zip us) := by
  obtain ⟨_, _, _, rfl⟩ := len_3 h
  rfl
theorem bd_shared {kV doc pm : Value} {an : Option Addr} {cdv ct : Value} {us : List Value} (h : us.length = 2) : bindArgs (PySem.W.fnOf "shared" "shared" (defArgs s_shared) (defBody s_shared) (defScope s_shared) .none kV doc pm an cdv ct) ⟨us, []⟩ = pure ((["one", "other"] : List Str).zip us) := by
  obtain ⟨_, _, rfl⟩ := len_2 h
  rfl
theorem bd_alike_numbers {kV doc pm : Value} {an : Option Addr} {cdv ct : Value} {us : List Value} (h : us.length = 3) : bindArgs (PySem.W.fnOf "alike_numbers" "alike_numbers" (defArgs s_alike_numbers) (defBody s_alike_numbers) (defScope s_alike_numbers) .none kV doc pm an cdv ct) ⟨us, []⟩ = pure ((["path", "other", "most"] : List Str).zip us) := by
  obtain ⟨_, _, _, rfl⟩ := len_3 h
  rfl
theorem bd_ahead {kV doc pm : Value} {an : Option Addr} {cdv ct : Value} {us : List Value} (h : us.length = 3) : bindArgs (PySem.W.fnOf "ahead" "ahead" (defArgs s_ahead) (defBody s_ahead) (defScope s_ahead) .none kV doc pm an cdv ct) ⟨us, []⟩ = pure ((["program", "one", "other"] : List Str).zip us) := by
  obtain ⟨_, _, _, rfl⟩ := len_3 h
  rfl
theorem bd_nested {kV doc pm : Value} {an : Option Addr} {cdv ct : Value} {us : List Value} (h : us.length = 1) : bindArgs (PySem.W.fnOf "nested" "nested" (defArgs s_nested) (defBody s_nested) (defScope s_nested) .none kV doc pm an cdv ct) ⟨us, []⟩ = pure ((["deeds"] : List Str).zip us) := by
  obtain ⟨_, rfl⟩ := len_1 h
  rfl
theorem bd_items_within {kV doc pm : Value} {an : Option Addr} {cdv ct : Value} {us : List Value} (h : us.length = 3) : bindArgs (PySem.W.fnOf "items_within" "items_within" (defArgs s_items_within) (defBody s_items_within) (defScope s_items_within) .none kV doc pm an cdv ct) ⟨us, []⟩ = pure ((["deeds", "numbers", "depth"] : List Str).zip us) := by
  obtain ⟨_, _, _, rfl⟩ := len_3 h
  rfl
theorem bd_neighbours {kV doc pm : Value} {an : Option Addr} {cdv ct : Value} {us : List Value} (h : us.length = 3) : bindArgs (PySem.W.fnOf "neighbours" "neighbours" (defArgs s_neighbours) (defBody s_neighbours) (defScope s_neighbours) .none kV doc pm an cdv ct) ⟨us, []⟩ = pure ((["deeds", "numbers", "depth"] : List Str).zip us) := by
  obtain ⟨_, _, _, rfl⟩ := len_3 h
  rfl
theorem bd_deeds_within {kV doc pm : Value} {an : Option Addr} {cdv ct : Value} {us : List Value} (h : us.length = 3) : bindArgs (PySem.W.fnOf "deeds_within" "deeds_within" (defArgs s_deeds_within) (defBody s_deeds_within) (defScope s_deeds_within) .none kV doc pm an cdv ct) ⟨us, []⟩ = pure ((["items", "path", "cuts"] : List Str).zip us) := by
  obtain ⟨_, _, _, rfl⟩ := len_3 h
  rfl
theorem bd_own_plan {kV doc pm : Value} {an : Option Addr} {cdv ct : Value} {us : List Value} (h : us.length = 1) : bindArgs (PySem.W.fnOf "own_plan" "own_plan" (defArgs s_own_plan) (defBody s_own_plan) (defScope s_own_plan) .none kV doc pm an cdv ct) ⟨us, []⟩ = pure ((["program"] : List Str).zip us) := by
  obtain ⟨_, rfl⟩ := len_1 h
  rfl
theorem bd_own_items {kV doc pm : Value} {an : Option Addr} {cdv ct : Value} {us : List Value} (h : us.length = 2) : bindArgs (PySem.W.fnOf "own_items" "own_items" (defArgs s_own_items) (defBody s_own_items) (defScope s_own_items) .none kV doc pm an cdv ct) ⟨us, []⟩ = pure ((["deeds", "items"] : List Str).zip us) := by
  obtain ⟨_, _, rfl⟩ := len_2 h
  rfl
theorem bd_sweeps_of {kV doc pm : Value} {an : Option Addr} {cdv ct : Value} {us : List Value} (h : us.length = 1) : bindArgs (PySem.W.fnOf "sweeps_of" "sweeps_of" (defArgs s_sweeps_of) (defBody s_sweeps_of) (defScope s_sweeps_of) .none kV doc pm an cdv ct) ⟨us, []⟩ = pure ((["plan"] : List Str).zip us) := by
  obtain ⟨_, rfl⟩ := len_1 h
  rfl
theorem bd_sweeps_within {kV doc pm : Value} {an : Option Addr} {cdv ct : Value} {us : List Value} (h : us.length = 2) : bindArgs (PySem.W.fnOf "sweeps_within" "sweeps_within" (defArgs s_sweeps_within) (defBody s_sweeps_within) (defScope s_sweeps_within) .none kV doc pm an cdv ct) ⟨us, []⟩ = pure ((["items", "path"] : List Str).zip us) := by
  obtain ⟨_, _, rfl⟩ := len_2 h
  rfl
theorem bd_stand {kV doc pm : Value} {an : Option Addr} {cdv ct : Value} {us : List Value} (h : us.length = 2) : bindArgs (PySem.W.fnOf "stand" "stand" (defArgs s_stand) (defBody s_stand) (defScope s_stand) .none kV doc pm an cdv ct) ⟨us, []⟩ = pure ((["plan", "k"] : List Str).zip us) := by
  obtain ⟨_, _, rfl⟩ := len_2 h
  rfl
theorem bd_round_both {kV doc pm : Value} {an : Option Addr} {cdv ct : Value} {us : List Value} (h : us.length = 3) : bindArgs (PySem.W.fnOf "round_both" "round_both" (defArgs s_round_both) (defBody s_round_both) (defScope s_round_both) .none kV doc pm an cdv ct) ⟨us, []⟩ = pure ((["plan", "k", "l"] : List Str).zip us) := by
  obtain ⟨_, _, _, rfl⟩ := len_3 h
  rfl
theorem bd_ends {kV doc pm : Value} {an : Option Addr} {cdv ct : Value} {us : List Value} (h : us.length = 2) : bindArgs (PySem.W.fnOf "ends" "ends" (defArgs s_ends) (defBody s_ends) (defScope s_ends) .none kV doc pm an cdv ct) ⟨us, []⟩ = pure ((["program", "plan"] : List Str).zip us) := by
  obtain ⟨_, _, rfl⟩ := len_2 h
  rfl
theorem bd_cut_paths {kV doc pm : Value} {an : Option Addr} {cdv ct : Value} {us : List Value} (h : us.length = 1) : bindArgs (PySem.W.fnOf "cut_paths" "cut_paths" (defArgs s_cut_paths) (defBody s_cut_paths) (defScope s_cut_paths) .none kV doc pm an cdv ct) ⟨us, []⟩ = pure ((["plan"] : List Str).zip us) := by
  obtain ⟨_, rfl⟩ := len_1 h
  rfl
theorem bd_ends_at {kV doc pm : Value} {an : Option Addr} {cdv ct : Value} {us : List Value} (h : us.length = 3) : bindArgs (PySem.W.fnOf "ends_at" "ends_at" (defArgs s_ends_at) (defBody s_ends_at) (defScope s_ends_at) .none kV doc pm an cdv ct) ⟨us, []⟩ = pure ((["program", "plan", "path"] : List Str).zip us) := by
  obtain ⟨_, _, _, rfl⟩ := len_3 h
  rfl
theorem bd_rulers {kV doc pm : Value} {an : Option Addr} {cdv ct : Value} {us : List Value} (h : us.length = 3) : bindArgs (PySem.W.fnOf "rulers" "rulers" (defArgs s_rulers) (defBody s_rulers) (defScope s_rulers) .none kV doc pm an cdv ct) ⟨us, []⟩ = pure ((["plan", "found", "widths"] : List Str).zip us) := by
  obtain ⟨_, _, _, rfl⟩ := len_3 h
  rfl
theorem bd_number_shown {kV doc pm : Value} {an : Option Addr} {cdv ct : Value} {us : List Value} (h : us.length = 3) : bindArgs (PySem.W.fnOf "number_shown" "number_shown" (defArgs s_number_shown) (defBody s_number_shown) (defScope s_number_shown) .none kV doc pm an cdv ct) ⟨us, []⟩ = pure ((["values", "pair", "ruler"] : List Str).zip us) := by
  obtain ⟨_, _, _, rfl⟩ := len_3 h
  rfl
theorem bd_order_of {kV doc pm : Value} {an : Option Addr} {cdv ct : Value} {us : List Value} (h : us.length = 5) : bindArgs (PySem.W.fnOf "order_of" "order_of" (defArgs s_order_of) (defBody s_order_of) (defScope s_order_of) .none kV doc pm an cdv ct) ⟨us, []⟩ = pure ((["program", "plan", "widths", "one", "other"] : List Str).zip us) := by
  obtain ⟨_, _, _, _, _, rfl⟩ := len_5 h
  rfl
theorem bd_order_by_way {kV doc pm : Value} {an : Option Addr} {cdv ct : Value} {us : List Value} (h : us.length = 2) : bindArgs (PySem.W.fnOf "order_by_way" "order_by_way" (defArgs s_order_by_way) (defBody s_order_by_way) (defScope s_order_by_way) .none kV doc pm an cdv ct) ⟨us, []⟩ = pure ((["way", "less"] : List Str).zip us) := by
  obtain ⟨_, _, rfl⟩ := len_2 h
  rfl
theorem bd_l_at {kV doc pm : Value} {an : Option Addr} {cdv ct : Value} {us : List Value} (h : us.length = 2) : bindArgs (PySem.W.fnOf "_law_at" "_law_at" (defArgs s_l_at) (defBody s_l_at) (defScope s_l_at) .none kV doc pm an cdv ct) ⟨us, []⟩ = pure ((["_law_script", "_law_k"] : List Str).zip us) := by
  obtain ⟨_, _, rfl⟩ := len_2 h
  rfl
theorem bd_l_digits {kV doc pm : Value} {an : Option Addr} {cdv ct : Value} {us : List Value} (h : us.length = 2) : bindArgs (PySem.W.fnOf "_law_digits" "_law_digits" (defArgs s_l_digits) (defBody s_l_digits) (defScope s_l_digits) .none kV doc pm an cdv ct) ⟨us, []⟩ = pure ((["_law_cell", "_law_sizes"] : List Str).zip us) := by
  obtain ⟨_, _, rfl⟩ := len_2 h
  rfl
theorem bd_l_loop {kV doc pm : Value} {an : Option Addr} {cdv ct : Value} {us : List Value} (h : us.length = 2) : bindArgs (PySem.W.fnOf "_law_loop" "_law_loop" (defArgs s_l_loop) (defBody s_l_loop) (defScope s_l_loop) .none kV doc pm an cdv ct) ⟨us, []⟩ = pure ((["_law_cell", "_law_loops"] : List Str).zip us) := by
  obtain ⟨_, _, rfl⟩ := len_2 h
  rfl
theorem bd_l_deeds {kV doc pm : Value} {an : Option Addr} {cdv ct : Value} {us : List Value} (h : us.length = 3) : bindArgs (PySem.W.fnOf "_law_deeds" "_law_deeds" (defArgs s_l_deeds) (defBody s_l_deeds) (defScope s_l_deeds) .none kV doc pm an cdv ct) ⟨us, []⟩ = pure ((["_law_script", "_law_first", "_law_count"] : List Str).zip us) := by
  obtain ⟨_, _, _, rfl⟩ := len_3 h
  rfl
theorem bd_l_told {kV doc pm : Value} {an : Option Addr} {cdv ct : Value} {us : List Value} (h : us.length = 3) : bindArgs (PySem.W.fnOf "_law_told" "_law_told" (defArgs s_l_told) (defBody s_l_told) (defScope s_l_told) .none kV doc pm an cdv ct) ⟨us, []⟩ = pure ((["_law_spot", "_law_scale", "_law_base"] : List Str).zip us) := by
  obtain ⟨_, _, _, rfl⟩ := len_3 h
  rfl
theorem bd_l_told_deeds {kV doc pm : Value} {an : Option Addr} {cdv ct : Value} {us : List Value} (h : us.length = 3) : bindArgs (PySem.W.fnOf "_law_told_deeds" "_law_told_deeds" (defArgs s_l_told_deeds) (defBody s_l_told_deeds) (defScope s_l_told_deeds) .none kV doc pm an cdv ct) ⟨us, []⟩ = pure ((["_law_deeds_here", "_law_scale", "_law_base"] : List Str).zip us) := by
  obtain ⟨_, _, _, rfl⟩ := len_3 h
  rfl
theorem bd_l_values {kV doc pm : Value} {an : Option Addr} {cdv ct : Value} {us : List Value} (h : us.length = 1) : bindArgs (PySem.W.fnOf "_law_values" "_law_values" (defArgs s_l_values) (defBody s_l_values) (defScope s_l_values) .none kV doc pm an cdv ct) ⟨us, []⟩ = pure ((["_law_loops"] : List Str).zip us) := by
  obtain ⟨_, rfl⟩ := len_1 h
  rfl
theorem bd_l_before {kV doc pm : Value} {an : Option Addr} {cdv ct : Value} {us : List Value} (h : us.length = 3) : bindArgs (PySem.W.fnOf "_law_before" "_law_before" (defArgs s_l_before) (defBody s_l_before) (defScope s_l_before) .none kV doc pm an cdv ct) ⟨us, []⟩ = pure ((["_law_one", "_law_other", "_law_deeds_here"] : List Str).zip us) := by
  obtain ⟨_, _, _, rfl⟩ := len_3 h
  rfl
theorem bd_law {kV doc pm : Value} {an : Option Addr} {cdv ct : Value} {us : List Value} (h : us.length = 1) : bindArgs (PySem.W.fnOf "law" "law" (defArgs s_law) (defBody s_law) (defScope s_law) .none kV doc pm an cdv ct) ⟨us, []⟩ = pure ((["_law_script"] : List Str).zip us) := by
  obtain ⟨_, rfl⟩ := len_1 h
  rfl
theorem txt_mk {K : PySem.W.Frag} {h : Heap} {mg : Str → Option Value} {fa : Addr} (X : K.In h) (G : h.Ns mainGlobals mg) (hfa : mg "law" = some (.ref fa))
    {C_Number : Addr} {C_Deed : Addr} {C_Program : Addr} {f1 : Addr} {od1 an1 : Option Addr} {sl1 : Array (Option Value)} {oc1 kV1 dc1 pm1 cd1 ct1 : Value} {f2 : Addr} {od2 an2 : Option Addr} {sl2 : Array (Option Value)} {oc2 kV2 dc2 pm2 cd2 ct2 : Value} {f3 : Addr} {od3 an3 : Option Addr} {sl3 : Array (Option Value)} {oc3 kV3 dc3 pm3 cd3 ct3 : Value} {f4 : Addr} {od4 an4 : Option Addr} {sl4 : Array (Option Value)} {oc4 kV4 dc4 pm4 cd4 ct4 : Value} {f5 : Addr} {od5 an5 : Option Addr} {sl5 : Array (Option Value)} {oc5 kV5 dc5 pm5 cd5 ct5 : Value} {f6 : Addr} {od6 an6 : Option Addr} {sl6 : Array (Option Value)} {oc6 kV6 dc6 pm6 cd6 ct6 : Value} {f7 : Addr} {od7 an7 : Option Addr} {sl7 : Array (Option Value)} {oc7 kV7 dc7 pm7 cd7 ct7 : Value} {f8 : Addr} {od8 an8 : Option Addr} {sl8 : Array (Option Value)} {oc8 kV8 dc8 pm8 cd8 ct8 : Value} {f9 : Addr} {od9 an9 : Option Addr} {sl9 : Array (Option Value)} {oc9 kV9 dc9 pm9 cd9 ct9 : Value} {f10 : Addr} {od10 an10 : Option Addr} {sl10 : Array (Option Value)} {oc10 kV10 dc10 pm10 cd10 ct10 : Value} {f11 : Addr} {od11 an11 : Option Addr} {sl11 : Array (Option Value)} {oc11 kV11 dc11 pm11 cd11 ct11 : Value} {f12 : Addr} {od12 an12 : Option Addr} {sl12 : Array (Option Value)} {oc12 kV12 dc12 pm12 cd12 ct12 : Value} {f13 : Addr} {od13 an13 : Option Addr} {sl13 : Array (Option Value)} {oc13 kV13 dc13 pm13 cd13 ct13 : Value} {f14 : Addr} {od14 an14 : Option Addr} {sl14 : Array (Option Value)} {oc14 kV14 dc14 pm14 cd14 ct14 : Value} {f15 : Addr} {od15 an15 : Option Addr} {sl15 : Array (Option Value)} {oc15 kV15 dc15 pm15 cd15 ct15 : Value} {f16 : Addr} {od16 an16 : Option Addr} {sl16 : Array (Option Value)} {oc16 kV16 dc16 pm16 cd16 ct16 : Value} {f17 : Addr} {od17 an17 : Option Addr} {sl17 : Array (Option Value)} {oc17 kV17 dc17 pm17 cd17 ct17 : Value} {f18 : Addr} {od18 an18 : Option Addr} {sl18 : Array (Option Value)} {oc18 kV18 dc18 pm18 cd18 ct18 : Value} {f19 : Addr} {od19 an19 : Option Addr} {sl19 : Array (Option Value)} {oc19 kV19 dc19 pm19 cd19 ct19 : Value} {f20 : Addr} {od20 an20 : Option Addr} {sl20 : Array (Option Value)} {oc20 kV20 dc20 pm20 cd20 ct20 : Value} {f21 : Addr} {od21 an21 : Option Addr} {sl21 : Array (Option Value)} {oc21 kV21 dc21 pm21 cd21 ct21 : Value} {f22 : Addr} {od22 an22 : Option Addr} {sl22 : Array (Option Value)} {oc22 kV22 dc22 pm22 cd22 ct22 : Value} {f23 : Addr} {od23 an23 : Option Addr} {sl23 : Array (Option Value)} {oc23 kV23 dc23 pm23 cd23 ct23 : Value} {f24 : Addr} {od24 an24 : Option Addr} {sl24 : Array (Option Value)} {oc24 kV24 dc24 pm24 cd24 ct24 : Value} {f25 : Addr} {od25 an25 : Option Addr} {sl25 : Array (Option Value)} {oc25 kV25 dc25 pm25 cd25 ct25 : Value} {f26 : Addr} {od26 an26 : Option Addr} {sl26 : Array (Option Value)} {oc26 kV26 dc26 pm26 cd26 ct26 : Value} {f27 : Addr} {od27 an27 : Option Addr} {sl27 : Array (Option Value)} {oc27 kV27 dc27 pm27 cd27 ct27 : Value} {f28 : Addr} {od28 an28 : Option Addr} {sl28 : Array (Option Value)} {oc28 kV28 dc28 pm28 cd28 ct28 : Value} {f29 : Addr} {od29 an29 : Option Addr} {sl29 : Array (Option Value)} {oc29 kV29 dc29 pm29 cd29 ct29 : Value} {f30 : Addr} {od30 an30 : Option Addr} {sl30 : Array (Option Value)} {oc30 kV30 dc30 pm30 cd30 ct30 : Value} {f31 : Addr} {od31 an31 : Option Addr} {sl31 : Array (Option Value)} {oc31 kV31 dc31 pm31 cd31 ct31 : Value} {f32 : Addr} {od32 an32 : Option Addr} {sl32 : Array (Option Value)} {oc32 kV32 dc32 pm32 cd32 ct32 : Value}
    (a_Number : PySem.W.nsIn K mainGlobals "Number" = some (some (.ref C_Number)))
    (a_Deed : PySem.W.nsIn K mainGlobals "Deed" = some (some (.ref C_Deed)))
    (a_Program : PySem.W.nsIn K mainGlobals "Program" = some (some (.ref C_Program)))
    (a1 : PySem.W.findIn K (.ref C_Number) "__init__" = some (some (.ref f1))) (i1 : PySem.W.isFn K (.ref f1) = true)
    (l1 : K.lookup f1 = some ⟨oc1, od1, .func (PySem.W.fnOf "__init__" "Number.__init__" (defArgs s_Number_init) (defBody s_Number_init) (defScope s_Number_init) .none kV1 dc1 pm1 an1 cd1 ct1), sl1⟩) (c1 : PySem.W.codeIn K cd1 "Number.__init__" = true) (k1 : PySem.W.keepIn K (.ref f1) = true)
    (a2 : PySem.W.findIn K (.ref C_Deed) "__init__" = some (some (.ref f2))) (i2 : PySem.W.isFn K (.ref f2) = true)
    (l2 : K.lookup f2 = some ⟨oc2, od2, .func (PySem.W.fnOf "__init__" "Deed.__init__" (defArgs s_Deed_init) (defBody s_Deed_init) (defScope s_Deed_init) .none kV2 dc2 pm2 an2 cd2 ct2), sl2⟩) (c2 : PySem.W.codeIn K cd2 "Deed.__init__" = true) (k2 : PySem.W.keepIn K (.ref f2) = true)
    (a3 : PySem.W.findIn K (.ref C_Program) "__init__" = some (some (.ref f3))) (i3 : PySem.W.isFn K (.ref f3) = true)
    (l3 : K.lookup f3 = some ⟨oc3, od3, .func (PySem.W.fnOf "__init__" "Program.__init__" (defArgs s_Program_init) (defBody s_Program_init) (defScope s_Program_init) .none kV3 dc3 pm3 an3 cd3 ct3), sl3⟩) (c3 : PySem.W.codeIn K cd3 "Program.__init__" = true) (k3 : PySem.W.keepIn K (.ref f3) = true)
    (a4 : PySem.W.nsIn K mainGlobals "shared" = some (some (.ref f4)))
    (l4 : K.lookup f4 = some ⟨oc4, od4, .func (PySem.W.fnOf "shared" "shared" (defArgs s_shared) (defBody s_shared) (defScope s_shared) .none kV4 dc4 pm4 an4 cd4 ct4), sl4⟩) (c4 : PySem.W.codeIn K cd4 "shared" = true) (k4 : PySem.W.keepIn K (.ref f4) = true)
    (a5 : PySem.W.nsIn K mainGlobals "alike_numbers" = some (some (.ref f5)))
    (l5 : K.lookup f5 = some ⟨oc5, od5, .func (PySem.W.fnOf "alike_numbers" "alike_numbers" (defArgs s_alike_numbers) (defBody s_alike_numbers) (defScope s_alike_numbers) .none kV5 dc5 pm5 an5 cd5 ct5), sl5⟩) (c5 : PySem.W.codeIn K cd5 "alike_numbers" = true) (k5 : PySem.W.keepIn K (.ref f5) = true)
    (a6 : PySem.W.nsIn K mainGlobals "ahead" = some (some (.ref f6)))
    (l6 : K.lookup f6 = some ⟨oc6, od6, .func (PySem.W.fnOf "ahead" "ahead" (defArgs s_ahead) (defBody s_ahead) (defScope s_ahead) .none kV6 dc6 pm6 an6 cd6 ct6), sl6⟩) (c6 : PySem.W.codeIn K cd6 "ahead" = true) (k6 : PySem.W.keepIn K (.ref f6) = true)
    (a7 : PySem.W.nsIn K mainGlobals "nested" = some (some (.ref f7)))
    (l7 : K.lookup f7 = some ⟨oc7, od7, .func (PySem.W.fnOf "nested" "nested" (defArgs s_nested) (defBody s_nested) (defScope s_nested) .none kV7 dc7 pm7 an7 cd7 ct7), sl7⟩) (c7 : PySem.W.codeIn K cd7 "nested" = true) (k7 : PySem.W.keepIn K (.ref f7) = true)
    (a8 : PySem.W.nsIn K mainGlobals "items_within" = some (some (.ref f8)))
    (l8 : K.lookup f8 = some ⟨oc8, od8, .func (PySem.W.fnOf "items_within" "items_within" (defArgs s_items_within) (defBody s_items_within) (defScope s_items_within) .none kV8 dc8 pm8 an8 cd8 ct8), sl8⟩) (c8 : PySem.W.codeIn K cd8 "items_within" = true) (k8 : PySem.W.keepIn K (.ref f8) = true)
    (a9 : PySem.W.nsIn K mainGlobals "neighbours" = some (some (.ref f9)))
    (l9 : K.lookup f9 = some ⟨oc9, od9, .func (PySem.W.fnOf "neighbours" "neighbours" (defArgs s_neighbours) (defBody s_neighbours) (defScope s_neighbours) .none kV9 dc9 pm9 an9 cd9 ct9), sl9⟩) (c9 : PySem.W.codeIn K cd9 "neighbours" = true) (k9 : PySem.W.keepIn K (.ref f9) = true)
    (a10 : PySem.W.nsIn K mainGlobals "deeds_within" = some (some (.ref f10)))
    (l10 : K.lookup f10 = some ⟨oc10, od10, .func (PySem.W.fnOf "deeds_within" "deeds_within" (defArgs s_deeds_within) (defBody s_deeds_within) (defScope s_deeds_within) .none kV10 dc10 pm10 an10 cd10 ct10), sl10⟩) (c10 : PySem.W.codeIn K cd10 "deeds_within" = true) (k10 : PySem.W.keepIn K (.ref f10) = true)
    (a11 : PySem.W.nsIn K mainGlobals "own_plan" = some (some (.ref f11)))
    (l11 : K.lookup f11 = some ⟨oc11, od11, .func (PySem.W.fnOf "own_plan" "own_plan" (defArgs s_own_plan) (defBody s_own_plan) (defScope s_own_plan) .none kV11 dc11 pm11 an11 cd11 ct11), sl11⟩) (c11 : PySem.W.codeIn K cd11 "own_plan" = true) (k11 : PySem.W.keepIn K (.ref f11) = true)
    (a12 : PySem.W.nsIn K mainGlobals "own_items" = some (some (.ref f12)))
    (l12 : K.lookup f12 = some ⟨oc12, od12, .func (PySem.W.fnOf "own_items" "own_items" (defArgs s_own_items) (defBody s_own_items) (defScope s_own_items) .none kV12 dc12 pm12 an12 cd12 ct12), sl12⟩) (c12 : PySem.W.codeIn K cd12 "own_items" = true) (k12 : PySem.W.keepIn K (.ref f12) = true)
    (a13 : PySem.W.nsIn K mainGlobals "sweeps_of" = some (some (.ref f13)))
    (l13 : K.lookup f13 = some ⟨oc13, od13, .func (PySem.W.fnOf "sweeps_of" "sweeps_of" (defArgs s_sweeps_of) (defBody s_sweeps_of) (defScope s_sweeps_of) .none kV13 dc13 pm13 an13 cd13 ct13), sl13⟩) (c13 : PySem.W.codeIn K cd13 "sweeps_of" = true) (k13 : PySem.W.keepIn K (.ref f13) = true)
    (a14 : PySem.W.nsIn K mainGlobals "sweeps_within" = some (some (.ref f14)))
    (l14 : K.lookup f14 = some ⟨oc14, od14, .func (PySem.W.fnOf "sweeps_within" "sweeps_within" (defArgs s_sweeps_within) (defBody s_sweeps_within) (defScope s_sweeps_within) .none kV14 dc14 pm14 an14 cd14 ct14), sl14⟩) (c14 : PySem.W.codeIn K cd14 "sweeps_within" = true) (k14 : PySem.W.keepIn K (.ref f14) = true)
    (a15 : PySem.W.nsIn K mainGlobals "stand" = some (some (.ref f15)))
    (l15 : K.lookup f15 = some ⟨oc15, od15, .func (PySem.W.fnOf "stand" "stand" (defArgs s_stand) (defBody s_stand) (defScope s_stand) .none kV15 dc15 pm15 an15 cd15 ct15), sl15⟩) (c15 : PySem.W.codeIn K cd15 "stand" = true) (k15 : PySem.W.keepIn K (.ref f15) = true)
    (a16 : PySem.W.nsIn K mainGlobals "round_both" = some (some (.ref f16)))
    (l16 : K.lookup f16 = some ⟨oc16, od16, .func (PySem.W.fnOf "round_both" "round_both" (defArgs s_round_both) (defBody s_round_both) (defScope s_round_both) .none kV16 dc16 pm16 an16 cd16 ct16), sl16⟩) (c16 : PySem.W.codeIn K cd16 "round_both" = true) (k16 : PySem.W.keepIn K (.ref f16) = true)
    (a17 : PySem.W.nsIn K mainGlobals "ends" = some (some (.ref f17)))
    (l17 : K.lookup f17 = some ⟨oc17, od17, .func (PySem.W.fnOf "ends" "ends" (defArgs s_ends) (defBody s_ends) (defScope s_ends) .none kV17 dc17 pm17 an17 cd17 ct17), sl17⟩) (c17 : PySem.W.codeIn K cd17 "ends" = true) (k17 : PySem.W.keepIn K (.ref f17) = true)
    (a18 : PySem.W.nsIn K mainGlobals "cut_paths" = some (some (.ref f18)))
    (l18 : K.lookup f18 = some ⟨oc18, od18, .func (PySem.W.fnOf "cut_paths" "cut_paths" (defArgs s_cut_paths) (defBody s_cut_paths) (defScope s_cut_paths) .none kV18 dc18 pm18 an18 cd18 ct18), sl18⟩) (c18 : PySem.W.codeIn K cd18 "cut_paths" = true) (k18 : PySem.W.keepIn K (.ref f18) = true)
    (a19 : PySem.W.nsIn K mainGlobals "ends_at" = some (some (.ref f19)))
    (l19 : K.lookup f19 = some ⟨oc19, od19, .func (PySem.W.fnOf "ends_at" "ends_at" (defArgs s_ends_at) (defBody s_ends_at) (defScope s_ends_at) .none kV19 dc19 pm19 an19 cd19 ct19), sl19⟩) (c19 : PySem.W.codeIn K cd19 "ends_at" = true) (k19 : PySem.W.keepIn K (.ref f19) = true)
    (a20 : PySem.W.nsIn K mainGlobals "rulers" = some (some (.ref f20)))
    (l20 : K.lookup f20 = some ⟨oc20, od20, .func (PySem.W.fnOf "rulers" "rulers" (defArgs s_rulers) (defBody s_rulers) (defScope s_rulers) .none kV20 dc20 pm20 an20 cd20 ct20), sl20⟩) (c20 : PySem.W.codeIn K cd20 "rulers" = true) (k20 : PySem.W.keepIn K (.ref f20) = true)
    (a21 : PySem.W.nsIn K mainGlobals "number_shown" = some (some (.ref f21)))
    (l21 : K.lookup f21 = some ⟨oc21, od21, .func (PySem.W.fnOf "number_shown" "number_shown" (defArgs s_number_shown) (defBody s_number_shown) (defScope s_number_shown) .none kV21 dc21 pm21 an21 cd21 ct21), sl21⟩) (c21 : PySem.W.codeIn K cd21 "number_shown" = true) (k21 : PySem.W.keepIn K (.ref f21) = true)
    (a22 : PySem.W.nsIn K mainGlobals "order_of" = some (some (.ref f22)))
    (l22 : K.lookup f22 = some ⟨oc22, od22, .func (PySem.W.fnOf "order_of" "order_of" (defArgs s_order_of) (defBody s_order_of) (defScope s_order_of) .none kV22 dc22 pm22 an22 cd22 ct22), sl22⟩) (c22 : PySem.W.codeIn K cd22 "order_of" = true) (k22 : PySem.W.keepIn K (.ref f22) = true)
    (a23 : PySem.W.nsIn K mainGlobals "order_by_way" = some (some (.ref f23)))
    (l23 : K.lookup f23 = some ⟨oc23, od23, .func (PySem.W.fnOf "order_by_way" "order_by_way" (defArgs s_order_by_way) (defBody s_order_by_way) (defScope s_order_by_way) .none kV23 dc23 pm23 an23 cd23 ct23), sl23⟩) (c23 : PySem.W.codeIn K cd23 "order_by_way" = true) (k23 : PySem.W.keepIn K (.ref f23) = true)
    (a24 : PySem.W.nsIn K mainGlobals "_law_at" = some (some (.ref f24)))
    (l24 : K.lookup f24 = some ⟨oc24, od24, .func (PySem.W.fnOf "_law_at" "_law_at" (defArgs s_l_at) (defBody s_l_at) (defScope s_l_at) .none kV24 dc24 pm24 an24 cd24 ct24), sl24⟩) (c24 : PySem.W.codeIn K cd24 "_law_at" = true) (k24 : PySem.W.keepIn K (.ref f24) = true)
    (a25 : PySem.W.nsIn K mainGlobals "_law_digits" = some (some (.ref f25)))
    (l25 : K.lookup f25 = some ⟨oc25, od25, .func (PySem.W.fnOf "_law_digits" "_law_digits" (defArgs s_l_digits) (defBody s_l_digits) (defScope s_l_digits) .none kV25 dc25 pm25 an25 cd25 ct25), sl25⟩) (c25 : PySem.W.codeIn K cd25 "_law_digits" = true) (k25 : PySem.W.keepIn K (.ref f25) = true)
    (a26 : PySem.W.nsIn K mainGlobals "_law_loop" = some (some (.ref f26)))
    (l26 : K.lookup f26 = some ⟨oc26, od26, .func (PySem.W.fnOf "_law_loop" "_law_loop" (defArgs s_l_loop) (defBody s_l_loop) (defScope s_l_loop) .none kV26 dc26 pm26 an26 cd26 ct26), sl26⟩) (c26 : PySem.W.codeIn K cd26 "_law_loop" = true) (k26 : PySem.W.keepIn K (.ref f26) = true)
    (a27 : PySem.W.nsIn K mainGlobals "_law_deeds" = some (some (.ref f27)))
    (l27 : K.lookup f27 = some ⟨oc27, od27, .func (PySem.W.fnOf "_law_deeds" "_law_deeds" (defArgs s_l_deeds) (defBody s_l_deeds) (defScope s_l_deeds) .none kV27 dc27 pm27 an27 cd27 ct27), sl27⟩) (c27 : PySem.W.codeIn K cd27 "_law_deeds" = true) (k27 : PySem.W.keepIn K (.ref f27) = true)
    (a28 : PySem.W.nsIn K mainGlobals "_law_told" = some (some (.ref f28)))
    (l28 : K.lookup f28 = some ⟨oc28, od28, .func (PySem.W.fnOf "_law_told" "_law_told" (defArgs s_l_told) (defBody s_l_told) (defScope s_l_told) .none kV28 dc28 pm28 an28 cd28 ct28), sl28⟩) (c28 : PySem.W.codeIn K cd28 "_law_told" = true) (k28 : PySem.W.keepIn K (.ref f28) = true)
    (a29 : PySem.W.nsIn K mainGlobals "_law_told_deeds" = some (some (.ref f29)))
    (l29 : K.lookup f29 = some ⟨oc29, od29, .func (PySem.W.fnOf "_law_told_deeds" "_law_told_deeds" (defArgs s_l_told_deeds) (defBody s_l_told_deeds) (defScope s_l_told_deeds) .none kV29 dc29 pm29 an29 cd29 ct29), sl29⟩) (c29 : PySem.W.codeIn K cd29 "_law_told_deeds" = true) (k29 : PySem.W.keepIn K (.ref f29) = true)
    (a30 : PySem.W.nsIn K mainGlobals "_law_values" = some (some (.ref f30)))
    (l30 : K.lookup f30 = some ⟨oc30, od30, .func (PySem.W.fnOf "_law_values" "_law_values" (defArgs s_l_values) (defBody s_l_values) (defScope s_l_values) .none kV30 dc30 pm30 an30 cd30 ct30), sl30⟩) (c30 : PySem.W.codeIn K cd30 "_law_values" = true) (k30 : PySem.W.keepIn K (.ref f30) = true)
    (a31 : PySem.W.nsIn K mainGlobals "_law_before" = some (some (.ref f31)))
    (l31 : K.lookup f31 = some ⟨oc31, od31, .func (PySem.W.fnOf "_law_before" "_law_before" (defArgs s_l_before) (defBody s_l_before) (defScope s_l_before) .none kV31 dc31 pm31 an31 cd31 ct31), sl31⟩) (c31 : PySem.W.codeIn K cd31 "_law_before" = true) (k31 : PySem.W.keepIn K (.ref f31) = true)
    (a32 : PySem.W.nsIn K mainGlobals "law" = some (some (.ref f32)))
    (l32 : K.lookup f32 = some ⟨oc32, od32, .func (PySem.W.fnOf "law" "law" (defArgs s_law) (defBody s_law) (defScope s_law) .none kV32 dc32 pm32 an32 cd32 ct32), sl32⟩) (c32 : PySem.W.codeIn K cd32 "law" = true) (k32 : PySem.W.keepIn K (.ref f32) = true)
    (pg_Number : PySem.W.plainGet K C_Number Str.empty = true) (hd_Number : PySem.W.hasDictIn K C_Number = true) (po_Number : PySem.W.plainOver K C_Number = true) (sa_Number : PySem.W.findIn K (.ref C_Number) "__setattr__" = some (some (.builtin "object.__setattr__"))) (mk_Number : PySem.W.makesIn K C_Number = true) (kc_Number : PySem.W.keepIn K (.ref C_Number) = true)
    (n_Number_n : PySem.W.findIn K (.ref C_Number) "n" = some none)
    (pg_Deed : PySem.W.plainGet K C_Deed Str.empty = true) (hd_Deed : PySem.W.hasDictIn K C_Deed = true) (po_Deed : PySem.W.plainOver K C_Deed = true) (sa_Deed : PySem.W.findIn K (.ref C_Deed) "__setattr__" = some (some (.builtin "object.__setattr__"))) (mk_Deed : PySem.W.makesIn K C_Deed = true) (kc_Deed : PySem.W.keepIn K (.ref C_Deed) = true)
    (n_Deed_names : PySem.W.findIn K (.ref C_Deed) "names" = some none)
    (n_Deed_lows : PySem.W.findIn K (.ref C_Deed) "lows" = some none)
    (n_Deed_highs : PySem.W.findIn K (.ref C_Deed) "highs" = some none)
    (n_Deed_table : PySem.W.findIn K (.ref C_Deed) "table" = some none)
    (n_Deed_spots : PySem.W.findIn K (.ref C_Deed) "spots" = some none)
    (n_Deed_term : PySem.W.findIn K (.ref C_Deed) "term" = some none)
    (n_Deed_path : PySem.W.findIn K (.ref C_Deed) "path" = some none)
    (pg_Program : PySem.W.plainGet K C_Program Str.empty = true) (hd_Program : PySem.W.hasDictIn K C_Program = true) (po_Program : PySem.W.plainOver K C_Program = true) (sa_Program : PySem.W.findIn K (.ref C_Program) "__setattr__" = some (some (.builtin "object.__setattr__"))) (mk_Program : PySem.W.makesIn K C_Program = true) (kc_Program : PySem.W.keepIn K (.ref C_Program) = true)
    (n_Program_size : PySem.W.findIn K (.ref C_Program) "size" = some none)
    (n_Program_deeds : PySem.W.findIn K (.ref C_Program) "deeds" = some none)
    (z_bool : PySem.W.nsIn K mainGlobals "bool" = some none)
    (z_dict : PySem.W.nsIn K mainGlobals "dict" = some none)
    (z_enumerate : PySem.W.nsIn K mainGlobals "enumerate" = some none)
    (z_int : PySem.W.nsIn K mainGlobals "int" = some none)
    (z_isinstance : PySem.W.nsIn K mainGlobals "isinstance" = some none)
    (z_len : PySem.W.nsIn K mainGlobals "len" = some none)
    (z_list : PySem.W.nsIn K mainGlobals "list" = some none)
    (z_max : PySem.W.nsIn K mainGlobals "max" = some none)
    (z_min : PySem.W.nsIn K mainGlobals "min" = some none)
    (z_range : PySem.W.nsIn K mainGlobals "range" = some none)
    (z_tuple : PySem.W.nsIn K mainGlobals "tuple" = some none)
    (z_zip : PySem.W.nsIn K mainGlobals "zip" = some none) :
    ∃ a : Ad, Tx K mg a ∧ fa = a.f_law ∧ (∀ (s : Shared) (v : Value), BindsTo s a.d_law ⟨[v], []⟩ [("_law_script", v)]) := by
  have e := hfa.symm.trans (PySem.W.mg_of X G a32)
  cases e
  exact ⟨⟨f1, PySem.W.fnOf "__init__" "Number.__init__" (defArgs s_Number_init) (defBody s_Number_init) (defScope s_Number_init) .none kV1 dc1 pm1 an1 cd1 ct1, f2, PySem.W.fnOf "__init__" "Deed.__init__" (defArgs s_Deed_init) (defBody s_Deed_init) (defScope s_Deed_init) .none kV2 dc2 pm2 an2 cd2 ct2, f3, PySem.W.fnOf "__init__" "Program.__init__" (defArgs s_Program_init) (defBody s_Program_init) (defScope s_Program_init) .none kV3 dc3 pm3 an3 cd3 ct3, f4, PySem.W.fnOf "shared" "shared" (defArgs s_shared) (defBody s_shared) (defScope s_shared) .none kV4 dc4 pm4 an4 cd4 ct4, f5, PySem.W.fnOf "alike_numbers" "alike_numbers" (defArgs s_alike_numbers) (defBody s_alike_numbers) (defScope s_alike_numbers) .none kV5 dc5 pm5 an5 cd5 ct5, f6, PySem.W.fnOf "ahead" "ahead" (defArgs s_ahead) (defBody s_ahead) (defScope s_ahead) .none kV6 dc6 pm6 an6 cd6 ct6, f7, PySem.W.fnOf "nested" "nested" (defArgs s_nested) (defBody s_nested) (defScope s_nested) .none kV7 dc7 pm7 an7 cd7 ct7, f8, PySem.W.fnOf "items_within" "items_within" (defArgs s_items_within) (defBody s_items_within) (defScope s_items_within) .none kV8 dc8 pm8 an8 cd8 ct8, f9, PySem.W.fnOf "neighbours" "neighbours" (defArgs s_neighbours) (defBody s_neighbours) (defScope s_neighbours) .none kV9 dc9 pm9 an9 cd9 ct9, f10, PySem.W.fnOf "deeds_within" "deeds_within" (defArgs s_deeds_within) (defBody s_deeds_within) (defScope s_deeds_within) .none kV10 dc10 pm10 an10 cd10 ct10, f11, PySem.W.fnOf "own_plan" "own_plan" (defArgs s_own_plan) (defBody s_own_plan) (defScope s_own_plan) .none kV11 dc11 pm11 an11 cd11 ct11, f12, PySem.W.fnOf "own_items" "own_items" (defArgs s_own_items) (defBody s_own_items) (defScope s_own_items) .none kV12 dc12 pm12 an12 cd12 ct12, f13, PySem.W.fnOf "sweeps_of" "sweeps_of" (defArgs s_sweeps_of) (defBody s_sweeps_of) (defScope s_sweeps_of) .none kV13 dc13 pm13 an13 cd13 ct13, f14, PySem.W.fnOf "sweeps_within" "sweeps_within" (defArgs s_sweeps_within) (defBody s_sweeps_within) (defScope s_sweeps_within) .none kV14 dc14 pm14 an14 cd14 ct14, f15, PySem.W.fnOf "stand" "stand" (defArgs s_stand) (defBody s_stand) (defScope s_stand) .none kV15 dc15 pm15 an15 cd15 ct15, f16, PySem.W.fnOf "round_both" "round_both" (defArgs s_round_both) (defBody s_round_both) (defScope s_round_both) .none kV16 dc16 pm16 an16 cd16 ct16, f17, PySem.W.fnOf "ends" "ends" (defArgs s_ends) (defBody s_ends) (defScope s_ends) .none kV17 dc17 pm17 an17 cd17 ct17, f18, PySem.W.fnOf "cut_paths" "cut_paths" (defArgs s_cut_paths) (defBody s_cut_paths) (defScope s_cut_paths) .none kV18 dc18 pm18 an18 cd18 ct18, f19, PySem.W.fnOf "ends_at" "ends_at" (defArgs s_ends_at) (defBody s_ends_at) (defScope s_ends_at) .none kV19 dc19 pm19 an19 cd19 ct19, f20, PySem.W.fnOf "rulers" "rulers" (defArgs s_rulers) (defBody s_rulers) (defScope s_rulers) .none kV20 dc20 pm20 an20 cd20 ct20, f21, PySem.W.fnOf "number_shown" "number_shown" (defArgs s_number_shown) (defBody s_number_shown) (defScope s_number_shown) .none kV21 dc21 pm21 an21 cd21 ct21, f22, PySem.W.fnOf "order_of" "order_of" (defArgs s_order_of) (defBody s_order_of) (defScope s_order_of) .none kV22 dc22 pm22 an22 cd22 ct22, f23, PySem.W.fnOf "order_by_way" "order_by_way" (defArgs s_order_by_way) (defBody s_order_by_way) (defScope s_order_by_way) .none kV23 dc23 pm23 an23 cd23 ct23, f24, PySem.W.fnOf "_law_at" "_law_at" (defArgs s_l_at) (defBody s_l_at) (defScope s_l_at) .none kV24 dc24 pm24 an24 cd24 ct24, f25, PySem.W.fnOf "_law_digits" "_law_digits" (defArgs s_l_digits) (defBody s_l_digits) (defScope s_l_digits) .none kV25 dc25 pm25 an25 cd25 ct25, f26, PySem.W.fnOf "_law_loop" "_law_loop" (defArgs s_l_loop) (defBody s_l_loop) (defScope s_l_loop) .none kV26 dc26 pm26 an26 cd26 ct26, f27, PySem.W.fnOf "_law_deeds" "_law_deeds" (defArgs s_l_deeds) (defBody s_l_deeds) (defScope s_l_deeds) .none kV27 dc27 pm27 an27 cd27 ct27, f28, PySem.W.fnOf "_law_told" "_law_told" (defArgs s_l_told) (defBody s_l_told) (defScope s_l_told) .none kV28 dc28 pm28 an28 cd28 ct28, f29, PySem.W.fnOf "_law_told_deeds" "_law_told_deeds" (defArgs s_l_told_deeds) (defBody s_l_told_deeds) (defScope s_l_told_deeds) .none kV29 dc29 pm29 an29 cd29 ct29, f30, PySem.W.fnOf "_law_values" "_law_values" (defArgs s_l_values) (defBody s_l_values) (defScope s_l_values) .none kV30 dc30 pm30 an30 cd30 ct30, f31, PySem.W.fnOf "_law_before" "_law_before" (defArgs s_l_before) (defBody s_l_before) (defScope s_l_before) .none kV31 dc31 pm31 an31 cd31 ct31, fa, PySem.W.fnOf "law" "law" (defArgs s_law) (defBody s_law) (defScope s_law) .none kV32 dc32 pm32 an32 cd32 ct32, C_Number, C_Deed, C_Program⟩, ⟨fun_mk (st := s_Number_init) l1 c1 k1, 
    (fun_mk (st := s_Number_init) l1 c1 k1).binds (ps := ["self", "n"]) (fun _ _ _ _ _ _ us hl => bd_Number_init hl), 
    fun_mk (st := s_Deed_init) l2 c2 k2, 
    (fun_mk (st := s_Deed_init) l2 c2 k2).binds (ps := ["self", "names", "lows", "highs", "table", "spots", "term", "path"]) (fun _ _ _ _ _ _ us hl => bd_Deed_init hl), 
    fun_mk (st := s_Program_init) l3 c3 k3, 
    (fun_mk (st := s_Program_init) l3 c3 k3).binds (ps := ["self", "size", "deeds"]) (fun _ _ _ _ _ _ us hl => bd_Program_init hl), 
    fun_mk (st := s_shared) l4 c4 k4, 
    (fun_mk (st := s_shared) l4 c4 k4).binds (ps := ["one", "other"]) (fun _ _ _ _ _ _ us hl => bd_shared hl), 
    PySem.W.mg_of X G a4, 
    fun_mk (st := s_alike_numbers) l5 c5 k5, 
    (fun_mk (st := s_alike_numbers) l5 c5 k5).binds (ps := ["path", "other", "most"]) (fun _ _ _ _ _ _ us hl => bd_alike_numbers hl), 
    PySem.W.mg_of X G a5, 
    fun_mk (st := s_ahead) l6 c6 k6, 
    (fun_mk (st := s_ahead) l6 c6 k6).binds (ps := ["program", "one", "other"]) (fun _ _ _ _ _ _ us hl => bd_ahead hl), 
    PySem.W.mg_of X G a6, 
    fun_mk (st := s_nested) l7 c7 k7, 
    (fun_mk (st := s_nested) l7 c7 k7).binds (ps := ["deeds"]) (fun _ _ _ _ _ _ us hl => bd_nested hl), 
    PySem.W.mg_of X G a7, 
    fun_mk (st := s_items_within) l8 c8 k8, 
    (fun_mk (st := s_items_within) l8 c8 k8).binds (ps := ["deeds", "numbers", "depth"]) (fun _ _ _ _ _ _ us hl => bd_items_within hl), 
    PySem.W.mg_of X G a8, 
    fun_mk (st := s_neighbours) l9 c9 k9, 
    (fun_mk (st := s_neighbours) l9 c9 k9).binds (ps := ["deeds", "numbers", "depth"]) (fun _ _ _ _ _ _ us hl => bd_neighbours hl), 
    PySem.W.mg_of X G a9, 
    fun_mk (st := s_deeds_within) l10 c10 k10, 
    (fun_mk (st := s_deeds_within) l10 c10 k10).binds (ps := ["items", "path", "cuts"]) (fun _ _ _ _ _ _ us hl => bd_deeds_within hl), 
    PySem.W.mg_of X G a10, 
    fun_mk (st := s_own_plan) l11 c11 k11, 
    (fun_mk (st := s_own_plan) l11 c11 k11).binds (ps := ["program"]) (fun _ _ _ _ _ _ us hl => bd_own_plan hl), 
    PySem.W.mg_of X G a11, 
    fun_mk (st := s_own_items) l12 c12 k12, 
    (fun_mk (st := s_own_items) l12 c12 k12).binds (ps := ["deeds", "items"]) (fun _ _ _ _ _ _ us hl => bd_own_items hl), 
    PySem.W.mg_of X G a12, 
    fun_mk (st := s_sweeps_of) l13 c13 k13, 
    (fun_mk (st := s_sweeps_of) l13 c13 k13).binds (ps := ["plan"]) (fun _ _ _ _ _ _ us hl => bd_sweeps_of hl), 
    PySem.W.mg_of X G a13, 
    fun_mk (st := s_sweeps_within) l14 c14 k14, 
    (fun_mk (st := s_sweeps_within) l14 c14 k14).binds (ps := ["items", "path"]) (fun _ _ _ _ _ _ us hl => bd_sweeps_within hl), 
    PySem.W.mg_of X G a14, 
    fun_mk (st := s_stand) l15 c15 k15, 
    (fun_mk (st := s_stand) l15 c15 k15).binds (ps := ["plan", "k"]) (fun _ _ _ _ _ _ us hl => bd_stand hl), 
    PySem.W.mg_of X G a15, 
    fun_mk (st := s_round_both) l16 c16 k16, 
    (fun_mk (st := s_round_both) l16 c16 k16).binds (ps := ["plan", "k", "l"]) (fun _ _ _ _ _ _ us hl => bd_round_both hl), 
    PySem.W.mg_of X G a16, 
    fun_mk (st := s_ends) l17 c17 k17, 
    (fun_mk (st := s_ends) l17 c17 k17).binds (ps := ["program", "plan"]) (fun _ _ _ _ _ _ us hl => bd_ends hl), 
    PySem.W.mg_of X G a17, 
    fun_mk (st := s_cut_paths) l18 c18 k18, 
    (fun_mk (st := s_cut_paths) l18 c18 k18).binds (ps := ["plan"]) (fun _ _ _ _ _ _ us hl => bd_cut_paths hl), 
    PySem.W.mg_of X G a18, 
    fun_mk (st := s_ends_at) l19 c19 k19, 
    (fun_mk (st := s_ends_at) l19 c19 k19).binds (ps := ["program", "plan", "path"]) (fun _ _ _ _ _ _ us hl => bd_ends_at hl), 
    PySem.W.mg_of X G a19, 
    fun_mk (st := s_rulers) l20 c20 k20, 
    (fun_mk (st := s_rulers) l20 c20 k20).binds (ps := ["plan", "found", "widths"]) (fun _ _ _ _ _ _ us hl => bd_rulers hl), 
    PySem.W.mg_of X G a20, 
    fun_mk (st := s_number_shown) l21 c21 k21, 
    (fun_mk (st := s_number_shown) l21 c21 k21).binds (ps := ["values", "pair", "ruler"]) (fun _ _ _ _ _ _ us hl => bd_number_shown hl), 
    PySem.W.mg_of X G a21, 
    fun_mk (st := s_order_of) l22 c22 k22, 
    (fun_mk (st := s_order_of) l22 c22 k22).binds (ps := ["program", "plan", "widths", "one", "other"]) (fun _ _ _ _ _ _ us hl => bd_order_of hl), 
    PySem.W.mg_of X G a22, 
    fun_mk (st := s_order_by_way) l23 c23 k23, 
    (fun_mk (st := s_order_by_way) l23 c23 k23).binds (ps := ["way", "less"]) (fun _ _ _ _ _ _ us hl => bd_order_by_way hl), 
    PySem.W.mg_of X G a23, 
    fun_mk (st := s_l_at) l24 c24 k24, 
    (fun_mk (st := s_l_at) l24 c24 k24).binds (ps := ["_law_script", "_law_k"]) (fun _ _ _ _ _ _ us hl => bd_l_at hl), 
    PySem.W.mg_of X G a24, 
    fun_mk (st := s_l_digits) l25 c25 k25, 
    (fun_mk (st := s_l_digits) l25 c25 k25).binds (ps := ["_law_cell", "_law_sizes"]) (fun _ _ _ _ _ _ us hl => bd_l_digits hl), 
    PySem.W.mg_of X G a25, 
    fun_mk (st := s_l_loop) l26 c26 k26, 
    (fun_mk (st := s_l_loop) l26 c26 k26).binds (ps := ["_law_cell", "_law_loops"]) (fun _ _ _ _ _ _ us hl => bd_l_loop hl), 
    PySem.W.mg_of X G a26, 
    fun_mk (st := s_l_deeds) l27 c27 k27, 
    (fun_mk (st := s_l_deeds) l27 c27 k27).binds (ps := ["_law_script", "_law_first", "_law_count"]) (fun _ _ _ _ _ _ us hl => bd_l_deeds hl), 
    PySem.W.mg_of X G a27, 
    fun_mk (st := s_l_told) l28 c28 k28, 
    (fun_mk (st := s_l_told) l28 c28 k28).binds (ps := ["_law_spot", "_law_scale", "_law_base"]) (fun _ _ _ _ _ _ us hl => bd_l_told hl), 
    PySem.W.mg_of X G a28, 
    fun_mk (st := s_l_told_deeds) l29 c29 k29, 
    (fun_mk (st := s_l_told_deeds) l29 c29 k29).binds (ps := ["_law_deeds_here", "_law_scale", "_law_base"]) (fun _ _ _ _ _ _ us hl => bd_l_told_deeds hl), 
    PySem.W.mg_of X G a29, 
    fun_mk (st := s_l_values) l30 c30 k30, 
    (fun_mk (st := s_l_values) l30 c30 k30).binds (ps := ["_law_loops"]) (fun _ _ _ _ _ _ us hl => bd_l_values hl), 
    PySem.W.mg_of X G a30, 
    fun_mk (st := s_l_before) l31 c31 k31, 
    (fun_mk (st := s_l_before) l31 c31 k31).binds (ps := ["_law_one", "_law_other", "_law_deeds_here"]) (fun _ _ _ _ _ _ us hl => bd_l_before hl), 
    PySem.W.mg_of X G a31, 
    fun_mk (st := s_law) l32 c32 k32, 
    (fun_mk (st := s_law) l32 c32 k32).binds (ps := ["_law_script"]) (fun _ _ _ _ _ _ us hl => bd_law hl), 
    PySem.W.mg_of X G a32, 
    ⟨pg_Number, hd_Number, po_Number, sa_Number⟩, 
    PySem.W.mg_of X G a_Number, 
    ⟨mk_Number, a1, i1, kc_Number⟩, 
    n_Number_n, 
    ⟨pg_Deed, hd_Deed, po_Deed, sa_Deed⟩, 
    PySem.W.mg_of X G a_Deed, 
    ⟨mk_Deed, a2, i2, kc_Deed⟩, 
    n_Deed_names, 
    n_Deed_lows, 
    n_Deed_highs, 
    n_Deed_table, 
    n_Deed_spots, 
    n_Deed_term, 
    n_Deed_path, 
    ⟨pg_Program, hd_Program, po_Program, sa_Program⟩, 
    PySem.W.mg_of X G a_Program, 
    ⟨mk_Program, a3, i3, kc_Program⟩, 
    n_Program_size, 
    n_Program_deeds, 
    PySem.W.mg_none_of X G z_bool, 
    PySem.W.mg_none_of X G z_dict, 
    PySem.W.mg_none_of X G z_enumerate, 
    PySem.W.mg_none_of X G z_int, 
    PySem.W.mg_none_of X G z_isinstance, 
    PySem.W.mg_none_of X G z_len, 
    PySem.W.mg_none_of X G z_list, 
    PySem.W.mg_none_of X G z_max, 
    PySem.W.mg_none_of X G z_min, 
    PySem.W.mg_none_of X G z_range, 
    PySem.W.mg_none_of X G z_tuple, 
    PySem.W.mg_none_of X G z_zip⟩, rfl, fun s v => .of_eq rfl⟩
end Fw
open PySem PySem.W PyProof.Rows
def PySem.W.Fast.tw10002017021175182019 : Nat := 0
def PySem.W.Fast.tw10128543955538911666 : Nat := 0
def PySem.W.Fast.tw10131785284704677012 : Nat := 0
def PySem.W.Fast.tw10204359274197847235 : Nat := 0
def PySem.W.Fast.tw10308416856598528804 : Nat := 0
def PySem.W.Fast.tw10448680442385601033 : Nat := 0
def PySem.W.Fast.tw10629256186630033844 : Nat := 0
def PySem.W.Fast.tw10635354945312880347 : Nat := 0
def PySem.W.Fast.tw10713922171127660263 : Nat := 0
def PySem.W.Fast.tw10733587384321355044 : Nat := 0
def PySem.W.Fast.tw10754776437230231750 : Nat := 0
def PySem.W.Fast.tw10761541151629401053 : Nat := 0
def PySem.W.Fast.tw10907322648444362468 : Nat := 0
def PySem.W.Fast.tw10957818748917483454 : Nat := 0
def PySem.W.Fast.tw11099612772957795039 : Nat := 0
def PySem.W.Fast.tw11178093478877660716 : Nat := 0
def PySem.W.Fast.tw11178763568894501036 : Nat := 0
def PySem.W.Fast.tw11197431911728329845 : Nat := 0
def PySem.W.Fast.tw11232588900003470949 : Nat := 0
def PySem.W.Fast.tw11269326570698731363 : Nat := 0
def PySem.W.Fast.tw11283780698161090764 : Nat := 0
def PySem.W.Fast.tw11341754843771708358 : Nat := 0
def PySem.W.Fast.tw11353262370423163035 : Nat := 0
def PySem.W.Fast.tw11360456655945679483 : Nat := 0
def PySem.W.Fast.tw11366342077221579613 : Nat := 0
def PySem.W.Fast.tw11375377529031675743 : Nat := 0
def PySem.W.Fast.tw11429442737098967904 : Nat := 0
def PySem.W.Fast.tw11450154743304483580 : Nat := 0
def PySem.W.Fast.tw11537757918560597696 : Nat := 0
def PySem.W.Fast.tw1153840811958269148 : Nat := 0
def PySem.W.Fast.tw11557779291065115074 : Nat := 0
def PySem.W.Fast.tw1160059905305558138 : Nat := 0
def PySem.W.Fast.tw11695100029838786989 : Nat := 0
def PySem.W.Fast.tw11719067504285985075 : Nat := 0
def PySem.W.Fast.tw11745792844832455659 : Nat := 0
def PySem.W.Fast.tw11755600090761178507 : Nat := 0
def PySem.W.Fast.tw11773879334582505069 : Nat := 0
def PySem.W.Fast.tw1181793684793650269 : Nat := 0
def PySem.W.Fast.tw11863761019616066438 : Nat := 0
def PySem.W.Fast.tw11974359851853395099 : Nat := 0
def PySem.W.Fast.tw1206909815472727768 : Nat := 0
def PySem.W.Fast.tw12088935916227991096 : Nat := 0
def PySem.W.Fast.tw1222053479180833554 : Nat := 0
def PySem.W.Fast.tw1226072166992843882 : Nat := 0
def PySem.W.Fast.tw12341693528208072456 : Nat := 0
def PySem.W.Fast.tw12403348735318635339 : Nat := 0
def PySem.W.Fast.tw12510147527068819380 : Nat := 0
def PySem.W.Fast.tw12645700427750502405 : Nat := 0
def PySem.W.Fast.tw12779205991413886402 : Nat := 0
def PySem.W.Fast.tw12807435546131246684 : Nat := 0
def PySem.W.Fast.tw12891851820471003363 : Nat := 0
def PySem.W.Fast.tw12948150858312624869 : Nat := 0
def PySem.W.Fast.tw13062017992969629278 : Nat := 0
def PySem.W.Fast.tw13096480414988447911 : Nat := 0
def PySem.W.Fast.tw13164625407155685895 : Nat := 0
def PySem.W.Fast.tw13243886621024214395 : Nat := 0
def PySem.W.Fast.tw1326780168052611843 : Nat := 0
def PySem.W.Fast.tw13303231590206488509 : Nat := 0
def PySem.W.Fast.tw13305007267473939056 : Nat := 0
def PySem.W.Fast.tw13379496400987669161 : Nat := 0
def PySem.W.Fast.tw13481010168069895023 : Nat := 0
def PySem.W.Fast.tw13542717230441607983 : Nat := 0
def PySem.W.Fast.tw13582827881685870917 : Nat := 0
def PySem.W.Fast.tw1358985878385650395 : Nat := 0
def PySem.W.Fast.tw13609633505766372897 : Nat := 0
def PySem.W.Fast.tw13618168629977792406 : Nat := 0
def PySem.W.Fast.tw13618666847038293522 : Nat := 0
def PySem.W.Fast.tw13620709412511475877 : Nat := 0
def PySem.W.Fast.tw1362168103447182202 : Nat := 0
def PySem.W.Fast.tw13625085620804601156 : Nat := 0
def PySem.W.Fast.tw13889872766705187804 : Nat := 0
def PySem.W.Fast.tw13897364532933432068 : Nat := 0
def PySem.W.Fast.tw13991158743589038838 : Nat := 0
def PySem.W.Fast.tw14076293185225879450 : Nat := 0
def PySem.W.Fast.tw14081399528904577556 : Nat := 0
def PySem.W.Fast.tw14122649498067791050 : Nat := 0
def PySem.W.Fast.tw14281722608692626148 : Nat := 0
def PySem.W.Fast.tw14296798947873081572 : Nat := 0
def PySem.W.Fast.tw14383291167505734526 : Nat := 0
def PySem.W.Fast.tw14403242095983630987 : Nat := 0
def PySem.W.Fast.tw14429483921128933847 : Nat := 0
def PySem.W.Fast.tw14500891706885776583 : Nat := 0
def PySem.W.Fast.tw14543076858257468434 : Nat := 0
def PySem.W.Fast.tw14584688704894609584 : Nat := 0
def PySem.W.Fast.tw14655475678167835558 : Nat := 0
def PySem.W.Fast.tw14658550890647795209 : Nat := 0
def PySem.W.Fast.tw14839424122698053162 : Nat := 0
def PySem.W.Fast.tw14889691549057046892 : Nat := 0
def PySem.W.Fast.tw1493729639358511257 : Nat := 0
def PySem.W.Fast.tw14938880398278239954 : Nat := 0
def PySem.W.Fast.tw14989831538424104871 : Nat := 0
def PySem.W.Fast.tw15119597527982791174 : Nat := 0
def PySem.W.Fast.tw15192742689887243296 : Nat := 0
def PySem.W.Fast.tw15202936869090127725 : Nat := 0
def PySem.W.Fast.tw1522730464653239680 : Nat := 0
def PySem.W.Fast.tw15264344975353458150 : Nat := 0
def PySem.W.Fast.tw15297638385568034114 : Nat := 0
def PySem.W.Fast.tw15314386063762161393 : Nat := 0
def PySem.W.Fast.tw15370354273112881165 : Nat := 0
def PySem.W.Fast.tw15536054134543597039 : Nat := 0
def PySem.W.Fast.tw15576300727398027867 : Nat := 0
def PySem.W.Fast.tw15627010466830695647 : Nat := 0
def PySem.W.Fast.tw1566446280111924044 : Nat := 0
def PySem.W.Fast.tw15671290525889499651 : Nat := 0
def PySem.W.Fast.tw15937119178201180635 : Nat := 0
def PySem.W.Fast.tw15947675645807918483 : Nat := 0
def PySem.W.Fast.tw15955265444609844797 : Nat := 0
def PySem.W.Fast.tw15958449249152706068 : Nat := 0
def PySem.W.Fast.tw15964897648595081342 : Nat := 0
def PySem.W.Fast.tw15989961261248036341 : Nat := 0
def PySem.W.Fast.tw16017348292273692154 : Nat := 0
def PySem.W.Fast.tw1602841718110898041 : Nat := 0
def PySem.W.Fast.tw16092340601976565785 : Nat := 0
def PySem.W.Fast.tw16111561708971207430 : Nat := 0
def PySem.W.Fast.tw16113296006369338003 : Nat := 0
def PySem.W.Fast.tw16129337749802642391 : Nat := 0
def PySem.W.Fast.tw16232353682618162247 : Nat := 0
def PySem.W.Fast.tw16271339558989936921 : Nat := 0
def PySem.W.Fast.tw16275039087368137217 : Nat := 0
def PySem.W.Fast.tw16363056269133036881 : Nat := 0
def PySem.W.Fast.tw16380188623815447448 : Nat := 0
def PySem.W.Fast.tw16460163927211832140 : Nat := 0
def PySem.W.Fast.tw16474746333783913480 : Nat := 0
def PySem.W.Fast.tw16538166647751121482 : Nat := 0
def PySem.W.Fast.tw16540342299496405895 : Nat := 0
def PySem.W.Fast.tw16589289956689340067 : Nat := 0
def PySem.W.Fast.tw165905877795933994 : Nat := 0
def PySem.W.Fast.tw1669310791745778318 : Nat := 0
def PySem.W.Fast.tw16709350059660601657 : Nat := 0
def PySem.W.Fast.tw16747644722594268914 : Nat := 0
def PySem.W.Fast.tw16765618724211943690 : Nat := 0
def PySem.W.Fast.tw1680209578440168325 : Nat := 0
def PySem.W.Fast.tw16830035242649611738 : Nat := 0
def PySem.W.Fast.tw16847389991858497115 : Nat := 0
def PySem.W.Fast.tw16904045260523142540 : Nat := 0
def PySem.W.Fast.tw16918168480154951080 : Nat := 0
def PySem.W.Fast.tw16950884995761001508 : Nat := 0
def PySem.W.Fast.tw17003681194630389442 : Nat := 0
def PySem.W.Fast.tw17044892994743451355 : Nat := 0
def PySem.W.Fast.tw17057010977933166535 : Nat := 0
def PySem.W.Fast.tw1711150138320016780 : Nat := 0
def PySem.W.Fast.tw17140411124203234979 : Nat := 0
def PySem.W.Fast.tw17173102506254341306 : Nat := 0
def PySem.W.Fast.tw17199783250303867423 : Nat := 0
def PySem.W.Fast.tw17211150558810167830 : Nat := 0
def PySem.W.Fast.tw17270824361476606084 : Nat := 0
def PySem.W.Fast.tw17272041287515205674 : Nat := 0
def PySem.W.Fast.tw17300354051753603795 : Nat := 0
def PySem.W.Fast.tw17331253816604434503 : Nat := 0
def PySem.W.Fast.tw1735966071817499981 : Nat := 0
def PySem.W.Fast.tw17392724062892554475 : Nat := 0
def PySem.W.Fast.tw17446208573492976923 : Nat := 0
def PySem.W.Fast.tw17487970832669684126 : Nat := 0
def PySem.W.Fast.tw1750997102045978634 : Nat := 0
def PySem.W.Fast.tw17526723583759755707 : Nat := 0
def PySem.W.Fast.tw17536956996191215675 : Nat := 0
def PySem.W.Fast.tw17548942356558151581 : Nat := 0
def PySem.W.Fast.tw17566106184831985162 : Nat := 0
def PySem.W.Fast.tw17578276046221090438 : Nat := 0
def PySem.W.Fast.tw17619707994046905000 : Nat := 0
def PySem.W.Fast.tw17661407629052352018 : Nat := 0
def PySem.W.Fast.tw17724199142119750421 : Nat := 0
def PySem.W.Fast.tw17739750600341309576 : Nat := 0
def PySem.W.Fast.tw17771720479008829500 : Nat := 0
def PySem.W.Fast.tw17809312160186349430 : Nat := 0
def PySem.W.Fast.tw17829782608616014136 : Nat := 0
def PySem.W.Fast.tw17835793466066180606 : Nat := 0
def PySem.W.Fast.tw17837472179177391807 : Nat := 0
def PySem.W.Fast.tw17930272173135013601 : Nat := 0
def PySem.W.Fast.tw17975709162500470203 : Nat := 0
def PySem.W.Fast.tw17990914687292649809 : Nat := 0
def PySem.W.Fast.tw18038700738541338402 : Nat := 0
def PySem.W.Fast.tw18110677034996800462 : Nat := 0
def PySem.W.Fast.tw18150070181860261163 : Nat := 0
def PySem.W.Fast.tw1817991203990361835 : Nat := 0
def PySem.W.Fast.tw18196273739106476141 : Nat := 0
def PySem.W.Fast.tw18200751712146725229 : Nat := 0
def PySem.W.Fast.tw18256491467690873048 : Nat := 0
def PySem.W.Fast.tw18280429010318045466 : Nat := 0
def PySem.W.Fast.tw18294091821978590570 : Nat := 0
def PySem.W.Fast.tw18374224863801711456 : Nat := 0
def PySem.W.Fast.tw1894445717199505006 : Nat := 0
def PySem.W.Fast.tw1938938032951804034 : Nat := 0
def PySem.W.Fast.tw1949121748345369604 : Nat := 0
def PySem.W.Fast.tw1966749667269174370 : Nat := 0
def PySem.W.Fast.tw1983655601057499311 : Nat := 0
def PySem.W.Fast.tw1994084381712941856 : Nat := 0
def PySem.W.Fast.tw2069431763903187059 : Nat := 0
def PySem.W.Fast.tw2079214686327568330 : Nat := 0
def PySem.W.Fast.tw2107684265353729190 : Nat := 0
def PySem.W.Fast.tw2229948313059616852 : Nat := 0
def PySem.W.Fast.tw2244172455792320328 : Nat := 0
def PySem.W.Fast.tw2273641594407042759 : Nat := 0
def PySem.W.Fast.tw232869350591238170 : Nat := 0
def PySem.W.Fast.tw2334135836648025948 : Nat := 0
def PySem.W.Fast.tw2341947836327931344 : Nat := 0
def PySem.W.Fast.tw2360266743490557219 : Nat := 0
def PySem.W.Fast.tw2378412673816601550 : Nat := 0
def PySem.W.Fast.tw2383534609473530265 : Nat := 0
def PySem.W.Fast.tw2405954944132355245 : Nat := 0
def PySem.W.Fast.tw2535402444944425330 : Nat := 0
def PySem.W.Fast.tw2613643088392470802 : Nat := 0
def PySem.W.Fast.tw2676298585051674594 : Nat := 0
def PySem.W.Fast.tw2676729001779632359 : Nat := 0
def PySem.W.Fast.tw267995298761378887 : Nat := 0
def PySem.W.Fast.tw2698178930786951911 : Nat := 0
def PySem.W.Fast.tw2795260059853514128 : Nat := 0
def PySem.W.Fast.tw2826541252851129340 : Nat := 0
def PySem.W.Fast.tw2899724897568905715 : Nat := 0
def PySem.W.Fast.tw2905486752427561390 : Nat := 0
def PySem.W.Fast.tw2985182283519837055 : Nat := 0
def PySem.W.Fast.tw2997195725346964307 : Nat := 0
def PySem.W.Fast.tw3107628817404377598 : Nat := 0
def PySem.W.Fast.tw3109789501072273174 : Nat := 0
def PySem.W.Fast.tw3122427472982357187 : Nat := 0
def PySem.W.Fast.tw3171001427230411694 : Nat := 0
def PySem.W.Fast.tw3201515763250761519 : Nat := 0
def PySem.W.Fast.tw331469258906257894 : Nat := 0
def PySem.W.Fast.tw3328462176957881338 : Nat := 0
def PySem.W.Fast.tw3349925105201699672 : Nat := 0
def PySem.W.Fast.tw3366219108866698439 : Nat := 0
def PySem.W.Fast.tw340744349227212922 : Nat := 0
def PySem.W.Fast.tw3442504736173933037 : Nat := 0
def PySem.W.Fast.tw3514307422297892893 : Nat := 0
def PySem.W.Fast.tw3570150266216771950 : Nat := 0
def PySem.W.Fast.tw3585083132060324712 : Nat := 0
def PySem.W.Fast.tw3627842546137679536 : Nat := 0
def PySem.W.Fast.tw3641125121303722123 : Nat := 0
def PySem.W.Fast.tw3667861061225418054 : Nat := 0
def PySem.W.Fast.tw3671060352951602176 : Nat := 0
def PySem.W.Fast.tw3716341067410002215 : Nat := 0
def PySem.W.Fast.tw3732269244735900117 : Nat := 0
def PySem.W.Fast.tw3740323400938287648 : Nat := 0
def PySem.W.Fast.tw3906869272322410064 : Nat := 0
def PySem.W.Fast.tw3924490214937577859 : Nat := 0
def PySem.W.Fast.tw3995723963801667581 : Nat := 0
def PySem.W.Fast.tw4002161227221653677 : Nat := 0
def PySem.W.Fast.tw409503219487201914 : Nat := 0
def PySem.W.Fast.tw4102967263125492917 : Nat := 0
def PySem.W.Fast.tw413907098282727520 : Nat := 0
def PySem.W.Fast.tw4192071835753455597 : Nat := 0
def PySem.W.Fast.tw4244864664853590308 : Nat := 0
def PySem.W.Fast.tw4252785101844466163 : Nat := 0
def PySem.W.Fast.tw4254187257886522957 : Nat := 0
def PySem.W.Fast.tw4255498495794049498 : Nat := 0
def PySem.W.Fast.tw4257352208257177012 : Nat := 0
def PySem.W.Fast.tw4414355949429384840 : Nat := 0
def PySem.W.Fast.tw4438782881624672532 : Nat := 0
def PySem.W.Fast.tw4488125709775472685 : Nat := 0
def PySem.W.Fast.tw4523321616284998238 : Nat := 0
def PySem.W.Fast.tw4551116590297449263 : Nat := 0
def PySem.W.Fast.tw4558947208428106725 : Nat := 0
def PySem.W.Fast.tw4614929712576448678 : Nat := 0
def PySem.W.Fast.tw4695434275212079195 : Nat := 0
def PySem.W.Fast.tw4972545270820715146 : Nat := 0
def PySem.W.Fast.tw4987379114300628342 : Nat := 0
def PySem.W.Fast.tw4991684490516873892 : Nat := 0
def PySem.W.Fast.tw5009793627424202161 : Nat := 0
def PySem.W.Fast.tw5047550715631690614 : Nat := 0
def PySem.W.Fast.tw5103105415455792541 : Nat := 0
def PySem.W.Fast.tw5105744494946187821 : Nat := 0
def PySem.W.Fast.tw5113522316566909059 : Nat := 0
def PySem.W.Fast.tw5150484051421924217 : Nat := 0
def PySem.W.Fast.tw5168356458069065733 : Nat := 0
def PySem.W.Fast.tw5231596939510156570 : Nat := 0
def PySem.W.Fast.tw5256599123169598141 : Nat := 0
def PySem.W.Fast.tw5343194061975463850 : Nat := 0
def PySem.W.Fast.tw5370482905996952993 : Nat := 0
def PySem.W.Fast.tw5404360398713009401 : Nat := 0
def PySem.W.Fast.tw5546893607504015974 : Nat := 0
def PySem.W.Fast.tw5561445851689889128 : Nat := 0
def PySem.W.Fast.tw5604390265206071767 : Nat := 0
def PySem.W.Fast.tw5678919728685671898 : Nat := 0
def PySem.W.Fast.tw5750958448625270178 : Nat := 0
def PySem.W.Fast.tw5844118958081386445 : Nat := 0
def PySem.W.Fast.tw5892213819513056908 : Nat := 0
def PySem.W.Fast.tw5905014436170415853 : Nat := 0
def PySem.W.Fast.tw5983490666610391063 : Nat := 0
def PySem.W.Fast.tw609917273873613071 : Nat := 0
def PySem.W.Fast.tw6110492840104972065 : Nat := 0
def PySem.W.Fast.tw617478106332040594 : Nat := 0
def PySem.W.Fast.tw6239960693139195475 : Nat := 0
def PySem.W.Fast.tw6275128736177045318 : Nat := 0
def PySem.W.Fast.tw6281740873798292142 : Nat := 0
def PySem.W.Fast.tw6305805041479830215 : Nat := 0
def PySem.W.Fast.tw6312188107660314258 : Nat := 0
def PySem.W.Fast.tw6318608421479305517 : Nat := 0
def PySem.W.Fast.tw636785720596712680 : Nat := 0
def PySem.W.Fast.tw6382174552218036430 : Nat := 0
def PySem.W.Fast.tw6443108026266358315 : Nat := 0
def PySem.W.Fast.tw6506947611005406087 : Nat := 0
def PySem.W.Fast.tw6526967709242917536 : Nat := 0
def PySem.W.Fast.tw6530739572701472505 : Nat := 0
def PySem.W.Fast.tw6580490912018398054 : Nat := 0
def PySem.W.Fast.tw6621747240011180658 : Nat := 0
def PySem.W.Fast.tw6663193690332755671 : Nat := 0
def PySem.W.Fast.tw6688439143655925339 : Nat := 0
def PySem.W.Fast.tw6715259781297840507 : Nat := 0
def PySem.W.Fast.tw6852837556203251001 : Nat := 0
def PySem.W.Fast.tw6911256546860247195 : Nat := 0
def PySem.W.Fast.tw6974520986892646594 : Nat := 0
def PySem.W.Fast.tw7022846159609456070 : Nat := 0
def PySem.W.Fast.tw7045156892962524475 : Nat := 0
def PySem.W.Fast.tw7052554082845129582 : Nat := 0
def PySem.W.Fast.tw7057105896629833280 : Nat := 0
def PySem.W.Fast.tw7129712179172463908 : Nat := 0
def PySem.W.Fast.tw7132337025866744360 : Nat := 0
def PySem.W.Fast.tw7148004413408796462 : Nat := 0
def PySem.W.Fast.tw7237336383994183671 : Nat := 0
def PySem.W.Fast.tw7273113546586219387 : Nat := 0
def PySem.W.Fast.tw7373466898949907066 : Nat := 0
def PySem.W.Fast.tw7469502231454923302 : Nat := 0
def PySem.W.Fast.tw7471964432063482235 : Nat := 0
def PySem.W.Fast.tw7492129685899592968 : Nat := 0
def PySem.W.Fast.tw7512064141819100304 : Nat := 0
def PySem.W.Fast.tw7549516166482498514 : Nat := 0
def PySem.W.Fast.tw776477453205035028 : Nat := 0
def PySem.W.Fast.tw7865855235936414538 : Nat := 0
def PySem.W.Fast.tw7875017880281052411 : Nat := 0
def PySem.W.Fast.tw7965327840740631337 : Nat := 0
def PySem.W.Fast.tw7972860203854111431 : Nat := 0
def PySem.W.Fast.tw7987617462989700562 : Nat := 0
def PySem.W.Fast.tw8030777616454084007 : Nat := 0
def PySem.W.Fast.tw809900501697477521 : Nat := 0
def PySem.W.Fast.tw8128270150592560002 : Nat := 0
def PySem.W.Fast.tw812950722057954260 : Nat := 0
def PySem.W.Fast.tw8271528931656680954 : Nat := 0
def PySem.W.Fast.tw8338699993834451531 : Nat := 0
def PySem.W.Fast.tw8346894161923990764 : Nat := 0
def PySem.W.Fast.tw8347115002314006917 : Nat := 0
def PySem.W.Fast.tw8353608696426476610 : Nat := 0
def PySem.W.Fast.tw8371987860754589167 : Nat := 0
def PySem.W.Fast.tw8382588624368506718 : Nat := 0
def PySem.W.Fast.tw8395779914322628434 : Nat := 0
def PySem.W.Fast.tw8427540380412688532 : Nat := 0
def PySem.W.Fast.tw850754554178412588 : Nat := 0
def PySem.W.Fast.tw85177267358857283 : Nat := 0
def PySem.W.Fast.tw8538991705446244045 : Nat := 0
def PySem.W.Fast.tw8562432889881855224 : Nat := 0
def PySem.W.Fast.tw8599693207949768503 : Nat := 0
def PySem.W.Fast.tw8652218804629474156 : Nat := 0
def PySem.W.Fast.tw8674548307160949691 : Nat := 0
def PySem.W.Fast.tw8690039988455393013 : Nat := 0
def PySem.W.Fast.tw8824240567241028059 : Nat := 0
def PySem.W.Fast.tw8839745908225585857 : Nat := 0
def PySem.W.Fast.tw8884937516802782725 : Nat := 0
def PySem.W.Fast.tw8898744567125275412 : Nat := 0
def PySem.W.Fast.tw8931632371363157156 : Nat := 0
def PySem.W.Fast.tw8972669115199895154 : Nat := 0
def PySem.W.Fast.tw9092743560296608200 : Nat := 0
def PySem.W.Fast.tw9127250485633424482 : Nat := 0
def PySem.W.Fast.tw917138254125035683 : Nat := 0
def PySem.W.Fast.tw9178600586387449665 : Nat := 0
def PySem.W.Fast.tw9180750634352668653 : Nat := 0
def PySem.W.Fast.tw9194354338025115913 : Nat := 0
def PySem.W.Fast.tw926965601028534005 : Nat := 0
def PySem.W.Fast.tw9339892716854847969 : Nat := 0
def PySem.W.Fast.tw9354210737482505887 : Nat := 0
def PySem.W.Fast.tw951261298160653552 : Nat := 0
def PySem.W.Fast.tw9521686699783448438 : Nat := 0
def PySem.W.Fast.tw9529580878474959685 : Nat := 0
def PySem.W.Fast.tw9578368183108793597 : Nat := 0
def PySem.W.Fast.tw9605422143706213985 : Nat := 0
def PySem.W.Fast.tw9677386175499670778 : Nat := 0
def PySem.W.Fast.tw9700987080405002461 : Nat := 0
def PySem.W.Fast.tw9705333813985144153 : Nat := 0
def PySem.W.Fast.tw9769093494266029278 : Nat := 0
def PySem.W.Fast.tw9796936132785742727 : Nat := 0
def PySem.W.Fast.tw9802056432653010654 : Nat := 0
def PySem.W.Fast.tw9956906210086746851 : Nat := 0
def PySem.W.Fast.tw9978106529469433987 : Nat := 0
set_option maxRecDepth 100000 in
set_option maxHeartbeats 0 in
theorem PySem.Challenge.cw_furrow_k67_own_plan_is_plain_holds : PySem.Challenge.rw_furrow_k67_own_plan_is_plain.Holds := by
  w_on; o_law; k_head; (case hw => w_witness2)
  k_fill
  refine L2.law_walk (l := PySem.Challenge.rw_furrow_k67_own_plan_is_plain) (x := "_law_script") 14 (by decide) rfl rfl (fun w h Y => PySem.W.kIn_of Y) ?F
  case F =>
    intro w mg fa h KX G hmg
    suffices hh : ∃ a : Fw.Ad, Fw.Tx _ mg a ∧ fa = a.f_law ∧ (∀ (s : Shared) (v : Value), BindsTo s a.d_law ⟨[v], []⟩ [("_law_script", v)]) by
      obtain ⟨a, T, e, b⟩ := hh
      subst e
      exact ⟨a.d_law, b, fun base _ _ => Fw.ok_law T⟩
    refine' Fw.txt_mk KX G hmg ?a_Number ?a_Deed ?a_Program ?a1 ?i1 ?l1 ?c1 ?k1 ?a2 ?i2 ?l2 ?c2 ?k2 ?a3 ?i3 ?l3 ?c3 ?k3 ?a4 ?l4 ?c4 ?k4 ?a5 ?l5 ?c5 ?k5 ?a6 ?l6 ?c6 ?k6 ?a7 ?l7 ?c7 ?k7 ?a8 ?l8 ?c8 ?k8 ?a9 ?l9 ?c9 ?k9 ?a10 ?l10 ?c10 ?k10 ?a11 ?l11 ?c11 ?k11 ?a12 ?l12 ?c12 ?k12 ?a13 ?l13 ?c13 ?k13 ?a14 ?l14 ?c14 ?k14 ?a15 ?l15 ?c15 ?k15 ?a16 ?l16 ?c16 ?k16 ?a17 ?l17 ?c17 ?k17 ?a18 ?l18 ?c18 ?k18 ?a19 ?l19 ?c19 ?k19 ?a20 ?l20 ?c20 ?k20 ?a21 ?l21 ?c21 ?k21 ?a22 ?l22 ?c22 ?k22 ?a23 ?l23 ?c23 ?k23 ?a24 ?l24 ?c24 ?k24 ?a25 ?l25 ?c25 ?k25 ?a26 ?l26 ?c26 ?k26 ?a27 ?l27 ?c27 ?k27 ?a28 ?l28 ?c28 ?k28 ?a29 ?l29 ?c29 ?k29 ?a30 ?l30 ?c30 ?k30 ?a31 ?l31 ?c31 ?k31 ?a32 ?l32 ?c32 ?k32 ?pg_Number ?hd_Number ?po_Number ?sa_Number ?mk_Number ?kc_Number ?n_Number_n ?pg_Deed ?hd_Deed ?po_Deed ?sa_Deed ?mk_Deed ?kc_Deed ?n_Deed_names ?n_Deed_lows ?n_Deed_highs ?n_Deed_table ?n_Deed_spots ?n_Deed_term ?n_Deed_path ?pg_Program ?hd_Program ?po_Program ?sa_Program ?mk_Program ?kc_Program ?n_Program_size ?n_Program_deeds ?z_bool ?z_dict ?z_enumerate ?z_int ?z_isinstance ?z_len ?z_list ?z_max ?z_min ?z_range ?z_tuple ?z_zip
    (case a_Number => k_is)
    (case a_Deed => k_is)
    (case a_Program => k_is)
    (case a1 => k_is)
    (case i1 => k_is)
    (case l1 => k_is)
    (case c1 => k_is)
    (case k1 => k_is)
    (case a2 => k_is)
    (case i2 => k_is)
    (case l2 => k_is)
    (case c2 => k_is)
    (case k2 => k_is)
    (case a3 => k_is)
    (case i3 => k_is)
    (case l3 => k_is)
    (case c3 => k_is)
    (case k3 => k_is)
    (case a4 => k_is)
    (case l4 => k_is)
    (case c4 => k_is)
    (case k4 => k_is)
    (case a5 => k_is)
    (case l5 => k_is)
    (case c5 => k_is)
    (case k5 => k_is)
    (case a6 => k_is)
    (case l6 => k_is)
    (case c6 => k_is)
    (case k6 => k_is)
    (case a7 => k_is)
    (case l7 => k_is)
    (case c7 => k_is)
    (case k7 => k_is)
    (case a8 => k_is)
    (case l8 => k_is)
    (case c8 => k_is)
    (case k8 => k_is)
    (case a9 => k_is)
    (case l9 => k_is)
    (case c9 => k_is)
    (case k9 => k_is)
    (case a10 => k_is)
    (case l10 => k_is)
    (case c10 => k_is)
    (case k10 => k_is)
    (case a11 => k_is)
    (case l11 => k_is)
    (case c11 => k_is)
    (case k11 => k_is)
    (case a12 => k_is)
    (case l12 => k_is)
    (case c12 => k_is)
    (case k12 => k_is)
    (case a13 => k_is)
    (case l13 => k_is)
    (case c13 => k_is)
    (case k13 => k_is)
    (case a14 => k_is)
    (case l14 => k_is)
    (case c14 => k_is)
    (case k14 => k_is)
    (case a15 => k_is)
    (case l15 => k_is)
    (case c15 => k_is)
    (case k15 => k_is)
    (case a16 => k_is)
    (case l16 => k_is)
    (case c16 => k_is)
    (case k16 => k_is)
    (case a17 => k_is)
    (case l17 => k_is)
    (case c17 => k_is)
    (case k17 => k_is)
    (case a18 => k_is)
    (case l18 => k_is)
    (case c18 => k_is)
    (case k18 => k_is)
    (case a19 => k_is)
    (case l19 => k_is)
    (case c19 => k_is)
    (case k19 => k_is)
    (case a20 => k_is)
    (case l20 => k_is)
    (case c20 => k_is)
    (case k20 => k_is)
    (case a21 => k_is)
    (case l21 => k_is)
    (case c21 => k_is)
    (case k21 => k_is)
    (case a22 => k_is)
    (case l22 => k_is)
    (case c22 => k_is)
    (case k22 => k_is)
    (case a23 => k_is)
    (case l23 => k_is)
    (case c23 => k_is)
    (case k23 => k_is)
    (case a24 => k_is)
    (case l24 => k_is)
    (case c24 => k_is)
    (case k24 => k_is)
    (case a25 => k_is)
    (case l25 => k_is)
    (case c25 => k_is)
    (case k25 => k_is)
    (case a26 => k_is)
    (case l26 => k_is)
    (case c26 => k_is)
    (case k26 => k_is)
    (case a27 => k_is)
    (case l27 => k_is)
    (case c27 => k_is)
    (case k27 => k_is)
    (case a28 => k_is)
    (case l28 => k_is)
    (case c28 => k_is)
    (case k28 => k_is)
    (case a29 => k_is)
    (case l29 => k_is)
    (case c29 => k_is)
    (case k29 => k_is)
    (case a30 => k_is)
    (case l30 => k_is)
    (case c30 => k_is)
    (case k30 => k_is)
    (case a31 => k_is)
    (case l31 => k_is)
    (case c31 => k_is)
    (case k31 => k_is)
    (case a32 => k_is)
    (case l32 => k_is)
    (case c32 => k_is)
    (case k32 => k_is)
    (case pg_Number => k_is)
    (case hd_Number => k_is)
    (case po_Number => k_is)
    (case sa_Number => k_is)
    (case mk_Number => k_is)
    (case kc_Number => k_is)
    (case n_Number_n => k_is)
    (case pg_Deed => k_is)
    (case hd_Deed => k_is)
    (case po_Deed => k_is)
    (case sa_Deed => k_is)
    (case mk_Deed => k_is)
    (case kc_Deed => k_is)
    (case n_Deed_names => k_is)
    (case n_Deed_lows => k_is)
    (case n_Deed_highs => k_is)
    (case n_Deed_table => k_is)
    (case n_Deed_spots => k_is)
    (case n_Deed_term => k_is)
    (case n_Deed_path => k_is)
    (case pg_Program => k_is)
    (case hd_Program => k_is)
    (case po_Program => k_is)
    (case sa_Program => k_is)
    (case mk_Program => k_is)
    (case kc_Program => k_is)
    (case n_Program_size => k_is)
    (case n_Program_deeds => k_is)
    (case z_bool => k_is)
    (case z_dict => k_is)
    (case z_enumerate => k_is)
    (case z_int => k_is)
    (case z_isinstance => k_is)
    (case z_len => k_is)
    (case z_list => k_is)
    (case z_max => k_is)
    (case z_min => k_is)
    (case z_range => k_is)
    (case z_tuple => k_is)
    (case z_zip => k_is)
#print axioms PySem.Challenge.cw_furrow_k67_own_plan_is_plain_holds
