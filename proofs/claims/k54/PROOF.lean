import PyProof.Rows.All
import Wide.All
import OpenK.AllK
import Wide.FinOn
import Lean
import PyProof.EqAt
import PyProof.EqKinds
import PyProof.TupleCall
import PyProof.ListMulRoad
import PySem.Challenge.RW_furrow_k54_cases_of_turns
set_option genSizeOf false
set_option compiler.extract_closed false
set_option Elab.async false
set_option linter.all false
set_option maxRecDepth 100000
namespace L2
open PySem PySem.Spec PyProof.Rows

noncomputable abbrev Key := Sum Int Str
noncomputable def keyIs : Key → Value → Bool
  | .inl k, v => Value.isInt k v
  | .inr x, v => Value.isStrOf x v
noncomputable def keyH (w : World) : Key → Int
  | .inl k => hashInt k
  | .inr x => hashStr w x
theorem keyIs_shape : ∀ {k : Key} {v : Value}, keyIs k v = true → (∃ i t, k = Sum.inl i ∧ v = Value.int i t) ∨ (∃ x t, k = Sum.inr x ∧ v = Value.str x t)
  | .inl i, v, h => by
    obtain ⟨t, e⟩ := Value.isInt_shape (k := i) (v := v) h
    exact .inl ⟨i, t, rfl, e⟩
  | .inr x, v, h => by
    obtain ⟨t, e⟩ := Value.isStrOf_shape (x := x) (v := v) h
    exact .inr ⟨x, t, rfl, e⟩
theorem keyIs_int (i : Int) (t : Tok) : keyIs (.inl i) (.int i t) = true := by simp [keyIs, Value.isInt]
theorem keyIs_str (x : Str) (t : Tok) : keyIs (.inr x) (.str x t) = true := by simp [keyIs, Value.isStrOf]
theorem key_ll (a b : Int) : decide ((Sum.inl a : Key) = Sum.inl b) = (a == b) := by
  by_cases e : a = b
  · subst e; simp
  · have h : ¬ (Sum.inl a : Key) = Sum.inl b := fun q => e (Sum.inl.inj q)
    rw [decide_eq_false h]
    exact (beq_eq_false_iff_ne.mpr e).symm
theorem key_rr (a b : Str) : decide ((Sum.inr a : Key) = Sum.inr b) = decide (a = b) := by
  by_cases e : a = b
  · subst e; simp
  · have h : ¬ (Sum.inr a : Key) = Sum.inr b := fun q => e (Sum.inr.inj q)
    rw [decide_eq_false h, decide_eq_false e]
theorem key_lr (a : Int) (b : Str) : decide ((Sum.inl a : Key) = Sum.inr b) = false := decide_eq_false (fun q => nomatch q)
theorem key_rl (a : Str) (b : Int) : decide ((Sum.inr a : Key) = Sum.inl b) = false := decide_eq_false (fun q => nomatch q)

noncomputable def mixKind (prog : Program) (w : World) : PySem.KeyKind prog w Key where
  is := keyIs
  hash := keyH w
  inj := fun v a b ha hb => by
    rcases keyIs_shape ha with ⟨i, t, rfl, rfl⟩ | ⟨x, t, rfl, rfl⟩
    · rcases keyIs_shape hb with ⟨j, u, rfl, e⟩ | ⟨y, u, rfl, e⟩
      · injection e with e1 _; rw [e1]
      · exact nomatch e
    · rcases keyIs_shape hb with ⟨j, u, rfl, e⟩ | ⟨y, u, rfl, e⟩
      · exact nomatch e
      · injection e with e1 _; rw [e1]
  byValue := fun k v h => by
    rcases keyIs_shape h with ⟨i, t, rfl, rfl⟩ | ⟨x, t, rfl, rfl⟩ <;> rfl
  pyHash := fun hv h => by
    rcases keyIs_shape hv with ⟨i, t, rfl, rfl⟩ | ⟨x, t, rfl, rfl⟩
    · exact wpAny_pyHash_int h
    · exact wpAny_pyHash_str h
  eqBool := fun hu hv h => by
    rcases keyIs_shape hu with ⟨i, t, rfl, rfl⟩ | ⟨x, t, rfl, rfl⟩
    · rcases keyIs_shape hv with ⟨j, u, rfl, rfl⟩ | ⟨y, u, rfl, rfl⟩
      · rw [key_ll] at h; exact wpAny_eqBool_int h
      · rw [key_lr] at h; exact SeqAt.EqAt.int_str i t y u _ _ _ _ h
    · rcases keyIs_shape hv with ⟨j, u, rfl, rfl⟩ | ⟨y, u, rfl, rfl⟩
      · rw [key_rl] at h; exact SeqAt.EqAt.str_int x t j u _ _ _ _ h
      · rw [key_rr] at h; exact wpAny_eqBool_str h
  «strs» := fun k x t v h => by
    rcases keyIs_shape h with ⟨i, u, rfl, e⟩ | ⟨y, u, rfl, e⟩
    · exact nomatch e
    · injection e with e1 _
      subst e1
      cases v <;> rfl

theorem mixKind_int (prog : Program) (w : World) (i : Int) (t : Tok) : (mixKind prog w).is (.inl i) (.int i t) = true := keyIs_int i t
theorem mixKind_str (prog : Program) (w : World) (x : Str) (t : Tok) : (mixKind prog w).is (.inr x) (.str x t) = true := keyIs_str x t
end L2

namespace L2
open PySem PySem.Spec PyProof.Rows

inductive V where
  | non | bl (b : Bool) | int (i : Int) | str (x : Str) | byt (b : Array UInt8) | flt (b : UInt64) | ref (a : Addr) | ty (n : String)
  deriving DecidableEq

noncomputable def RelV : V → Value → Prop
  | .non, u => u = Value.none
  | .bl b, u => u = Value.bool b
  | .int i, u => ∃ t, u = Value.int i t
  | .str x, u => ∃ t, u = Value.str x t
  | .byt b, u => ∃ t, u = Value.bytes b t
  | .flt b, u => ∃ t, u = Value.float b t
  | .ref a, u => u = Value.ref a
  | .ty n, u => u = Value.type n

noncomputable abbrev Vals : List V → List Value → Prop := Paired RelV
theorem Vals.length {xs : List V} {us : List Value} (r : Vals xs us) : xs.length = us.length := Paired.length r
theorem Vals.get : ∀ {xs : List V} {us : List Value} {i : Nat} {x : V}, Vals xs us → xs[i]? = some x → ∃ u, us[i]? = some u ∧ RelV x u
  | _, _, _, _, .nil, e => by simp at e
  | _, _, 0, _, .cons r _, e => by simp at e; subst e; exact ⟨_, rfl, r⟩
  | _, _, i + 1, x, .cons _ t, e => by
    obtain ⟨u, h1, h2⟩ := Vals.get (i := i) (x := x) t (by simpa using e)
    exact ⟨u, by simpa using h1, h2⟩
theorem Vals.append : ∀ {xs ys : List V} {us ws : List Value}, Vals xs us → Vals ys ws → Vals (xs ++ ys) (us ++ ws)
  | _, _, _, _, .nil, s => s
  | _, _, _, _, .cons r t, s => .cons r (Vals.append t s)
theorem Vals.take : ∀ {xs : List V} {us : List Value} (n : Nat), Vals xs us → Vals (xs.take n) (us.take n)
  | _, _, 0, _ => .nil
  | _, _, _ + 1, .nil => .nil
  | _, _, n + 1, .cons r t => .cons r (Vals.take n t)
theorem Vals.drop : ∀ {xs : List V} {us : List Value} (n : Nat), Vals xs us → Vals (xs.drop n) (us.drop n)
  | _, _, 0, r => r
  | _, _, _ + 1, .nil => .nil
  | _, _, n + 1, .cons _ t => Vals.drop n t
theorem Vals.none_of : ∀ {xs : List V} {us : List Value} {i : Nat}, Vals xs us → xs[i]? = none → us[i]? = none := fun {xs us i} r e => by
  have h1 := r.length
  have h2 : xs.length ≤ i := List.getElem?_eq_none_iff.mp e
  exact List.getElem?_eq_none_iff.mpr (by omega)

noncomputable def RelO : Option V → Option Value → Prop
  | some v, some u => RelV v u
  | none, none => True
  | _, _ => False
noncomputable def KV {κ : Type} : List (κ × V) → List (κ × Value) → Prop := Paired fun (p : κ × V) (q : κ × Value) => p.1 = q.1 ∧ RelV p.2 q.2

noncomputable def kV : Key → V
  | .inl i => .int i
  | .inr x => .str x

inductive HO where
  /-- a list -/
  | lst (xs : List V)
  /-- a tuple (never changes) -/
  | tup (xs : List V)
  /-- a dict whose keys are ints and texts; one whose keys are tuples of ints and texts (the empty one is both) -/
  | dK (kvs : List (Key × V)) | dT (kvs : List (List Key × V))
  /-- a set of ints: its members, its size -/
  | set (S : Int → Bool) (n : Nat)
  /-- an instance of the class at C, its dict at dx, its attributes -/
  | ins (C dx : Addr) (fs : List (Str × V))
  /-- the dict of the instance at x -/
  | own (x : Addr)
  /-- the dict of an exception -/
  | xd (fs : List (Str × V))
  /-- a bound method, f of x -/
  | met (f x : Addr)
  /-- a range object lo, lo + 1, .. below hi -/
  | rng (lo hi : Int)
  /-- a thing that is known to the object (the script; a dict while a loop walks it): read, never written while it is so -/
  | frz (o : Obj) (u : HO)
  /-- a code object's table -/
  | tbl (ps : Array Value)
  /-- any other thing, by what is true of its one object (a def of one's own: SetO a S n := HO.ext fun h => ..) -/
  | ext (φ : Heap → Prop)

noncomputable abbrev Hp := Addr → Option HO
noncomputable def upd (H : Hp) (a : Addr) (o : HO) : Hp := fun b => if b = a then some o else H b
theorem upd_same {H : Hp} {a : Addr} {o : HO} : upd H a o a = some o := by unfold upd; rw [if_pos rfl]
theorem upd_ne {H : Hp} {a b : Addr} {o : HO} (h : b ≠ a) : upd H a o b = H b := by unfold upd; rw [if_neg h]
theorem ne_of {H : Hp} {a b : Addr} {o u : HO} (h : H a = some o) (h' : H b = some u) (d : o ≠ u) : a ≠ b := by
  intro e; subst e; rw [h] at h'; exact d (Option.some.inj h')
theorem ne_of_none {H : Hp} {a b : Addr} {o : HO} (h : H a = some o) (h' : H b = none) : a ≠ b := by
  intro e; subst e; rw [h] at h'; cases h'

section
variable (P : Program) (w : World)
noncomputable def IsTupN (h : Heap) (a : Addr) (its : Array Value) : Prop := ∃ o, h.get? a = some o ∧ o.cls = .type "tuple" ∧ (∃ n, o.data = .seq its n) ∧ o.dict = none
theorem IsTupN.tup {h : Heap} {a : Addr} {its : Array Value} (x : IsTupN h a its) : IsTup h a its := let ⟨o, e, c, d, _⟩ := x; ⟨o, e, c, d⟩
theorem IsTupN.new (h : Heap) (its : Array Value) : IsTupN (h.push { cls := .type "tuple", data := .seq its }) h.objs.size its := ⟨_, Heap.get?_push_size _ rfl, rfl, ⟨_, rfl⟩, rfl⟩
noncomputable def ObjOk (H : Hp) (h : Heap) (a : Addr) : HO → Prop
  | .lst xs => xs.length ≤ sizeLine ∧ ∃ (its : List Value) (n : Nat), Vals xs its ∧ h.get? a = some { cls := .type "list", data := .seq its.toArray n }
  | .tup xs => xs.length ≤ sizeLine ∧ ∃ its : List Value, Vals xs its ∧ IsTupN h a its.toArray
  | .dK kvs => kvs.length ≤ sizeLine ∧ (a == sysModules) = false ∧ ∃ vs, KV kvs vs ∧ h.DictOf (mixKind P w) a vs
  | .dT kvs => kvs.length ≤ sizeLine ∧ (a == sysModules) = false ∧ ∃ xs : List (List Key × Addr × Value),
      Paired (fun (p : List Key × V) (q : List Key × Addr × Value) => p.1 = q.1 ∧ H q.2.1 = some (.tup (p.1.map kV)) ∧ RelV p.2 q.2.2) kvs xs ∧
      ∃ o es ep, h.get? a = some o ∧ o.ExactDict ∧ o.data = .dict es ep ∧ es.toList = xs.map (entryOfKey (tupleKind (mixKind P w))) ∧ (xs.map (·.1)).Nodup
  | .set S n => h.SetOf (intKind P w) a S n
  | .ins C dx fs => H dx = some (.own a) ∧ fs.length ≤ 1000 ∧ dx ≠ a ∧ h.get? a = some (PySem.W.instObj C dx) ∧
      ∃ mA, h.Ns1 dx mA ∧ (∀ f, RelO (fs.lookup f) (mA f)) ∧ PySem.Within mA (fs.map (·.1))
  | .own _ => ∃ o, h.get? a = some o
  | .xd fs => ∃ mA, h.Ns1 a mA ∧ ∀ f, RelO (fs.lookup f) (mA f)
  | .rng lo hi => ∃ t u v, h.get? a = some { cls := .type "range", data := .fields #[.int lo t, .int hi u, .int 1 v] }
  | .frz o u => h.get? a = some o ∧ ObjOk H h a u
  | .tbl ps => h.get? a = some { cls := .none, data := .fields ps }
  | .met f x => h.get? a = some (PySem.W.methodObj (.ref f) (.ref x))
  | .ext φ => φ h ∧ (∃ o, h.get? a = some o) ∧ ∀ h1 h2 : Heap, φ h1 → (∀ o, h1.get? a = some o → h2.get? a = some o) → φ h2
noncomputable def HOk (H : Hp) (h : Heap) : Prop := ∀ a o, H a = some o → ObjOk P w H h a o
end

section
variable {P : Program} {w : World} {H H' : Hp} {h h' : Heap} {a : Addr} {o : HO}
theorem ObjOk.lt (x : ObjOk P w H h a o) : a < h.objs.size := by
  cases o with
  | lst xs => obtain ⟨_, _, _, _, e⟩ := x; exact Heap.lt_size e
  | tup xs => obtain ⟨_, _, _, p⟩ := x; exact p.tup.lt
  | dK kvs => obtain ⟨_, _, _, _, o, _, _, e, _⟩ := x; exact Heap.lt_size e
  | dT kvs => obtain ⟨_, _, _, _, o, _, _, e, _⟩ := x; exact Heap.lt_size e
  | set S n => obtain ⟨o, _, _, _, e, _⟩ := x; exact Heap.lt_size e
  | ins C dx fs => obtain ⟨_, _, _, e, _⟩ := x; exact Heap.lt_size e
  | own y => obtain ⟨_, e⟩ := x; exact Heap.lt_size e
  | xd fs => obtain ⟨_, ⟨_, _, _, e, _⟩, _⟩ := x; exact Heap.lt_size e
  | rng lo hi => obtain ⟨_, _, _, e⟩ := x; exact Heap.lt_size e
  | frz ob u => obtain ⟨e, _⟩ := x; exact Heap.lt_size e
  | tbl ps => exact Heap.lt_size (show h.get? a = some _ from x)
  | met f y => exact Heap.lt_size (show h.get? a = some _ from x)
  | ext φ => obtain ⟨_, ⟨_, e⟩, _⟩ := x; exact Heap.lt_size e
theorem Paired.mapP {α β : Type} {F G : α → β → Prop} : ∀ {l₁ : List α} {l₂ : List β}, Paired F l₁ l₂ → (∀ a b, F a b → G a b) → Paired G l₁ l₂
  | _, _, .nil, _ => .nil
  | _, _, .cons r t, f => .cons (f _ _ r) (Paired.mapP t f)
theorem ObjOk.stay (x : ObjOk P w H h a o) (k : ∀ b u, (b = a ∨ H b = some (.own a)) → h.get? b = some u → h'.get? b = some u)
    (ho : ∀ b, H b = some (.own a) → H' b = some (.own a)) (ht : ∀ b xs, H b = some (.tup xs) → H' b = some (.tup xs)) : ObjOk P w H' h' a o := by
  induction o with
  | lst xs => obtain ⟨z, its, n, r, e⟩ := x; exact ⟨z, its, n, r, k _ _ (.inl rfl) e⟩
  | tup xs => obtain ⟨z, its, r, ob, e, c⟩ := x; exact ⟨z, its, r, ob, k _ _ (.inl rfl) e, c⟩
  | dK kvs => obtain ⟨z, y, vs, r, ob, es, ep, e, c⟩ := x; exact ⟨z, y, vs, r, ob, es, ep, k _ _ (.inl rfl) e, c⟩
  | dT kvs =>
    obtain ⟨z, y, xs, r, ob, es, ep, e, c⟩ := x
    exact ⟨z, y, xs, Paired.mapP r fun p q z => ⟨z.1, ht _ _ z.2.1, z.2.2⟩, ob, es, ep, k _ _ (.inl rfl) e, c⟩
  | set S n => obtain ⟨ob, es, ep, t, e, c⟩ := x; exact ⟨ob, es, ep, t, k _ _ (.inl rfl) e, c⟩
  | ins C dx fs =>
    obtain ⟨d, z, ne, e, mA, ⟨od, es, ep, e2, c⟩, r⟩ := x
    exact ⟨ho _ d, z, ne, k _ _ (.inl rfl) e, mA, ⟨od, es, ep, k _ _ (.inr d) e2, c⟩, r⟩
  | own y => obtain ⟨ob, e⟩ := x; exact ⟨ob, k _ _ (.inl rfl) e⟩
  | xd fs => obtain ⟨mA, ⟨od, es, ep, e, c⟩, r⟩ := x; exact ⟨mA, ⟨od, es, ep, k _ _ (.inl rfl) e, c⟩, r⟩
  | rng lo hi => obtain ⟨t, u, v, e⟩ := x; exact ⟨t, u, v, k _ _ (.inl rfl) e⟩
  | frz ob u ih => obtain ⟨e, q⟩ := x; exact ⟨k _ _ (.inl rfl) e, ih q⟩
  | tbl ps =>
    have e : h.get? a = some { cls := .none, data := .fields ps } := x
    show h'.get? a = some { cls := .none, data := .fields ps }
    exact k a _ (.inl rfl) e
  | met f y =>
    have e : h.get? a = some (PySem.W.methodObj (.ref f) (.ref y)) := x
    show h'.get? a = some (PySem.W.methodObj (.ref f) (.ref y))
    exact k a _ (.inl rfl) e
  | ext φ => obtain ⟨p, ⟨o, e⟩, st⟩ := x; exact ⟨st _ _ p fun o q => k _ _ (.inl rfl) q, ⟨o, k _ _ (.inl rfl) e⟩, st⟩
theorem HOk.lt (x : HOk P w H h) (e : H a = some o) : a < h.objs.size := (x a o e).lt
theorem HOk.fresh (x : HOk P w H h) (e : h.objs.size ≤ a) : H a = none := by
  cases q : H a with
  | none => rfl
  | some u => exact absurd (Nat.lt_of_lt_of_le (x.lt q) e) (Nat.lt_irrefl _)
theorem HOk.kept (x : HOk P w H h) (k : ∀ b u, h.get? b = some u → h'.get? b = some u) : HOk P w H h' := fun a o e =>
  (x a o e).stay (fun b u _ q => k b u q) (fun _ q => q) fun _ _ q => q
theorem HOk.laid (x : HOk P w H h) (k : ∀ b u, h.get? b = some u → h'.get? b = some u) (hp : h.objs.size ≤ a) (new : ObjOk P w (upd H a o) h' a o) : HOk P w (upd H a o) h' := fun b u e => by
  have hn := x.fresh hp
  by_cases hb : b = a
  · subst hb; rw [upd_same] at e; cases e; exact new
  · rw [upd_ne hb] at e
    exact (x b u e).stay (fun c v _ q => k c v q) (fun c q => by rw [upd_ne (ne_of_none q hn)]; exact q) fun c xs q => by rw [upd_ne (ne_of_none q hn)]; exact q
end

noncomputable def Rd (H : Hp) (a : Addr) (u : HO) : Prop := H a = some u ∨ ∃ o, H a = some (.frz o u)
theorem Rd.ok {P : Program} {w : World} {H : Hp} {h : Heap} {a : Addr} {u : HO} (r : Rd H a u) (x : HOk P w H h) : ObjOk P w H h a u := by
  rcases r with r | ⟨o, r⟩
  · exact x a u r
  · obtain ⟨_, q⟩ := x a _ r
    exact q
noncomputable def Mut : Option HO → Prop
  | some (.lst _) => True
  | some (.dK _) => True
  | some (.dT _) => True
  | some (.set _ _) => True
  | some (.ins _ _ _) => True
  | some (.ext _) => True
  | _ => False
section
variable {P : Program} {w : World} {H : Hp} {h h' : Heap} {x e : Addr} {o' : HO}
theorem HOk.write (ok : HOk P w H h) (mu : Mut (H x)) (he : e = x ∨ H e = some (.own x)) (k : ∀ b u, b ≠ e → h.get? b = some u → h'.get? b = some u) (heo : ∃ u, h'.get? e = some u)
    (new : ObjOk P w (upd H x o') h' x o') : HOk P w (upd H x o') h' := fun b u q => by
  have nown : ∀ c y, H c = some (.own y) → c ≠ x := fun c y r z => by subst z; rw [r] at mu; exact mu
  have ntup : ∀ c xs, H c = some (.tup xs) → c ≠ x := fun c xs r z => by subst z; rw [r] at mu; exact mu
  by_cases hb : b = x
  · subst hb; rw [upd_same] at q; cases q; exact new
  · rw [upd_ne hb] at q
    by_cases hbe : b = e
    · have q' : H b = some (.own x) := by
        rcases he with z | z
        · exact absurd (hbe.trans z) hb
        · rw [hbe]; exact z
      rw [q] at q'; cases q'
      obtain ⟨v, hv⟩ := heo
      exact ⟨v, by rw [hbe]; exact hv⟩
    · refine (ok b u q).stay (fun c v hc r => k c v ?_ r) (fun c r => by rw [upd_ne (nown c b r)]; exact r) fun c xs r => by rw [upd_ne (ntup c xs r)]; exact r
      rcases hc with rfl | hc
      · exact hbe
      · rintro rfl
        rcases he with z | z
        · exact nown c b hc z
        · rw [hc] at z; cases z; exact hb rfl
end

structure Un (fs ex : List Addr) (H H' : Hp) (h h' : Heap) : Prop where
  keep : ∀ b o, h.get? b = some o → H b = none → b ∉ fs → b ∉ ex → h'.get? b = some o
  slot : ∀ b o, h.get? b = some o → H b = none → b ∈ fs → b ∉ ex → ∃ sl, h'.get? b = some { o with slots := sl }
  free : ∀ b o, h.get? b = some o → H b = none → b ∉ ex → H' b = none
  there : ∀ b o, h.get? b = some o → b ∉ ex → ∃ o', h'.get? b = some o'
  tups : ∀ b xs, H b = some (.tup xs) → H' b = some (.tup xs)
  frzs : ∀ b o u, H b = some (.frz o u) → H' b = some (.frz o u)
  tbls : ∀ b ps, H b = some (.tbl ps) → ∃ more, H' b = some (.tbl (ps ++ more))
section
variable {fs fs' ex ex' : List Addr} {H H1 H2 : Hp} {h h1 h2 h' : Heap} {a x e : Addr} {o : HO}
theorem Un.any (u : Un fs ex H H1 h h1) {b : Addr} {ob : Obj} (q : h.get? b = some ob) (n : H b = none) (hx : b ∉ ex) : ∃ sl, h1.get? b = some { ob with slots := sl } := by
  by_cases hb : b ∈ fs
  · exact u.slot b ob q n hb hx
  · exact ⟨ob.slots, u.keep b ob q n hb hx⟩
theorem Un.kept (k : ∀ b u, h.get? b = some u → h'.get? b = some u) : Un fs ex H H h h' :=
  ⟨fun b ob q _ _ _ => k b ob q, fun b ob q _ _ _ => ⟨ob.slots, k b ob q⟩, fun _ _ _ n _ => n, fun b ob q _ => ⟨ob, k b ob q⟩, fun _ _ q => q, fun _ _ _ q => q, fun _ ps q => ⟨#[], by rw [q]; simp⟩⟩
theorem Un.refl : Un fs ex H H h h := Un.kept fun _ _ q => q
theorem Un.laid (k : ∀ b u, h.get? b = some u → h'.get? b = some u) (hp : h.objs.size ≤ a) (hn : H a = none) : Un fs ex H (upd H a o) h h' where
  keep := fun b u q _ _ _ => k b u q
  slot := fun b u q _ _ _ => ⟨u.slots, k b u q⟩
  free := fun b u q n _ => by rw [upd_ne (Nat.ne_of_lt (Nat.lt_of_lt_of_le (Heap.lt_size q) hp))]; exact n
  there := fun b u q _ => ⟨u, k b u q⟩
  tups := fun b xs q => by rw [upd_ne (ne_of_none q hn)]; exact q
  frzs := fun b u xs q => by rw [upd_ne (ne_of_none q hn)]; exact q
  tbls := fun b ps q => ⟨#[], by rw [upd_ne (ne_of_none q hn), q]; simp⟩
theorem Un.write (mu : Mut (H x)) (he : e = x ∨ H e = some (.own x)) (k : ∀ b u, b ≠ e → h.get? b = some u → h'.get? b = some u) (heo : ∃ u, h'.get? e = some u) : Un fs ex H (upd H x o) h h' := by
  have hx : ∀ b, H b = none → b ≠ x := fun b n z => by subst z; rw [n] at mu; exact mu
  have hb : ∀ b, H b = none → b ≠ e := fun b n z => by
    subst z
    rcases he with r | r
    · exact hx b n r
    · rw [n] at r; cases r
  have hm : ∀ b u, H b = some u → ¬ Mut (some u) → b ≠ x := fun b u q nm z => by subst z; rw [q] at mu; exact nm mu
  refine ⟨fun b u q n _ _ => k b u (hb b n) q, fun b u q n _ _ => ⟨u.slots, k b u (hb b n) q⟩, fun b u q n _ => by rw [upd_ne (hx b n)]; exact n, fun b u q _ => ?_,
    fun b xs q => by rw [upd_ne (hm b _ q fun z => z)]; exact q, fun b u xs q => by rw [upd_ne (hm b _ q fun z => z)]; exact q, fun b ps q => ⟨#[], by rw [upd_ne (hm b _ q fun z => z), q]; simp⟩⟩
  by_cases hbe : b = e
  · subst hbe; exact heo
  · exact ⟨u, k b u hbe q⟩
end

noncomputable def trk (h : Heap) (H : Hp) : List Addr := (List.range h.objs.size).filter fun a => (H a).isSome
noncomputable def hidT (h : Heap) (H : Hp) : Heap := PySem.W.hideAll h (trk h H)
theorem hidT_size (h : Heap) (H : Hp) : (hidT h H).objs.size = h.objs.size := PySem.W.hideAll_size _ _
theorem hidT_get {h : Heap} {H : Hp} {b : Addr} {o : Obj} (e : h.get? b = some o) (n : H b = none) : (hidT h H).get? b = some o :=
  PySem.W.hideAll_get _ e fun hm => by
    have q : (H b).isSome = true := (List.mem_filter.mp hm).2
    rw [n] at q; simp at q
theorem of_hidT {h : Heap} {H : Hp} {b : Addr} {o : Obj} (e : (hidT h H).get? b = some o) : h.get? b = some o ∧ H b = none := by
  have e' : h.get? b = some o := PySem.W.of_hideAll (trk h H) e
  refine ⟨e', ?_⟩
  cases q : H b with
  | none => rfl
  | some x =>
    have hm : b ∈ trk h H := List.mem_filter.mpr ⟨List.mem_range.mpr (Heap.lt_size e'), by simp [q]⟩
    have z : (hidT h H).get? b = none := PySem.W.hideAll_none (trk h H) hm
    rw [z] at e; cases e

end L2

namespace L2
open PySem PySem.Spec PyProof.Rows

structure Mod (K : PySem.W.Frag) (mg : Str → Option Value) (base : Heap) : Prop where
  kin : K.In base
  glob : base.Ns mainGlobals mg
  blt : ∃ mb, base.Ns builtinsNs mb ∧ ∀ x : Str, x ≠ "__name__" → mb x = bootBuiltins x
  nolimit : base.NoLimit

structure Cx where
  prog : Program
  w : World
  K : PySem.W.Frag
  mg : Str → Option Value
  base : Heap
  A : Around
  N : List Str
  s₀ : Shared
  H₀ : Hp
  env : Env
  outer : List Env
  stack : List Env
  ex : List Addr
  fn : Str → Bool
  calm : Bool
  pn : List (Addr × Obj)
  xe : Value → Shared → Prop
noncomputable def frs (l : List Env) : List Addr := l.filterMap (·.frame)
noncomputable abbrev Cx.fs (X : Cx) : List Addr := frs X.outer

noncomputable def Vis (sc : Scope) (x : Str) : Prop := sc.names.lookup x = some .local ∨ sc.names.lookup x = some .cell ∨ sc.names.lookup x = some .free
noncomputable def Loc (sc : Scope) (x : Str) : Prop := sc.names.lookup x = some .local ∨ sc.names.lookup x = some .cell
noncomputable def Look (env : Env) (h : Heap) (m : Str → Option Value) (x : Str) (u : Value) : Prop :=
  (env.kindOf x = some .local ∧ m x = some u) ∨ ((env.kindOf x = some .cell ∨ env.kindOf x = some .free) ∧ ∃ c, env.cells.lookup x = some c ∧ h.IsCell c (some u))

structure Cx.Ok (X : Cx) : Prop where
  mod : Mod X.K X.mg X.base
  kind : X.env.scope.kind = .function
  glob : X.env.globals = mainGlobals
  blt : X.env.builtins = builtinsNs
  above : X.s₀.heap.objs.size ≤ X.env.locals
  inj : ∀ x y c, X.env.cells.lookup x = some c → X.env.cells.lookup y = some c → x = y
  has : ∀ x, (X.env.kindOf x = some .cell ∨ X.env.kindOf x = some .free) → ∃ c, X.env.cells.lookup x = some c
  cab : ∀ x c, X.fn x = true → X.env.cells.lookup x = some c → X.s₀.heap.objs.size ≤ c
  hd : X.calm = true → X.A.handled = none
  frames : X.A.frames = some X.stack
  stk : X.stack = X.outer ∨ (X.stack = X.env :: X.outer ∧ X.env.frame = some X.env.locals)
  exf : ∀ b ∈ X.ex, b ≠ X.env.locals ∧ ∀ x c, X.env.cells.lookup x = some c → c ≠ b
  bs : ∀ b o, X.base.get? b = some o → X.s₀.heap.get? b = some o ∧ X.H₀ b = none
  bsz : X.base.objs.size ≤ X.s₀.heap.objs.size
  noex : ∀ b o, X.base.get? b = some o → b ∉ X.ex
  exfs : ∀ b ∈ X.ex, b ∉ X.fs
  funs : X.s₀.heap.FunFrames X.base X.outer
  frf : ∀ b ∈ X.fs, X.H₀ b = none

structure Inv (X : Cx) (pins : List (Addr × Obj)) (σ : List (Option V)) (H : Hp) (s : Shared) : Prop where
  ok : X.Ok
  os : s.os = X.s₀.os
  bare : AllBare s.gens
  base : Un X.fs X.ex X.H₀ H X.s₀.heap s.heap
  loc : ∃ m, s.heap.Ns X.env.locals m ∧ ∀ (i : Nat) (x : Str) (v : V), X.N[i]? = some x → σ[i]? = some (some v) → Vis X.env.scope x → ∃ u, RelV v u ∧ Look X.env s.heap m x u
  cell : ∀ x c, X.env.cells.lookup x = some c → ∃ v, s.heap.IsCell c v
  free : H X.env.locals = none
  freeC : ∀ x c, X.env.cells.lookup x = some c → H c = none
  pin : ∀ p ∈ X.pn ++ pins, s.heap.get? p.1 = some p.2 ∧ H p.1 = none ∧ p.1 ≠ X.env.locals ∧ p.1 ∉ X.fs ∧ ∀ v, p.2.data ≠ .cell v
  hok : HOk X.prog X.w H s.heap
  len : σ.length = X.N.length

section
variable {X : Cx} {pins : List (Addr × Obj)} {σ : List (Option V)} {H H' : Hp} {s : Shared} {h' : Heap}

theorem Cx.Ok.nofr (ok : X.Ok) {b : Addr} {o : Obj} (e : X.base.get? b = some o) : b ∉ X.fs := fun hb => by
  have := (ok.funs.mem hb).1
  rw [e] at this; cases this
theorem Inv.bs (I : Inv X pins σ H s) : ∀ b o, X.base.get? b = some o → s.heap.get? b = some o ∧ H b = none := fun b o e =>
  ⟨I.base.keep b o (I.ok.bs b o e).1 (I.ok.bs b o e).2 (I.ok.nofr e) (I.ok.noex b o e), I.base.free b o (I.ok.bs b o e).1 (I.ok.bs b o e).2 (I.ok.noex b o e)⟩
theorem Inv.bk (I : Inv X pins σ H s) : ∀ b o, X.base.get? b = some o → s.heap.get? b = some o := fun b o e => (I.bs b o e).1
theorem Inv.mod (I : Inv X pins σ H s) : Mod X.K X.mg X.base := I.ok.mod
theorem Inv.kIn (I : Inv X pins σ H s) : X.K.In s.heap := I.ok.mod.kin.keeps I.bk
theorem Inv.lt (I : Inv X pins σ H s) : X.env.locals < s.heap.objs.size := let ⟨_, hn, _⟩ := I.loc; hn.lt
theorem Inv.sz (I : Inv X pins σ H s) : X.s₀.heap.objs.size ≤ s.heap.objs.size := Nat.le_trans I.ok.above (Nat.le_of_lt I.lt)
theorem Inv.nofs (I : Inv X pins σ H s) {a : Addr} (h : s.heap.objs.size ≤ a) : a ∉ X.fs := fun hb => by
  obtain ⟨_, o, ho, _⟩ := I.ok.funs.mem hb
  exact absurd (Nat.lt_of_lt_of_le (Heap.lt_size ho) (Nat.le_trans I.sz h)) (Nat.lt_irrefl _)
theorem Inv.cne (I : Inv X pins σ H s) : ∀ x c, X.env.cells.lookup x = some c → c ≠ X.env.locals := fun x c e z => by
  obtain ⟨v, o, ho, hd⟩ := I.cell x c e
  obtain ⟨m, ⟨o', es, ep, ho', hd', _⟩, _⟩ := I.loc
  rw [z, ho'] at ho; cases ho; rw [hd'] at hd; cases hd
theorem Inv.funs (I : Inv X pins σ H s) : s.heap.FunFrames X.base X.outer := by
  have all : ∀ (l : List Env), (∀ b ∈ frs l, b ∈ X.fs) → X.s₀.heap.FunFrames X.base l → s.heap.FunFrames X.base l := by
    intro l
    induction l with
    | nil => intro _ _; trivial
    | cons env r ih =>
      intro hs hl
      obtain ⟨hk, ⟨L, o, hf, hn, ho, hd⟩, hr⟩ := hl
      have hL : L ∈ X.fs := hs L (by unfold frs; rw [List.filterMap_cons, hf]; exact List.mem_cons_self)
      obtain ⟨sl, e⟩ := I.base.slot L o ho (I.ok.frf L hL) hL fun z => I.ok.exfs L z hL
      exact ⟨hk, ⟨L, _, hf, hn, e, hd⟩, ih (fun b hb => hs b (by unfold frs; rw [List.filterMap_cons, hf]; exact List.mem_cons_of_mem _ hb)) hr⟩
  exact all X.outer (fun _ hb => hb) I.ok.funs

theorem Inv.stack (I : Inv X pins σ H s) : s.heap.FunFrames X.base X.stack := by
  rcases I.ok.stk with e | ⟨e, hf⟩
  · rw [e]; exact I.funs
  · rw [e]
    obtain ⟨m, hn, _⟩ := I.loc
    refine .cons (by rw [I.ok.kind]; decide) hf hn ?_ I.funs
    exact Heap.get?_none_of_le (Nat.le_trans I.ok.bsz I.ok.above)
theorem Inv.stkSub (I : Inv X pins σ H s) : ∀ b ∈ frs X.stack, b ∈ X.env.locals :: X.fs := fun b hb => by
  rcases I.ok.stk with e | ⟨e, hf⟩
  · rw [e] at hb; exact List.mem_cons_of_mem _ hb
  · rw [e] at hb
    unfold frs at hb
    rw [List.filterMap_cons, hf] at hb
    exact hb
theorem Inv.stkFree (I : Inv X pins σ H s) : ∀ b ∈ frs X.stack, H b = none := fun b hb => by
  rcases List.mem_cons.mp (I.stkSub b hb) with e | hb
  · rw [e]; exact I.free
  · obtain ⟨_, o, ho, _⟩ := I.ok.funs.mem hb
    exact I.base.free b o ho (I.ok.frf b hb) fun z => I.ok.exfs b z hb

theorem Inv.step {g' : Array GenState} {t' : Nat} {d' : Drawn} {ch : List Addr} (I : Inv X pins σ H s)
    (hch : ∀ b ∈ ch, (b ∈ X.ex ∨ X.s₀.heap.objs.size ≤ b) ∧ b ≠ X.env.locals ∧ (∀ x c, X.env.cells.lookup x = some c → c ≠ b) ∧ ∀ p ∈ X.pn ++ pins, p.1 ≠ b)
    (keep : ∀ b o, b ≠ X.env.locals → b ∉ X.fs → b ∉ ch → s.heap.get? b = some o → H b = none → h'.get? b = some o)
    (slot : ∀ b o, b ≠ X.env.locals → b ∈ X.fs → b ∉ ch → s.heap.get? b = some o → H b = none → ∃ sl, h'.get? b = some { o with slots := sl }) (free : ∀ b o, b ∉ ch → s.heap.get? b = some o → H b = none → H' b = none)
    (there : ∀ b o, b ∉ ch → s.heap.get? b = some o → ∃ o', h'.get? b = some o')
    (tups : ∀ b xs, H b = some (.tup xs) → H' b = some (.tup xs)) (frzs : ∀ b o u, H b = some (.frz o u) → H' b = some (.frz o u)) (tbls : ∀ b ps, H b = some (.tbl ps) → ∃ more, H' b = some (.tbl (ps ++ more)))
    (ns : ∀ m, s.heap.Ns X.env.locals m → h'.Ns X.env.locals m) (hok : HOk X.prog X.w H' h') (hg : AllBare g') :
    Inv X pins σ H' { s with heap := h', gens := g', drawn := d', toks := t' } := by
  have neL : ∀ b o, X.s₀.heap.get? b = some o → b ≠ X.env.locals := fun b o e => Nat.ne_of_lt (Nat.lt_of_lt_of_le (Heap.lt_size e) I.ok.above)
  have neC : ∀ b o, X.s₀.heap.get? b = some o → b ∉ X.ex → b ∉ ch := fun b o e hx hb => by
    rcases (hch b hb).1 with z | z
    · exact hx z
    · exact absurd (Nat.lt_of_lt_of_le (Heap.lt_size e) z) (Nat.lt_irrefl _)
  have cellK : ∀ x c, X.env.cells.lookup x = some c → ∀ v, s.heap.IsCell c v → h'.IsCell c v := fun x c e v ⟨o, ho, hd⟩ => by
    have nch : c ∉ ch := fun z => (hch c z).2.2.1 x c e rfl
    by_cases hc : c ∈ X.fs
    · obtain ⟨sl, q⟩ := slot c o (I.cne x c e) hc nch ho (I.freeC x c e)
      exact ⟨_, q, hd⟩
    · exact ⟨o, keep c o (I.cne x c e) hc nch ho (I.freeC x c e), hd⟩
  refine ⟨I.ok, I.os, hg, ⟨fun b o e n hb hx => ?_, fun b o e n hb hx => ?_, fun b o e n hx => ?_, fun b o e hx => ?_, fun b xs e => tups b xs (I.base.tups b xs e), fun b o xs e => frzs b o xs (I.base.frzs b o xs e), fun b ps e => ?_⟩, ?_, fun x c e => ?_, ?_, fun x c e => ?_, fun p hp => ?_, hok, I.len⟩
  · exact keep b o (neL b o e) hb (neC b o e hx) (I.base.keep b o e n hb hx) (I.base.free b o e n hx)
  · obtain ⟨sl, e1⟩ := I.base.slot b o e n hb hx
    obtain ⟨sl', e2⟩ := slot b _ (neL b o e) hb (neC b o e hx) e1 (I.base.free b o e n hx)
    exact ⟨sl', e2⟩
  · obtain ⟨o', e1⟩ := I.base.there b o e hx
    exact free b o' (neC b o e hx) e1 (I.base.free b o e n hx)
  · obtain ⟨o', e1⟩ := I.base.there b o e hx
    exact there b o' (neC b o e hx) e1
  · obtain ⟨m1, e1⟩ := I.base.tbls b ps e
    obtain ⟨m2, e2⟩ := tbls b _ e1
    exact ⟨m1 ++ m2, by rw [e2, Array.append_assoc]⟩
  · obtain ⟨m, hn, hl⟩ := I.loc
    refine ⟨m, ns m hn, fun i x v e1 e2 e3 => ?_⟩
    obtain ⟨u, r, l⟩ := hl i x v e1 e2 e3
    refine ⟨u, r, ?_⟩
    rcases l with l | ⟨k, c, e, z⟩
    · exact .inl l
    · exact .inr ⟨k, c, e, cellK x c e _ z⟩
  · obtain ⟨v, z⟩ := I.cell x c e
    exact ⟨v, cellK x c e v z⟩
  · obtain ⟨m, ⟨o, _, _, ho, _⟩, _⟩ := I.loc
    exact free _ o (fun z => (hch _ z).2.1 rfl) ho I.free
  · obtain ⟨v, o, ho, hd⟩ := I.cell x c e
    exact free c o (fun z => (hch c z).2.2.1 x c e rfl) ho (I.freeC x c e)
  · obtain ⟨e, n, ne, nf, d⟩ := I.pin p hp
    have nch : p.1 ∉ ch := fun z => (hch p.1 z).2.2.2 p hp rfl
    exact ⟨keep p.1 p.2 ne nf nch e n, free p.1 p.2 nch e n, ne, nf, d⟩
theorem Inv.un {t' : Nat} (I : Inv X pins σ H s) (u : Un X.fs [] H H' s.heap h') (hok : HOk X.prog X.w H' h') : Inv X pins σ H' { s with heap := h', toks := t' } := by
  obtain ⟨m, ⟨o, es, ep, ho, r⟩, _⟩ := id I.loc
  obtain ⟨sl, hL⟩ := u.any ho I.free (by simp)
  exact I.step (g' := s.gens) (d' := s.drawn) (ch := []) (fun _ z => nomatch z) (fun b o _ hb _ e n => u.keep b o e n hb (by simp)) (fun b o _ hb _ e n => u.slot b o e n hb (by simp)) (fun b o _ e n => u.free b o e n (by simp)) (fun b o _ e => u.there b o e (by simp)) u.tups u.frzs u.tbls (fun m' hm => by
    obtain ⟨o', es', ep', ho', r'⟩ := hm
    rw [ho] at ho'; cases ho'
    exact ⟨_, es', ep', hL, r'⟩) hok I.bare
theorem Inv.call {g' : Array GenState} {t' : Nat} {d' : Drawn} {ch : List Addr} (I : Inv X pins σ H s) (u : Un (frs X.stack) ch H H' s.heap h') (hok : HOk X.prog X.w H' h') (hg : AllBare g')
    (hch : ∀ b ∈ ch, (b ∈ X.ex ∨ X.s₀.heap.objs.size ≤ b) ∧ b ≠ X.env.locals ∧ (∀ x c, X.env.cells.lookup x = some c → c ≠ b) ∧ ∀ p ∈ X.pn ++ pins, p.1 ≠ b) :
    Inv X pins σ H' { s with heap := h', gens := g', drawn := d', toks := t' } := by
  obtain ⟨m, ⟨o, es, ep, ho, r⟩, _⟩ := id I.loc
  obtain ⟨sl, hL⟩ := u.any ho I.free fun z => (hch _ z).2.1 rfl
  exact I.step (ch := ch) hch (fun b o hL hb hc e n => u.keep b o e n (fun z => (List.mem_cons.mp (I.stkSub b z)).elim hL hb) hc) (fun b o _ _ hc e n => u.any e n hc) (fun b o hc e n => u.free b o e n hc) (fun b o hc e => u.there b o e hc) u.tups u.frzs u.tbls (fun m' hm => by
    obtain ⟨o', es', ep', ho', r'⟩ := hm
    rw [ho] at ho'; cases ho'
    exact ⟨_, es', ep', hL, r'⟩) hok hg
theorem Inv.turned {t' : Nat} {it : Addr} (I : Inv X pins σ H s) (k : ∀ b o, b ≠ it → s.heap.get? b = some o → h'.get? b = some o) (hn : H it = none) (hL : it ≠ X.env.locals)
    (h1 : it ∈ X.ex ∨ X.s₀.heap.objs.size ≤ it) (h2 : ∀ x c, X.env.cells.lookup x = some c → c ≠ it) (h3 : ∀ p ∈ X.pn ++ pins, p.1 ≠ it) : Inv X pins σ H { s with heap := h', toks := t' } := by
  have nit : ∀ b u, H b = some u → b ≠ it := fun b u e z => by rw [z, hn] at e; cases e
  refine I.step (g' := s.gens) (d' := s.drawn) (ch := [it]) (fun b hb => ?_) (fun b o _ _ hc e _ => k b o (fun z => hc (by simp [z])) e) (fun b o _ _ hc e _ => ⟨o.slots, k b o (fun z => hc (by simp [z])) e⟩) (fun _ _ _ _ n => n)
    (fun b o hc e => ⟨o, k b o (fun z => hc (by simp [z])) e⟩) (fun _ _ e => e) (fun _ _ _ e => e) (fun b ps e => ⟨#[], by rw [e]; simp⟩) (fun m hm => ?_) (fun b u e => ?_) I.bare
  · have e : b = it := by simpa using hb
    subst e
    exact ⟨h1, hL, h2, h3⟩
  · obtain ⟨o, es, ep, ho, r⟩ := hm
    exact ⟨o, es, ep, k _ o (Ne.symm hL) ho, r⟩
  · refine (I.hok b u e).stay (fun c v hc q => k c v ?_ q) (fun _ q => q) fun _ _ q => q
    rcases hc with z | z
    · rw [z]; exact nit b u e
    · exact nit c _ z
theorem Inv.tok (I : Inv X pins σ H s) (t : Nat) : Inv X pins σ H { s with toks := t } := I.un (h' := s.heap) (t' := t) Un.refl I.hok
theorem Inv.kept {t' : Nat} (I : Inv X pins σ H s) (k : ∀ b u, s.heap.get? b = some u → h'.get? b = some u) : Inv X pins σ H { s with heap := h', toks := t' } := I.un (Un.kept k) (I.hok.kept k)
theorem Inv.laid {a : Addr} {o : HO} {t' : Nat} (I : Inv X pins σ H s) (k : ∀ b u, s.heap.get? b = some u → h'.get? b = some u) (hp : s.heap.objs.size ≤ a) (new : ObjOk X.prog X.w (upd H a o) h' a o) :
    Inv X pins σ (upd H a o) { s with heap := h', toks := t' } := I.un (Un.laid k hp (I.hok.fresh hp)) (I.hok.laid k hp new)
theorem Inv.write {x e : Addr} {o : HO} {t' : Nat} (I : Inv X pins σ H s) (mu : Mut (H x)) (he : e = x ∨ H e = some (.own x)) (k : ∀ b u, b ≠ e → s.heap.get? b = some u → h'.get? b = some u) (heo : ∃ u, h'.get? e = some u)
    (new : ObjOk X.prog X.w (upd H x o) h' x o) : Inv X pins σ (upd H x o) { s with heap := h', toks := t' } := I.un (Un.write mu he k heo) (I.hok.write mu he k heo new)
theorem Inv.weak {σ' : List (Option V)} (I : Inv X pins σ H s) (hl : σ'.length = σ.length) (w : ∀ (i : Nat) v, σ'[i]? = some (some v) → σ[i]? = some (some v)) : Inv X pins σ' H s :=
  ⟨I.ok, I.os, I.bare, I.base, let ⟨m, hn, hl'⟩ := I.loc; ⟨m, hn, fun i x v e1 e2 e3 => hl' i x v e1 (w i v e2) e3⟩, I.cell, I.free, I.freeC, I.pin, I.hok, hl.trans I.len⟩
theorem Inv.pins_of {pins' : List (Addr × Obj)} (I : Inv X pins σ H s) (h : ∀ p ∈ pins', s.heap.get? p.1 = some p.2 ∧ H p.1 = none ∧ p.1 ≠ X.env.locals ∧ p.1 ∉ X.fs ∧ ∀ v, p.2.data ≠ .cell v) : Inv X pins' σ H s :=
  ⟨I.ok, I.os, I.bare, I.base, I.loc, I.cell, I.free, I.freeC, fun p hp => (List.mem_append.mp hp).elim (fun z => I.pin p (List.mem_append_left _ z)) (h p), I.hok, I.len⟩

theorem nodup_ix {N : List Str} (hN : N.Nodup) {i j : Nat} {x : Str} (a : N[i]? = some x) (b : N[j]? = some x) : i = j := by
  obtain ⟨h1, e1⟩ := List.getElem?_eq_some_iff.mp a
  obtain ⟨h2, e2⟩ := List.getElem?_eq_some_iff.mp b
  exact (List.getElem_inj hN).mp (e1.trans e2.symm)

theorem store_ok2 {M : Model} {A : Around} {E : Value → Shared → Prop} {i : Nat} {x : Str} {v : V} {u : Value} {Q : Unit → Shared → Prop} (I : Inv X pins σ H s) (hN : X.N.Nodup) (hi : X.N[i]? = some x) (hx : Loc X.env.scope x) (r : RelV v u)
    (h : ∀ s', Inv X pins (σ.set i (some v)) H s' → (∃ a, Heap.SameBut a s.heap s'.heap ∧ (a = X.env.locals ∨ X.env.cells.lookup x = some a)) → Q () s') (hf : X.fn x = true ∨ X.env.scope.names.lookup x = some .local := by first | exact .inl rfl | exact .inr rfl | assumption) : wpAny M A (storeName X.env x u) Q E s := by
  obtain ⟨m, hn, hl⟩ := id I.loc
  have hcls : (X.env.scope.kind == .class || (X.env.scope.kind == .module && X.env.locals != X.env.globals)) = false := by rw [I.ok.kind]; rfl
  have hiσ : i < σ.length := by rw [I.len]; exact (List.getElem?_eq_some_iff.mp hi).1
  have cne := I.cne
  have tracked : ∀ {a : Addr} {h' : Heap}, (∃ o, s.heap.get? a = some o ∧ H a = none) → Heap.SameBut a s.heap h' → HOk X.prog X.w H h' := fun {a h'} ha hs b ob e => by
    obtain ⟨_, _, hfree⟩ := ha
    refine (I.hok b ob e).stay (fun c w' hc q => (hs.2 c ?_).trans q) (fun _ q => q) fun _ _ q => q
    rintro rfl
    rcases hc with rfl | hc
    · rw [hfree] at e; cases e
    · rw [hfree] at hc; cases hc
  rcases hx with hk | hk
  · refine wpAny_storeName_local hk hn (fun h' hn' hs => ?_) hcls
    obtain ⟨oL, _, _, hoL, _⟩ := id hn
    refine h _ ⟨I.ok, I.os, I.bare, ⟨fun b o e n hb hx => ?_, fun b o e n hb hx => ?_, I.base.free, fun b o e hx => ?_, I.base.tups, I.base.frzs, I.base.tbls⟩, ⟨_, hn', fun j y v' e1 e2 e3 => ?_⟩, fun y c e => ?_, I.free, I.freeC, fun p hp => ?_, tracked ⟨oL, hoL, I.free⟩ hs, by simpa using I.len⟩ ⟨_, hs, .inl rfl⟩
    · exact (hs.2 b (Nat.ne_of_lt (Nat.lt_of_lt_of_le (Heap.lt_size e) I.ok.above))).trans (I.base.keep b o e n hb hx)
    · obtain ⟨sl, e1⟩ := I.base.slot b o e n hb hx
      exact ⟨sl, (hs.2 b (Nat.ne_of_lt (Nat.lt_of_lt_of_le (Heap.lt_size e) I.ok.above))).trans e1⟩
    · obtain ⟨o', e1⟩ := I.base.there b o e hx
      exact ⟨o', (hs.2 b (Nat.ne_of_lt (Nat.lt_of_lt_of_le (Heap.lt_size e) I.ok.above))).trans e1⟩
    · by_cases hj : j = i
      · subst hj
        rw [hi] at e1; cases e1
        rw [List.getElem?_set_self hiσ] at e2
        cases e2
        exact ⟨u, r, .inl ⟨hk, by simp⟩⟩
      · rw [List.getElem?_set_ne (Ne.symm hj)] at e2
        obtain ⟨u', r', q⟩ := hl j y v' e1 e2 e3
        refine ⟨u', r', ?_⟩
        rcases q with ⟨k, e⟩ | ⟨k, c, e, z⟩
        · refine .inl ⟨k, ?_⟩
          have : y ≠ x := fun e => hj (nodup_ix hN e1 (e ▸ hi))
          simp [this, e]
        · exact .inr ⟨k, c, e, z.sameBut hs (cne y c e)⟩
    · obtain ⟨w', z⟩ := I.cell y c e
      exact ⟨w', z.sameBut hs (cne y c e)⟩
    · obtain ⟨e, n, ne, nf, d⟩ := I.pin p hp
      exact ⟨(hs.2 p.1 ne).trans e, n, ne, nf, d⟩
  · have hfn : X.fn x = true := by
      rcases hf with z | z
      · exact z
      · rw [z] at hk; cases hk
    obtain ⟨c, hc⟩ := I.ok.has x (.inl hk)
    obtain ⟨w', z⟩ := I.cell x c hc
    refine wpAny_storeName_cell I.ok.kind hk hc z (fun h' hc' hs => ?_)
    obtain ⟨oc, hoc, hocd⟩ := id z
    refine h { s with heap := h' } ⟨I.ok, I.os, I.bare, ⟨fun b o e n hb hx => ?_, fun b o e n hb hx => ?_, I.base.free, fun b o e hx => ?_, I.base.tups, I.base.frzs, I.base.tbls⟩, ⟨m, hn.sameBut hs (Ne.symm (cne x c hc)), fun j y v' e1 e2 e3 => ?_⟩, fun y c' e => ?_, I.free, I.freeC, fun p hp => ?_, tracked ⟨oc, hoc, I.freeC x c hc⟩ hs, by simpa using I.len⟩ ⟨c, hs, .inr hc⟩
    · exact (hs.2 b (Nat.ne_of_lt (Nat.lt_of_lt_of_le (Heap.lt_size e) (I.ok.cab x c hfn hc)))).trans (I.base.keep b o e n hb hx)
    · obtain ⟨sl, e1⟩ := I.base.slot b o e n hb hx
      exact ⟨sl, (hs.2 b (Nat.ne_of_lt (Nat.lt_of_lt_of_le (Heap.lt_size e) (I.ok.cab x c hfn hc)))).trans e1⟩
    · obtain ⟨o', e1⟩ := I.base.there b o e hx
      exact ⟨o', (hs.2 b (Nat.ne_of_lt (Nat.lt_of_lt_of_le (Heap.lt_size e) (I.ok.cab x c hfn hc)))).trans e1⟩
    · by_cases hj : j = i
      · subst hj
        rw [hi] at e1; cases e1
        rw [List.getElem?_set_self hiσ] at e2
        cases e2
        exact ⟨u, r, .inr ⟨.inl hk, c, hc, hc'⟩⟩
      · rw [List.getElem?_set_ne (Ne.symm hj)] at e2
        obtain ⟨u', r', q⟩ := hl j y v' e1 e2 e3
        refine ⟨u', r', ?_⟩
        rcases q with q | ⟨k, c', e, z'⟩
        · exact .inl q
        · refine .inr ⟨k, c', e, z'.sameBut hs ?_⟩
          rintro rfl
          exact hj (nodup_ix hN e1 (I.ok.inj _ _ _ e hc ▸ hi))
    · by_cases hcc : c' = c
      · subst hcc; exact ⟨_, hc'⟩
      · obtain ⟨w2, z2⟩ := I.cell y c' e
        exact ⟨w2, z2.sameBut hs hcc⟩
    · obtain ⟨e, n, ne, nf, d⟩ := I.pin p hp
      refine ⟨(hs.2 p.1 ?_).trans e, n, ne, nf, d⟩
      intro q
      rw [q, hoc] at e
      have q' : oc = p.2 := Option.some.inj e
      exact d w' (by rw [← q']; exact hocd)
theorem store_ok {M : Model} {A : Around} {E : Value → Shared → Prop} {i : Nat} {x : Str} {v : V} {u : Value} {Q : Unit → Shared → Prop} (I : Inv X pins σ H s) (hN : X.N.Nodup) (hi : X.N[i]? = some x) (hx : Loc X.env.scope x) (r : RelV v u)
    (h : ∀ s', Inv X pins (σ.set i (some v)) H s' → Q () s') (hf : X.fn x = true ∨ X.env.scope.names.lookup x = some .local := by first | exact .inl rfl | exact .inr rfl | assumption) : wpAny M A (storeName X.env x u) Q E s :=
  store_ok2 I hN hi hx r (fun s' I' _ => h s' I') hf
theorem Inv.call' {s' : Shared} {ch : List Addr} (I : Inv X pins σ H s) (ho : s'.os = s.os) (u : Un (frs X.stack) ch H H' s.heap s'.heap) (hok : HOk X.prog X.w H' s'.heap) (hg : AllBare s'.gens)
    (hch : ∀ b ∈ ch, (b ∈ X.ex ∨ X.s₀.heap.objs.size ≤ b) ∧ b ≠ X.env.locals ∧ (∀ x c, X.env.cells.lookup x = some c → c ≠ b) ∧ ∀ p ∈ X.pn ++ pins, p.1 ≠ b) : Inv X pins σ H' s' := by
  obtain ⟨h', g', d', t', o'⟩ := s'
  have e : o' = s.os := ho
  subst e
  exact I.call (g' := g') (t' := t') (d' := d') u hok hg hch
end

noncomputable abbrev XK := Value → Option Addr → Hp → Prop
noncomputable abbrev St := List (Option V)
noncomputable abbrev VK := V → Hp → Prop
noncomputable abbrev TE := St → Hp → VK → Prop
noncomputable abbrev TT := St → Hp → (Bool → Hp → Prop) → Prop
noncomputable abbrev TA := St → Hp → (List V → Hp → Prop) → Prop
structure Ends where
  nx : St → Hp → Prop
  rt : VK
  bk : St → Hp → Prop := fun _ _ => False
  ct : St → Hp → Prop := fun _ _ => False
noncomputable abbrev TS := Ends → St → Hp → Prop

noncomputable def EP (X : Cx) (pins : List (Addr × Obj)) (σ : St) (Q : VK) (u : Value) (s' : Shared) : Prop := ∃ v H', Inv X pins σ H' s' ∧ RelV v u ∧ Q v H'
noncomputable def TP (X : Cx) (pins : List (Addr × Obj)) (σ : St) (Q : Bool → Hp → Prop) (b : Bool) (s' : Shared) : Prop := ∃ H', Inv X pins σ H' s' ∧ Q b H'
noncomputable def AP (X : Cx) (pins : List (Addr × Obj)) (σ : St) (Q : List V → Hp → Prop) (us : List Value) (s' : Shared) : Prop := ∃ vs H', Inv X pins σ H' s' ∧ Vals vs us ∧ Q vs H'
noncomputable def SP (X : Cx) (pins : List (Addr × Obj)) (D : Ends) (f : Flow) (s' : Shared) : Prop :=
  match f with
  | .next => ∃ σ' H', Inv X pins σ' H' s' ∧ D.nx σ' H'
  | .brk => ∃ σ' H', Inv X pins σ' H' s' ∧ D.bk σ' H'
  | .cont => ∃ σ' H', Inv X pins σ' H' s' ∧ D.ct σ' H'
  | .ret u => ∃ v σ' H', Inv X pins σ' H' s' ∧ RelV v u ∧ D.rt v H'

noncomputable def PE (X : Cx) (e : Expr) (t : TE) : Prop :=
  ∀ (pins : List (Addr × Obj)) (s : Shared) (σ : St) (H : Hp) (Q : VK), Inv X pins σ H s → t σ H Q → wpAny (model X.prog X.w) X.A (eval e X.env) (EP X pins σ Q) X.xe s
noncomputable def PT (X : Cx) (e : Expr) (t : TT) : Prop :=
  ∀ (pins : List (Addr × Obj)) (s : Shared) (σ : St) (H : Hp) (Q : Bool → Hp → Prop), Inv X pins σ H s → t σ H Q → wpAny (model X.prog X.w) X.A (isTrue e X.env (eval e X.env)) (TP X pins σ Q) X.xe s
noncomputable def PW (X : Cx) (e : Expr) (t : TT) : Prop :=
  ∀ (whole : Sem Value) (pins : List (Addr × Obj)) (s : Shared) (σ : St) (H : Hp) (Q : Bool → Hp → Prop), Inv X pins σ H s → t σ H Q → wpAny (model X.prog X.w) X.A (isTrue e X.env whole) (TP X pins σ Q) X.xe s
theorem PW.pt {X : Cx} {e : Expr} {t : TT} (h : PW X e t) : PT X e t := h _
noncomputable def PA (X : Cx) (es : List Expr) (t : TA) : Prop :=
  ∀ (pos : Pos) (pins : List (Addr × Obj)) (s : Shared) (σ : St) (H : Hp) (Q : List V → Hp → Prop), Inv X pins σ H s → t σ H Q → wpAny (model X.prog X.w) X.A (spliced (backTo pos (starEach es X.env))) (AP X pins σ Q) X.xe s
noncomputable def PS (X : Cx) (st : Stmt) (t : TS) : Prop :=
  ∀ (pins : List (Addr × Obj)) (s : Shared) (σ : St) (H : Hp) (D : Ends), Inv X pins σ H s → t D σ H → wpAny (model X.prog X.w) X.A (exec st X.env) (SP X pins D) X.xe s
noncomputable def PSs (X : Cx) (st : List Stmt) (t : TS) : Prop :=
  ∀ (pins : List (Addr × Obj)) (s : Shared) (σ : St) (H : Hp) (D : Ends), Inv X pins σ H s → t D σ H → wpAny (model X.prog X.w) X.A (execs st X.env) (SP X pins D) X.xe s
theorem thn {α : Type} {t : Sem α} {Q Q' : α → Shared → Prop} {M : Model} {A : Around} {E : Value → Shared → Prop} {s : Shared} (h : wpAny M A t Q E s) (hQ : ∀ a s, Q a s → Q' a s) : wpAny M A t Q' E s := wpAny_mono h hQ fun _ _ x => x
end L2

namespace L2
open PySem PySem.Spec PyProof.Rows
section
variable {X : Cx}

noncomputable def tVar (i : Nat) : TE := fun σ H Q => ∃ v, σ[i]? = some (some v) ∧ Q v H
noncomputable def tC (v : V) : TE := fun _ H Q => Q v H
theorem pe_var {i : Nat} {x : Str} {pos : Pos} (hN : X.N[i]? = some x) (hv : Vis X.env.scope x) (hd : (x == ("__debug__" : Str)) = false := by decide) (hcd : (x == ("__classdict__" : Str)) = false := by decide) : PE X (.Name x pos) (tVar i) := by
  intro pins s σ H Q I h
  obtain ⟨v, e, h⟩ := h
  obtain ⟨m, hn, hl⟩ := I.loc
  obtain ⟨u, r, l⟩ := hl i x v hN e hv
  have fin : EP X pins σ Q u s := ⟨v, H, I, r, h⟩
  rcases l with ⟨hk, hm⟩ | ⟨hk, c, hc, hcell⟩
  · exact wpAny_Name (wpAny_loadName_local I.ok.kind hk hn hm fin) hd
  · rcases hk with hk | hk
    · exact wpAny_Name (wpAny_loadName_cell I.ok.kind hk hc hcell fin) hd
    · exact wpAny_Name (wpAny_loadName_free I.ok.kind hk hc hcell fin hcd) hd
theorem pe_int {i j pos} : PE X (.Constant (.int i) j pos) (tC (.int i)) := fun _ _ _ H _ I h => wpAny_Constant_int ⟨.int i, H, I.tok _, ⟨_, rfl⟩, h⟩
theorem pe_bl {b j pos} : PE X (.Constant (.bool b) j pos) (tC (.bl b)) := fun _ _ _ H _ I h => Constant_bool ⟨.bl b, H, I, rfl, h⟩
theorem pe_non {j pos} : PE X (.Constant .none j pos) (tC .non) := fun _ _ _ H _ I h => Constant_none ⟨.non, H, I, rfl, h⟩
theorem pe_str {x j pos} : PE X (.Constant (.str x) j pos) (tC (.str x)) := fun _ _ _ H _ I h => Calls.Constant_str ⟨.str x, H, I.tok _, ⟨_, rfl⟩, h⟩

noncomputable def Gl (X : Cx) (x : Str) : Prop := X.env.kindOf x = some .globalImplicit
theorem ld_glob {E : Value → Shared → Prop} {pins : List (Addr × Obj)} {s : Shared} {σ : St} {H : Hp} {x : Str} {u : Value} {pos : Pos} {Q : Value → Shared → Prop} (I : Inv X pins σ H s) (hg : Gl X x) (hm : X.mg x = some u) (h : Q u s)
    (hd : (x == ("__debug__" : Str)) = false := by decide) : wpAny (model X.prog X.w) X.A (eval (.Name x pos) X.env) Q E s :=
  Calls.Name_function_global I.ok.kind hg (Calls.loadGlobal_global (by rw [I.ok.glob]; exact I.mod.glob.keeps I.bk) hm h) hd
theorem ld_blt {E : Value → Shared → Prop} {pins : List (Addr × Obj)} {s : Shared} {σ : St} {H : Hp} {x : Str} {u : Value} {pos : Pos} {Q : Value → Shared → Prop} (I : Inv X pins σ H s) (hg : Gl X x) (hm : X.mg x = none) (hv : bootBuiltins x = some u) (h : Q u s)
    (hn : x ≠ "__name__" := by decide) (hd : (x == ("__debug__" : Str)) = false := by decide) : wpAny (model X.prog X.w) X.A (eval (.Name x pos) X.env) Q E s := by
  obtain ⟨mb, h1, h2⟩ := I.mod.blt
  exact Calls.Name_function_global I.ok.kind hg (Calls.loadGlobal_builtin (by rw [I.ok.glob]; exact I.mod.glob.keeps I.bk) hm (by rw [I.ok.blt]; exact h1.keeps I.bk) ((h2 x hn).trans hv) h) hd
theorem pe_bltn {x : Str} {v : V} {u : Value} {pos : Pos} (hg : Gl X x) (hm : X.mg x = none) (hv : bootBuiltins x = some u) (r : RelV v u) (hn : x ≠ "__name__" := by decide) (hd : (x == ("__debug__" : Str)) = false := by decide) : PE X (.Name x pos) (tC v) :=
  fun _ _ _ H _ I h => ld_blt I hg hm hv ⟨v, H, I, r, h⟩ hn hd

variable {a b : Expr} {ta tb : TE} {pos : Pos}
noncomputable def tB (t : TE) : TT := fun σ H Q => t σ H fun x H1 => ∃ c, x = .bl c ∧ Q c H1
theorem pt_val {e : Expr} {t : TE} (h : PE X e t) (he : ∀ whole, isTrue e X.env whole = (do let v ← whole; standAt e.pos; holding [v] (truthy v)) := by intro _; rfl) : PT X e (tB t) := by
  intro pins s σ H Q I hw
  refine isTrue_plain (thn (h pins s σ H _ I hw) fun v s1 ⟨x, H1, I1, r1, q1⟩ => ?_) (he _)
  obtain ⟨d, rfl, q⟩ := q1
  cases r1
  exact wpAny_truthy_bool ⟨H1, I1, q⟩

variable {tA tB' : TT} {rest : List Expr}
noncomputable def tAnd (t u : TT) : TT := fun σ H Q => t σ H fun c H1 => if c = true then u σ H1 Q else Q false H1
noncomputable def tOr (t u : TT) : TT := fun σ H Q => t σ H fun c H1 => if c = true then Q true H1 else u σ H1 Q
noncomputable def tNot (t : TT) : TT := fun σ H Q => t σ H fun c H1 => Q (!c) H1
theorem pw_and1 (ha : PT X a tA) : PW X (.BoolOp .And [a] pos) tA := by
  intro wh pins s σ H Q I h
  refine isTrue_and (thn (ha pins s σ H Q I h) fun c s1 e => ?_)
  cases c with
  | true => exact isTrue_and_nil e
  | false => exact e
theorem pw_or1 (ha : PT X a tA) : PW X (.BoolOp .Or [a] pos) tA := by
  intro wh pins s σ H Q I h
  refine isTrue_or (thn (ha pins s σ H Q I h) fun c s1 e => ?_)
  cases c with
  | false => exact isTrue_or_nil e
  | true => exact e
theorem pw_and (ha : PT X a tA) (hb : PW X (.BoolOp .And (b :: rest) pos) tB') : PW X (.BoolOp .And (a :: b :: rest) pos) (tAnd tA tB') := by
  intro wh pins s σ H Q I h
  refine isTrue_and (thn (ha pins s σ H _ I h) fun c s1 ⟨H1, I1, q1⟩ => ?_)
  cases c with
  | true => exact hb wh pins s1 σ H1 Q I1 q1
  | false => exact ⟨H1, I1, q1⟩
theorem pw_or (ha : PT X a tA) (hb : PW X (.BoolOp .Or (b :: rest) pos) tB') : PW X (.BoolOp .Or (a :: b :: rest) pos) (tOr tA tB') := by
  intro wh pins s σ H Q I h
  refine isTrue_or (thn (ha pins s σ H _ I h) fun c s1 ⟨H1, I1, q1⟩ => ?_)
  cases c with
  | true => exact ⟨H1, I1, q1⟩
  | false => exact hb wh pins s1 σ H1 Q I1 q1
theorem pt_not (ha : PT X a tA) : PT X (.UnaryOp .Not a pos) (tNot tA) := by
  intro pins s σ H Q I h
  exact isTrue_not (ha pins s σ H (fun c H1 => Q (!c) H1) I h)
noncomputable def tAndV (ta tb : TE) : TE := fun σ H Q => ta σ H fun x H1 => ∃ c, x = .bl c ∧ if c = true then tb σ H1 Q else Q (.bl false) H1
noncomputable def tNotV (ta : TE) : TE := fun σ H Q => ta σ H fun x H1 => ∃ c, x = .bl c ∧ Q (.bl (!c)) H1
theorem pe_one {op} {t : TE} (h : PE X a t) : PE X (.BoolOp op [a] pos) t := fun pins s σ H Q I hw => BoolOp_one (h pins s σ H Q I hw)
theorem pe_and (ha : PE X a ta) (hb : PE X (.BoolOp .And (b :: rest) pos) tb) : PE X (.BoolOp .And (a :: b :: rest) pos) (tAndV ta tb) := by
  intro pins s σ H Q I h
  refine BoolOp_and (thn (ha pins s σ H _ I h) fun v s1 ⟨x, H1, I1, r1, q1⟩ => ?_)
  obtain ⟨c, rfl, q1⟩ := q1
  cases r1
  refine wpAny_truthy_bool ?_
  cases c with
  | true => exact hb pins s1 σ H1 Q I1 q1
  | false => exact ⟨.bl false, H1, I1, rfl, q1⟩
theorem pe_not (ha : PE X a ta) : PE X (.UnaryOp .Not a pos) (tNotV ta) := by
  intro pins s σ H Q I h
  refine UnaryOp_ (thn (ha pins s σ H _ I h) fun v s1 ⟨x, H1, I1, r1, q1⟩ => ?_)
  obtain ⟨c, rfl, q1⟩ := q1
  cases r1
  exact not_of (wpAny_truthy_bool ⟨.bl (!c), H1, I1, rfl, q1⟩)
end
end L2

namespace L2
open PySem PySem.Spec PyProof.Rows

noncomputable def SqL (K : PySem.W.Frag) (H : Hp) (a : Addr) (xs : List V) : Prop :=
  Rd H a (.lst xs) ∨
    ∃ (o : Obj) (its : Array Value) (n : Nat), K.lookup a = some o ∧ o.cls = .type "list" ∧ o.dict = none ∧ o.data = .seq its n ∧ its.size ≤ sizeLine ∧ Vals xs its.toList
noncomputable def SqT (K : PySem.W.Frag) (H : Hp) (a : Addr) (xs : List V) : Prop :=
  Rd H a (.tup xs) ∨
    ∃ (o : Obj) (its : Array Value) (n : Nat), K.lookup a = some o ∧ o.cls = .type "tuple" ∧ o.data = .seq its n ∧ its.size ≤ sizeLine ∧ Vals xs its.toList
noncomputable def absV : Value → Option V
  | .none => some .non
  | .bool b => some (.bl b)
  | .int i _ => some (.int i)
  | .str x _ => some (.str x)
  | .bytes b _ => some (.byt b)
  | .float b _ => some (.flt b)
  | .ref a => some (.ref a)
  | .type n => some (.ty n)
  | _ => none
theorem RelV.abs {x : V} {u : Value} (r : RelV x u) : absV u = some x := by
  cases x with
  | non => cases r; rfl
  | bl _ => cases r; rfl
  | int _ => obtain ⟨t, rfl⟩ := r; rfl
  | str _ => obtain ⟨t, rfl⟩ := r; rfl
  | byt _ => obtain ⟨t, rfl⟩ := r; rfl
  | flt _ => obtain ⟨t, rfl⟩ := r; rfl
  | ref _ => cases r; rfl
  | ty _ => cases r; rfl
theorem RelV.inj {x y : V} {u : Value} (r : RelV x u) (q : RelV y u) : x = y := Option.some.inj (r.abs.symm.trans q.abs)
theorem Vals.inj : ∀ {xs ys : List V} {us : List Value}, Vals xs us → Vals ys us → xs = ys := by
  intro xs
  induction xs with
  | nil =>
    intro ys us h k
    cases h
    cases k
    rfl
  | cons x xs ih =>
    intro ys us h k
    cases h with
    | cons r t =>
      cases k with
      | cons r' t' => rw [r.inj r', ih t t']
section
variable {X : Cx} {pins : List (Addr × Obj)} {σ : St} {H : Hp} {s : Shared} {a : Addr} {xs ys : List V}
theorem SqL.of {K : PySem.W.Frag} (h : H a = some (.lst xs)) : SqL K H a xs := .inl (.inl h)
theorem SqT.of {K : PySem.W.Frag} (h : H a = some (.tup xs)) : SqT K H a xs := .inl (.inl h)
theorem Inv.list (I : Inv X pins σ H s) (h : SqL X.K H a xs) : ∃ its : List Value, Vals xs its ∧ PlainL s.heap a its.toArray ∧ xs.length ≤ sizeLine := by
  rcases h with h | ⟨o, its, n, hk, hc, hd, hs, hz, r⟩
  · obtain ⟨z, its, n, r, e⟩ := h.ok I.hok
    exact ⟨its, r, ⟨_, n, e, rfl, rfl, rfl⟩, z⟩
  · refine ⟨its.toList, r, ⟨o, n, I.kIn a o hk, hc, hd, by simpa using hs⟩, ?_⟩
    have e := r.length
    simp only [Array.length_toList] at e
    omega
theorem Inv.tuple (I : Inv X pins σ H s) (h : SqT X.K H a xs) : ∃ its : List Value, Vals xs its ∧ IsTup s.heap a its.toArray ∧ xs.length ≤ sizeLine := by
  rcases h with h | ⟨o, its, n, hk, hc, hs, hz, r⟩
  · obtain ⟨z, its, r, p⟩ := h.ok I.hok
    exact ⟨its, r, p.tup, z⟩
  · refine ⟨its.toList, r, ⟨o, I.kIn a o hk, hc, n, by simpa using hs⟩, ?_⟩
    have e := r.length
    simp only [Array.length_toList] at e
    omega
theorem Inv.list_inj (I : Inv X pins σ H s) (h : SqL X.K H a xs) (h' : SqL X.K H a ys) : xs = ys := by
  obtain ⟨its, r, ⟨o, n, e, _, _, d⟩, _⟩ := I.list h
  obtain ⟨its', r', ⟨o', n', e', _, _, d'⟩, _⟩ := I.list h'
  rw [e] at e'; cases e'
  rw [d] at d'
  injection d' with d1 _
  have : its = its' := by simpa using congrArg Array.toList d1
  subst this
  exact r.inj r'
theorem Inv.tuple_inj (I : Inv X pins σ H s) (h : SqT X.K H a xs) (h' : SqT X.K H a ys) : xs = ys := by
  obtain ⟨its, r, ⟨o, e, _, n, d⟩, _⟩ := I.tuple h
  obtain ⟨its', r', ⟨o', e', _, n', d'⟩, _⟩ := I.tuple h'
  rw [e] at e'; cases e'
  rw [d] at d'
  injection d' with d1 _
  have : its = its' := by simpa using congrArg Array.toList d1
  subst this
  exact r.inj r'
end

noncomputable abbrev Cx.wish (X : Cx) (E : Value → Shared → Prop) : Cx := { X with xe := E }
noncomputable abbrev Cx.nox (X : Cx) : Cx := X.wish fun _ _ => False
theorem Cx.Ok.wish {X : Cx} (ok : X.Ok) (E : Value → Shared → Prop) : (X.wish E).Ok :=
  ⟨ok.mod, ok.kind, ok.glob, ok.blt, ok.above, ok.inj, ok.has, ok.cab, ok.hd, ok.frames, ok.stk, ok.exf, ok.bs, ok.bsz, ok.noex, ok.exfs, ok.funs, ok.frf⟩
theorem Cx.Ok.unwish {X : Cx} {E : Value → Shared → Prop} (ok : (X.wish E).Ok) : X.Ok :=
  ⟨ok.mod, ok.kind, ok.glob, ok.blt, ok.above, ok.inj, ok.has, ok.cab, ok.hd, ok.frames, ok.stk, ok.exf, ok.bs, ok.bsz, ok.noex, ok.exfs, ok.funs, ok.frf⟩
section
variable {X : Cx} {pins : List (Addr × Obj)} {σ : St} {H : Hp} {s : Shared} {E : Value → Shared → Prop}
theorem Inv.wish (I : Inv X pins σ H s) (E : Value → Shared → Prop) : Inv (X.wish E) pins σ H s := ⟨I.ok.wish E, I.os, I.bare, I.base, I.loc, I.cell, I.free, I.freeC, I.pin, I.hok, I.len⟩
theorem Inv.unwish (I : Inv (X.wish E) pins σ H s) : Inv X pins σ H s := ⟨I.ok.unwish, I.os, I.bare, I.base, I.loc, I.cell, I.free, I.freeC, I.pin, I.hok, I.len⟩
theorem SP.unwish {D : Ends} {f : Flow} {s' : Shared} (h : SP (X.wish E) pins D f s') : SP X pins D f s' := by
  cases f with
  | next => obtain ⟨σ', H', I, q⟩ := h; exact ⟨σ', H', I.unwish, q⟩
  | brk => obtain ⟨σ', H', I, q⟩ := h; exact ⟨σ', H', I.unwish, q⟩
  | cont => obtain ⟨σ', H', I, q⟩ := h; exact ⟨σ', H', I.unwish, q⟩
  | ret u => obtain ⟨v, σ', H', I, r, q⟩ := h; exact ⟨v, σ', H', I.unwish, r, q⟩
theorem PSs.nox {st : List Stmt} {t : TS} (h : PSs X.nox st t) : PSs X st t := fun pins s σ H D I hw =>
  wpAny_mono (h pins s σ H D (I.wish _) hw) (fun _ _ q => q.unwish) fun _ _ z => False.elim z
end

section
variable {X : Cx} {st : Stmt} {rest : List Stmt} {t u : TS} {e : Expr} {te : TE} {pos : Pos}
noncomputable def tNext : TS := fun D σ H => D.nx σ H
noncomputable def tSeq (t u : TS) : TS := fun D σ H => t { D with nx := u D } σ H
theorem pss_nil : PSs X [] tNext := fun _ _ σ H _ I h => wpAny_execs_nil ⟨σ, H, I, h⟩
theorem pss_cons (h1 : PS X st t) (h2 : PSs X rest u) : PSs X (st :: rest) (tSeq t u) := by
  intro pins s σ H D I h
  refine wpAny_execs_cons (thn (h1 pins s σ H { D with nx := u D } I h) fun f s1 q => ?_)
  cases f with
  | next =>
    obtain ⟨σ', H', I', q⟩ := q
    exact h2 pins s1 σ' H' D I' q
  | ret v => exact q
  | brk => exact q
  | cont => exact q
theorem pss_one (h1 : PS X st t) : PSs X [st] t := by
  intro pins s σ H D I h
  refine wpAny_execs_cons (thn (h1 pins s σ H D I h) fun f s1 q => ?_)
  cases f with
  | next => exact wpAny_execs_nil q
  | ret v => exact q
  | brk => exact q
  | cont => exact q
theorem Inv.quiet {pins : List (Addr × Obj)} {σ : St} {H : Hp} {s : Shared} (I : Inv X pins σ H s) : interactive X.env = false := by simp [interactive, I.ok.kind]
noncomputable def tDrop (te : TE) : TS := fun D σ H => te σ H fun _ H1 => D.nx σ H1
theorem ps_expr (he : PE X e te) (hs : swapsWith e none pos.line X.env = pure false := by rfl) : PS X (.Expr e pos) (tDrop te) := by
  intro pins s σ H D I h
  exact wpAny_Expr_any (thn (he pins s σ H _ I h) fun v s1 ⟨x, H1, I1, r1, q1⟩ => ⟨σ, H1, I1, q1⟩) I.quiet hs
noncomputable def tRet (te : TE) : TS := fun D σ H => te σ H D.rt
theorem ps_ret (he : PE X e te) : PS X (.Return (some e) pos) (tRet te) := by
  intro pins s σ H D I h
  exact wpAny_Return_some (thn (he pins s σ H _ I h) fun v s1 ⟨x, H1, I1, r1, q1⟩ => ⟨x, σ, H1, I1, r1, q1⟩)
noncomputable def tIfS (c : TT) (t u : TS) : TS := fun D σ H => c σ H fun b H1 => if b = true then t D σ H1 else u D σ H1
theorem ps_if {c : Expr} {a b : List Stmt} {tc : TT} (hc : PT X c tc) (ha : PSs X a t) (hb : PSs X b u) : PS X (.If c a b pos) (tIfS tc t u) := by
  intro pins s σ H D I h
  refine wpAny_If (thn (hc pins s σ H _ I h) fun d s1 ⟨H1, I1, q1⟩ => ?_)
  cases d with
  | true => exact ha pins s1 σ H1 D I1 q1
  | false => exact hb pins s1 σ H1 D I1 q1
end

noncomputable abbrev TG := V → St → Hp → (St → Hp → Prop) → Prop
noncomputable abbrev TGs := List V → St → Hp → (St → Hp → Prop) → Prop
noncomputable def PG (X : Cx) (target : Expr) (t : TG) : Prop :=
  ∀ (pins : List (Addr × Obj)) (s : Shared) (σ : St) (H : Hp) (v : V) (u : Value) (Q : St → Hp → Prop), Inv X pins σ H s → RelV v u → t v σ H Q →
    wpAny (model X.prog X.w) X.A (assign target X.env u) (fun _ s' => ∃ σ' H', Inv X pins σ' H' s' ∧ Q σ' H') X.xe s
noncomputable def PGs (X : Cx) (ts : List Expr) (t : TGs) : Prop :=
  ∀ (pins : List (Addr × Obj)) (s : Shared) (σ : St) (H : Hp) (vs : List V) (us : List Value) (Q : St → Hp → Prop), Inv X pins σ H s → Vals vs us → t vs σ H Q →
    wpAny (model X.prog X.w) X.A (assignInOrder ((assignEach ts X.env).map (·.2)) us) (fun _ s' => ∃ σ' H', Inv X pins σ' H' s' ∧ Q σ' H') X.xe s
noncomputable abbrev TIp := V → V → Hp → VK → Prop
noncomputable def PIp (X : Cx) (op : Operator) (t : TIp) : Prop :=
  ∀ (pins : List (Addr × Obj)) (s : Shared) (σ : St) (H : Hp) (x y : V) (v u : Value) (Q : VK), Inv X pins σ H s → RelV x v → RelV y u → t x y H Q →
    wpAny (model X.prog X.w) X.A (inplaceOp op v u) (EP X pins σ Q) X.xe s
section
variable {X : Cx} {pos : Pos}
noncomputable def gName (i : Nat) : TG := fun v σ H Q => Q (σ.set i (some v)) H
theorem pg_name {i : Nat} {x : Str} (hN : X.N.Nodup) (hi : X.N[i]? = some x) (hx : Loc X.env.scope x) (hf : X.fn x = true ∨ X.env.scope.names.lookup x = some .local := by first | exact .inl rfl | exact .inr rfl | assumption) : PG X (.Name x pos) (gName i) := by
  intro pins s σ H v u Q I r h
  exact wpAny_assign_Name (store_ok I hN hi hx r (fun s' I' => ⟨_, H, I', h⟩) hf)
noncomputable def gNil : TGs := fun vs σ H Q => vs = [] ∧ Q σ H
noncomputable def gCons (t : TG) (u : TGs) : TGs := fun vs σ H Q => ∃ v r, vs = v :: r ∧ t v σ H fun σ' H' => u r σ' H' Q
theorem pgs_nil : PGs X [] gNil := by
  intro pins s σ H vs us Q I r h
  obtain ⟨e, h⟩ := h
  subst e
  cases r
  exact assignInOrder_nil ⟨σ, H, I, h⟩
theorem pgs_cons {e : Expr} {es : List Expr} {t : TG} {u : TGs} (h1 : PG X e t) (h2 : PGs X es u)
    (hs : (assignEach (e :: es) X.env).map (·.2) = assign e X.env :: (assignEach es X.env).map (·.2) := by rfl) : PGs X (e :: es) (gCons t u) := by
  intro pins s σ H vs us Q I r h
  obtain ⟨v, vr, e1, h⟩ := h
  subst e1
  cases r with
  | cons r rr =>
    rw [hs]
    refine assignInOrder_cons (thn (h1 pins s σ H _ _ _ I r h) fun _ s1 ⟨σ1, H1, I1, q1⟩ => ?_)
    exact h2 pins s1 σ1 H1 _ _ Q I1 rr q1
noncomputable def gTup (K : PySem.W.Frag) (n : Nat) (t : TGs) : TG := fun v σ H Q => ∃ a xs, v = .ref a ∧ SqT K H a xs ∧ xs.length = n ∧ t xs σ H Q
theorem pg_tup {es : List Expr} {k : Nat} {t : TGs} {n : Nat} (hc : X.calm = true) (h : PGs X es t)
    (hn : (assignEach es X.env).length = n := by rfl) (hst : (assignEach es X.env).findIdx? (·.1) = none := by rfl) : PG X (.Tuple es k pos) (gTup X.K n t) := by
  intro pins s σ H v u Q I r hw
  obtain ⟨a, xs, e1, hq, hl, hw⟩ := hw
  subst e1
  cases r
  obtain ⟨its, rv, ht, hz⟩ := I.tuple hq
  refine assign_Tuple_tuple (I.ok.hd hc) ht (by simp [hn, ← hl, rv.length]) hst fun h' hx => ?_
  have I1 : Inv X pins σ H { s with heap := h' } := I.kept (t' := s.toks) fun b o e => hx b o (Nat.ne_of_lt (Heap.lt_size e)) e
  exact h pins _ σ H xs _ Q I1 (by simpa using rv) hw
noncomputable def tAsg (te : TE) (g : TG) : TS := fun D σ H => te σ H fun x H1 => g x σ H1 D.nx
theorem ps_asg {tg e : Expr} {te : TE} {g : TG} (he : PE X e te) (hg : PG X tg g) (hs : swapsWithSole [tg] e pos.line X.env = pure false := by rfl) (hw : swappedStores [tg] e X.env = pure none := by rfl)
    (h1 : (assignEach [tg] X.env).map (·.2) = [assign tg X.env] := by rfl) : PS X (.Assign [tg] e pos) (tAsg te g) := by
  intro pins s σ H D I h
  refine wpAny_Assign_stores (thn (he pins s σ H _ I h) fun v s1 ⟨x, H1, I1, r1, q1⟩ => ?_) hs hw
  rw [h1]
  exact thn (hg pins s1 σ H1 x v _ I1 r1 q1) fun _ s2 q => q
theorem ps_set {i : Nat} {x : Str} {e : Expr} {te : TE} {pos' : Pos} (hN : X.N.Nodup) (hi : X.N[i]? = some x) (hx : Loc X.env.scope x) (he : PE X e te) (hs : swapsWith e (some (.Name x pos')) pos.line X.env = pure false := by rfl) (hf : X.fn x = true ∨ X.env.scope.names.lookup x = some .local := by first | exact .inl rfl | exact .inr rfl | assumption) :
    PS X (.Assign [.Name x pos'] e pos) (tAsg te (gName i)) := by
  intro pins s σ H D I h
  refine wpAny_Assign_Name (thn (he pins s σ H _ I h) fun v s1 ⟨y, H1, I1, r1, q1⟩ => ?_) hs
  exact store_ok I1 hN hi hx r1 (fun s2 I2 => ⟨_, H1, I2, q1⟩) hf
noncomputable def tAug (i : Nat) (te : TE) (ti : TIp) : TS := fun D σ H => ∃ x, σ[i]? = some (some x) ∧ te σ H fun y H1 => ti x y H1 fun z H2 => D.nx (σ.set i (some z)) H2
theorem ps_aug {i : Nat} {x : Str} {e : Expr} {te : TE} {op : Operator} {ti : TIp} {pos' : Pos} (hN : X.N.Nodup) (hi : X.N[i]? = some x) (hx : Loc X.env.scope x) (he : PE X e te) (ho : PIp X op ti) (hf : X.fn x = true ∨ X.env.scope.names.lookup x = some .local := by first | exact .inl rfl | exact .inr rfl | assumption) :
    PS X (.AugAssign (.Name x pos') op e pos) (tAug i te ti) := by
  intro pins s σ H D I h
  obtain ⟨v, e1, h⟩ := h
  obtain ⟨m, hn, hl⟩ := I.loc
  have vis : Vis X.env.scope x := by rcases hx with k | k; exact .inl k; exact .inr (.inl k)
  obtain ⟨u, r, l⟩ := hl i x v hi e1 vis
  refine wpAny_AugAssign_Name ?_
  have go : wpAny (model X.prog X.w) X.A (eval e X.env) (fun w s₂ => wpAny (model X.prog X.w) X.A (inplaceOp op u w) (fun r s₃ => wpAny (model X.prog X.w) X.A (storeName X.env x r) (fun _ => SP X pins D .next) X.xe s₃) X.xe s₂) X.xe s := by
    refine thn (he pins s σ H _ I h) fun w s1 ⟨y, H1, I1, r1, q1⟩ => ?_
    refine thn (ho pins s1 σ H1 v y u w _ I1 r r1 q1) fun z s2 ⟨zv, H2, I2, r2, q2⟩ => ?_
    exact store_ok I2 hN hi hx r2 (fun s3 I3 => ⟨_, H2, I3, q2⟩) hf
  rcases l with ⟨hk, hm⟩ | ⟨hk, c, hc, hcell⟩
  · exact wpAny_loadName_local I.ok.kind hk hn hm go
  · rcases hk with hk | hk
    · exact wpAny_loadName_cell I.ok.kind hk hc hcell go
    · rcases hx with k | k
      · have : X.env.scope.names.lookup x = some .free := hk
        rw [k] at this; cases this
      · have : X.env.scope.names.lookup x = some .free := hk
        rw [k] at this; cases this
noncomputable def ipI (f : Int → Int → Int) : TIp := fun x y H Q => ∃ i j, x = .int i ∧ y = .int j ∧ Q (.int (f i j)) H
theorem ip_add : PIp X .Add (ipI fun i j => i + j) := by
  intro pins s σ H x y v u Q I r1 r2 h
  obtain ⟨i, j, e1, e2, q⟩ := h
  subst e1; subst e2
  obtain ⟨t, rfl⟩ := r1
  obtain ⟨t', rfl⟩ := r2
  exact iadd_int ⟨.int _, H, I.tok _, ⟨_, rfl⟩, q⟩
end

section
variable {X : Cx} {pos : Pos}
noncomputable def tWhile (c : TT) (tb : TS) : TS := fun D σ H => ∃ W : Nat → St → Hp → Prop, (∃ m, W m σ H) ∧ ∀ m σ H, W m σ H →
  c σ H fun b H1 => if b = true then ∃ N : St → Hp → Prop, (∀ σ' H', N σ' H' → ∃ m', m' < m ∧ W m' σ' H') ∧ tb { D with nx := N, ct := N, bk := D.nx } σ H1 else D.nx σ H1
theorem ps_while {c : Expr} {body : List Stmt} {tc : TT} {tb : TS} (hp : PassesOwn (model X.prog X.w) X.A X.env X.xe) (hc : PT X c tc) (hb : PSs X body tb) : PS X (.While c body [] pos) (tWhile tc tb) := by
  intro pins s σ H D I h
  obtain ⟨W, ⟨m0, w0⟩, turn⟩ := h
  refine wpAny_While (codeAny_whileLoop (fun n s' => ∃ σ' H', Inv X pins σ' H' s' ∧ W n σ' H') ?_ m0 ⟨σ, H, I, w0⟩)
  rintro n s1 ⟨σ1, H1, I1, w1⟩
  refine wpAny_passesOwn hp (thn (hc pins s1 σ1 H1 _ I1 (turn n σ1 H1 w1)) fun b s2 ⟨H2, I2, q2⟩ => ?_)
  cases b with
  | true =>
    obtain ⟨N, hN, q2⟩ := q2
    rw [if_pos rfl]
    refine wpAny_passesOwn hp (thn (hb pins s2 σ1 H2 _ I2 q2) fun f s3 q3 => ?_)
    cases f with
    | next =>
      obtain ⟨σ3, H3, I3, n3⟩ := q3
      obtain ⟨m', hm, w3⟩ := hN σ3 H3 n3
      exact ⟨m', hm, σ3, H3, I3, w3⟩
    | cont =>
      obtain ⟨σ3, H3, I3, n3⟩ := q3
      obtain ⟨m', hm, w3⟩ := hN σ3 H3 n3
      exact ⟨m', hm, σ3, H3, I3, w3⟩
    | brk => exact q3
    | ret v => exact q3
  | false =>
    rw [if_neg Bool.false_ne_true]
    exact wpAny_execs_nil ⟨σ1, H2, I2, q2⟩
end

structure It where
  go : Nat → Hp → Prop
  yld : Nat → Hp → V → Hp → Prop
  stop : Nat → Hp → Prop
noncomputable def FpOk (X : Cx) (pins : List (Addr × Obj)) (H : Hp) (b : Addr) : Prop :=
  H b = none ∧ b ≠ X.env.locals ∧ b ∉ X.fs ∧ (b ∈ X.ex ∨ X.s₀.heap.objs.size ≤ b) ∧ (∀ x c, X.env.cells.lookup x = some c → c ≠ b) ∧ ∀ p ∈ X.pn ++ pins, p.1 ≠ b
theorem Inv.fpOk {X : Cx} {pins : List (Addr × Obj)} {σ : St} {H H' : Hp} {s : Shared} {b : Addr} (I : Inv X pins σ H s) (hb : s.heap.objs.size ≤ b) (hn : H' b = none) : FpOk X pins H' b := by
  refine ⟨hn, Nat.ne_of_gt (Nat.lt_of_lt_of_le I.lt hb), I.nofs hb, .inr (Nat.le_trans I.sz hb), fun x c e z => ?_, fun p hp z => ?_⟩
  · obtain ⟨v, q⟩ := I.cell x c e
    exact absurd (Nat.lt_of_lt_of_le q.lt (by rw [z]; exact hb)) (Nat.lt_irrefl _)
  · exact absurd (Nat.lt_of_lt_of_le (Heap.lt_size (I.pin p hp).1) (by rw [z]; exact hb)) (Nat.lt_irrefl _)
structure Turn (P : Program) (w : World) (K : PySem.W.Frag) (tg : Expr) (J : It) (fp : List Addr) (it : Addr) (tn : Nat → Heap → Prop) : Prop where
  mem : it ∈ fp
  obj : ∀ i h, tn i h → ∀ b ∈ fp, ∃ o, h.get? b = some o ∧ ∀ v, o.data ≠ .cell v
  keep : ∀ i h h', tn i h → (∀ b ∈ fp, ∀ o, h.get? b = some o → h'.get? b = some o) → tn i h'
  item : ∀ (X : Cx), X.prog = P → X.w = w → X.K = K → X.calm = true → ∀ (i : Nat) (pins : List (Addr × Obj)) (s : Shared) (σ : St) (H : Hp) (E : Value → Shared → Prop), Inv X pins σ H s → (∀ b ∈ fp, FpOk X pins H b) → tn i s.heap → J.go i H →
    wpAny (model P w) X.A (pyNext (.ref it)) (fun r s1 => ∃ u, r = some u ∧
      wpAny (model P w) X.A (letOwnedTupleGo tg (.ref it) u) (fun _ s2 => ∃ x H', Inv X pins σ H' s2 ∧ RelV x u ∧ J.yld i H x H' ∧ tn (i + 1) s2.heap ∧ ∀ b ∈ fp, H' b = none) E s1) E s
  done : ∀ (X : Cx), X.prog = P → X.w = w → X.K = K → X.calm = true → ∀ (i : Nat) (pins : List (Addr × Obj)) (s : Shared) (σ : St) (H : Hp) (E : Value → Shared → Prop), Inv X pins σ H s → (∀ b ∈ fp, FpOk X pins H b) → tn i s.heap → J.stop i H →
    wpAny (model P w) X.A (pyNext (.ref it)) (fun r s1 => r = none ∧ Inv X pins σ H s1) E s
  self : ∀ (A : Around) (i : Nat) (s : Shared) (Q : Value → Shared → Prop) (E : Value → Shared → Prop), tn i s.heap → Q (.ref it) s → wpAny (model P w) A (pyIter (.ref it)) Q E s
noncomputable abbrev TI := St → Hp → (It → Hp → Prop) → Prop
noncomputable def PIE (X : Cx) (pins : List (Addr × Obj)) (σ : St) (tg : Expr) (R : It → Hp → Prop) (itv : Value) (s2 : Shared) : Prop :=
  ∃ (it : Addr) (fp : List Addr) (tn : Nat → Heap → Prop) (J : It) (H' : Hp), itv = .ref it ∧ Inv X pins σ H' s2 ∧ Turn X.prog X.w X.K tg J fp it tn ∧ tn 0 s2.heap ∧ (∀ b ∈ fp, FpOk X pins H' b) ∧ R J H'
noncomputable def PI (X : Cx) (tg iter : Expr) (wi : TI) : Prop :=
  ∀ (pins : List (Addr × Obj)) (s : Shared) (σ : St) (H : Hp) (R : It → Hp → Prop), Inv X pins σ H s → wi σ H R →
    wpAny (model X.prog X.w) X.A (eval iter X.env) (fun v s1 => wpAny (model X.prog X.w) X.A (pyIter v) (PIE X pins σ tg R) X.xe s1) X.xe s

theorem go_of {M : Model} {A : Around} {E : Value → Shared → Prop} {s : Shared} {tg : Expr} {it : Addr} {u : Value} {o : Obj} {n : String} {vs : Array Value} {Q : Unit → Shared → Prop} (ho : s.heap.get? it = some o) (hc : o.cls = .type n) (hd : o.data = .fields vs)
    (hn : ["enumerate", "zip", "dict_itemiterator", "dict_reverseitemiterator", "odict_iterator", "itertools.zip_longest", "itertools.pairwise"].contains n = false) (hQ : Q () s) : wpAny M A (letOwnedTupleGo tg (.ref it) u) Q E s := by
  unfold letOwnedTupleGo
  cases tg <;> first
    | exact wpAny_pure hQ
    | (cases u <;> first
        | exact wpAny_pure hQ
        | (refine wpAny_bind (wpAny_load ho ?_)
           rw [hc, hd]
           show wpAny M A (if (["enumerate", "zip", "dict_itemiterator", "dict_reverseitemiterator", "odict_iterator", "itertools.zip_longest", "itertools.pairwise"].contains n && vs[0]? == some (rawInt _)) = true then _ else _) Q E s
           rw [if_neg (by intro h; rw [hn, Bool.false_and] at h; cases h)]
           exact wpAny_pure hQ))

noncomputable def Itl (K : PySem.W.Frag) (a : Addr) : It :=
  ⟨fun i H => ∃ xs x, SqL K H a xs ∧ xs[i]? = some x, fun i H x H' => H' = H ∧ ∀ xs, SqL K H a xs → xs[i]? = some x, fun i H => ∃ xs, SqL K H a xs ∧ xs.length ≤ i⟩
noncomputable def Itt (K : PySem.W.Frag) (a : Addr) : It :=
  ⟨fun i H => ∃ xs x, SqT K H a xs ∧ xs[i]? = some x, fun i H x H' => H' = H ∧ ∀ xs, SqT K H a xs → xs[i]? = some x, fun i H => ∃ xs, SqT K H a xs ∧ xs.length ≤ i⟩
noncomputable def Itr (lo : Int) (n : Nat) : It := ⟨fun i _ => i < n, fun i H x H' => H' = H ∧ x = .int (lo + i), fun i _ => n ≤ i⟩
theorem turn_list {P : Program} {w : World} {K : PySem.W.Frag} {tg : Expr} (a it : Addr) : Turn P w K tg (Itl K a) [it] it (fun i h => h.IsListIter it a i) where
  mem := by simp
  obj := fun i h st b hb => by
    have e : b = it := by simpa using hb
    subst e
    obtain ⟨o, e, c, d⟩ := st
    exact ⟨o, e, fun v z => by rw [d] at z; cases z⟩
  keep := fun i h h' st k => st.at fun o e => k it (by simp) o e
  item := by
    intro X hP hw hK hc i pins s σ H E I hf st hg
    subst hP hw hK
    obtain ⟨xs, x, hq, hx⟩ := hg
    obtain ⟨its, rv, p, hz⟩ := I.list hq
    obtain ⟨u, hu, ru⟩ := rv.get hx
    obtain ⟨f0, f1, f2, f3, f4, f5⟩ := hf it (by simp)
    refine wpAny_pyNext_list_item st p.isList (x := u) (by simpa using hu) fun h' st' sb => ?_
    have I1 : Inv X pins σ H { s with heap := h' } := I.turned (t' := s.toks) (fun b o hb e => (sb.2 b hb).trans e) f0 f1 f3 f4 f5
    obtain ⟨o, e, c, d⟩ := id st'
    exact ⟨u, rfl, go_of (s := { s with heap := h' }) e c d (by decide) ⟨x, H, I1, ru, ⟨rfl, fun ys hy => by rw [I.list_inj hy hq]; exact hx⟩, st', fun b hb => (hf b hb).1⟩⟩
  done := by
    intro X hP hw hK hc i pins s σ H E I hf st hg
    subst hP hw hK
    obtain ⟨xs, hq, hx⟩ := hg
    obtain ⟨its, rv, p, hz⟩ := I.list hq
    obtain ⟨f0, f1, f2, f3, f4, f5⟩ := hf it (by simp)
    have hl := rv.length
    exact wpAny_pyNext_list_end (I.ok.hd hc) st p.isList (by simp; omega) fun h' eb => ⟨rfl, I.turned (t' := s.toks) (fun b o hb e => eb b o hb e) f0 f1 f3 f4 f5⟩
  self := fun _ _ _ _ _ st h => wpAny_pyIter_listiter st h
theorem turn_tuple {P : Program} {w : World} {K : PySem.W.Frag} {tg : Expr} (a it : Addr) : Turn P w K tg (Itt K a) [it] it (fun i h => h.IsTupleIter it a i) where
  mem := by simp
  obj := fun i h st b hb => by
    have e : b = it := by simpa using hb
    subst e
    obtain ⟨o, e, c, d⟩ := st
    exact ⟨o, e, fun v z => by rw [d] at z; cases z⟩
  keep := fun i h h' st k => st.at fun o e => k it (by simp) o e
  item := by
    intro X hP hw hK hc i pins s σ H E I hf st hg
    subst hP hw hK
    obtain ⟨xs, x, hq, hx⟩ := hg
    obtain ⟨its, rv, p, hz⟩ := I.tuple hq
    obtain ⟨u, hu, ru⟩ := rv.get hx
    obtain ⟨f0, f1, f2, f3, f4, f5⟩ := hf it (by simp)
    refine wpAny_pyNext_tuple_item st (show s.heap.IsTuple a its.toArray from p) (x := u) (by simpa using hu) fun h' st' sb => ?_
    have I1 : Inv X pins σ H { s with heap := h' } := I.turned (t' := s.toks) (fun b o hb e => (sb.2 b hb).trans e) f0 f1 f3 f4 f5
    obtain ⟨o, e, c, d⟩ := id st'
    exact ⟨u, rfl, go_of (s := { s with heap := h' }) e c d (by decide) ⟨x, H, I1, ru, ⟨rfl, fun ys hy => by rw [I.tuple_inj hy hq]; exact hx⟩, st', fun b hb => (hf b hb).1⟩⟩
  done := by
    intro X hP hw hK hc i pins s σ H E I hf st hg
    subst hP hw hK
    obtain ⟨xs, hq, hx⟩ := hg
    obtain ⟨its, rv, p, hz⟩ := I.tuple hq
    obtain ⟨f0, f1, f2, f3, f4, f5⟩ := hf it (by simp)
    have hl := rv.length
    exact wpAny_pyNext_tuple_end (I.ok.hd hc) st (show s.heap.IsTuple a its.toArray from p) (by simp; omega) fun h' eb => ⟨rfl, I.turned (t' := s.toks) (fun b o hb e => eb b o hb e) f0 f1 f3 f4 f5⟩
  self := fun _ _ _ _ _ st h => wpAny_pyIter_tupleiter st h
theorem turn_range {P : Program} {w : World} {K : PySem.W.Frag} {tg : Expr} (it : Addr) (lo : Int) (n : Nat) : Turn P w K tg (Itr lo n) [it] it (fun i h => IsRangeIter h it (lo + (i : Nat) * 1) ((n : Int) - (i : Nat)) 1) where
  mem := by simp
  obj := fun i h st b hb => by
    have e : b = it := by simpa using hb
    subst e
    exact ⟨_, st, fun v z => by
      have z' : Data.fields _ = Data.cell v := z
      cases z'⟩
  keep := fun i h h' st k => k it (by simp) _ st
  item := by
    intro X hP hw hK hc i pins s σ H E I hf st hg
    subst hP hw hK
    obtain ⟨f0, f1, f2, f3, f4, f5⟩ := hf it (by simp)
    have W := Walks.range (prog := X.prog) (w := X.w) (I.ok.hd hc) it lo 1 n
    refine W.item i s _ _ hg st fun v h' tk hv st' kk => ?_
    obtain ⟨t, rfl⟩ := hv
    have I1 : Inv X pins σ H { s with heap := h', toks := tk } := I.turned (fun b o hb e => kk b o (by simpa using hb) e) f0 f1 f3 f4 f5
    refine ⟨_, rfl, go_of (s := { s with heap := h', toks := tk }) (n := "range_iterator") st' rfl rfl (by decide) ⟨.int (lo + i), H, I1, ⟨t, ?_⟩, ⟨rfl, rfl⟩, st', fun b hb => (hf b hb).1⟩⟩
    rw [Int.mul_one]
  done := by
    intro X hP hw hK hc i pins s σ H E I hf st hg
    subst hP hw hK
    obtain ⟨f0, f1, f2, f3, f4, f5⟩ := hf it (by simp)
    exact wpAny_pyNext_range_end (I.ok.hd hc) st (by have : n ≤ i := hg; omega) fun h' eb => ⟨rfl, I.turned (t' := s.toks) (fun b o hb e => eb b o hb e) f0 f1 f3 f4 f5⟩
  self := fun _ _ _ _ _ st h => wpAny_pyIter_rangeiter st h
end L2

namespace L2
open PySem PySem.Spec PyProof.Rows
section
variable {X : Cx} {tg : Expr}
noncomputable def iList (K : PySem.W.Frag) (tl : TE) : TI := fun σ H R => tl σ H fun x H1 => ∃ a, x = .ref a ∧ (∃ xs, SqL K H1 a xs) ∧ R (Itl K a) H1
noncomputable def iTup (K : PySem.W.Frag) (tl : TE) : TI := fun σ H R => tl σ H fun x H1 => ∃ a, x = .ref a ∧ (∃ xs, SqT K H1 a xs) ∧ R (Itt K a) H1
theorem pi_list {l : Expr} {tl : TE} (hl : PE X l tl) : PI X tg l (iList X.K tl) := by
  intro pins s σ H R I h
  refine thn (hl pins s σ H _ I h) fun v s1 ⟨x, H1, I1, r1, q1⟩ => ?_
  obtain ⟨a, e, ⟨xs, hq⟩, q⟩ := q1
  subst e
  cases r1
  obtain ⟨its, rv, p, hz⟩ := I1.list hq
  refine wpAny_pyIter_list p.isList ?_
  refine ⟨s1.heap.objs.size, [s1.heap.objs.size], _, _, H1, rfl, I1.kept (t' := s1.toks) fun b o e => Heap.get?_push_of_some _ e, turn_list a _, ⟨_, Heap.get?_push_size _ rfl, rfl, rfl⟩, fun b hb => ?_, q⟩
  have e : b = s1.heap.objs.size := by simpa using hb
  subst e
  exact I1.fpOk (Nat.le_refl _) (I1.hok.fresh (Nat.le_refl _))
theorem pi_tup {l : Expr} {tl : TE} (hl : PE X l tl) : PI X tg l (iTup X.K tl) := by
  intro pins s σ H R I h
  refine thn (hl pins s σ H _ I h) fun v s1 ⟨x, H1, I1, r1, q1⟩ => ?_
  obtain ⟨a, e, ⟨xs, hq⟩, q⟩ := q1
  subst e
  cases r1
  obtain ⟨its, rv, p, hz⟩ := I1.tuple hq
  refine wpAny_pyIter_tuple (show s1.heap.IsTuple a its.toArray from p) ?_
  refine ⟨s1.heap.objs.size, [s1.heap.objs.size], _, _, H1, rfl, I1.kept (t' := s1.toks) fun b o e => Heap.get?_push_of_some _ e, turn_tuple a _, ⟨_, Heap.get?_push_size _ rfl, rfl, rfl⟩, fun b hb => ?_, q⟩
  have e : b = s1.heap.objs.size := by simpa using hb
  subst e
  exact I1.fpOk (Nat.le_refl _) (I1.hok.fresh (Nat.le_refl _))
theorem range_it {pins : List (Addr × Obj)} {σ : St} {H : Hp} {s : Shared} {R : It → Hp → Prop} {E : Value → Shared → Prop} {lo hi : Int} {t u v : Tok} {tk : Nat} (I : Inv X pins σ H s) (h1 : -(2 ^ 62) ≤ lo) (h2 : lo < 2 ^ 62) (h3 : -(2 ^ 62) ≤ hi) (h4 : hi < 2 ^ 62)
    (q : R (Itr lo (hi - lo).toNat) H) : wpAny (model X.prog X.w) X.A (pyIter (.ref s.heap.objs.size)) (PIE X pins σ tg R) E { s with heap := s.heap.push { cls := .type "range", data := .fields #[.int lo t, .int hi u, .int 1 v] }, toks := tk } := by
  refine wpAny_pyIter_range (IsRange.new ..) (small_one h1 h2 h3 h4) ?_
  have I1 : Inv X pins σ H { s with heap := s.heap.push { cls := .type "range", data := .fields #[.int lo t, .int hi u, .int 1 v] }, toks := tk } := I.kept fun b o e => Heap.get?_push_of_some _ e
  refine ⟨(s.heap.push { cls := .type "range", data := .fields #[.int lo t, .int hi u, .int 1 v] }).objs.size, [(s.heap.push { cls := .type "range", data := .fields #[.int lo t, .int hi u, .int 1 v] }).objs.size], _, _, H, rfl,
    I1.kept (t' := tk) fun b o e => Heap.get?_push_of_some _ e, turn_range _ lo (hi - lo).toNat, ?_, fun b hb => ?_, q⟩
  · have e1 : lo + ((0 : Nat) : Int) * 1 = lo := by simp
    have e2 : (((hi - lo).toNat : Nat) : Int) - ((0 : Nat) : Int) = Builtin.Range.rangeSize lo hi 1 := by rw [rangeSize_one]; split <;> omega
    show IsRangeIter _ _ (lo + ((0 : Nat) : Int) * 1) ((((hi - lo).toNat : Nat) : Int) - ((0 : Nat) : Int)) 1
    rw [e1, e2]
    exact Heap.get?_push_size _ rfl
  · have e : b = (s.heap.push { cls := .type "range", data := .fields #[.int lo t, .int hi u, .int 1 v] }).objs.size := by simpa using hb
    subst e
    exact I1.fpOk (Nat.le_refl _) (I1.hok.fresh (Nat.le_refl _))
noncomputable def iRng1 (ta : TA) : TI := fun σ H R => ta σ H fun vs H1 => ∃ j : Int, vs = [.int j] ∧ -(2 ^ 62) ≤ j ∧ j < 2 ^ 62 ∧ R (Itr 0 j.toNat) H1
theorem pi_range1 {a : Expr} {ta : TA} {p pos : Pos} (hg : Gl X "range") (hm : X.mg "range" = none) (ha : PA X [a] ta) (hs : starEach [a] X.env = [(false, eval a X.env)] := by rfl) : PI X tg (.Call (.Name "range" p) [a] [] pos) (iRng1 ta) := by
  intro pins s σ H R I h
  refine Call_ (ld_blt I hg hm boot_range (PyProof.Rows.callWith_type1 (thn (ha pos pins s σ H _ I h) fun us s1 ⟨vs, H1, I1, r1, q1⟩ => ?_) hs rfl))
  obtain ⟨j, e, q1, q2, q⟩ := q1
  subst e
  cases r1 with
  | cons r rr =>
    cases rr
    obtain ⟨t, rfl⟩ := r
    exact call_range_1 (range_it I1 (by omega) (by omega) q1 q2 (by simpa using q))
noncomputable def tFor (wi : TI) (g : TG) (tb : TS) : TS := fun D σ H => wi σ H fun J H1 => ∃ W : Nat → Nat → St → Hp → Prop, (∃ m, W 0 m σ H1) ∧ ∀ i m σ H, W i m σ H →
  (J.stop i H ∧ D.nx σ H) ∨ (J.go i H ∧ ∃ N : St → Hp → Prop, (∀ σ' H', N σ' H' → ∃ m', m' < m ∧ W (i + 1) m' σ' H') ∧ ∀ x H', J.yld i H x H' → g x σ H' fun σ2 H2 => tb { D with nx := N, ct := N, bk := D.nx } σ2 H2)
noncomputable def pinsAt (fp : List Addr) (h : Heap) : List (Addr × Obj) := fp.filterMap fun b => (h.get? b).map fun o => (b, o)
theorem mem_pinsAt {fp : List Addr} {h : Heap} {b : Addr} {o : Obj} (hb : b ∈ fp) (e : h.get? b = some o) : (b, o) ∈ pinsAt fp h := List.mem_filterMap.mpr ⟨b, hb, by rw [e]; rfl⟩
theorem of_pinsAt {fp : List Addr} {h : Heap} {p : Addr × Obj} (hp : p ∈ pinsAt fp h) : p.1 ∈ fp ∧ h.get? p.1 = some p.2 := by
  obtain ⟨b, hb, e⟩ := List.mem_filterMap.mp hp
  cases q : h.get? b with
  | none => rw [q] at e; cases e
  | some o =>
    rw [q] at e
    have e' : (b, o) = p := Option.some.inj e
    subst e'
    exact ⟨hb, q⟩
theorem Inv.pinned {pins : List (Addr × Obj)} {σ : St} {H : Hp} {s : Shared} {fp : List Addr} (I : Inv X pins σ H s) (hf : ∀ b ∈ fp, FpOk X pins H b) (ho : ∀ b ∈ fp, ∃ o, s.heap.get? b = some o ∧ ∀ v, o.data ≠ .cell v) : Inv X (pins ++ pinsAt fp s.heap) σ H s :=
  I.pins_of fun p hp => (List.mem_append.mp hp).elim (fun z => I.pin p (List.mem_append_right _ z)) fun z => by
    obtain ⟨hb, e⟩ := of_pinsAt z
    obtain ⟨f0, f1, f2, _⟩ := hf p.1 hb
    obtain ⟨o, e', d⟩ := ho p.1 hb
    rw [e] at e'; cases e'
    exact ⟨e, f0, f1, f2, d⟩
theorem Inv.unpinned {pins pl : List (Addr × Obj)} {σ : St} {H : Hp} {s : Shared} (I : Inv X (pins ++ pl) σ H s) : Inv X pins σ H s := I.pins_of fun p hp => I.pin p (List.mem_append_right _ (List.mem_append_left _ hp))
theorem ps_for {iter : Expr} {body : List Stmt} {wi : TI} {g : TG} {tb : TS} {pos : Pos} (hp : PassesOwn (model X.prog X.w) X.A X.env X.xe) (hc : X.calm = true) (hi : PI X tg iter wi) (hg : PG X tg g) (hb : PSs X body tb)
    (hs : ∀ x, foldedSetIterable iter X.env x = pure x := by intro _; rfl) : PS X (.For tg iter body [] pos) (tFor wi g tb) := by
  intro pins s σ H D I h
  refine wpAny_For (thn (hi pins s σ H _ I h) fun v s1 h1 => thn h1 fun itv s2 h2 => ?_) hs
  obtain ⟨it, fp, tn, J, H2, e, I2, T, st2, f2, W, ⟨m0, w0⟩, turn⟩ := h2
  subst e
  -- what stays true of the iterator's objects through the loop
  have stat : ∀ {H' : Hp}, (∀ b ∈ fp, H' b = none) → ∀ b ∈ fp, FpOk X pins H' b := fun hn b hb => ⟨hn b hb, (f2 b hb).2⟩
  refine codeAny_forLoop_any (fun n s' => ∃ i σ' H', Inv X pins σ' H' s' ∧ tn i s'.heap ∧ (∀ b ∈ fp, H' b = none) ∧ W i n σ' H') ?_ m0 ⟨0, σ, H2, I2, st2, fun b hb => (f2 b hb).1, w0⟩
  rintro n s3 ⟨i, σ3, H3, I3, st3, fr3, w3⟩
  rcases turn i n σ3 H3 w3 with ⟨stop, qn⟩ | ⟨go, N, hN, step⟩
  · refine wpAny_passesOwn hp (thn (T.done X rfl rfl rfl hc i pins s3 σ3 H3 X.xe I3 (stat fr3) st3 stop) fun r s4 ⟨hr, I4⟩ => ?_)
    subst hr
    exact wpAny_execs_nil ⟨σ3, H3, I4, qn⟩
  · refine wpAny_passesOwn hp (thn (T.item X rfl rfl rfl hc i pins s3 σ3 H3 X.xe I3 (stat fr3) st3 go) fun r s4 ⟨u, hr, h4⟩ => ?_)
    subst hr
    refine wpAny_passesOwn hp (thn h4 fun _ s5 ⟨x, H5, I5, r5, y5, st5, fr5⟩ => ?_)
    have I5' := I5.pinned (stat fr5) (T.obj _ _ st5)
    refine wpAny_passesOwn hp (thn (hg _ s5 σ3 H5 x u _ I5' r5 (step x H5 y5)) fun _ s6 ⟨σ6, H6, I6, q6⟩ => ?_)
    refine wpAny_passesOwn hp (thn (hb _ s6 σ6 H6 _ I6 q6) fun f s7 q7 => ?_)
    have again : ∀ {σ7 : St} {H7 : Hp}, Inv X (pins ++ pinsAt fp s5.heap) σ7 H7 s7 → N σ7 H7 → ∃ m, m < n ∧ ∃ i σ' H', Inv X pins σ' H' s7 ∧ tn i s7.heap ∧ (∀ b ∈ fp, H' b = none) ∧ W i m σ' H' := fun {σ7 H7} I7 n7 => by
      obtain ⟨m', hm, w7⟩ := hN σ7 H7 n7
      refine ⟨m', hm, i + 1, σ7, H7, I7.unpinned, T.keep _ _ _ st5 fun b hb o e => (I7.pin (b, o) (List.mem_append_right _ (List.mem_append_right _ (mem_pinsAt hb e)))).1, fun b hb => ?_, w7⟩
      obtain ⟨o, e, d⟩ := T.obj _ _ st5 b hb
      exact (I7.pin (b, o) (List.mem_append_right _ (List.mem_append_right _ (mem_pinsAt hb e)))).2.1
    cases f with
    | next => obtain ⟨σ7, H7, I7, n7⟩ := q7; exact again I7 n7
    | cont => obtain ⟨σ7, H7, I7, n7⟩ := q7; exact again I7 n7
    | brk => obtain ⟨σ7, H7, I7, q7⟩ := q7; exact ⟨σ7, H7, I7.unpinned, q7⟩
    | ret v => obtain ⟨x7, σ7, H7, I7, r7, q7⟩ := q7; exact ⟨x7, σ7, H7, I7.unpinned, r7, q7⟩
end

theorem for_list {K : PySem.W.Frag} {a : Addr} {xs : List V} {g : TG} {tb : TS} {D : Ends} {σ : St} {H : Hp} (Pv : Nat → St → Hp → Prop) (h0 : Pv 0 σ H) (hl : ∀ i σ H, i ≤ xs.length → Pv i σ H → SqL K H a xs)
    (hs : ∀ i x σ H, xs[i]? = some x → Pv i σ H → g x σ H fun σ2 H2 => tb { D with nx := Pv (i + 1), ct := Pv (i + 1), bk := D.nx } σ2 H2) (hd : ∀ σ H, Pv xs.length σ H → D.nx σ H) :
    ∃ W : Nat → Nat → St → Hp → Prop, (∃ m, W 0 m σ H) ∧ ∀ i m σ H, W i m σ H →
      ((Itl K a).stop i H ∧ D.nx σ H) ∨ ((Itl K a).go i H ∧ ∃ N : St → Hp → Prop, (∀ σ' H', N σ' H' → ∃ m', m' < m ∧ W (i + 1) m' σ' H') ∧ ∀ x H', (Itl K a).yld i H x H' → g x σ H' fun σ2 H2 => tb { D with nx := N, ct := N, bk := D.nx } σ2 H2) := by
  refine ⟨fun i m σ H => m = xs.length - i ∧ i ≤ xs.length ∧ Pv i σ H, ⟨xs.length, by simp, Nat.zero_le _, h0⟩, ?_⟩
  rintro i m σ H ⟨rfl, hi, p⟩
  have q := hl i σ H hi p
  by_cases hlt : i < xs.length
  · refine .inr ⟨⟨xs, xs[i], q, by simp [hlt]⟩, Pv (i + 1), fun σ' H' p' => ⟨xs.length - (i + 1), by omega, rfl, hlt, p'⟩, fun x H' y => ?_⟩
    obtain ⟨e, y⟩ := y
    subst e
    exact hs i x σ _ (y xs q) p
  · have e : i = xs.length := by omega
    subst e
    exact .inl ⟨⟨xs, q, Nat.le_refl _⟩, hd σ H p⟩
theorem for_tup {K : PySem.W.Frag} {a : Addr} {xs : List V} {g : TG} {tb : TS} {D : Ends} {σ : St} {H : Hp} (Pv : Nat → St → Hp → Prop) (h0 : Pv 0 σ H) (hl : ∀ i σ H, i ≤ xs.length → Pv i σ H → SqT K H a xs)
    (hs : ∀ i x σ H, xs[i]? = some x → Pv i σ H → g x σ H fun σ2 H2 => tb { D with nx := Pv (i + 1), ct := Pv (i + 1), bk := D.nx } σ2 H2) (hd : ∀ σ H, Pv xs.length σ H → D.nx σ H) :
    ∃ W : Nat → Nat → St → Hp → Prop, (∃ m, W 0 m σ H) ∧ ∀ i m σ H, W i m σ H →
      ((Itt K a).stop i H ∧ D.nx σ H) ∨ ((Itt K a).go i H ∧ ∃ N : St → Hp → Prop, (∀ σ' H', N σ' H' → ∃ m', m' < m ∧ W (i + 1) m' σ' H') ∧ ∀ x H', (Itt K a).yld i H x H' → g x σ H' fun σ2 H2 => tb { D with nx := N, ct := N, bk := D.nx } σ2 H2) := by
  refine ⟨fun i m σ H => m = xs.length - i ∧ i ≤ xs.length ∧ Pv i σ H, ⟨xs.length, by simp, Nat.zero_le _, h0⟩, ?_⟩
  rintro i m σ H ⟨rfl, hi, p⟩
  have q := hl i σ H hi p
  by_cases hlt : i < xs.length
  · refine .inr ⟨⟨xs, xs[i], q, by simp [hlt]⟩, Pv (i + 1), fun σ' H' p' => ⟨xs.length - (i + 1), by omega, rfl, hlt, p'⟩, fun x H' y => ?_⟩
    obtain ⟨e, y⟩ := y
    subst e
    exact hs i x σ _ (y xs q) p
  · have e : i = xs.length := by omega
    subst e
    exact .inl ⟨⟨xs, q, Nat.le_refl _⟩, hd σ H p⟩
theorem for_range {lo : Int} {n : Nat} {g : TG} {tb : TS} {D : Ends} {σ : St} {H : Hp} (Pv : Nat → St → Hp → Prop) (h0 : Pv 0 σ H)
    (hs : ∀ i σ H, i < n → Pv i σ H → g (.int (lo + i)) σ H fun σ2 H2 => tb { D with nx := Pv (i + 1), ct := Pv (i + 1), bk := D.nx } σ2 H2) (hd : ∀ σ H, Pv n σ H → D.nx σ H) :
    ∃ W : Nat → Nat → St → Hp → Prop, (∃ m, W 0 m σ H) ∧ ∀ i m σ H, W i m σ H →
      ((Itr lo n).stop i H ∧ D.nx σ H) ∨ ((Itr lo n).go i H ∧ ∃ N : St → Hp → Prop, (∀ σ' H', N σ' H' → ∃ m', m' < m ∧ W (i + 1) m' σ' H') ∧ ∀ x H', (Itr lo n).yld i H x H' → g x σ H' fun σ2 H2 => tb { D with nx := N, ct := N, bk := D.nx } σ2 H2) := by
  refine ⟨fun i m σ H => m = n - i ∧ i ≤ n ∧ Pv i σ H, ⟨n, by simp, Nat.zero_le _, h0⟩, ?_⟩
  rintro i m σ H ⟨rfl, hi, p⟩
  by_cases hlt : i < n
  · refine .inr ⟨hlt, Pv (i + 1), fun σ' H' p' => ⟨n - (i + 1), by omega, rfl, hlt, p'⟩, fun x H' y => ?_⟩
    obtain ⟨e, y⟩ := y
    subst e y
    exact hs i σ _ hlt p
  · have e : i = n := by omega
    subst e
    exact .inl ⟨Nat.le_refl _, hd σ H p⟩
end L2

namespace L2
open PySem PySem.Spec PyProof.Rows

noncomputable abbrev R2 := V → V → Hp → VK → Prop
noncomputable def OpR (X : Cx) (f : Value → Value → Sem Value) (r : R2) : Prop :=
  ∀ (pins : List (Addr × Obj)) (s : Shared) (σ : St) (H : Hp) (x y : V) (v u : Value) (Q : VK), Inv X pins σ H s → RelV x v → RelV y u → r x y H Q →
    wpAny (model X.prog X.w) X.A (f v u) (EP X pins σ Q) X.xe s
noncomputable def UnR (X : Cx) (f : Value → Sem Value) (r : V → Hp → VK → Prop) : Prop :=
  ∀ (pins : List (Addr × Obj)) (s : Shared) (σ : St) (H : Hp) (x : V) (v : Value) (Q : VK), Inv X pins σ H s → RelV x v → r x H Q →
    wpAny (model X.prog X.w) X.A (f v) (EP X pins σ Q) X.xe s
noncomputable def CallR (X : Cx) (f : Value) (r : List V → Hp → VK → Prop) : Prop :=
  ∀ (pins : List (Addr × Obj)) (s : Shared) (σ : St) (H : Hp) (xs : List V) (us : List Value) (Q : VK), Inv X pins σ H s → Vals xs us → r xs H Q →
    wpAny (model X.prog X.w) X.A (call f us) (EP X pins σ Q) X.xe s
noncomputable def tOp (r : R2) (ta tb : TE) : TE := fun σ H Q => ta σ H fun x H1 => tb σ H1 fun y H2 => r x y H2 Q
noncomputable def tUn (r : V → Hp → VK → Prop) (ta : TE) : TE := fun σ H Q => ta σ H fun x H1 => r x H1 Q
noncomputable def rI (C : Int → Int → Prop) (g : Int → Int → V) : R2 := fun x y H Q => ∃ i j, x = .int i ∧ y = .int j ∧ C i j ∧ Q (g i j) H
noncomputable def rI0 (g : Int → Int → V) : R2 := fun x y H Q => ∃ i j, x = .int i ∧ y = .int j ∧ Q (g i j) H
noncomputable def rU (g : Int → V) : V → Hp → VK → Prop := fun x H Q => ∃ i, x = .int i ∧ Q (g i) H

section
variable {X : Cx} {a b c : Expr} {ta tb tc : TE} {pos : Pos}

theorem binT (ha : PE X a ta) (hb : PE X b tb) {pins : List (Addr × Obj)} {s : Shared} {σ : St} {H : Hp} {R : V → V → Hp → Prop} (I : Inv X pins σ H s)
    (h : ta σ H fun x H1 => tb σ H1 fun y H2 => R x y H2) {Q : Value → Shared → Prop} {f : Value → Value → Sem Value}
    (hf : ∀ v u s2 x y H2, Inv X pins σ H2 s2 → RelV x v → RelV y u → R x y H2 → wpAny (model X.prog X.w) X.A (f v u) Q X.xe s2) :
    wpAny (model X.prog X.w) X.A (eval a X.env) (fun v s₁ => wpAny (model X.prog X.w) X.A (eval b X.env) (fun u s₂ => wpAny (model X.prog X.w) X.A (f v u) Q X.xe s₂) X.xe s₁) X.xe s := by
  refine thn (ha pins s σ H _ I h) fun v s1 ⟨x, H1, I1, r1, q1⟩ => ?_
  refine thn (hb pins s1 σ H1 _ I1 q1) fun u s2 ⟨y, H2, I2, r2, q2⟩ => ?_
  exact hf v u s2 x y H2 I2 r1 r2 q2

theorem pe_op {op : Operator} {r : R2} (ho : OpR X (binaryOp op) r) (ha : PE X a ta) (hb : PE X b tb) : PE X (.BinOp a op b pos) (tOp r ta tb) := by
  intro pins s σ H Q I h
  exact wpAny_BinOp (binT ha hb I h fun v u s2 x y H2 I2 rx ry q => ho pins s2 σ H2 x y v u Q I2 rx ry q)
theorem pe_un {op : UnaryOp} {r : V → Hp → VK → Prop} (ho : UnR X (unaryOp op) r) (ha : PE X a ta) : PE X (.UnaryOp op a pos) (tUn r ta) := by
  intro pins s σ H Q I h
  exact UnaryOp_ (thn (ha pins s σ H _ I h) fun v s1 ⟨x, H1, I1, r1, q1⟩ => ho pins s1 σ H1 x v Q I1 r1 q1)
theorem opI {f : Value → Value → Sem Value} {C : Int → Int → Prop} {g : Int → Int → Int}
    (rule : ∀ (i j : Int) (t u : Tok) (s : Shared) (Q : Value → Shared → Prop) (E : Value → Shared → Prop), C i j → Q (.int (g i j) s.toks) { s with toks := s.toks + 1 } → wpAny (model X.prog X.w) X.A (f (.int i t) (.int j u)) Q E s) :
    OpR X f (rI C fun i j => .int (g i j)) := by
  intro pins s σ H x y v u Q I rx ry h
  obtain ⟨i, j, rfl, rfl, hc, q⟩ := h
  obtain ⟨t, rfl⟩ := rx
  obtain ⟨t', rfl⟩ := ry
  exact rule i j t t' s _ _ hc ⟨.int (g i j), H, I.tok _, ⟨_, rfl⟩, q⟩
theorem opI0 {f : Value → Value → Sem Value} {g : Int → Int → Int}
    (rule : ∀ (i j : Int) (t u : Tok) (s : Shared) (Q : Value → Shared → Prop) (E : Value → Shared → Prop), Q (.int (g i j) s.toks) { s with toks := s.toks + 1 } → wpAny (model X.prog X.w) X.A (f (.int i t) (.int j u)) Q E s) :
    OpR X f (rI0 fun i j => .int (g i j)) := by
  intro pins s σ H x y v u Q I rx ry h
  obtain ⟨i, j, rfl, rfl, q⟩ := h
  obtain ⟨t, rfl⟩ := rx
  obtain ⟨t', rfl⟩ := ry
  exact rule i j t t' s _ _ ⟨.int (g i j), H, I.tok _, ⟨_, rfl⟩, q⟩
theorem opB0 {f : Value → Value → Sem Value} {g : Int → Int → Bool}
    (rule : ∀ (i j : Int) (t u : Tok) (s : Shared) (Q : Value → Shared → Prop) (E : Value → Shared → Prop), Q (.bool (g i j)) s → wpAny (model X.prog X.w) X.A (f (.int i t) (.int j u)) Q E s) :
    OpR X f (rI0 fun i j => .bl (g i j)) := by
  intro pins s σ H x y v u Q I rx ry h
  obtain ⟨i, j, rfl, rfl, q⟩ := h
  obtain ⟨t, rfl⟩ := rx
  obtain ⟨t', rfl⟩ := ry
  exact rule i j t t' s _ _ ⟨.bl (g i j), H, I, rfl, q⟩

noncomputable def CDiv (i j : Int) : Prop := 0 < j ∧ j < 1073741824
noncomputable def CPow (i j : Int) : Prop := 0 ≤ j ∧ j ≤ 1000000 ∧ i.natAbs < 2 ^ 64
noncomputable def CMul (i j : Int) : Prop := (-(2 ^ 64) < i ∧ i < 2 ^ 64) ∨ (-(2 ^ 64) < j ∧ j < 2 ^ 64)
theorem CMul.ok {i j : Int} (h : CMul i j) : IntMulOk i j := by
  rcases h with ⟨h1, h2⟩ | ⟨h1, h2⟩
  · exact .of_left (intBits_le_64 h1 h2)
  · exact .of_right (intBits_le_64 h1 h2)
theorem op_add : OpR X (binaryOp .Add) (rI0 fun i j => .int (i + j)) := opI0 fun _ _ _ _ _ _ _ q => add_int q
theorem op_sub : OpR X (binaryOp .Sub) (rI0 fun i j => .int (i - j)) := opI0 fun _ _ _ _ _ _ _ q => sub_int q
theorem op_mul : OpR X (binaryOp .Mult) (rI CMul fun i j => .int (i * j)) := opI fun _ _ _ _ _ _ _ hc q => mul_int q hc.ok
theorem op_fdiv : OpR X (binaryOp .FloorDiv) (rI CDiv fun i j => .int (i / j)) := opI fun i j _ _ _ _ _ hc q => by
  have h1 : (0 : Int) < j := hc.1
  have h2 : j < 1073741824 := hc.2
  exact floordiv_int (by omega) (by rw [Int.fdiv_eq_ediv_of_nonneg i (by omega)]; exact q) (.inl (PyProof.noPylong_small (by omega)))
theorem op_mod : OpR X (binaryOp .Mod) (rI (fun _ j => 0 < j) fun i j => .int (i % j)) := opI fun i j _ _ _ _ _ hc q => by
  have h1 : (0 : Int) < j := hc
  exact mod_int' (by omega) (by rw [Int.fmod_eq_emod_of_nonneg i (by omega)]; exact q)
theorem op_pow : OpR X (binaryOp .Pow) (rI CPow fun i j => .int (i ^ j.toNat)) := opI fun _ _ _ _ _ _ _ hc q => pow_int_small hc.1 hc.2.1 hc.2.2 q
theorem unI {f : Value → Sem Value} {g : Int → Int}
    (rule : ∀ (i : Int) (t : Tok) (s : Shared) (Q : Value → Shared → Prop) (E : Value → Shared → Prop), Q (.int (g i) s.toks) { s with toks := s.toks + 1 } → wpAny (model X.prog X.w) X.A (f (.int i t)) Q E s) :
    UnR X f (rU fun i => .int (g i)) := by
  intro pins s σ H x v Q I rx h
  obtain ⟨i, rfl, q⟩ := h
  obtain ⟨t, rfl⟩ := rx
  exact rule i t s _ _ ⟨.int (g i), H, I.tok _, ⟨_, rfl⟩, q⟩
theorem un_neg : UnR X (unaryOp .USub) (rU fun i => .int (-i)) := unI fun _ _ _ _ _ q => neg_int q
end

noncomputable def scal : V → V → Bool
  | .non, .non => true | .non, .int _ => true | .int _, .non => true | .non, .bl _ => true | .bl _, .non => true | .non, .str _ => true | .str _, .non => true
  | .int _, .int _ => true | .bl _, .bl _ => true | .str _, .str _ => true | .byt _, .byt _ => true
  | .int _, .str _ => true | .str _, .int _ => true | .bl _, .str _ => true | .str _, .bl _ => true
  | _, _ => false
noncomputable def rEq : R2 := fun x y H Q => scal x y = true ∧ Q (.bl (decide (x = y))) H
noncomputable def rNe : R2 := fun x y H Q => scal x y = true ∧ Q (.bl (!decide (x = y))) H

theorem dec_int {i j : Int} : decide (V.int i = V.int j) = (i == j) := by
  rw [Bool.eq_iff_iff]
  simp
theorem dec_bl {i j : Bool} : decide (V.bl i = V.bl j) = (i == j) := by
  rw [Bool.eq_iff_iff]
  simp
theorem dec_str {i j : Str} : decide (V.str i = V.str j) = (i == j) := by
  rw [Bool.eq_iff_iff]
  simp
theorem dec_byt {i j : Array UInt8} : decide (V.byt i = V.byt j) = (i.toList == j.toList) := by
  rw [Bool.eq_iff_iff]
  cases i
  cases j
  simp

section
variable {X : Cx} {a b c : Expr} {ta tb tc : TE} {pos : Pos}
theorem fin_bl {pins : List (Addr × Obj)} {σ : St} {H : Hp} {s : Shared} {Q : VK} {k k' : Bool} (I : Inv X pins σ H s) (q : Q (.bl k) H) (e : k = k') : EP X pins σ Q (.bool k') s := by
  subst e
  exact ⟨.bl k, H, I, rfl, q⟩
theorem op_eq : OpR X (compareOp .Eq) rEq := by
  intro pins s σ H x y v u Q I rx ry h
  obtain ⟨hs, q⟩ := h
  cases x with
  | non =>
    cases rx
    cases y with
    | non => cases ry; exact PySem.EqNone.eq_none_none (fin_bl I q (by simp))
    | bl j => cases ry; exact PySem.EqNone.eq_none_bool (fin_bl I q (by simp))
    | int j => obtain ⟨t', rfl⟩ := ry; exact PySem.EqNone.eq_none_int (fin_bl I q (by simp))
    | str j => obtain ⟨t', rfl⟩ := ry; exact PySem.EqNone.eq_none_str (fin_bl I q (by simp))
    | _ => exact absurd (show false = true from hs) Bool.false_ne_true
  | bl i =>
    cases rx
    cases y with
    | non => cases ry; exact PySem.EqNone.eq_bool_none (fin_bl I q (by simp))
    | bl j => cases ry; exact eq_bool (fin_bl I q dec_bl)
    | str j => obtain ⟨t', rfl⟩ := ry; exact PySem.EqMixed.eq_bool_str (fin_bl I q (by simp))
    | _ => exact absurd (show false = true from hs) Bool.false_ne_true
  | int i =>
    obtain ⟨t, rfl⟩ := rx
    cases y with
    | non => cases ry; exact PySem.EqNone.eq_int_none (fin_bl I q (by simp))
    | int j => obtain ⟨t', rfl⟩ := ry; exact eq_int (fin_bl I q dec_int)
    | str j => obtain ⟨t', rfl⟩ := ry; exact PySem.EqMixed.eq_int_str (fin_bl I q (by simp))
    | _ => exact absurd (show false = true from hs) Bool.false_ne_true
  | str i =>
    obtain ⟨t, rfl⟩ := rx
    cases y with
    | non => cases ry; exact PySem.EqNone.eq_str_none (fin_bl I q (by simp))
    | bl j => cases ry; exact PySem.EqMixed.eq_str_bool (fin_bl I q (by simp))
    | int j => obtain ⟨t', rfl⟩ := ry; exact PySem.EqMixed.eq_str_int (fin_bl I q (by simp))
    | str j => obtain ⟨t', rfl⟩ := ry; exact eq_str (fin_bl I q dec_str)
    | _ => exact absurd (show false = true from hs) Bool.false_ne_true
  | byt i =>
    obtain ⟨t, rfl⟩ := rx
    cases y with
    | byt j => obtain ⟨t', rfl⟩ := ry; exact PySem.W.eq_bytes (fin_bl I q dec_byt)
    | _ => exact absurd (show false = true from hs) Bool.false_ne_true
  | _ => cases y <;> exact absurd (show false = true from hs) Bool.false_ne_true
theorem op_ne : OpR X (compareOp .NotEq) rNe := by
  intro pins s σ H x y v u Q I rx ry h
  obtain ⟨hs, q⟩ := h
  cases x with
  | non =>
    cases rx
    cases y with
    | non => cases ry; exact PySem.EqNone.ne_none_none (fin_bl I q (by simp))
    | bl j => cases ry; exact PySem.EqNone.ne_none_bool (fin_bl I q (by simp))
    | int j => obtain ⟨t', rfl⟩ := ry; exact PySem.EqNone.ne_none_int (fin_bl I q (by simp))
    | str j => obtain ⟨t', rfl⟩ := ry; exact PySem.EqNone.ne_none_str (fin_bl I q (by simp))
    | _ => exact absurd (show false = true from hs) Bool.false_ne_true
  | bl i =>
    cases rx
    cases y with
    | non => cases ry; exact PySem.EqNone.ne_bool_none (fin_bl I q (by simp))
    | bl j => cases ry; exact ne_bool (fin_bl I q (congrArg not dec_bl))
    | str j => obtain ⟨t', rfl⟩ := ry; exact PySem.EqMixed.ne_bool_str (fin_bl I q (by simp))
    | _ => exact absurd (show false = true from hs) Bool.false_ne_true
  | int i =>
    obtain ⟨t, rfl⟩ := rx
    cases y with
    | non => cases ry; exact PySem.EqNone.ne_int_none (fin_bl I q (by simp))
    | int j => obtain ⟨t', rfl⟩ := ry; exact ne_int (fin_bl I q (congrArg not dec_int))
    | str j => obtain ⟨t', rfl⟩ := ry; exact PySem.EqMixed.ne_int_str (fin_bl I q (by simp))
    | _ => exact absurd (show false = true from hs) Bool.false_ne_true
  | str i =>
    obtain ⟨t, rfl⟩ := rx
    cases y with
    | non => cases ry; exact PySem.EqNone.ne_str_none (fin_bl I q (by simp))
    | bl j => cases ry; exact PySem.EqMixed.ne_str_bool (fin_bl I q (by simp))
    | int j => obtain ⟨t', rfl⟩ := ry; exact PySem.EqMixed.ne_str_int (fin_bl I q (by simp))
    | str j => obtain ⟨t', rfl⟩ := ry; exact ne_str (fin_bl I q (congrArg not dec_str))
    | _ => exact absurd (show false = true from hs) Bool.false_ne_true
  | byt i =>
    obtain ⟨t, rfl⟩ := rx
    cases y with
    | byt j => obtain ⟨t', rfl⟩ := ry; exact PySem.W.ne_bytes (fin_bl I q (congrArg not dec_byt))
    | _ => exact absurd (show false = true from hs) Bool.false_ne_true
  | _ => cases y <;> exact absurd (show false = true from hs) Bool.false_ne_true

theorem op_lt : OpR X (compareOp .Lt) (rI0 fun i j => .bl (decide (i < j))) := opB0 fun _ _ _ _ _ _ _ q => lt_int q
theorem op_le : OpR X (compareOp .LtE) (rI0 fun i j => .bl (decide (i ≤ j))) := opB0 fun _ _ _ _ _ _ _ q => le_int q
theorem op_gt : OpR X (compareOp .Gt) (rI0 fun i j => .bl (decide (j < i))) := opB0 fun _ _ _ _ _ _ _ q => gt_int q
theorem op_notN : OpR X (compareOp .IsNot) (fun x y H Q => y = .non ∧ Q (.bl (!decide (x = .non))) H) := by
  intro pins s σ H x y v u Q I rx ry h
  obtain ⟨rfl, q⟩ := h
  cases ry
  refine isnot_none_gen (fin_bl I q ?_)
  cases x <;> first
    | (cases rx; rfl)
    | (obtain ⟨t, rfl⟩ := rx; rfl)

theorem nomark (b : Expr) {op : CmpOp} (h : op ≠ .In := by decide) (h2 : op ≠ .NotIn := by decide) : behindInMarks op b = false := by
  have e1 : (op == CmpOp.In) = false := by cases op <;> first | rfl | exact absurd rfl h
  have e2 : (op == CmpOp.NotIn) = false := by cases op <;> first | rfl | exact absurd rfl h2
  cases b <;> simp [behindInMarks, e1, e2]
theorem pe_cmpR {op : CmpOp} {r : R2} (ho : OpR X (compareOp op) r) (ha : PE X a ta) (hb : PE X b tb) (hm : behindInMarks op b = false) : PE X (.Compare a [op] [b] pos) (tOp r ta tb) := by
  intro pins s σ H Q I h
  exact wpAny_Compare1 (binT ha hb I h fun v u s2 x y H2 I2 rx ry q => ho pins s2 σ H2 x y v u Q I2 rx ry q) hm
noncomputable def tTest (t : TE) : TT := fun σ H Q => t σ H fun x H' => ∃ k, x = .bl k ∧ Q k H'
theorem pt_cmpR {op : CmpOp} {r : R2} (ho : OpR X (compareOp op) r) (ha : PE X a ta) (hb : PE X b tb) (hm : behindInMarks op b = false) : PT X (.Compare a [op] [b] pos) (tTest (tOp r ta tb)) := by
  intro pins s σ H Q I h
  refine wpAny_isTrue_Compare1 (thn (ha pins s σ H _ I h) fun v s1 ⟨x, H1, I1, r1, q1⟩ => thn (hb pins s1 σ H1 _ I1 q1) fun u s2 ⟨y, H2, I2, r2, q2⟩ =>
    thn (ho pins s2 σ H2 x y v u _ I2 r1 r2 q2) fun c s3 ⟨z, H3, I3, r3, k, e, q3⟩ => ?_) hm
  subst e
  cases r3
  exact wpAny_truthy_bool ⟨H3, I3, q3⟩
noncomputable def tChain (r r' : R2) (ta tb tc : TE) : TE := fun σ H Q => ta σ H fun x H1 => tb σ H1 fun y H2 => r x y H2 fun z H3 => ∃ k, z = .bl k ∧
  (if k = true then tc σ H3 fun w' H4 => r' y w' H4 Q else Q (.bl false) H3)
theorem pt_chain {op op' : CmpOp} {r r' : R2} (ho : OpR X (compareOp op) r) (ho' : OpR X (compareOp op') r') (ha : PE X a ta) (hb : PE X b tb) (hc : PE X c tc)
    (hm : lastMarks [op, op'] [b, c] = false := by with_unfolding_all rfl) : PT X (.Compare a [op, op'] [b, c] pos) (tTest (tChain r r' ta tb tc)) := by
  intro pins s σ H Q I h
  refine isTrue_chain (thn (ha pins s σ H _ I h) fun v s1 ⟨x, H1, I1, r1, q1⟩ => test_link (thn (hb pins s1 σ H1 _ I1 q1) fun u s2 ⟨y, H2, I2, r2, q2⟩ =>
    thn (ho pins s2 σ H2 x y v u _ I2 r1 r2 q2) fun d s3 ⟨z, H3, I3, r3, k, e, q3⟩ => ?_)) hm
  subst e
  cases r3
  refine wpAny_truthy_bool ?_
  cases k with
  | false =>
    obtain ⟨k', e', q'⟩ := q3
    cases e'
    exact ite_ff ⟨H3, I3, q'⟩
  | true =>
    refine ite_tt (test_last (thn (hc pins s3 σ H3 _ I3 q3) fun w' s4 ⟨z', H4, I4, r4, q4⟩ => thn (ho' pins s4 σ H4 y z' u w' _ I4 r2 r4 q4) fun d' s5 ⟨z2, H5, I5, r5, k2, e2, q5⟩ => ?_))
    subst e2
    cases r5
    exact wpAny_truthy_bool ⟨H5, I5, q5⟩

theorem line63 : (sizeLine : Nat) < 2 ^ 63 := by rw [sizeLine_eq]; decide
theorem op_add_str : OpR X (binaryOp .Add) (fun x y H Q => ∃ i j, x = .str i ∧ y = .str j ∧ i.length + j.length ≤ sizeLine ∧ Q (.str (i ++ j)) H) := by
  intro pins s σ H x y v u Q I rx ry h
  obtain ⟨i, j, rfl, rfl, hz, q⟩ := h
  obtain ⟨t, rfl⟩ := rx
  obtain ⟨t', rfl⟩ := ry
  exact add_str (fun t' tk => ⟨.str (i ++ j), H, I.tok _, ⟨_, rfl⟩, q⟩) hz
theorem vals1 {x : V} {us : List Value} (r : Vals [x] us) : ∃ u, us = [u] ∧ RelV x u := by
  cases r with
  | cons r1 r2 => cases r2; exact ⟨_, rfl, r1⟩
theorem vals2 {x y : V} {us : List Value} (r : Vals [x, y] us) : ∃ u w', us = [u, w'] ∧ RelV x u ∧ RelV y w' := by
  cases r with
  | cons r1 r2 =>
    cases r2 with
    | cons r3 r4 => cases r4; exact ⟨_, _, rfl, r1, r3⟩
theorem call_min2 (hc : X.calm = true) : CallR X (.builtin "min") (fun xs H Q => ∃ i j, xs = [.int i, .int j] ∧ Q (.int (if j < i then j else i)) H) := by
  intro pins s σ H xs us Q I r h
  obtain ⟨i, j, rfl, q⟩ := h
  obtain ⟨u, w', rfl, ⟨t, rfl⟩, ⟨t', rfl⟩⟩ := vals2 r
  refine min_two_ints (I.ok.hd hc) fun h' tk k => ⟨_, H, I.kept k, ?_, q⟩
  by_cases hj : j < i
  · rw [if_pos hj, if_pos hj]; exact ⟨_, rfl⟩
  · rw [if_neg hj, if_neg hj]; exact ⟨_, rfl⟩
theorem call_int1 : CallR X (.type "int") (fun xs H Q => (∃ i, xs = [.int i] ∧ Q (.int i) H) ∨ ∃ k, xs = [.bl k] ∧ Q (.int (if k then 1 else 0)) H) := by
  intro pins s σ H xs us Q I r h
  rcases h with ⟨i, rfl, q⟩ | ⟨k, rfl, q⟩
  · obtain ⟨u, rfl, t, rfl⟩ := vals1 r
    exact call_int_int ⟨.int i, H, I, ⟨_, rfl⟩, q⟩
  · obtain ⟨u, rfl, r1⟩ := vals1 r
    cases r1
    exact call_int_bool ⟨.int (if k then 1 else 0), H, I.tok _, ⟨_, rfl⟩, q⟩
end
end L2

namespace L2
open PySem PySem.Spec PyProof.Rows

structure ObjM (h : Heap) (x dx C : Addr) (mA : Str → Option Value) : Prop where
  obj : h.get? x = some (PySem.W.instObj C dx)
  ns : h.Ns1 dx mA
  ne : dx ≠ x

theorem lookIn_ns {h : Heap} {dx : Addr} {mA : Str → Option Value} (n : h.Ns1 dx mA) : ∃ od, h.get? dx = some od ∧ ∀ name, PySem.W.lookIn name od = some (mA name) := by
  obtain ⟨o, es, ep, ho, hd, hk, _, hm⟩ := n
  refine ⟨o, ho, fun name => ?_⟩
  have e := hm name
  unfold nsFind findBy at e
  rw [← Array.find?_toList] at e
  unfold PySem.W.lookIn
  rw [hd]
  dsimp only
  split
  · rename_i y q
    rw [q] at e
    exact congrArg some e
  · rename_i q
    rw [q] at e
    have a : es.toList.any (·.refKey) = false := by
      rw [List.any_eq_false]
      intro y hy
      obtain ⟨z, t, hkey⟩ := hk y (Array.mem_toList_iff.mp hy)
      simp [DictEntry.refKey, hkey]
    have a' : ¬ es.toList.any (·.refKey) = true := by rw [a]; exact Bool.false_ne_true
    rw [if_neg a']
    exact congrArg some e

theorem ObjM.look {h : Heap} {x dx C : Addr} {mA : Str → Option Value} (I : ObjM h x dx C mA) : ∃ od, PySem.W.InstAt h x (PySem.W.instObj C dx) C (some od) ∧ ∀ name, PySem.W.lookIn name od = some (mA name) :=
  let ⟨od, ho, hl⟩ := lookIn_ns I.ns
  ⟨od, ⟨I.obj, rfl, rfl, ho⟩, hl⟩

section
variable {prog : Program} {w : World} {A : Around} {E : Value → Shared → Prop} {s : Shared} {K : PySem.W.Frag} {x dx C f : Addr} {mA : Str → Option Value} {name : Str} {v : Value}

theorem get_map {expr : Bool} {Q : Value → Shared → Prop} (X : K.In s.heap) (I : ObjM s.heap x dx C mA) (hg : PySem.W.plainGet K C name = true) (hh : PySem.W.hasDictIn K C = true)
    (ha : PySem.W.findIn K (.ref C) name = some none) (hv : mA name = some v) (hv' : PySem.W.handedIn v = true) (h : Q v { s with toks := s.toks + 1 }) :
    wpAny (model prog w) A (getAttr (.ref x) name expr) Q E s := by
  obtain ⟨od, J, hl⟩ := I.look
  exact PySem.W.get_value X J (PySem.W.plainGet_of hg).1 (PySem.W.findObj_own hh ha rfl (by rw [hl, hv])) hv' h

theorem get_meth {pl : Sem Bool} {Q : Value × List Value → Shared → Prop} (X : K.In s.heap) (I : ObjM s.heap x dx C mA) (hg : PySem.W.plainGet K C name = true)
    (hf : PySem.W.findIn K (.ref C) name = some (some (.ref f))) (ht : PySem.W.isFn K (.ref f) = true) (hv : mA name = none) (h : Q (.ref f, [.ref x]) s) :
    wpAny (model prog w) A (getMethod (.ref x) name pl) Q E s := by
  obtain ⟨od, J, hl⟩ := I.look
  exact PySem.W.method_fn X J (PySem.W.plainGet_of hg).1 (PySem.W.plainGet_of hg).2 hf (beq_iff_eq.mp ht) (by show (PySem.W.lookIn name od).map (·.isSome) = some false; rw [hl, hv]; rfl) h

theorem set_map {ns : List Str} {Q : Unit → Shared → Prop} (X : K.In s.heap) (I : ObjM s.heap x dx C mA)
    (hs : PySem.W.findIn K (.ref C) "__setattr__" = some (some (.builtin "object.__setattr__"))) (hp : PySem.W.plainOver K C = true) (ht : PySem.W.takerIn K C name = some none) (hh : PySem.W.hasDictIn K C = true)
    (hw : PySem.Within mA ns) (hsz : ns.length ≤ sizeLine)
    (h : ∀ h', ObjM h' x dx C (fun y => if y = name then some v else mA y) → Heap.SameBut dx s.heap h' → Q () { s with heap := h', toks := s.toks + 2 }) :
    wpAny (model prog w) A (setAttr (.ref x) name v) Q E s := by
  obtain ⟨od, J, hl⟩ := I.look
  refine PySem.W.set_plain X J hs (PySem.W.osa_open (s := { s with toks := s.toks + 1 }) (r := none) X J hp ht fun b => ?_)
  obtain ⟨cd, hc, hd'⟩ := PySem.W.any_some hh
  have hx : s.heap.get? x = some ⟨.ref C, some dx, .plain, #[]⟩ := I.obj
  refine wpAny_bind (wpAny_pure (wpAny_bind (wpAny_bind (wpAny_loadPart hx (wpAny_bind (PySem.W.Looks.here (s := { s with toks := s.toks + 1 }) (PySem.W.looks_clsIn X hc) ?_))))))
  rw [hd']
  refine wpAny_pure (a := some dx) (wpAny_bind (wpAny_pure (wpAny_bind ?_)))
  refine wpAny_nsSet1 (s := { s with toks := s.toks + 1 }) I.ns fun h' hn2 hs2 => ?_
  obtain ⟨oD, esD, epD, hoD, hdD, hcD⟩ := hn2.count (PySem.Within.cons name v hw)
  refine wpAny_bind (wpAny_lookBehind hoD (by rw [hdD]; exact pastItsLine_dict (Nat.le_trans hcD (by rw [List.length_cons]; omega))) ?_)
  exact wpAny_pure (h _ ⟨(hs2.2 _ (Ne.symm I.ne)).trans I.obj, hn2, I.ne⟩ hs2)

theorem make_map {R : Result → Shared → Prop} {vs : List Value} {kw : List (Str × Value)} (X : K.In s.heap) (hm : PySem.W.makesIn K C = true)
    (hi : PySem.W.findIn K (.ref C) "__init__" = some (some (.ref f))) (hf : PySem.W.typeIn K (.ref f) = some (.type "function"))
    (h : codeAny (model prog w) (A.under (.builtin "type.__call__" ⟨.ref C :: vs, kw⟩)) (.call (.ref f) ⟨.ref (s.heap.objs.size + 1) :: vs, kw⟩) (PySem.W.InitBack (s.heap.objs.size + 1) R)
      { s with heap := (s.heap.push PySem.W.emptyDict).push (PySem.W.instObj C s.heap.objs.size) }) :
    codeAny (model prog w) A (.call (.ref C) ⟨vs, kw⟩) R s := by
  obtain ⟨hh, g, d, t, os⟩ := s
  exact PySem.W.make_core (PySem.W.makes_of X hm) (PySem.W.looks_findIn X hi) (fun self => PySem.W.bind_fn X self hf) (.inl rfl) h
end

noncomputable def putF (f : Str) (v : V) : List (Str × V) → List (Str × V)
  | [] => [(f, v)]
  | (g, x) :: r => if g = f then (g, v) :: r else (g, x) :: putF f v r
theorem lookup_putF (f g : Str) (v : V) : ∀ fs : List (Str × V), (putF f v fs).lookup g = if g = f then some v else fs.lookup g
  | [] => by
    show List.lookup g [(f, v)] = _
    by_cases h : g = f
    · have hb : (g == f) = true := beq_iff_eq.mpr h
      simp only [List.lookup, hb, if_pos h]
    · have hb : (g == f) = false := beq_eq_false_iff_ne.mpr h
      simp only [List.lookup, hb, if_neg h]
  | (k, x) :: r => by
    have ih := lookup_putF f g v r
    rw [show putF f v ((k, x) :: r) = (if k = f then (k, v) :: r else (k, x) :: putF f v r) from rfl]
    by_cases hk : k = f
    · rw [if_pos hk]
      by_cases h : g = k
      · have hb : (g == k) = true := beq_iff_eq.mpr h
        simp only [List.lookup, hb, if_pos (h.trans hk)]
      · have hb : (g == k) = false := beq_eq_false_iff_ne.mpr h
        simp only [List.lookup, hb, if_neg (fun e : g = f => h (e.trans hk.symm))]
    · rw [if_neg hk]
      by_cases h : g = k
      · have hb : (g == k) = true := beq_iff_eq.mpr h
        simp only [List.lookup, hb, if_neg (fun e : g = f => hk (h.symm.trans e))]
      · have hb : (g == k) = false := beq_eq_false_iff_ne.mpr h
        simp only [List.lookup, hb]
        exact ih
theorem keys_putF (f : Str) (v : V) : ∀ fs : List (Str × V), f ∈ (putF f v fs).map (·.1) ∧ ∀ g, g ∈ fs.map (·.1) → g ∈ (putF f v fs).map (·.1)
  | [] => ⟨by simp [putF], fun g h => by simp at h⟩
  | (k, x) :: r => by
    obtain ⟨i1, i2⟩ := keys_putF f v r
    rw [show putF f v ((k, x) :: r) = (if k = f then (k, v) :: r else (k, x) :: putF f v r) from rfl]
    by_cases hk : k = f
    · rw [if_pos hk]
      subst hk
      exact ⟨by simp, fun g h => by simpa using h⟩
    · rw [if_neg hk]
      refine ⟨?_, fun g h => ?_⟩
      · rw [List.map_cons]
        exact List.mem_cons_of_mem _ i1
      · rw [List.map_cons] at h ⊢
        rcases List.mem_cons.mp h with e | e
        · exact List.mem_cons.mpr (.inl e)
        · exact List.mem_cons_of_mem _ (i2 g e)
theorem length_putF (f : Str) (v : V) : ∀ fs : List (Str × V), (putF f v fs).length ≤ fs.length + 1
  | [] => by simp [putF]
  | (k, x) :: r => by
    have ih := length_putF f v r
    rw [show putF f v ((k, x) :: r) = (if k = f then (k, v) :: r else (k, x) :: putF f v r) from rfl]
    by_cases hk : k = f
    · rw [if_pos hk, List.length_cons, List.length_cons]; omega
    · rw [if_neg hk, List.length_cons, List.length_cons]; omega

theorem RelO.some_of {v : V} {o : Option Value} (r : RelO (some v) o) : ∃ u, o = some u ∧ RelV v u := by
  cases o with
  | none => exact (show False from r).elim
  | some u => exact ⟨u, rfl, r⟩
theorem RelO.none_of {o : Option Value} (r : RelO none o) : o = none := by
  cases o with
  | none => rfl
  | some u => exact (show False from r).elim
theorem handed_of {v : V} {u : Value} (r : RelV v u) : PySem.W.handedIn u = true := by
  cases v with
  | non => cases (show u = Value.none from r); rfl
  | bl b => cases (show u = Value.bool b from r); rfl
  | int i => obtain ⟨t, e⟩ := (show ∃ t, u = Value.int i t from r); cases e; rfl
  | str x => obtain ⟨t, e⟩ := (show ∃ t, u = Value.str x t from r); cases e; rfl
  | byt b => obtain ⟨t, e⟩ := (show ∃ t, u = Value.bytes b t from r); cases e; rfl
  | flt b => obtain ⟨t, e⟩ := (show ∃ t, u = Value.float b t from r); cases e; rfl
  | ref a => cases (show u = Value.ref a from r); rfl
  | ty n => cases (show u = Value.type n from r); rfl

section
variable {P : Program} {w : World} {H H' : Hp} {h h' : Heap} {a C dx : Addr} {fs fs' : List (Str × V)}
theorem ins_get (hok : HOk P w H h) (e : H a = some (.ins C dx fs)) : ∃ mA, ObjM h a dx C mA ∧ (∀ f, RelO (fs.lookup f) (mA f)) ∧ PySem.Within mA (fs.map (·.1)) ∧ fs.length ≤ 1000 ∧ H dx = some (.own a) := by
  obtain ⟨d, z, ne, ob, mA, n, r, q⟩ := (show ObjOk P w H h a (.ins C dx fs) from hok a _ e)
  exact ⟨mA, ⟨ob, n, ne⟩, r, q, z, d⟩
end

structure Cls (K : PySem.W.Frag) (C : Addr) : Prop where
  pg : PySem.W.plainGet K C Str.empty = true
  hd : PySem.W.hasDictIn K C = true
  po : PySem.W.plainOver K C = true
  sa : PySem.W.findIn K (.ref C) "__setattr__" = some (some (.builtin "object.__setattr__"))
theorem Cls.get {K : PySem.W.Frag} {C : Addr} (c : Cls K C) (f : Str) : PySem.W.plainGet K C f = true := c.pg
noncomputable def NoAttr (K : PySem.W.Frag) (C : Addr) (f : Str) : Prop := PySem.W.findIn K (.ref C) f = some none
theorem NoAttr.taker {K : PySem.W.Frag} {C : Addr} {f : Str} (n : NoAttr K C f) : PySem.W.takerIn K C f = some none := by
  unfold PySem.W.takerIn
  rw [show PySem.W.findIn K (.ref C) f = some none from n]
  rfl
structure Meth (K : PySem.W.Frag) (C : Addr) (m : Str) (f : Addr) : Prop where
  at_ : PySem.W.findIn K (.ref C) m = some (some (.ref f))
  fn : PySem.W.isFn K (.ref f) = true
  kp : PySem.W.keepIn K (.ref f) = true

section
variable {X : Cx} {pins : List (Addr × Obj)} {σ : St} {H : Hp} {s : Shared} {a C dx : Addr} {fs : List (Str × V)} {f : Str} {v : V} {A : Around} {E : Value → Shared → Prop}

theorem getattr_ok {b : Bool} {Q : Value → Shared → Prop} (I : Inv X pins σ H s) (e : H a = some (.ins C dx fs)) (c : Cls X.K C) (n : NoAttr X.K C f) (l : fs.lookup f = some v)
    (h : ∀ u s', Inv X pins σ H s' → RelV v u → Q u s') : wpAny (model X.prog X.w) A (getAttr (.ref a) f b) Q E s := by
  obtain ⟨mA, O, r, _, _, _⟩ := ins_get I.hok e
  obtain ⟨u, hu, ru⟩ := RelO.some_of (v := v) (o := mA f) (by rw [← l]; exact r f)
  exact get_map I.kIn O (c.get f) c.hd n hu (handed_of ru) (h u _ (I.tok _) ru)

theorem getmeth_ok {m : Str} {g : Addr} {pl : Sem Bool} {Q : Value × List Value → Shared → Prop} (I : Inv X pins σ H s) (e : H a = some (.ins C dx fs)) (c : Cls X.K C) (k : Meth X.K C m g) (l : fs.lookup m = none)
    (h : Q (.ref g, [.ref a]) s) : wpAny (model X.prog X.w) A (getMethod (.ref a) m pl) Q E s := by
  obtain ⟨mA, O, r, _, _, _⟩ := ins_get I.hok e
  have hn : mA m = none := RelO.none_of (by rw [← l]; exact r m)
  exact get_meth I.kIn O (c.get m) k.at_ k.fn hn h

theorem setattr_ok {y : V} {u : Value} {Q : Unit → Shared → Prop} (I : Inv X pins σ H s) (e : H a = some (.ins C dx fs)) (c : Cls X.K C) (n : NoAttr X.K C f) (hl : fs.length < 1000) (ry : RelV y u)
    (h : ∀ s', Inv X pins σ (upd H a (.ins C dx (putF f y fs))) s' → Q () s') : wpAny (model X.prog X.w) A (setAttr (.ref a) f u) Q E s := by
  obtain ⟨mA, O, r, wi, _, ho⟩ := ins_get I.hok e
  have hz : (fs.map (·.1)).length ≤ sizeLine := by rw [List.length_map, sizeLine_eq]; omega
  refine set_map I.kIn O c.sa c.po n.taker c.hd wi hz fun h' O' sb => h _ ?_
  have hd : ∃ o, h'.get? dx = some o := let ⟨o, _, _, e', _⟩ := O'.ns; ⟨o, e'⟩
  refine I.write (x := a) (e := dx) (by rw [e]; exact True.intro) (.inr ho) (fun b q hb z => (sb.2 b hb).trans z) hd ?_
  refine ⟨by rw [upd_ne O.ne]; exact ho, ?_, O.ne, O'.obj, _, O'.ns, fun g => ?_, fun g hg => ?_⟩
  · have := length_putF f y fs; omega
  · show RelO ((putF f y fs).lookup g) (if g = f then some u else mA g)
    rw [lookup_putF]
    by_cases q : g = f
    · rw [if_pos q, if_pos q]; exact ry
    · rw [if_neg q, if_neg q]; exact r g
  · by_cases q : g = f
    · rw [q]; exact (keys_putF f y fs).1
    · refine (keys_putF f y fs).2 g (wi g fun z => hg ?_)
      show (if g = f then some u else mA g) = none
      rw [if_neg q]; exact z

theorem Inv.made (I : Inv X pins σ H s) : Inv X pins σ (upd (upd H s.heap.objs.size (.own (s.heap.objs.size + 1))) (s.heap.objs.size + 1) (.ins C s.heap.objs.size []))
    { s with heap := (s.heap.push PySem.W.emptyDict).push (PySem.W.instObj C s.heap.objs.size) } := by
  have e1 : (s.heap.push PySem.W.emptyDict).get? s.heap.objs.size = some PySem.W.emptyDict := Heap.get?_push_size s.heap rfl
  have e2 : ((s.heap.push PySem.W.emptyDict).push (PySem.W.instObj C s.heap.objs.size)).get? (s.heap.objs.size + 1) = some (PySem.W.instObj C s.heap.objs.size) := by
    have := Heap.get?_push_size (s.heap.push PySem.W.emptyDict) (o := PySem.W.instObj C s.heap.objs.size) rfl
    rwa [Heap.size_push] at this
  have e3 : (s.heap.push PySem.W.emptyDict).Ns s.heap.objs.size (fun _ => none) := ⟨PySem.W.emptyDict, #[], _, e1, rfl, (fun e he => absurd he (by simp)), fun _ => rfl⟩
  have I1 := I.laid (a := s.heap.objs.size) (o := .own (s.heap.objs.size + 1)) (h' := s.heap.push PySem.W.emptyDict) (t' := s.toks) (fun b u q => Heap.get?_push_of_some _ q) (Nat.le_refl _) ⟨_, e1⟩
  refine I1.laid (a := s.heap.objs.size + 1) (o := .ins C s.heap.objs.size []) (t' := s.toks) (fun b u q => Heap.get?_push_of_some _ q) (Nat.le_of_eq (Heap.size_push _ _)) ?_
  have ne : s.heap.objs.size ≠ s.heap.objs.size + 1 := Nat.ne_of_lt (Nat.lt_succ_self _)
  refine ⟨by rw [upd_ne ne, upd_same], Nat.zero_le _, ne, e2, fun _ => none, (Heap.Ns1.of_empty e3).at fun o q => Heap.get?_push_of_some _ q, fun _ => True.intro, fun y hy => absurd rfl hy⟩

theorem attr_of {prog : Program} {w : World} {env : Env} {e : Expr} {f : Str} {pos : Pos} {s : Shared} {Q : Value → Shared → Prop} (hb : attributeBase e f env (eval e env) = eval e env)
    (h : wpAny (model prog w) A (eval e env) (fun o s₁ => wpAny (model prog w) A (getAttr o f true) Q E s₁) E s) : wpAny (model prog w) A (eval (.Attribute e f pos) env) Q E s :=
  Attribute_any_ h (by rw [arm_eval_Attribute, hb])
end

noncomputable def tFld (K : PySem.W.Frag) (ta : TE) (f : Str) : TE := fun σ H Q => ta σ H fun x H1 => ∃ a C dx fs v, x = .ref a ∧ H1 a = some (.ins C dx fs) ∧ Cls K C ∧ NoAttr K C f ∧ fs.lookup f = some v ∧ Q v H1
noncomputable def sFld (K : PySem.W.Frag) (ta tv : TE) (f : Str) : TS := fun D σ H => tv σ H fun y H1 => ta σ H1 fun x H2 => ∃ a C dx fs, x = .ref a ∧ H2 a = some (.ins C dx fs) ∧ Cls K C ∧ NoAttr K C f ∧ fs.length < 1000 ∧
  D.nx σ (upd H2 a (.ins C dx (putF f y fs)))
section
variable {X : Cx} {o e value : Expr} {f : Str} {pos pos' tpos : Pos} {ta tv : TE}
theorem pe_fld (he : PE X e ta) (hb : attributeBase e f X.env (eval e X.env) = eval e X.env) : PE X (.Attribute e f pos) (tFld X.K ta f) := by
  intro pins s σ H Q I h
  refine attr_of hb (thn (he pins s σ H _ I h) fun u s1 ⟨x, H1, I1, rx, a, C, dx, fs, v, ex, ea, c, n, l, q⟩ => ?_)
  subst ex
  obtain rfl : u = Value.ref a := rx
  exact getattr_ok I1 ea c n l fun u' s2 I2 ru => ⟨v, H1, I2, ru, q⟩
theorem ps_fld (ha : PE X o ta) (hv : PE X value tv) (hs : swapsWith value (some (.Attribute o f pos')) pos.line X.env = pure false) : PS X (.Assign [.Attribute o f pos'] value pos) (sFld X.K ta tv f) := by
  intro pins s σ H D I h
  refine plainObj_wpAny_Assign_Attribute (thn (hv pins s σ H _ I h) fun u s1 ⟨y, H1, I1, ry, q⟩ => thn (ha pins s1 σ H1 _ I1 q) fun ov s2 ⟨x, H2, I2, rx, a, C, dx, fs, ex, ea, c, n, l, q2⟩ => ?_) hs
  subst ex
  obtain rfl : ov = Value.ref a := rx
  exact setattr_ok I2 ea c n l ry fun s3 I3 => ⟨σ, _, I3, q2⟩
end

section
variable {X : Cx} {pins : List (Addr × Obj)} {σ : St} {H : Hp} {s : Shared} {A : Around} {E : Value → Shared → Prop} {Q : Value → Shared → Prop} {c : Value} {b : Bool}
inductive TyOf (K : PySem.W.Frag) (H : Hp) : V → Value → Prop where
  | non : TyOf K H .non (.type "NoneType")
  | bl (x : Bool) : TyOf K H (.bl x) (.type "bool")
  | int (i : Int) : TyOf K H (.int i) (.type "int")
  | str (x : Str) : TyOf K H (.str x) (.type "str")
  | flt (x : UInt64) : TyOf K H (.flt x) (.type "float")
  | lst {a : Addr} {xs : List V} (e : H a = some (.lst xs)) : TyOf K H (.ref a) (.type "list")
  | frz {a : Addr} {o : Obj} {xs : List V} (e : H a = some (.frz o (.lst xs))) : TyOf K H (.ref a) (.type "list")
  | tup {a : Addr} {xs : List V} (e : H a = some (.tup xs)) : TyOf K H (.ref a) (.type "tuple")
  | dK {a : Addr} {kvs : List (Key × V)} (e : H a = some (.dK kvs)) : TyOf K H (.ref a) (.type "dict")
  | dT {a : Addr} {kvs : List (List Key × V)} (e : H a = some (.dT kvs)) : TyOf K H (.ref a) (.type "dict")
  | ins {a C dx : Addr} {fs : List (Str × V)} (e : H a = some (.ins C dx fs)) (cl : Cls K C) (ha : PySem.W.findIn K (.ref C) "__class__" = some (some (.builtin "object.__class__")))
      (hn : PySem.W.specialIn K (.builtin "object.__class__") "__get__" = some (some (.builtin "getset_descriptor.__get__"))) (htk : PySem.W.takesIn K (.builtin "object.__class__") = some true)
      (hm : PySem.W.mroIn K C (.type "object") = some true) : TyOf K H (.ref a) (.ref C)
theorem isinst_ok {x : V} {u t : Value} (I : Inv X pins σ H s) (rx : RelV x u) (ty : TyOf X.K H x t) (e : PySem.W.kitOne X.K t c = some b) (h : ∀ tk, Q (.bool b) { s with toks := tk }) :
    wpAny (model X.prog X.w) A (call (.builtin "isinstance") [u, c]) Q E s := by
  cases ty with
  | non => cases (show u = Value.none from rx); exact PySem.W.kia_one PySem.W.kitx_none I.kIn True.intro e (fun z => nomatch z) h
  | bl y => cases (show u = Value.bool y from rx); exact PySem.W.kia_one PySem.W.kitx_bool I.kIn True.intro e (fun z => nomatch z) h
  | int i => obtain ⟨t, q⟩ := (show ∃ t, u = Value.int i t from rx); cases q; exact PySem.W.kia_one PySem.W.kitx_int I.kIn True.intro e (fun z => nomatch z) h
  | str y => obtain ⟨t, q⟩ := (show ∃ t, u = Value.str y t from rx); cases q; exact PySem.W.kia_one PySem.W.kitx_str I.kIn True.intro e (fun z => nomatch z) h
  | flt y => obtain ⟨t, q⟩ := (show ∃ t, u = Value.float y t from rx); cases q; exact PySem.W.kia_one PySem.W.kitx_float I.kIn True.intro e (fun z => nomatch z) h
  | @lst a xs ea =>
    cases (show u = Value.ref a from rx)
    obtain ⟨_, _, n, _, h1⟩ := (show ObjOk X.prog X.w H s.heap a (.lst xs) from I.hok a _ ea)
    exact PySem.W.kia_one PySem.W.kitx_list I.kIn ⟨_, h1, rfl⟩ e (fun z => nomatch z) h
  | @frz a ob xs ea =>
    cases (show u = Value.ref a from rx)
    obtain ⟨_, _, _, n, _, h1⟩ := (show ObjOk X.prog X.w H s.heap a (.frz ob (.lst xs)) from I.hok a _ ea)
    exact PySem.W.kia_one PySem.W.kitx_list I.kIn ⟨_, h1, rfl⟩ e (fun z => nomatch z) h
  | @tup a xs ea =>
    cases (show u = Value.ref a from rx)
    obtain ⟨_, _, _, p⟩ := (show ObjOk X.prog X.w H s.heap a (.tup xs) from I.hok a _ ea)
    obtain ⟨o, h1, h2, _⟩ := p
    exact PySem.W.kia_one PySem.W.kitx_tuple I.kIn ⟨o, h1, h2⟩ e (fun z => nomatch z) h
  | @dK a kvs ea =>
    cases (show u = Value.ref a from rx)
    obtain ⟨_, _, vs, _, p⟩ := (show ObjOk X.prog X.w H s.heap a (.dK kvs) from I.hok a _ ea)
    obtain ⟨o, es, ep, h1, h2, _⟩ := p
    exact PySem.W.kia_one PySem.W.kitx_dict I.kIn ⟨o, h1, h2.1⟩ e (fun z => nomatch z) h
  | @dT a kvs ea =>
    cases (show u = Value.ref a from rx)
    obtain ⟨_, _, xs, _, o, es, ep, h1, h2, _⟩ := (show ObjOk X.prog X.w H s.heap a (.dT kvs) from I.hok a _ ea)
    exact PySem.W.kia_one PySem.W.kitx_dict I.kIn ⟨o, h1, h2.1⟩ e (fun z => nomatch z) h
  | @ins a C dx fs ea cl ha hn htk hm =>
    cases (show u = Value.ref a from rx)
    obtain ⟨mA, O, _⟩ := ins_get I.hok ea
    obtain ⟨od, J, _⟩ := O.look
    exact PySem.W.kia_one (PySem.W.kitx_own (cl.get _) cl.hd ha hn htk hm) I.kIn J e (fun z => nomatch z) h
end
end L2

namespace L2
open PySem PySem.Spec PyProof.Rows

structure Room (k : Nat) (A : Around) : Prop where
  hd : A.handled = none
  dp : A.depth + 3 * k + 5 < recursionLimit
  un : A.units + 16 * k + 200 < cLine
  gd : A.guards = some []
theorem Room.mono {j k : Nat} {A : Around} (r : Room k A) (h : j ≤ k) : Room j A := ⟨r.hd, by have := r.dp; omega, by have := r.un; omega, r.gd⟩
theorem Room.deeper {k : Nat} {A : Around} (r : Room (k + 1) A) (env : Env) : Room k (A.deeper env) :=
  ⟨r.hd, by have := r.dp; show A.depth + 1 + 3 * k + 5 < _; omega, by have := r.un; show A.units + 3 + 16 * k + 200 < _; omega, r.gd⟩
theorem make_depth {A : Around} {C : Addr} {us : List Value} {kw : List (Str × Value)} : (A.under (.builtin "type.__call__" ⟨.ref C :: us, kw⟩)).depth = A.depth + 1 := by
  first | rfl | simp [Around.under, Code.weight, Code.isCreation, Code.isGuard, Code.isCaller, Code.frames, Code.isFrame, guardIds]
theorem make_units {A : Around} {C : Addr} {us : List Value} {kw : List (Str × Value)} : (A.under (.builtin "type.__call__" ⟨.ref C :: us, kw⟩)).units = A.units + 1 := by
  first | rfl | simp [Around.under, Code.cUnits, Code.frames, Code.isFrame]
theorem make_guards {A : Around} {C : Addr} {us : List Value} {kw : List (Str × Value)} : (A.under (.builtin "type.__call__" ⟨.ref C :: us, kw⟩)).guards = A.guards := by
  have : Code.guards (.builtin "type.__call__" ⟨.ref C :: us, kw⟩) = [] := by first | rfl | simp [Code.guards, Code.isGuard, guardIds]
  show pushGuards (Code.guards (.builtin "type.__call__" ⟨.ref C :: us, kw⟩)) A.guards = A.guards
  rw [this]
  cases A.guards <;> rfl
theorem Room.make {k : Nat} {A : Around} (r : Room (k + 1) A) (C : Addr) (us : List Value) (kw : List (Str × Value)) : Room k (A.under (.builtin "type.__call__" ⟨.ref C :: us, kw⟩)) :=
  ⟨r.hd, by have := r.dp; rw [make_depth]; omega, by have := r.un; rw [make_units]; omega, by rw [make_guards]; exact r.gd⟩
theorem Room.depth {k : Nat} {A : Around} (r : Room k A) : A.depth < recursionLimit := by have := r.dp; omega
theorem Room.units {k : Nat} {A : Around} (r : Room k A) : A.units + 64 < cLine := by have := r.un; omega
noncomputable def tNil : TA := fun _ H Q => Q [] H
noncomputable def tCons (ta : TE) (tr : TA) : TA := fun σ H Q => ta σ H fun x H1 => tr σ H1 fun xs H2 => Q (x :: xs) H2
section
variable {X : Cx} {e : Expr} {es : List Expr} {te : TE} {t : TA} {pos : Pos}
theorem pa_nil : PA X [] tNil := fun _ _ _ _ H Q I h => Calls.spliced_nil ⟨[], H, I, .nil, h⟩
theorem pa_cons (ha : PE X e te) (hr : PA X es t) (hs : starEach (e :: es) X.env = (false, eval e X.env) :: starEach es X.env := by rfl) : PA X (e :: es) (tCons te t) := by
  intro pos pins s σ H Q I h
  rw [hs]
  show wpAny _ _ (spliced ((false, eval e X.env) :: backTo pos (starEach es X.env))) _ _ s
  refine Calls.spliced_cons (thn (ha pins s σ H _ I h) fun u s1 ⟨x, H1, I1, r1, q1⟩ => ?_)
  exact thn (hr pos pins s1 σ H1 _ I1 q1) fun us s2 ⟨xs, H2, I2, r2, q2⟩ => ⟨x :: xs, H2, I2, .cons r1 r2, q2⟩

noncomputable def tTup (t : TA) : TE := fun σ H Q => t σ H fun xs H1 => xs.length ≤ sizeLine ∧ ∀ p, H1 p = none → Q (.ref p) (upd H1 p (.tup xs))
noncomputable def tLst (t : TA) : TE := fun σ H Q => t σ H fun xs H1 => xs.length ≤ sizeLine ∧ ∀ p, H1 p = none → Q (.ref p) (upd H1 p (.lst xs))
theorem pe_tup {x1} (h : PA X es t) : PE X (.Tuple es x1 pos) (tTup t) := by
  intro pins s σ H Q I hq
  refine wpAny_Tuple_spliced (thn (h pos pins s σ H _ I hq) fun us s1 ⟨xs, H1, I1, r, z, q⟩ => ⟨by rw [← r.length]; exact z, ?_⟩)
  have hf : H1 s1.heap.objs.size = none := I1.hok.fresh (Nat.le_refl _)
  refine ⟨.ref s1.heap.objs.size, upd H1 s1.heap.objs.size (.tup xs), I1.laid (t' := s1.toks) (fun b u e => Heap.get?_push_of_some _ e) (Nat.le_refl _) ?_, rfl, q _ hf⟩
  exact ⟨z, us, r, ⟨_, Heap.get?_push_size _ rfl, rfl, ⟨_, rfl⟩, rfl⟩⟩
theorem pe_lst (h : PA X es t) : PE X (.List es pos) (tLst t) := by
  intro pins s σ H Q I hq
  refine wpAny_List_spliced (thn (h pos pins s σ H _ I hq) fun us s1 ⟨xs, H1, I1, r, z, q⟩ => ⟨by rw [← r.length]; exact z, ?_⟩)
  have hf : H1 s1.heap.objs.size = none := I1.hok.fresh (Nat.le_refl _)
  refine ⟨.ref s1.heap.objs.size, upd H1 s1.heap.objs.size (.lst xs), I1.laid (t' := s1.toks) (fun b u e => Heap.get?_push_of_some _ e) (Nat.le_refl _) ?_, rfl, q _ hf⟩
  exact ⟨z, us, 0, r, Heap.get?_push_size _ rfl⟩
end

noncomputable abbrev Sp := List V → Hp → VK → XK → Prop
noncomputable abbrev CXT := List Env → Hp → Shared → XK → Value → Shared → Prop

structure Env0 (P : Program) (w : World) (K : PySem.W.Frag) (mg : Str → Option Value) (base : Heap) (A : Around) (outer : List Env) (s : Shared) (H : Hp) : Prop where
  frames : A.frames = some outer
  mod : Mod K mg base
  bs : ∀ b o, base.get? b = some o → s.heap.get? b = some o ∧ H b = none
  bsz : base.objs.size ≤ s.heap.objs.size
  funs : s.heap.FunFrames base outer
  frf : ∀ b ∈ frs outer, H b = none
  hok : HOk P w H s.heap
  bare : AllBare s.gens
noncomputable def CE (outer : List Env) (P : Program) (w : World) (H : Hp) (s : Shared) (Q : VK) (u : Value) (s' : Shared) : Prop :=
  ∃ v H', s'.os = s.os ∧ AllBare s'.gens ∧ Un (frs outer) [] H H' s.heap s'.heap ∧ HOk P w H' s'.heap ∧ RelV v u ∧ Q v H'
noncomputable def CR (CX : CXT) (outer : List Env) (P : Program) (w : World) (H : Hp) (s : Shared) (Q : VK) (E : XK) (r : Result) (s' : Shared) : Prop :=
  match r with
  | .ok (.ret u) => CE outer P w H s Q u s'
  | .ok _ => False
  | .error e => CX outer H s E e s'
structure FnOk (P : Program) (w : World) (K : PySem.W.Frag) (mg : Str → Option Value) (base : Heap) (CX : CXT) (k : Nat) (f : Addr) (fd : FuncData) (ps : List Str) (sp : Sp) : Prop where
  len : ∀ vs H Q E, sp vs H Q E → vs.length = ps.length
  run : ∀ (A : Around) (outer : List Env) (s : Shared) (H : Hp) (args : Args) (us : List Value) (vs : List V) (Q : VK) (E : XK), Room k A → Env0 P w K mg base A outer s H → BindsTo s fd args (ps.zip us) → Vals vs us → sp vs H Q E →
    codeAny (model P w) A (.call (.ref f) args) (CR CX outer P w H s Q E) s
theorem Env0.make {P : Program} {w : World} {K : PySem.W.Frag} {mg : Str → Option Value} {base : Heap} {A : Around} {outer : List Env} {s : Shared} {H : Hp} (e : Env0 P w K mg base A outer s H) (C : Addr) (us : List Value) (kw : List (Str × Value)) :
    Env0 P w K mg base (A.under (.builtin "type.__call__" ⟨.ref C :: us, kw⟩)) outer s H := ⟨by first | exact e.frames | (simpa [Around.under, Code.envs, Code.isFrame, pushEnvs] using e.frames), e.mod, e.bs, e.bsz, e.funs, e.frf, e.hok, e.bare⟩
section
variable {X : Cx} {pins : List (Addr × Obj)} {σ : St} {H : Hp} {s s' : Shared}
theorem Inv.env0 (I : Inv X pins σ H s) : Env0 X.prog X.w X.K X.mg X.base X.A X.stack s H :=
  ⟨I.ok.frames, I.ok.mod, I.bs, Nat.le_trans I.ok.bsz I.sz, I.stack, I.stkFree, I.hok, I.bare⟩
theorem Inv.after {Q : VK} {u : Value} (I : Inv X pins σ H s) (h : CE X.stack X.prog X.w H s Q u s') : EP X pins σ Q u s' := by
  obtain ⟨v, H', os, bare, un, hok, r, q⟩ := h
  obtain ⟨hh, g, d, t, os'⟩ := s'
  obtain rfl : os' = s.os := os
  exact ⟨v, H', I.call (h' := hh) (g' := g) (d' := d) (t' := t) (ch := []) un hok bare (fun b z => absurd z (by simp)), r, q⟩
end

noncomputable def tCall (sp : Sp) (dvs : List V) (E : XK) (t : TA) : TE := fun σ H Q => t σ H fun vs H1 => sp (vs ++ dvs) H1 Q E
noncomputable def tMeth (C : Addr) (m : Str) (sp : Sp) (dvs : List V) (E : XK) (ta : TE) (t : TA) : TE := fun σ H Q => ta σ H fun x H1 => ∃ a dx fs, x = .ref a ∧ H1 a = some (.ins C dx fs) ∧ fs.lookup m = none ∧
  t σ H1 fun vs H2 => sp (x :: (vs ++ dvs)) H2 Q E
noncomputable def tMake (C : Addr) (sp : Sp) (dvs : List V) (E : XK) (t : TA) : TE := fun σ H Q => t σ H fun vs H1 => ∀ x dx, H1 x = none → H1 dx = none → dx ≠ x →
  sp (.ref x :: (vs ++ dvs)) (upd (upd H1 dx (.own x)) x (.ins C dx [])) (fun v H2 => v = .non ∧ Q (.ref x) H2) E

noncomputable def Binds (K : PySem.W.Frag) (fd : FuncData) (ps : List Str) (ds : List Value) : Prop :=
  ∀ (s : Shared) (us : List Value), K.In s.heap → (us ++ ds).length = ps.length → BindsTo s fd ⟨us, []⟩ (ps.zip (us ++ ds))
theorem Binds.all {K : PySem.W.Frag} {fd : FuncData} {ps : List Str} (h : ∀ us : List Value, us.length = ps.length → bindArgs fd ⟨us, []⟩ = pure (ps.zip us)) : Binds K fd ps [] := fun s us _ hl => by
  rw [List.append_nil] at hl ⊢
  exact .of_eq (h us hl)

noncomputable def Passes (CX : CXT) (X : Cx) (E : XK) : Prop := ∀ (pins : List (Addr × Obj)) (σ : St) (H : Hp) (s : Shared) (e : Value) (s' : Shared), Inv X pins σ H s → CX X.stack H s E e s' → X.xe e s'

section
variable {X : Cx} {CX : CXT} {k : Nat} {f C : Addr} {fd : FuncData} {ps : List Str} {sp : Sp} {dvs : List V} {ds : List Value} {E : XK} {x m : Str} {p pos apos : Pos} {e o : Expr} {es : List Expr} {ta : TE} {t : TA}

theorem run_fn {pins : List (Addr × Obj)} {σ : St} {H : Hp} {s : Shared} {Q : VK} {us : List Value} {vs : List V} (F : FnOk X.prog X.w X.K X.mg X.base CX k f fd ps sp) (hr : Room k X.A) (hb : Binds X.K fd ps ds) (hd : Vals dvs ds) (hx : Passes CX X E)
    (I : Inv X pins σ H s) (r : Vals vs us) (h : sp (vs ++ dvs) H Q E) : wpAny (model X.prog X.w) X.A (call (.ref f) us) (EP X pins σ Q) X.xe s := by
  have r2 : Vals (vs ++ dvs) (us ++ ds) := r.append hd
  have hl : (us ++ ds).length = ps.length := by rw [← r2.length]; exact F.len _ _ _ _ h
  refine wpAny_call (codeAny_mono (F.run X.A X.stack s H ⟨us, []⟩ (us ++ ds) (vs ++ dvs) Q E hr I.env0 (hb s us I.kIn hl) r2 h) fun r s' hq => ?_)
  cases r with
  | error e => exact hx pins σ H s e s' I hq
  | ok fl =>
    cases fl with
    | ret u => exact I.after hq
    | next => exact False.elim hq
    | brk => exact False.elim hq
    | cont => exact False.elim hq

theorem pe_call (F : FnOk X.prog X.w X.K X.mg X.base CX k f fd ps sp) (hr : Room k X.A) (hg : Gl X x) (hm : X.mg x = some (.ref f)) (hk : PySem.W.keepIn X.K (.ref f) = true) (hb : Binds X.K fd ps ds) (hd : Vals dvs ds) (hx : Passes CX X E)
    (ha : PA X (e :: es) t) (hdb : (x == ("__debug__" : Str)) = false := by decide) (he : starEach (e :: es) X.env = (false, eval e X.env) :: starEach es X.env := by rfl) (hpl : (backTo pos (starEach es X.env)).any (·.1) = false := by rfl) :
    PE X (.Call (.Name x p) (e :: es) [] pos) (tCall sp dvs E t) := by
  intro pins s σ H Q I h
  refine wpAny_Call_Name_kw (ld_glob I hg hm ?_ hdb)
  refine PySem.W.callWith_K (h₀ := X.base) I.ok.mod.kin hk (thn (ha pos pins s σ H _ I h) fun us s1 ⟨vs, H1, I1, r, q⟩ => ⟨I1.kIn, ?_⟩) he hpl
  exact run_fn F hr hb hd hx I1 r q
theorem pe_meth0 {pl : Sem Bool} (he : PE X o ta) (c : Cls X.K C) (hm : Meth X.K C m f) (F : FnOk X.prog X.w X.K X.mg X.base CX k f fd ps sp) (hr : Room k X.A) (hb : Binds X.K fd ps ds) (hd : Vals dvs ds) (hx : Passes CX X E)
    (ht : eval (.Call (.Attribute o m apos) [] [] pos) X.env = (do
      let ov ← eval o X.env
      standAt apos.atName
      let (f, first) ← holding [ov] (getMethod ov m pl)
      callWith pos f first (backTo pos (starEach [] X.env)) (backToKw pos (keywordEach [] X.env))) := by rfl) :
    PE X (.Call (.Attribute o m apos) [] [] pos) (tMeth C m sp dvs E ta tNil) := by
  intro pins s σ H Q I h
  refine PySem.W.methodCall_KW (pl := pl) (thn (he pins s σ H _ I h) fun u s1 ⟨x, H1, I1, rx, a, dx, fs, ex, ea, l, q⟩ => ?_) ht
  subst ex
  obtain rfl : u = Value.ref a := rx
  refine getmeth_ok I1 ea c hm l ?_
  exact PySem.W.callWith_K0 (first := [.ref a]) I1.kIn hm.kp (run_fn (us := [.ref a]) (vs := [.ref a]) F hr hb hd hx I1 (.cons rfl .nil) q)

structure Mk (K : PySem.W.Frag) (C f : Addr) : Prop where
  makes : PySem.W.makesIn K C = true
  init : PySem.W.findIn K (.ref C) "__init__" = some (some (.ref f))
  fn : PySem.W.isFn K (.ref f) = true
  kp : PySem.W.keepIn K (.ref C) = true

theorem run_make {pins : List (Addr × Obj)} {σ : St} {H : Hp} {s : Shared} {Q : VK} {us : List Value} {vs : List V} (M : Mk X.K C f) (F : FnOk X.prog X.w X.K X.mg X.base CX k f fd ps sp) (hr : Room (k + 1) X.A) (hb : Binds X.K fd ps ds) (hd : Vals dvs ds)
    (hx : Passes CX X E) (I : Inv X pins σ H s) (r : Vals vs us)
    (h : ∀ x dx, H x = none → H dx = none → dx ≠ x → sp (.ref x :: (vs ++ dvs)) (upd (upd H dx (.own x)) x (.ins C dx [])) (fun v H2 => v = .non ∧ Q (.ref x) H2) E) :
    wpAny (model X.prog X.w) X.A (call (.ref C) us) (EP X pins σ Q) X.xe s := by
  have hq := h (s.heap.objs.size + 1) s.heap.objs.size (I.hok.fresh (Nat.le_succ _)) (I.hok.fresh (Nat.le_refl _)) (Nat.ne_of_lt (Nat.lt_succ_self _))
  have I2 := Inv.made (C := C) I
  have r2 : Vals (V.ref (s.heap.objs.size + 1) :: (vs ++ dvs)) (Value.ref (s.heap.objs.size + 1) :: (us ++ ds)) := .cons rfl (r.append hd)
  have hl : (Value.ref (s.heap.objs.size + 1) :: us ++ ds).length = ps.length := by
    have e := r2.length
    rw [F.len _ _ _ _ hq] at e
    exact e.symm
  refine wpAny_call (make_map (f := f) I.kIn M.makes M.init (beq_iff_eq.mp M.fn) (codeAny_mono (F.run _ X.stack _ _ ⟨Value.ref (s.heap.objs.size + 1) :: us, []⟩ (Value.ref (s.heap.objs.size + 1) :: (us ++ ds)) _ _ E (hr.make C us [])
    (I2.env0.make C us []) (hb _ (Value.ref (s.heap.objs.size + 1) :: us) I2.kIn hl) r2 hq) fun r s' hq' => ?_))
  cases r with
  | error e => exact hx pins σ _ _ e s' I2 hq'
  | ok fl =>
    cases fl with
    | ret u =>
      obtain ⟨v, H', I3, rv, ev, q3⟩ := I2.after hq'
      subst ev
      exact ⟨rv, ⟨V.ref (s.heap.objs.size + 1), H', I3, rfl, q3⟩⟩
    | next => exact False.elim hq'
    | brk => exact False.elim hq'
    | cont => exact False.elim hq'
theorem pe_make (M : Mk X.K C f) (F : FnOk X.prog X.w X.K X.mg X.base CX k f fd ps sp) (hr : Room (k + 1) X.A) (hg : Gl X x) (hm : X.mg x = some (.ref C)) (hb : Binds X.K fd ps ds) (hd : Vals dvs ds) (hx : Passes CX X E)
    (ha : PA X (e :: es) t) (hdb : (x == ("__debug__" : Str)) = false := by decide) (he : starEach (e :: es) X.env = (false, eval e X.env) :: starEach es X.env := by rfl) (hpl : (backTo pos (starEach es X.env)).any (·.1) = false := by rfl) :
    PE X (.Call (.Name x p) (e :: es) [] pos) (tMake C sp dvs E t) := by
  intro pins s σ H Q I h
  refine wpAny_Call_Name_kw (ld_glob I hg hm ?_ hdb)
  refine PySem.W.callWith_K (h₀ := X.base) I.ok.mod.kin M.kp (thn (ha pos pins s σ H _ I h) fun us s1 ⟨vs, H1, I1, r, q⟩ => ⟨I1.kIn, ?_⟩) he hpl
  exact run_make M F hr hb hd hx I1 r q
end

section
variable {X : Cx} {CX : CXT} {k : Nat} {f C : Addr} {fd : FuncData} {ps ks : List Str} {sp : Sp} {E : XK} {x m : Str} {p pos apos kpos : Pos} {e o : Expr} {es : List Expr} {kws : List Keyword} {te ta : TE} {t tk : TA} {nm : Option Str}
variable {g : List Value → List Value → List Value} {gV : List V → List V → List V}
end

structure FnScope (N P : List Str) (sc : Scope) : Prop where
  kind : sc.kind = .function
  co : sc.isCoroutine = false
  gen : sc.isGenerator = false
  nd : N.Nodup
  pre : N.take P.length = P
  par : ∀ x ∈ P, sc.names.lookup x = some .local ∨ sc.names.lookup x = some .cell
  nofree : ∀ y ∈ sc.names, y.2 ≠ .free

theorem bindL_out {kindOf : Str → Option NameKind} {x : Str} : ∀ {binds : List (Str × Value)} {m : Str → Option Value}, (∀ v, (x, v) ∉ binds) → bindL kindOf binds m x = m x
  | [], _, _ => rfl
  | (n, v) :: r, m, h => by
    unfold bindL
    rw [bindL_out fun w hw => h w (List.mem_cons_of_mem _ hw)]
    split
    · have : x ≠ n := by rintro rfl; exact h v List.mem_cons_self
      simp [this]
    · rfl
theorem bindC_out {kindOf : Str → Option NameKind} {x : Str} : ∀ {binds : List (Str × Value)} {m : Str → Option Value}, (∀ v, (x, v) ∉ binds) → bindC kindOf binds m x = m x
  | [], _, _ => rfl
  | (n, v) :: r, m, h => by
    unfold bindC
    rw [bindC_out fun w hw => h w (List.mem_cons_of_mem _ hw)]
    split
    · rfl
    · have : x ≠ n := by rintro rfl; exact h v List.mem_cons_self
      simp [this]
theorem bindL_get {kindOf : Str → Option NameKind} {x : Str} {v : Value} : ∀ {P : List Str} {vs : List Value} {i : Nat} {m : Str → Option Value}, P.Nodup → P[i]? = some x → vs[i]? = some v → kindOf x = some .local →
    bindL kindOf (P.zip vs) m x = some v
  | [], _, _, _, _, h, _, _ => by simp at h
  | _ :: _, [], _, _, _, _, h, _ => by simp at h
  | p :: P, w :: vs, 0, m, nd, h1, h2, hk => by
    simp at h1 h2; subst h1; subst h2
    show bindL kindOf ((p, w) :: P.zip vs) m p = _
    unfold bindL
    rw [bindL_out fun v hv => (List.nodup_cons.mp nd).1 (List.of_mem_zip hv).1, if_pos hk]
    simp
  | p :: P, w :: vs, i + 1, m, nd, h1, h2, hk => by
    show bindL kindOf ((p, w) :: P.zip vs) m x = _
    unfold bindL
    exact bindL_get (i := i) (List.nodup_cons.mp nd).2 (by simpa using h1) (by simpa using h2) hk
theorem bindC_get {kindOf : Str → Option NameKind} {x : Str} {v : Value} : ∀ {P : List Str} {vs : List Value} {i : Nat} {m : Str → Option Value}, P.Nodup → P[i]? = some x → vs[i]? = some v → kindOf x ≠ some .local →
    bindC kindOf (P.zip vs) m x = some v
  | [], _, _, _, _, h, _, _ => by simp at h
  | _ :: _, [], _, _, _, _, h, _ => by simp at h
  | p :: P, w :: vs, 0, m, nd, h1, h2, hk => by
    simp at h1 h2; subst h1; subst h2
    show bindC kindOf ((p, w) :: P.zip vs) m p = _
    unfold bindC
    rw [bindC_out fun v hv => (List.nodup_cons.mp nd).1 (List.of_mem_zip hv).1, if_neg hk]
    simp
  | p :: P, w :: vs, i + 1, m, nd, h1, h2, hk => by
    show bindC kindOf ((p, w) :: P.zip vs) m x = _
    unfold bindC
    exact bindC_get (i := i) (List.nodup_cons.mp nd).2 (by simpa using h1) (by simpa using h2) hk

noncomputable def start (N : List Str) (vs : List V) : St := vs.map some ++ List.replicate (N.length - vs.length) none

noncomputable def cxOf (CX : CXT) (P : Program) (w : World) (K : PySem.W.Frag) (mg : Str → Option Value) (base : Heap) (N : List Str) (qual : Str) (scope : Scope) (f : Addr) (cd : Value) (A : Around) (outer : List Env) (s : Shared) (H : Hp) (E : XK) : Cx where
  prog := P
  w := w
  K := K
  mg := mg
  base := base
  A := A.deeper (envOfC qual scope s.heap.objs.size f cd)
  N := N
  s₀ := s
  H₀ := H
  env := envOfC qual scope s.heap.objs.size f cd
  outer := outer
  stack := envOfC qual scope s.heap.objs.size f cd :: outer
  ex := []
  calm := true
  fn := fun _ => true
  pn := []
  xe := fun e s' => wpAny (model P w) (A.deeper (envOfC qual scope s.heap.objs.size f cd)) (leaving (envOfC qual scope s.heap.objs.size f cd) e) (fun _ s'' => CX outer H s E e s'') (fun e' s'' => CX outer H s E e' s'') s'

theorem cell_has {sc : Scope} {n : Nat} {x : Str} (h : sc.names.lookup x = some .cell) : ∃ c, (cellsFrom n sc.names []).lookup x = some c := by
  have q := PySem.W.cellsFrom_some sc.names n [] (.inl h)
  exact Option.isSome_iff_exists.mp q

theorem inv_start {CX : CXT} {P : Program} {w : World} {K : PySem.W.Frag} {mg : Str → Option Value} {base : Heap} {N ps : List Str} {qual : Str} {scope : Scope} {f : Addr} {cd : Value} {A : Around} {outer : List Env} {s s1 : Shared} {H : Hp} {E : XK} {us : List Value} {vs : List V}
    (S : FnScope N ps scope) (hd : A.handled = none) (e0 : Env0 P w K mg base A outer s H) (hl : vs.length = ps.length) (r : Vals vs us)
    (x : InCallC s s.heap.objs.size (bindL (envOfC qual scope s.heap.objs.size f cd).kindOf (ps.zip us) fun _ => none) (cellsFrom (s.heap.objs.size + 1) scope.names []) (bindC (envOfC qual scope s.heap.objs.size f cd).kindOf (ps.zip us) fun _ => none) s1) :
    Inv (cxOf CX P w K mg base N qual scope f cd A outer s H E) [] (start N vs) H s1 := by
  have hpl : ps.length ≤ N.length := by have := congrArg List.length S.pre; rw [List.length_take] at this; omega
  obtain ⟨h1, tk, rfl, hk⟩ := x.done
  have noA : ∀ b : Addr, b ∉ (cxOf CX P w K mg base N qual scope f cd A outer s H E).ex := fun b z => absurd (show b ∈ ([] : List Addr) from z) (by simp)
  refine ⟨⟨e0.mod, S.kind, rfl, rfl, Nat.le_refl _, fun y z c h1 h2 => ?_, fun y hy => ?_, fun y c _ h => ?_, fun _ => hd, Around.frames_deeper e0.frames, .inr ⟨rfl, rfl⟩, fun b z => absurd z (noA b), e0.bs, e0.bsz, fun b _ _ => noA b, fun b z => absurd z (noA b), e0.funs, e0.frf⟩,
    rfl, e0.bare, Un.kept hk, ⟨_, x.toInCall.ns, fun i y v h1 h2 h3 => ?_⟩, fun y c h => ⟨_, x.cell y c h⟩, e0.hok.fresh (Nat.le_refl _), fun y c h => ?_, fun p hp => absurd (show p ∈ ([] : List (Addr × Obj)) from hp) (by simp), e0.hok.kept hk, ?_⟩
  · exact name_of_addr x.apart (PySem.mem_of_lookup h1) (PySem.mem_of_lookup h2)
  · have hy : scope.names.lookup y = some .cell ∨ scope.names.lookup y = some .free := hy
    rcases hy with hy | hy
    · exact cell_has hy
    · exact absurd rfl (S.nofree _ (PySem.mem_of_lookup hy))
  · exact Nat.le_of_lt (x.above y c (PySem.mem_of_lookup h))
  · have hi : i < vs.length := by
      unfold start at h2
      by_cases hi : i < vs.length
      · exact hi
      · rw [List.getElem?_append_right (by simpa using hi)] at h2
        rw [List.getElem?_replicate] at h2
        split at h2 <;> cases h2
    have ha : vs[i]? = some v := by
      unfold start at h2
      rw [List.getElem?_append_left (by simpa using hi), List.getElem?_map] at h2
      cases e : vs[i]? with
      | none => rw [e] at h2; cases h2
      | some a => rw [e] at h2; cases h2; rfl
    obtain ⟨u, hu, rv⟩ := r.get ha
    have hp : ps[i]? = some y := by
      rw [← S.pre, List.getElem?_take_of_lt (by omega)]; exact h1
    have ndP : ps.Nodup := by rw [← S.pre]; exact S.nd.sublist (List.take_sublist _ _)
    refine ⟨u, rv, ?_⟩
    rcases S.par y (List.mem_of_getElem? hp) with k | k
    · exact .inl ⟨k, bindL_get ndP hp hu k⟩
    · obtain ⟨c, e⟩ := cell_has (n := s.heap.objs.size + 1) k
      refine .inr ⟨.inl k, c, e, ?_⟩
      have q := x.cell y c e
      rw [bindC_get ndP hp hu (by show scope.names.lookup y ≠ _; rw [k]; decide)] at q
      exact q
  · exact e0.hok.fresh (Nat.le_of_lt (x.above y c (PySem.mem_of_lookup h)))
  · unfold start
    show _ = N.length
    rw [List.length_append, List.length_map, List.length_replicate]
    omega

theorem fn_of {CX : CXT} {P : Program} {w : World} {K : PySem.W.Frag} {mg : Str → Option Value} {base : Heap} {k : Nat} {f : Addr} {name qual : Str} {params : Arguments} {body : List Stmt} {scope : Scope} {dV kV doc pm cdv ct oc : Value} {an od : Option Addr}
    {osl : Array (Option Value)} {N ps : List Str} {sp : Sp} (lk : K.lookup f = some ⟨oc, od, .func (PySem.W.fnOf name qual params body scope dV kV doc pm an cdv ct), osl⟩) (hcd : PySem.W.codeIn K cdv qual = true) (S : FnScope N ps scope)
    (len : ∀ vs H Q E, sp vs H Q E → vs.length = ps.length)
    (hbody : ∀ (A : Around) (outer : List Env) (s : Shared) (H : Hp) (vs : List V) (Q : VK) (E : XK), Room k (A.deeper (envOfC qual scope s.heap.objs.size f cdv)) → sp vs H Q E →
      ∃ t, PSs (cxOf CX P w K mg base N qual scope f cdv A outer s H E) body t ∧ t { nx := fun _ H' => Q .non H', rt := Q } (start N vs) H) :
    FnOk P w K mg base CX (k + 1) f (PySem.W.fnOf name qual params body scope dV kV doc pm an cdv ct) ps sp := by
  refine ⟨len, fun A outer s H args us vs Q E hr e0 hb r hsp => ?_⟩
  have hl := len _ _ _ _ hsp
  have KX : K.In s.heap := e0.mod.kin.keeps fun b o e => (e0.bs b o e).1
  have lim : s.heap.NoLimit := e0.mod.nolimit.keeps fun b o e => (e0.bs b o e).1
  have hkind : ∀ y ∈ ps.zip us, scope.names.lookup y.1 = some .local ∨ (scope.names.lookup y.1 = some .cell ∧ ((cellsFrom (s.heap.objs.size + 1) scope.names []).lookup y.1).isSome = true) := fun ⟨n, v⟩ hy => by
    rcases S.par n (List.of_mem_zip hy).1 with q | q
    · exact .inl q
    · exact .inr ⟨q, PySem.W.cellsFrom_some _ _ _ (.inl q)⟩
  refine codeAny_call_function hr.depth (KX _ _ lk) rfl S.co S.gen rfl (PySem.W.codeRec_of KX hcd) (hb _ _ _ _ ?_)
  refine wpAny_newFunctionEnv_cells S.kind hkind fun env he s1 x => ?_
  subst he
  refine ⟨lim.keeps x.toInCall.keep, codeAny_func ?_⟩
  obtain ⟨t, ht, hq⟩ := hbody A outer s H vs Q E (hr.deeper _) hsp
  have I : Inv (cxOf CX P w K mg base N qual scope f cdv A outer s H E) [] (start N vs) H s1 := inv_start S hr.hd e0 hl r x
  refine wpAny_mono (ht [] s1 (start N vs) H _ I hq) (fun fl s' hs => ?_) fun e s' hs => hs
  have fin : ∀ {σ' : St} {H' : Hp} {v : V} {u : Value}, Inv (cxOf CX P w K mg base N qual scope f cdv A outer s H E) [] σ' H' s' → RelV v u → Q v H' → CE outer P w H s Q u s' :=
    fun {σ' H' v u} J rv q => ⟨v, H', J.os, J.bare, J.base, J.hok, rv, q⟩
  cases fl with
  | ret u =>
    obtain ⟨v, σ', H', J, rv, q⟩ := hs
    exact fin J rv q
  | next =>
    obtain ⟨σ', H', J, q⟩ := hs
    exact fin (v := V.non) (u := Value.none) J rfl q
  | brk =>
    obtain ⟨_, _, _, q⟩ := hs
    exact False.elim q
  | cont =>
    obtain ⟨_, _, _, q⟩ := hs
    exact False.elim q
end L2

namespace L2
open PySem PySem.Spec PyProof.Rows
section
variable {X : Cx} {x : Str} {p pos : Pos} {e : Expr} {es : List Expr} {t : TA} {id T : String} {r : List V → Hp → VK → Prop}

noncomputable def tCB (r : List V → Hp → VK → Prop) (t : TA) : TE := fun σ H Q => t σ H fun vs H1 => r vs H1 Q
theorem pe_callB (hc : CallR X (.builtin id) r) (hg : Gl X x) (hm : X.mg x = none) (hv : bootBuiltins x = some (.builtin id)) (ha : PA X (e :: es) t) (hn : x ≠ "__name__" := by decide) (hdb : (x == ("__debug__" : Str)) = false := by decide)
    (he : starEach (e :: es) X.env = (false, eval e X.env) :: starEach es X.env := by rfl) (hpl : (backTo pos (starEach es X.env)).any (·.1) = false := by rfl) : PE X (.Call (.Name x p) (e :: es) [] pos) (tCB r t) := by
  intro pins s σ H Q I h
  refine wpAny_Call_Name_kw (ld_blt I hg hm hv ?_ hn hdb)
  exact PyProof.Rows.callWith_builtin1 (thn (ha pos pins s σ H _ I h) fun us s1 ⟨vs, H1, I1, r1, q1⟩ => hc pins s1 σ H1 vs us Q I1 r1 q1) he hpl
theorem pe_callTy (hc : CallR X (.type T) r) (hg : Gl X x) (hm : X.mg x = none) (hv : bootBuiltins x = some (.type T)) (ha : PA X (e :: es) t) (hn : x ≠ "__name__" := by decide) (hdb : (x == ("__debug__" : Str)) = false := by decide)
    (he : starEach (e :: es) X.env = (false, eval e X.env) :: starEach es X.env := by rfl) (hpl : (backTo pos (starEach es X.env)).any (·.1) = false := by rfl) : PE X (.Call (.Name x p) (e :: es) [] pos) (tCB r t) := by
  intro pins s σ H Q I h
  refine wpAny_Call_Name_kw (ld_blt I hg hm hv ?_ hn hdb)
  exact PyProof.Rows.callWith_type1 (thn (ha pos pins s σ H _ I h) fun us s1 ⟨vs, H1, I1, r1, q1⟩ => hc pins s1 σ H1 vs us Q I1 r1 q1) he hpl
end
end L2

namespace HT
open PySem PyProof.Rows

section
open PySem.SeqAt
open PySem.AutoSeq1 (wpAny_loadPart')
open PySem.MeetsSeq PySem.MeetsSeq2 PySem.MeetsSeq3

end

section
variable {prog : Program} {w : World} {A : Around} {E : Value → Shared → Prop} {s : Shared}

theorem cat_tup {t b : Addr} {vs ws : List Value} {Q : Value → Shared → Prop} (ht : IsTup s.heap t vs.toArray) (hb : IsTup s.heap b ws.toArray) (hv : vs ≠ [])
    (h1 : ws = [] → Q (.ref t) s) (h2 : ws ≠ [] → Q (.ref s.heap.objs.size) { s with heap := s.heap.push { cls := .type "tuple", data := .seq (vs ++ ws).toArray } })
    (hsz : vs.length + ws.length ≤ sizeLine) : wpAny (model prog w) A (binaryOp .Add (.ref t) (.ref b)) Q E s := by
  obtain ⟨⟨cls, dd, data, sl⟩, ho, hc, n, hd⟩ := id ht
  obtain ⟨⟨cls2, dd2, data2, sl2⟩, ho2, hc2, n2, hd2⟩ := id hb
  simp only at hc hd hc2 hd2
  subst hc hd hc2 hd2
  have e : vs.toArray ++ ws.toArray = (vs ++ ws).toArray := by simp
  by_cases hw : ws = []
  · exact concat_meets ⟨_, ho, rfl⟩ ⟨_, ho2, rfl⟩ noFill_tuple_add seq_tuple_add PySem.F.slot_tuple_add PySem.F.entry_tuple_add (PySem.F.args_tuple_add_2 _ _)
      (tuple_addW1 t b vs.toArray ws.toArray n n2 dd dd2 sl sl2 (by simpa using hv) (by simp [hw])) ⟨ho, ho2, h1 hw⟩
  · refine concat_meets ⟨_, ho, rfl⟩ ⟨_, ho2, rfl⟩ noFill_tuple_add seq_tuple_add PySem.F.slot_tuple_add PySem.F.entry_tuple_add (PySem.F.args_tuple_add_2 _ _)
      (tuple_addW2 t b vs.toArray ws.toArray n n2 dd dd2 sl sl2 (by simpa using hv) (by simpa using hw) (by rw [List.size_toArray, List.size_toArray]; exact hsz)) ⟨ho, ho2, ?_⟩
    rw [e]
    exact h2 hw

noncomputable def sIx (n d : Nat) : Option Int → Nat
  | none => d
  | some v => if v < 0 then (v + (n : Int)).toNat else min v.toNat n
theorem sIx_none (n d : Nat) : sIx n d none = d := rfl
theorem sIx_nat (n d k : Nat) : sIx n d (some (k : Int)) = min k n := by
  show (if (k : Int) < 0 then ((k : Int) + (n : Int)).toNat else min (k : Int).toNat n) = min k n
  rw [if_neg (by omega), Int.toNat_natCast]
theorem sIx_le (n d : Nat) (hd : d ≤ n) (o : Option Int) : sIx n d o ≤ n := by
  cases o with
  | none => exact hd
  | some v =>
    show (if v < 0 then (v + (n : Int)).toNat else min v.toNat n) ≤ n
    by_cases hv : v < 0
    · rw [if_pos hv]; omega
    · rw [if_neg hv]; exact Nat.min_le_right _ _
theorem clip_eq (v : Int) (n d : Nat) : (if v < 0 then max (v + (n : Int)) 0 else min v (n : Int)) = ((sIx n d (some v) : Nat) : Int) := by
  show (if v < 0 then max (v + (n : Int)) 0 else min v (n : Int)) = (((if v < 0 then (v + (n : Int)).toNat else min v.toNat n) : Nat) : Int)
  by_cases hv : v < 0
  · simp only [if_pos hv]; omega
  · simp only [if_neg hv]; omega
theorem adjust_gen (lo hi : Option Int) (n : Nat) : Builtin.Slice.sliceAdjust lo hi 1 (n : Int) = (((sIx n 0 lo : Nat) : Int), ((sIx n n hi : Nat) : Int)) := by
  have h1 : ¬ ((1 : Int) < 0) := by omega
  unfold Builtin.Slice.sliceAdjust
  simp only [h1, if_false]
  refine Prod.ext ?_ ?_
  · cases lo with
    | none => rfl
    | some v => exact clip_eq v n 0
  · cases hi with
    | none => rfl
    | some v => exact clip_eq v n n
theorem places_gen (i j : Nat) : Builtin.Slice.slicePlaces (i : Int) (j : Int) 1 = j - i := by
  unfold Builtin.Slice.slicePlaces
  have h1 : (1 : Int) > 0 := by omega
  simp only [h1, if_true, Int.ediv_one]
  split <;> omega
theorem slicePart_ {v : Value} {o : Option Int} {Q : Option Int → Shared → Prop} (p : IsPart v o) (h : Q o s) : wpAny (model prog w) A (Builtin.Slice.slicePartIndex v) Q E s := by
  cases p with
  | none => exact slicePart_none h
  | int i t => exact slicePart_int h
theorem sliceApplied_gen {sl : Addr} {vl vu : Value} {lo hi : Option Int} {n : Nat} {Q : Int × Int × Nat → Shared → Prop} (hs : s.heap.IsSliceOf sl vl vu .none) (pl : IsPart vl lo) (pu : IsPart vu hi)
    (h : Q (((sIx n 0 lo : Nat) : Int), 1, sIx n n hi - sIx n 0 lo) s) : wpAny (model prog w) A (Builtin.Slice.sliceApplied (.ref sl) (pure (n : Int))) Q E s := by
  obtain ⟨os, hos, hcs, hds⟩ := id hs
  unfold Builtin.Slice.sliceApplied Builtin.Slice.sliceFields
  refine wpAny_bind (wpAny_bind (wpAny_field hos hds (x := vl) rfl (wpAny_bind (wpAny_field hos hds (x := vu) rfl (wpAny_bind (wpAny_field hos hds (x := .none) rfl (wpAny_pure ?_)))))))
  refine wpAny_bind (slicePart_none ?_)
  show wpAny _ _ (if ((1 : Int) == 0) = true then _ else _) _ _ s
  rw [if_neg (by decide)]
  refine wpAny_bind (slicePart_ pl (wpAny_bind (slicePart_ pu (wpAny_bind (wpAny_pure ?_)))))
  show wpAny _ _ (match Builtin.Slice.sliceAdjust lo hi 1 (n : Int) with | (lo, hi) => pure (lo, (1 : Int), Builtin.Slice.slicePlaces lo hi 1)) _ _ s
  rw [adjust_gen lo hi n]
  show wpAny _ _ (pure (((sIx n 0 lo : Nat) : Int), (1 : Int), Builtin.Slice.slicePlaces ((sIx n 0 lo : Nat) : Int) ((sIx n n hi : Nat) : Int) 1)) _ _ s
  rw [places_gen]
  exact wpAny_pure h
theorem pick_gen (xs : Array Value) (i k : Nat) : ((List.range k).filterMap fun (m : Nat) => xs[((i : Int) + (m : Int) * 1).toNat]?).toArray = ((xs.toList.drop i).take k).toArray := by
  have e : (fun (m : Nat) => xs[((i : Int) + (m : Int) * 1).toNat]?) = fun m => xs[i + m]? := by
    funext m
    have : ((i : Int) + (m : Int) * 1).toNat = i + m := by omega
    rw [this]
  rw [e]
  have := pick_run xs i k
  rw [List.filterMap_map] at this
  have e2 : ((fun x => xs[x]?) ∘ fun x => i + x) = fun m => xs[i + m]? := rfl
  rw [e2] at this
  rw [this]

theorem getItem_tuple_cut {t sl : Addr} {items : Array Value} {vl vu : Value} {lo hi : Option Int} {Q : Value → Shared → Prop} (ht : IsTup s.heap t items) (hs : s.heap.IsSliceOf sl vl vu .none) (pl : IsPart vl lo) (pu : IsPart vu hi)
    (hw : ¬ (sIx items.size 0 lo = 0 ∧ sIx items.size items.size hi = items.size))
    (h : Q (.ref s.heap.objs.size) { s with heap := s.heap.push { cls := .type "tuple", data := .seq ((items.toList.drop (sIx items.size 0 lo)).take (sIx items.size items.size hi - sIx items.size 0 lo)).toArray } })
    (hsz : items.size ≤ sizeLine) : wpAny (model prog w) A (getItem (.ref t) (.ref sl)) Q E s := by
  have htake : sizeOk (.seq ((items.toList.drop (sIx items.size 0 lo)).take (sIx items.size items.size hi - sIx items.size 0 lo)).toArray) := by
    show ((items.toList.drop (sIx items.size 0 lo)).take (sIx items.size items.size hi - sIx items.size 0 lo)).toArray.size ≤ sizeLine
    rw [List.size_toArray, List.length_take, List.length_drop, Array.length_toList]
    omega
  have hj : sIx items.size items.size hi ≤ items.size := sIx_le _ _ (Nat.le_refl _) hi
  obtain ⟨os, hos, hcs, hds⟩ := id hs
  have hTs : s.TypeIs (.ref sl) "slice" := ⟨os, hos, hcs⟩
  unfold getItem
  try with_reducible refine wpAny_holding ?_
  first | refine wpAny_bind (wpAny_pure ?_) | skip
  refine wpAny_bind (wpAny_sequenceKey ht.typeIs (by decide) ?_)
  refine wpAny_bind (wpAny_callSpecial?_slot (name := Str.ofString "__getitem__") ht.typeIs PyProof.Rows.slot_tuple_getitem
    (wpAny_call_entry PyProof.Rows.slot_tuple_getitem ht.typeIs entry_tuple_getitem ?_ (args_tuple_getitem _ _)))
  show wpAny _ _ (Builtin.Tuple.tupleItemsOf (.ref t) >>= _) _ _ s
  refine wpAny_bind (tupleItemsOf_ ht ?_)
  refine wpAny_bind (wpAny_typeOf hTs ?_)
  rw [if_pos (by decide)]
  refine wpAny_bind (sliceApplied_gen hs pl pu ?_)
  have hno : ¬ ((((sIx items.size 0 lo : Nat) : Int) == 0 && (1 : Int) == 1 && (sIx items.size items.size hi - sIx items.size 0 lo) == items.size) = true) := by
    intro q
    rw [Bool.and_eq_true, Bool.and_eq_true] at q
    have q1 : ((sIx items.size 0 lo : Nat) : Int) = 0 := eq_of_beq q.1.1
    have q2 : sIx items.size items.size hi - sIx items.size 0 lo = items.size := eq_of_beq q.2
    exact hw ⟨by omega, by omega⟩
  show wpAny _ _ (if (((sIx items.size 0 lo : Nat) : Int) == 0 && (1 : Int) == 1 && (sIx items.size items.size hi - sIx items.size 0 lo) == items.size) = true then _ else _) _ _ s
  rw [if_neg hno, pick_gen]
  first
    | exact wpAny_bind (m := Builtin.Tuple.tupleExact _) (wpAny_newObj_type (wpAny_pure ⟨_, rfl, wpAny_pure h⟩) htake)
    | exact wpAny_bind (m := Builtin.Tuple.tupleExact _) (wpAny_newObj_type (wpAny_bind (wpAny_pure (wpAny_pure ⟨_, rfl, wpAny_pure h⟩))) htake)
    | exact wpAny_bind (wpAny_bind (m := Builtin.Tuple.tupleExact _) (wpAny_newObj_type (wpAny_pure (wpAny_pure ⟨_, rfl, wpAny_pure h⟩)) htake))
    | exact wpAny_bind (wpAny_bind (m := Builtin.Tuple.tupleExact _) (wpAny_newObj_type (wpAny_pure ⟨_, rfl, wpAny_pure h⟩) htake))
end
end HT

namespace L2
open PySem PySem.Spec PyProof.Rows

noncomputable abbrev TO := St → Hp → (Option Int → Hp → Prop) → Prop
noncomputable def PO (X : Cx) (e : Option Expr) (t : TO) : Prop :=
  ∀ (pins : List (Addr × Obj)) (s : Shared) (σ : St) (H : Hp) (Q : Option Int → Hp → Prop), Inv X pins σ H s → t σ H Q →
    wpAny (model X.prog X.w) X.A (evalPart e X.env) (fun u s' => ∃ o H', Inv X pins σ H' s' ∧ IsPart u o ∧ Q o H') X.xe s
noncomputable def tNoPart : TO := fun _ H Q => Q none H
noncomputable def tPart (t : TE) : TO := fun σ H Q => t σ H fun x H1 => ∃ i, x = .int i ∧ Q (some i) H1

section
variable {X : Cx} {e : Expr} {te : TE} {lo hi : Option Expr} {tl th : TO} {pos p2 : Pos}

theorem po_none : PO X none tNoPart := by
  intro pins s σ H Q I h
  rw [evalPart_none]
  exact wpAny_pure ⟨none, H, I, .none, h⟩
theorem po_some (h : PE X e te) : PO X (some e) (tPart te) := by
  intro pins s σ H Q I hw
  rw [evalPart_some]
  refine thn (h pins s σ H _ I hw) fun u s1 ⟨x, H1, I1, r1, q1⟩ => ?_
  obtain ⟨i, rfl, q⟩ := q1
  obtain ⟨t, rfl⟩ := r1
  exact ⟨some i, H1, I1, .int i t, q⟩

noncomputable def SlR (X : Cx) (r : V → Option Int → Option Int → Hp → VK → Prop) : Prop :=
  ∀ (pins : List (Addr × Obj)) (s : Shared) (σ : St) (H : Hp) (x : V) (v vl vu : Value) (lo hi : Option Int) (sl : Addr) (Q : VK), Inv X pins σ H s → RelV x v → s.heap.IsSliceOf sl vl vu .none → IsPart vl lo → IsPart vu hi → r x lo hi H Q →
    ∃ T id, typeLookup (.type T) "__getitem__" = pure (some (.builtin id)) ∧ s.TypeIs v T ∧ wpAny (model X.prog X.w) X.A (getItem v (.ref sl)) (EP X pins σ Q) X.xe s
noncomputable def tSl (r : V → Option Int → Option Int → Hp → VK → Prop) (te : TE) (tl th : TO) : TE := fun σ H Q => te σ H fun x H1 => tl σ H1 fun l H2 => th σ H2 fun u H3 => r x l u H3 Q
theorem pe_slice {r : V → Option Int → Option Int → Hp → VK → Prop} (hr : SlR X r) (he : PE X e te) (hl : PO X lo tl) (hu : PO X hi th) : PE X (.Subscript e (.Slice lo hi none p2) pos) (tSl r te tl th) := by
  intro pins s σ H Q I h
  refine Subscript_ (thn (he pins s σ H _ I h) fun v s1 ⟨x, H1, I1, r1, q1⟩ => ?_)
  refine wpAny_Slice (thn (hl pins s1 σ H1 _ I1 q1) fun vl s2 ⟨l, H2, I2, pl, q2⟩ => thn (hu pins s2 σ H2 _ I2 q2) fun vu s3 ⟨u, H3, I3, pu, q3⟩ => ?_)
  rw [evalPart_none]
  refine wpAny_pure ?_
  have I4 : Inv X pins σ H3 { s3 with heap := s3.heap.push { cls := .type "slice", data := .fields #[vl, vu, .none] } } := I3.kept (t' := s3.toks) fun b ob q => Heap.get?_push_of_some _ q
  obtain ⟨T, id, hT, ht, hg⟩ := hr pins { s3 with heap := s3.heap.push { cls := .type "slice", data := .fields #[vl, vu, .none] } } σ H3 x v vl vu l u s3.heap.objs.size Q I4 r1 (Heap.IsSliceOf.new ..) pl pu q3
  show wpAny (model X.prog X.w) X.A (subscriptTail e (.Slice lo hi none p2) v (.ref s3.heap.objs.size)) (EP X pins σ Q) X.xe { s3 with heap := s3.heap.push { cls := .type "slice", data := .fields #[vl, vu, .none] } }
  exact tail_any (ops := [.ref s3.heap.objs.size, v]) ht hT hg (by with_unfolding_all rfl)

noncomputable def cutV (xs : List V) (lo hi : Option Int) : List V := (xs.drop (HT.sIx xs.length 0 lo)).take (HT.sIx xs.length xs.length hi - HT.sIx xs.length 0 lo)
theorem cutV_length (xs : List V) (lo hi : Option Int) : (cutV xs lo hi).length ≤ xs.length := by
  unfold cutV
  rw [List.length_take, List.length_drop]
  omega
noncomputable def rSlT (K : PySem.W.Frag) : V → Option Int → Option Int → Hp → VK → Prop := fun x lo hi H Q => ∃ a xs, x = .ref a ∧ SqT K H a xs ∧
  ¬ (HT.sIx xs.length 0 lo = 0 ∧ HT.sIx xs.length xs.length hi = xs.length) ∧ ∀ p, H p = none → Q (.ref p) (upd H p (.tup (cutV xs lo hi)))
theorem sl_tup : SlR X (rSlT X.K) := by
  intro pins s σ H x v vl vu lo hi sl Q I rx hs pl pu h
  obtain ⟨a, xs, rfl, hx, hw, q⟩ := h
  cases rx
  obtain ⟨its, r, ht, hz⟩ := I.tuple hx
  have hlen : its.toArray.size = xs.length := by rw [List.size_toArray]; exact r.length.symm
  refine ⟨"tuple", _, PyProof.Rows.slot_tuple_getitem.lookup, ht.typeIs, ?_⟩
  refine HT.getItem_tuple_cut ht hs pl pu (by rw [hlen]; exact hw) ?_ (by rw [hlen]; exact hz)
  rw [hlen]
  refine ⟨.ref s.heap.objs.size, _, I.laid (t' := s.toks) (o := .tup (cutV xs lo hi)) (fun b ob q => Heap.get?_push_of_some _ q) (Nat.le_refl _) ?_, rfl, q _ (I.hok.fresh (Nat.le_refl _))⟩
  exact ⟨Nat.le_trans (cutV_length xs lo hi) hz, _, (r.drop (HT.sIx xs.length 0 lo)).take (HT.sIx xs.length xs.length hi - HT.sIx xs.length 0 lo), IsTupN.new _ _⟩

noncomputable def rCatT (K : PySem.W.Frag) : R2 := fun x y H Q => ∃ a b xs ys, x = .ref a ∧ y = .ref b ∧ SqT K H a xs ∧ SqT K H b ys ∧ xs ≠ [] ∧ xs.length + ys.length ≤ sizeLine ∧
  (ys = [] → Q (.ref a) H) ∧ (ys ≠ [] → ∀ p, H p = none → Q (.ref p) (upd H p (.tup (xs ++ ys))))
theorem Vals.nil_iff {xs : List V} {us : List Value} (r : Vals xs us) : us = [] ↔ xs = [] := by
  cases r with
  | nil => simp
  | cons _ _ => simp
theorem op_catT : OpR X (binaryOp .Add) (rCatT X.K) := by
  intro pins s σ H x y v u Q I rx ry h
  obtain ⟨a, b, xs, ys, rfl, rfl, ha, hb, hx, hz, q1, q2⟩ := h
  cases rx
  cases ry
  obtain ⟨its, r1, p1, _⟩ := I.tuple ha
  obtain ⟨its2, r2, p2, _⟩ := I.tuple hb
  refine HT.cat_tup p1 p2 (fun z => hx (r1.nil_iff.mp z)) (fun z => ⟨.ref a, H, I, rfl, q1 (r2.nil_iff.mp z)⟩) (fun z => ?_) (by rw [← r1.length, ← r2.length]; exact hz)
  refine ⟨.ref s.heap.objs.size, _, I.laid (t' := s.toks) (o := .tup (xs ++ ys)) (fun b ob q => Heap.get?_push_of_some _ q) (Nat.le_refl _) ?_, rfl, q2 (fun w => z (r2.nil_iff.mpr w)) _ (I.hok.fresh (Nat.le_refl _))⟩
  exact ⟨by rw [List.length_append]; exact hz, _, r1.append r2, IsTupN.new _ _⟩
end
end L2

namespace L2
open PySem PySem.Spec PyProof.Rows

noncomputable def ixN (n : Nat) (i : Int) : Option Nat := if 0 ≤ i then (if i < n then some i.toNat else none) else if -(n : Int) ≤ i then some (i + n).toNat else none
noncomputable def atI {α : Type} (xs : List α) (i : Int) : Option α := (ixN xs.length i).bind fun j => xs[j]?
theorem ixN_seq {n : Nat} {i : Int} {j : Nat} (h : ixN n i = some j) : seqIndex? i n = some j ∧ j < n ∧ -(n : Int) ≤ i ∧ i < n := by
  unfold ixN at h
  by_cases h0 : 0 ≤ i
  · rw [if_pos h0] at h
    by_cases h1 : i < n
    · rw [if_pos h1] at h
      have e : i.toNat = j := Option.some.inj h
      exact ⟨by rw [seqIndex_of h0 h1, e], by omega, by omega, h1⟩
    · rw [if_neg h1] at h; cases h
  · rw [if_neg h0] at h
    by_cases h1 : -(n : Int) ≤ i
    · rw [if_pos h1] at h
      have e : (i + n).toNat = j := Option.some.inj h
      exact ⟨by rw [seqIndex_neg (by omega) h1, e], by omega, h1, by omega⟩
    · rw [if_neg h1] at h; cases h
theorem atI_get {α : Type} {xs : List α} {i : Int} {v : α} (h : atI xs i = some v) : ∃ j, seqIndex? i xs.length = some j ∧ xs[j]? = some v ∧ j < xs.length ∧ -(xs.length : Int) ≤ i ∧ i < xs.length := by
  unfold atI at h
  cases e : ixN xs.length i with
  | none => rw [e] at h; cases h
  | some j =>
    rw [e] at h
    obtain ⟨h1, h2, h3, h4⟩ := ixN_seq e
    exact ⟨j, h1, h, h2, h3, h4⟩
theorem atI_nat {α : Type} {xs : List α} {j : Nat} {v : α} (h : xs[j]? = some v) : atI xs (j : Int) = some v := by
  have hj : j < xs.length := (List.getElem?_eq_some_iff.mp h).1
  have e : ixN xs.length (j : Int) = some j := by
    unfold ixN
    rw [if_pos (by omega), if_pos (by omega)]; simp
  unfold atI; rw [e]; exact h
theorem atI_last {α : Type} (xs : List α) (v : α) : atI (xs ++ [v]) (-1) = some v := by
  have hl : (xs ++ [v]).length = xs.length + 1 := by simp
  have e : ixN (xs ++ [v]).length (-1) = some xs.length := by
    unfold ixN
    rw [hl, if_neg (by decide), if_pos (by omega)]
    congr 1
    omega
  unfold atI
  rw [e]
  show (xs ++ [v])[xs.length]? = some v
  simp

noncomputable def PlainIx (b : Expr) : Prop := ∀ o i, subscripted b false o i = operate [o, i] (getItem o i)
noncomputable def IxR (X : Cx) (r : R2) : Prop :=
  ∀ (value slice : Expr) (pins : List (Addr × Obj)) (s : Shared) (σ : St) (H : Hp) (x y : V) (v u : Value) (Q : VK), Inv X pins σ H s → RelV x v → RelV y u → r x y H Q →
    subscripted slice false v u = operate [v, u] (getItem v u) → wpAny (model X.prog X.w) X.A (subscriptTail value slice v u) (EP X pins σ Q) X.xe s
noncomputable def MtR (X : Cx) (id : String) (r : V → List V → Hp → VK → Prop) : Prop :=
  ∀ (pins : List (Addr × Obj)) (s : Shared) (σ : St) (H : Hp) (x : V) (xs : List V) (v : Value) (us : List Value) (Q : VK), Inv X pins σ H s → RelV x v → Vals xs us → r x xs H Q →
    wpAny (model X.prog X.w) X.A (call (.builtin id) (v :: us)) (EP X pins σ Q) X.xe s
section
variable {X : Cx} {a b : Expr} {ta tb : TE} {pos : Pos}
theorem pe_ix {r : R2} (hr : IxR X r) (ha : PE X a ta) (hb : PE X b tb) (hs : PlainIx b) : PE X (.Subscript a b pos) (tOp r ta tb) := by
  intro pins s σ H Q I h
  exact Subscript_ (binT ha hb I h fun v u s2 x y H2 I2 rx ry q => hr a b pins s2 σ H2 x y v u Q I2 rx ry q (hs _ _))

noncomputable def rIxL (K : PySem.W.Frag) : R2 := fun x y H Q => ∃ p xs i v, x = .ref p ∧ y = .int i ∧ SqL K H p xs ∧ atI xs i = some v ∧ Q v H
noncomputable def rIxT (K : PySem.W.Frag) : R2 := fun x y H Q => ∃ p xs i v, x = .ref p ∧ y = .int i ∧ SqT K H p xs ∧ atI xs i = some v ∧ Q v H
noncomputable def rIxS : R2 := fun x y H Q => ∃ z i c, x = .str z ∧ y = .int i ∧ z.length ≤ sizeLine ∧ atI z.cps.toList i = some c ∧ Q (.str ⟨#[c]⟩) H
theorem ix_list : IxR X (rIxL X.K) := by
  intro value slice pins s σ H x y v u Q I rx ry h hs
  obtain ⟨p, xs, i, z, rfl, rfl, hq, he, q⟩ := h
  cases rx
  obtain ⟨t, rfl⟩ := ry
  obtain ⟨its, r, pl, hz⟩ := I.list hq
  obtain ⟨j, h1, h2, h3, h4, h5⟩ := atI_get he
  obtain ⟨w, ew, rw'⟩ := r.get h2
  have hl := r.length
  have hn := line63
  have fin : EP X pins σ Q w s := ⟨z, H, I, rw', q⟩
  by_cases h0 : 0 ≤ i
  · have hj : i.toNat = j := by
      rw [seqIndex_of h0 h5] at h1
      exact Option.some.inj h1
    exact item_listR pl.isList h0 (by omega) (by rw [hj]; simpa using ew) fin hs
  · have hj : (i + (its.toArray.size : Int)).toNat = j := by
      rw [seqIndex_neg (by omega) h4] at h1
      rw [List.size_toArray, ← hl]
      exact Option.some.inj h1
    exact subscriptTail_builtinR (x := w) pl.isList.typeIs slot_list_getitem.lookup
      (wpAny_getItem_list_neg (Q := fun r s' => r = w ∧ EP X pins σ Q r s') pl.isList (by omega) (by rw [List.size_toArray] <;> omega) (by omega) (by rw [hj]; simpa using ew) ⟨rfl, fin⟩) hs
theorem ix_tup : IxR X (rIxT X.K) := by
  intro value slice pins s σ H x y v u Q I rx ry h hs
  obtain ⟨p, xs, i, z, rfl, rfl, hq, he, q⟩ := h
  cases rx
  obtain ⟨t, rfl⟩ := ry
  obtain ⟨its, r, pl, hz⟩ := I.tuple hq
  obtain ⟨j, h1, h2, h3, h4, h5⟩ := atI_get he
  obtain ⟨w, ew, rw'⟩ := r.get h2
  have hl := r.length
  have hn := line63
  have fin : EP X pins σ Q w s := ⟨z, H, I, rw', q⟩
  exact subscriptTail_builtinR (x := w) pl.typeIs slot_tuple_getitem.lookup
    (getItem_tuple (j := j) (Q := fun r s' => r = w ∧ EP X pins σ Q r s') pl (by omega) (by omega) (by rw [List.size_toArray, ← hl]; exact h1) (by simpa using ew) ⟨rfl, fin⟩) hs
theorem ix_str : IxR X rIxS := by
  intro value slice pins s σ H x y v u Q I rx ry h hs
  obtain ⟨z, i, c, rfl, rfl, hz, he, q⟩ := h
  obtain ⟨t, rfl⟩ := rx
  obtain ⟨t', rfl⟩ := ry
  obtain ⟨j, h1, h2, h3, h4, h5⟩ := atI_get he
  have hl : z.cps.toList.length = z.length := by simp [Str.length]
  rw [hl] at h1 h4 h5
  have hn := line63
  exact tail_any (typeIs_str s z t) slot_str_getitem.lookup (getItem_str (c := c) (by
    have e1 : decide (i < -(2 ^ 63 : Int)) = false := decide_eq_false (by omega)
    have e2 : decide (i ≥ 2 ^ 63) = false := decide_eq_false (by omega)
    rw [e1, e2, Bool.or_false]) (by rw [h1]; simpa using h2) ⟨.str ⟨#[c]⟩, H, I.tok _, ⟨_, rfl⟩, q⟩) hs
theorem slice_bounds (lo hi : Option Int) (n : Nat) : (sliceBounds lo hi none n).1 = ((HT.sIx n 0 lo : Nat) : Int) ∧ (sliceBounds lo hi none n).2.1 = ((HT.sIx n n hi : Nat) : Int) ∧ (sliceBounds lo hi none n).2.2 = 1 := by
  refine ⟨?_, ?_, rfl⟩
  · cases lo with
    | none => simp [sliceBounds, HT.sIx]
    | some i =>
      simp only [sliceBounds, HT.sIx, Option.getD_none, show (1 : Int) > 0 by decide, if_true]
      by_cases h : i < 0
      · simp only [h, if_true] <;> omega
      · simp only [h, if_false] <;> omega
  · cases hi with
    | none => simp [sliceBounds, HT.sIx]
    | some i =>
      simp only [sliceBounds, HT.sIx, Option.getD_none, show (1 : Int) > 0 by decide, if_true]
      by_cases h : i < 0
      · simp only [h, if_true] <;> omega
      · simp only [h, if_false] <;> omega
theorem slicePick_cut (its : List Value) (lo hi : Option Int) : slicePick its.toArray lo hi none = ((its.drop (HT.sIx its.length 0 lo)).take (HT.sIx its.length its.length hi - HT.sIx its.length 0 lo)).toArray := by
  obtain ⟨h1, h2, h3⟩ := slice_bounds lo hi its.toArray.size
  unfold slicePick
  rw [h1, h2, h3]
  simp only [sliceRange_one, pick_run, List.size_toArray] <;> rfl
noncomputable def rSlL (K : PySem.W.Frag) : V → Option Int → Option Int → Hp → VK → Prop := fun x lo hi H Q => ∃ a xs, x = .ref a ∧ SqL K H a xs ∧ ∀ p, H p = none → Q (.ref p) (upd H p (.lst (cutV xs lo hi)))
theorem sl_list : SlR X (rSlL X.K) := by
  intro pins s σ H x v vl vu lo hi sl Q I rx hs pl pu h
  obtain ⟨a, xs, rfl, hx, q⟩ := h
  cases rx
  obtain ⟨its, r, ht, hz⟩ := I.list hx
  have hlen := r.length
  refine ⟨"list", _, slot_list_getitem.lookup, ht.isList.typeIs, ?_⟩
  refine wpAny_getItem_list_slice ht.isList hs pl pu .none (by simp) ?_ (by rw [List.size_toArray] <;> omega)
  rw [slicePick_cut, ← hlen]
  refine ⟨.ref s.heap.objs.size, _, I.laid (t' := s.toks) (o := .lst (cutV xs lo hi)) (fun b ob q => Heap.get?_push_of_some _ q) (Nat.le_refl _) ?_, rfl, q _ (I.hok.fresh (Nat.le_refl _))⟩
  exact ⟨Nat.le_trans (cutV_length xs lo hi) hz, _, 0, (r.drop (HT.sIx xs.length 0 lo)).take (HT.sIx xs.length xs.length hi - HT.sIx xs.length 0 lo), Heap.get?_push_size _ rfl⟩

noncomputable def flatV : V → Bool
  | .non => true
  | .bl _ => true
  | .int _ => true
  | .str _ => true
  | _ => false
noncomputable def eqV : V → V → Bool
  | .non, .non => true
  | .bl a, .bl b => a == b
  | .bl a, .int b => (if a then 1 else 0) == b
  | .int a, .bl b => a == (if b then 1 else 0)
  | .int a, .int b => a == b
  | .str a, .str b => a == b
  | _, _ => false
theorem eqAt_V {A : Around} {s : Shared} {y x : V} {u v : Value} (ry : RelV y u) (rx : RelV x v) (fy : flatV y = true) (fx : flatV x = true) : SeqAt.EqAt A s u v (eqV y x) := by
  cases y with
  | non =>
    cases ry
    cases x with
    | non => cases rx; exact SeqAt.EqAt.same _
    | bl b => cases rx; exact SeqAt.EqAt.none_bool b
    | int b => obtain ⟨t, rfl⟩ := rx; exact SeqAt.EqAt.none_int b t
    | str b => obtain ⟨t, rfl⟩ := rx; exact SeqAt.EqAt.none_str b t
    | _ => exact absurd (show false = true from fx) Bool.false_ne_true
  | bl a =>
    cases ry
    cases x with
    | non => cases rx; exact SeqAt.EqAt.bool_none a
    | bl b => cases rx; exact SeqAt.EqAt.bool_bool a b
    | int b => obtain ⟨t, rfl⟩ := rx; exact SeqAt.EqAt.bool_int a b t
    | str b => obtain ⟨t, rfl⟩ := rx; exact SeqAt.EqAt.bool_str a b t
    | _ => exact absurd (show false = true from fx) Bool.false_ne_true
  | int a =>
    obtain ⟨t', rfl⟩ := ry
    cases x with
    | non => cases rx; exact SeqAt.EqAt.int_none a t'
    | bl b => cases rx; exact SeqAt.EqAt.int_bool a t' b
    | int b => obtain ⟨t, rfl⟩ := rx; exact SeqAt.EqAt.int_int a t' b t
    | str b => obtain ⟨t, rfl⟩ := rx; exact SeqAt.EqAt.int_str a t' b t
    | _ => exact absurd (show false = true from fx) Bool.false_ne_true
  | str a =>
    obtain ⟨t', rfl⟩ := ry
    cases x with
    | non => cases rx; exact SeqAt.EqAt.str_none a t'
    | bl b => cases rx; exact SeqAt.EqAt.str_bool a t' b
    | int b => obtain ⟨t, rfl⟩ := rx; exact SeqAt.EqAt.str_int a t' b t
    | str b => obtain ⟨t, rfl⟩ := rx; exact SeqAt.EqAt.str_str a t' b t
    | _ => exact absurd (show false = true from fx) Bool.false_ne_true
  | _ => exact absurd (show false = true from fy) Bool.false_ne_true
noncomputable def eqU (x : V) (u : Value) : Bool := match u with
  | .none => eqV .non x
  | .bool b => eqV (.bl b) x
  | .int i _ => eqV (.int i) x
  | .str z _ => eqV (.str z) x
  | _ => false
theorem eqU_of {x y : V} {u : Value} (r : RelV y u) (f : flatV y = true) : eqU x u = eqV y x := by
  cases y with
  | non => cases r; rfl
  | bl b => cases r; rfl
  | int i => obtain ⟨t, rfl⟩ := r; rfl
  | str z => obtain ⟨t, rfl⟩ := r; rfl
  | _ => exact absurd (show false = true from f) Bool.false_ne_true
theorem any_eqU {x : V} : ∀ {xs : List V} {us : List Value}, Vals xs us → xs.all flatV = true → us.any (eqU x) = xs.any fun y => eqV y x
  | _, _, .nil, _ => rfl
  | y :: xs, u :: us, .cons r t, f => by
    rw [List.all_cons, Bool.and_eq_true] at f
    rw [List.any_cons, List.any_cons, eqU_of r f.1, any_eqU t f.2]
theorem mem_eqAt {A : Around} {s : Shared} {x : V} {v : Value} (rx : RelV x v) (fx : flatV x = true) : ∀ {xs : List V} {us : List Value}, Vals xs us → xs.all flatV = true → ∀ u ∈ us, SeqAt.EqAt A s u v (eqU x u)
  | _, _, .nil, _ => fun u hu => by cases hu
  | y :: xs, u :: us, .cons r t, f => fun u' hu => by
    rw [List.all_cons, Bool.and_eq_true] at f
    rcases List.mem_cons.mp hu with rfl | hu
    · rw [eqU_of r f.1]; exact eqAt_V r rx f.1 fx
    · exact mem_eqAt rx fx t f.2 u' hu
noncomputable def inV (x : V) (xs : List V) : Bool := xs.any fun y => eqV y x
noncomputable def rIn (K : PySem.W.Frag) (neg : Bool) : R2 := fun x y H Q => ∃ p xs, y = .ref p ∧ (SqL K H p xs ∨ SqT K H p xs) ∧ flatV x = true ∧ xs.all flatV = true ∧ Q (.bl (if neg then !inV x xs else inV x xs)) H
theorem op_in_seq : OpR X (compareOp .In) (rIn X.K false) := by
  intro pins s σ H x y v u Q I rx ry h
  obtain ⟨p, xs, rfl, hq, fx, fs, q⟩ := h
  cases ry
  rcases hq with hq | hq
  · obtain ⟨its, r, pl, hz⟩ := I.list hq
    refine SeqAt.in_listAt (eqU x) pl.isList (fun w hw => mem_eqAt rx fx r fs w (by simpa using hw)) ⟨.bl _, H, I, rfl, ?_⟩
    rw [show its.toArray.any (eqU x) = its.any (eqU x) by simp, any_eqU r fs]
    exact q
  · obtain ⟨its, r, pl, hz⟩ := I.tuple hq
    refine SeqAt.in_tupleAt (eqU x) pl (fun w hw => mem_eqAt rx fx r fs w (by simpa using hw)) ⟨.bl _, H, I, rfl, ?_⟩
    rw [show its.toArray.any (eqU x) = its.any (eqU x) by simp, any_eqU r fs]
    exact q
theorem call_len_seq : CallR X (.builtin "len") (fun xs H Q => ∃ p ys, xs = [.ref p] ∧ (SqL X.K H p ys ∨ SqT X.K H p ys) ∧ Q (.int ys.length) H) := by
  intro pins s σ H xs us Q I r h
  obtain ⟨p, ys, rfl, hq, q⟩ := h
  obtain ⟨u, rfl, rx⟩ := vals1 r
  cases rx
  have hn := line63
  rcases hq with hq | hq
  · obtain ⟨its, r', pl, hz⟩ := I.list hq
    have hlen := r'.length
    exact Calls.call_len_list pl.isList (by simp only [List.size_toArray] <;> omega) ⟨.int ys.length, H, I.tok _, ⟨s.toks + 1, by rw [List.size_toArray, hlen]⟩, q⟩
  · obtain ⟨its, r', pl, hz⟩ := I.tuple hq
    have hlen := r'.length
    exact len_tuple pl (by simp only [List.size_toArray] <;> omega) ⟨.int ys.length, H, I.tok _, ⟨s.toks + 1, by rw [List.size_toArray, hlen]⟩, q⟩
theorem call_len_str : CallR X (.builtin "len") (fun xs H Q => ∃ z, xs = [.str z] ∧ z.length ≤ sizeLine ∧ Q (.int z.length) H) := by
  intro pins s σ H xs us Q I r h
  obtain ⟨z, rfl, hz, q⟩ := h
  obtain ⟨u, rfl, t, rfl⟩ := vals1 r
  have hn := line63
  exact len_str (by omega) ⟨.int z.length, H, I.tok _, ⟨_, rfl⟩, q⟩
theorem call_list_of : CallR X (.type "list") (fun xs H Q => ∃ p ys, xs = [.ref p] ∧ (SqL X.K H p ys ∨ SqT X.K H p ys) ∧ ∀ l, H l = none → Q (.ref l) (upd H l (.lst ys))) := by
  intro pins s σ H xs us Q I r h
  obtain ⟨p, ys, rfl, hq, q⟩ := h
  obtain ⟨u, rfl, rx⟩ := vals1 r
  cases rx
  have fin : ∀ (its : List Value), Vals ys its → ys.length ≤ sizeLine → ∀ (h' : Heap) (c' : Nat), (∀ b o', s.heap.get? b = some o' → h'.get? b = some o') →
      h'.get? s.heap.objs.size = some { cls := .type "list", dict := none, data := .seq its.toArray c', slots := #[] } → EP X pins σ Q (.ref s.heap.objs.size) { s with heap := h' } := fun its r' hz h' c' kp e =>
    ⟨.ref s.heap.objs.size, _, I.laid (t' := s.toks) kp (Nat.le_refl _) (show ObjOk X.prog X.w _ h' _ (.lst ys) from ⟨hz, its, c', r', e⟩), rfl, q _ (I.hok.fresh (Nat.le_refl _))⟩
  rcases hq with hq | hq
  · obtain ⟨its, r', pl, hz⟩ := I.list hq
    have hlen := r'.length
    obtain ⟨o, ho, hc, n, hd⟩ := pl.isList
    exact call_list_seq p (.inl rfl) ho hc hd (fun h' c' kp e => fin its r' hz h' c' kp e) (by simp only [List.size_toArray] <;> omega)
  · obtain ⟨its, r', pl, hz⟩ := I.tuple hq
    have hlen := r'.length
    obtain ⟨o, ho, hc, n, hd⟩ := pl
    exact call_list_seq p (.inr rfl) ho hc hd (fun h' c' kp e => fin its r' hz h' c' kp e) (by simp only [List.size_toArray] <;> omega)
theorem call_tuple_of : CallR X (.type "tuple") (fun xs H Q => ∃ p ys, xs = [.ref p] ∧ ((SqL X.K H p ys ∧ ∀ l, H l = none → Q (.ref l) (upd H l (.tup ys))) ∨ (SqT X.K H p ys ∧ Q (.ref p) H))) := by
  intro pins s σ H xs us Q I r h
  obtain ⟨p, ys, rfl, h⟩ := h
  obtain ⟨u, rfl, rx⟩ := vals1 r
  cases rx
  rcases h with ⟨hq, q⟩ | ⟨hq, q⟩
  · obtain ⟨its, r', pl, hz⟩ := I.list hq
    have hlen := r'.length
    refine call_tuple_list pl.isList (fun h' kp => ?_) (by simp only [List.size_toArray] <;> omega)
    have I1 : Inv X pins σ H { s with heap := h' } := I.kept (t' := s.toks) kp
    have I2 : Inv X pins σ (upd H h'.objs.size (.tup ys)) { s with heap := h'.push { cls := .type "tuple", data := .seq its.toArray } } :=
      I1.laid (t' := s.toks) (fun b o e => Heap.get?_push_of_some _ e) (Nat.le_refl _) (show ObjOk X.prog X.w _ _ _ (.tup ys) from ⟨hz, its, r', IsTupN.new _ _⟩)
    exact ⟨.ref h'.objs.size, _, I2, rfl, q _ (I1.hok.fresh (Nat.le_refl _))⟩
  · obtain ⟨its, r', pl, hz⟩ := I.tuple hq
    exact call_tuple_same pl ⟨.ref p, H, I, rfl, q⟩

noncomputable def tyV (K : PySem.W.Frag) (T : String) (x : V) (H : Hp) : Prop := match x with
  | .str _ => T = "str"
  | .int _ => T = "int"
  | .ref p => (T = "list" ∧ ∃ xs, SqL K H p xs) ∨ (T = "tuple" ∧ ∃ o, K.lookup p = some o ∧ o.cls = .type "tuple" ∧ o.dict = none) ∨
      (T = "dict" ∧ ((∃ kvs, H p = some (.dK kvs)) ∨ ∃ kvs, H p = some (.dT kvs))) ∨ (T = "set" ∧ ∃ S n, H p = some (.set S n))
  | _ => False
theorem tyV_is {pins : List (Addr × Obj)} {σ : St} {H : Hp} {s : Shared} {T : String} {x : V} {v : Value} (I : Inv X pins σ H s) (r : RelV x v) (ty : tyV X.K T x H) :
    s.TypeIs v T ∧ ∀ a, v = .ref a → ∃ ob, s.heap.get? a = some ob ∧ ob.dict = none := by
  cases x with
  | str z =>
    obtain ⟨t, rfl⟩ := r
    cases (show T = "str" from ty)
    exact ⟨typeIs_str s z t, fun _ e => nomatch e⟩
  | int i =>
    obtain ⟨t, rfl⟩ := r
    cases (show T = "int" from ty)
    exact ⟨typeIs_int s i t, fun _ e => nomatch e⟩
  | ref p =>
    cases r
    rcases ty with ⟨rfl, xs, hq⟩ | ⟨rfl, o, hk, hc, hd⟩ | ⟨rfl, hk⟩ | ⟨rfl, S, n, hk⟩
    · obtain ⟨its, _, pl, _⟩ := I.list hq
      refine ⟨pl.isList.typeIs, fun a e => ?_⟩
      cases e
      obtain ⟨o, n, e, c, hd, _⟩ := pl
      exact ⟨o, e, hd⟩
    · refine ⟨⟨o, I.kIn p o hk, hc⟩, fun a e => ?_⟩
      cases e
      exact ⟨o, I.kIn _ o hk, hd⟩
    · have z : ∃ o, s.heap.get? p = some o ∧ o.ExactDict := by
        rcases hk with ⟨kvs, hk⟩ | ⟨kvs, hk⟩
        · obtain ⟨_, _, _, _, o, _, _, e, ex, _⟩ := I.hok p _ hk
          exact ⟨o, e, ex⟩
        · obtain ⟨_, _, _, _, o, _, _, e, ex, _⟩ := I.hok p _ hk
          exact ⟨o, e, ex⟩
      obtain ⟨o, e, ex⟩ := z
      refine ⟨⟨o, e, ex.1⟩, fun a e2 => ?_⟩
      cases e2
      exact ⟨o, e, ex.2.1⟩
    · obtain ⟨o, _, _, _, e, ex, _⟩ := I.hok p _ hk
      refine ⟨⟨o, e, ex.1⟩, fun a e2 => ?_⟩
      cases e2
      exact ⟨o, e, ex.2.1⟩
  | _ => exact False.elim ty
noncomputable def tBM (K : PySem.W.Frag) (T : String) (r : V → List V → Hp → VK → Prop) (to : TE) (t : TA) : TE := fun σ H Q => to σ H fun x H1 => tyV K T x H1 ∧ t σ H1 fun xs H2 => r x xs H2 Q
variable {o e : Expr} {es : List Expr} {to : TE} {t : TA} {name : Str} {apos cpos : Pos} {T id : String} {r : V → List V → Hp → VK → Prop}
theorem pe_bm (pa : PlainAttrs T) (slot : Slot T name id) (hty : typeOf (.builtin id) = pure (.type "method_descriptor")) (hm : MtR X id r) (ho : PE X o to) (ha : PA X (e :: es) t)
    (hbase : attributeBase o name X.env (eval o X.env) = eval o X.env := by rfl)
    (hfew : ((backTo cpos (starEach (e :: es) X.env)).all (fun x => !x.1) && (backToKw cpos (keywordEach [] X.env)).all (fun x => x.1.isSome)
      && decide ((e :: es).length + ([] : List Keyword).length + (if ([] : List Keyword).isEmpty then 0 else 1) < 30)) = true := by rfl)
    (hline : (apos.endLine == cpos.line) = true := by rfl) (hs : starEach (e :: es) X.env = (false, eval e X.env) :: starEach es X.env := by rfl) (hplain : (backTo cpos (starEach es X.env)).any (·.1) = false := by rfl) :
    PE X (.Call (.Attribute o name apos) (e :: es) [] cpos) (tBM X.K T r to t) := by
  intro pins s σ H Q I h
  refine wpAny_Call_method_late hbase hfew hline rfl (thn (ho pins s σ H _ I h) fun v s1 ⟨x, H1, I1, r1, ty, q1⟩ => ?_)
  obtain ⟨h1, h2⟩ := tyV_is I1 r1 ty
  refine ⟨T, id, pa, slot, hty, h1, h2, ?_⟩
  have hA := ha cpos pins s1 σ H1 _ I1 q1
  rw [hs] at hA ⊢
  refine Calls.callWith_builtin (by show (false || (backTo cpos (starEach es X.env)).any (·.1)) = false; rw [hplain] <;> rfl) (Calls.evalArgs_plain ?_)
  exact thn hA fun us s2 ⟨vs, H2, I2, r2, q2⟩ => hm pins s2 σ H2 x vs v us Q I2 r1 r2 q2
end
end L2

namespace L2
open PySem PySem.Spec PyProof.Rows

noncomputable def MtM (X : Cx) (id : String) (r : V → List V → Hp → VK → Prop) : Prop :=
  ∀ (pins : List (Addr × Obj)) (s : Shared) (σ : St) (H : Hp) (x : V) (xs : List V) (v : Value) (us : List Value) (Q : VK), Inv X pins σ H s → RelV x v → Vals xs us → r x xs H Q →
    wpAny (model X.prog X.w) X.A (call (.builtin id) (v :: us)) (EP X pins σ Q) X.xe s

theorem Vals.one : ∀ {x : V} {us : List Value}, Vals [x] us → ∃ u, us = [u] ∧ RelV x u := by
  intro x us h
  cases h with
  | cons r q =>
    cases q
    exact ⟨_, rfl, r⟩
theorem Vals.two : ∀ {x y : V} {us : List Value}, Vals [x, y] us → ∃ u v, us = [u, v] ∧ RelV x u ∧ RelV y v := by
  intro x y us h
  cases h with
  | cons r q =>
    obtain ⟨v, rfl, z⟩ := Vals.one q
    exact ⟨_, _, rfl, r, z⟩
section
variable {X : Cx} {pins : List (Addr × Obj)} {σ : St} {H : Hp} {s : Shared} {l b : Addr} {xs ys zs : List V}

theorem Inv.lset {its its' : List Value} {n : Nat} {f : Array Value → Array Value} {t' : Nat} (I : Inv X pins σ H s) (hH : H l = some (.lst xs))
    (e : s.heap.get? l = some { cls := .type "list", data := .seq its.toArray n }) (hf : f its.toArray = its'.toArray) (hv : Vals ys its') (hz : ys.length ≤ sizeLine) :
    Inv X pins σ (upd H l (.lst ys)) { s with heap := s.heap.update l (Obj.mapSeq f), toks := t' } := by
  have q := PySem.IsL.update e f
  rw [hf] at q
  refine I.write (x := l) (e := l) (by rw [hH]; exact trivial) (.inl rfl) (fun b' u hb hu => (Heap.get?_update_other s.heap (Obj.mapSeq f) (Ne.symm hb)).trans hu) ⟨_, q⟩ ?_
  exact ⟨hz, its', _, hv, q⟩
theorem Inv.lnew {its : List Value} {t' : Nat} (I : Inv X pins σ H s) (hv : Vals ys its) (hz : ys.length ≤ sizeLine) :
    Inv X pins σ (upd H s.heap.objs.size (.lst ys)) { s with heap := s.heap.push { cls := .type "list", data := .seq its.toArray }, toks := t' } :=
  I.laid (fun _ _ q => Heap.get?_push_of_some _ q) (Nat.le_refl _) ⟨hz, its, 0, hv, Heap.get?_push_size _ rfl⟩
theorem Inv.fresh (I : Inv X pins σ H s) : H s.heap.objs.size = none := I.hok.fresh (Nat.le_refl _)
theorem Inv.lstM (I : Inv X pins σ H s) (hH : H l = some (.lst xs)) : xs.length ≤ sizeLine ∧ ∃ (its : List Value) (n : Nat), Vals xs its ∧ xs.length = its.length ∧ s.heap.get? l = some { cls := .type "list", data := .seq its.toArray n } := by
  obtain ⟨z, its, n, r, e⟩ := I.hok l _ hH
  exact ⟨z, its, n, r, r.length, e⟩

theorem notLongL {n : Nat} (h : n ≤ sizeLine) : Builtin.List.listTooLong n = false := by
  unfold Builtin.List.listTooLong
  exact decide_eq_false (by omega)
end

section
variable {X : Cx}

noncomputable def rAppend : V → List V → Hp → VK → Prop := fun x vs H Q => ∃ l xs y, x = .ref l ∧ vs = [y] ∧ H l = some (.lst xs) ∧ xs.length < sizeLine ∧ Q .non (upd H l (.lst (xs ++ [y])))
theorem mt_append : MtM X "list.append" rAppend := by
  intro pins s σ H x vs v us Q I rx rv h
  obtain ⟨l, xs, y, rfl, rfl, hH, hz, q⟩ := h
  cases rx
  obtain ⟨u, rfl, ru⟩ := rv.one
  obtain ⟨z, its, n, r, hl, e⟩ := I.lstM hH
  refine call_meets F.slot_list_append ⟨_, e, rfl⟩ F.entry_list_append (F.args_list_append_2 _ _) (PySem.list_append l its.toArray n u (by rw [List.size_toArray]; omega)) ⟨e, ?_⟩
  refine ⟨.non, _, I.lset (its' := its ++ [u]) hH e (by simp) (r.append (.cons ru .nil)) ?_, rfl, q⟩
  rw [List.length_append, List.length_singleton]
  omega

noncomputable def rExtend : V → List V → Hp → VK → Prop := fun x vs H Q => ∃ l b xs zs, x = .ref l ∧ vs = [.ref b] ∧ H l = some (.lst xs) ∧ H b = some (.lst zs) ∧ xs.length + zs.length ≤ sizeLine ∧ Q .non (upd H l (.lst (xs ++ zs)))
theorem mt_extend : MtM X "list.extend" rExtend := by
  intro pins s σ H x vs v us Q I rx rv h
  obtain ⟨l, b, xs, zs, rfl, rfl, hH, hB, hz, q⟩ := h
  cases rx
  obtain ⟨u, rfl, ru⟩ := rv.one
  cases ru
  obtain ⟨z, its, n, r, hl, e⟩ := I.lstM hH
  obtain ⟨z2, its2, n2, r2, hl2, e2⟩ := I.lstM hB
  have hsz : its.toArray.size + its2.toArray.size ≤ sizeLine := by rw [List.size_toArray, List.size_toArray]; omega
  have hlong : ¬ (!its.toArray.isEmpty && Builtin.List.listTooLong (its.toArray.size + its2.toArray.size)) = true := by
    rw [notLongL hsz, Bool.and_false]
    exact Bool.false_ne_true
  refine call_meets F.slot_list_extend ⟨_, e, rfl⟩ F.entry_list_extend (F.args_list_extend_2 _ _)
    (AutoSeq1.list_extend_list_list_0 l its.toArray n b its2.toArray n2 hlong (by rw [List.size_toArray]; omega) (by omega)) ⟨e, e2, ?_⟩
  refine ⟨.non, _, I.lset (its' := its ++ its2) hH e (by simp) (r.append r2) ?_, rfl, q⟩
  rw [List.length_append]
  omega

noncomputable def rCat : R2 := fun x y H Q => ∃ l b xs zs, x = .ref l ∧ y = .ref b ∧ H l = some (.lst xs) ∧ H b = some (.lst zs) ∧ xs.length + zs.length ≤ sizeLine ∧ ∀ p, H p = none → Q (.ref p) (upd H p (.lst (xs ++ zs)))
theorem op_cat : OpR X (binaryOp .Add) rCat := by
  intro pins s σ H x y v u Q I rx ry h
  obtain ⟨l, b, xs, zs, rfl, rfl, hH, hB, hz, q⟩ := h
  cases rx
  cases ry
  obtain ⟨z, its, n, r, hl, e⟩ := I.lstM hH
  obtain ⟨z2, its2, n2, r2, hl2, e2⟩ := I.lstM hB
  refine PySem.P.add_list e e2 ?_ (by rw [List.size_toArray, List.size_toArray]; omega)
  have ea : its.toArray ++ its2.toArray = (its ++ its2).toArray := by simp
  rw [ea]
  exact ⟨.ref _, _, I.lnew (t' := s.toks) (r.append r2) (by rw [List.length_append]; omega), rfl, q _ I.fresh⟩
end

section
variable {prog : Program} {w : World} {A : Around} {E : Value → Shared → Prop} {s : Shared}
set_option maxRecDepth 100000 in
end

section
variable {X : Cx}
end
end L2

namespace L2
open PySem PySem.Spec PyProof.Rows

section
variable {κ : Type} [DecidableEq κ]
noncomputable def valV (kvs : List (κ × V)) (k : κ) : Option V := (kvs.find? fun kv => decide (kv.1 = k)).map (·.2)
noncomputable def putK (kvs : List (κ × V)) (k : κ) (v : V) : List (κ × V) :=
  if (kvs.any fun kv => decide (kv.1 = k)) = true then kvs.map (fun kv => if kv.1 = k then (kv.1, v) else kv) else kvs ++ [(k, v)]
theorem valV_pos {p : κ × V} {r : List (κ × V)} {k : κ} (e : p.1 = k) : valV (p :: r) k = some p.2 := by simp [valV, List.find?_cons, e]
theorem valV_neg {p : κ × V} {r : List (κ × V)} {k : κ} (e : ¬ p.1 = k) : valV (p :: r) k = valV r k := by simp [valV, List.find?_cons, e]
theorem valV_any (k : κ) : ∀ kvs : List (κ × V), (kvs.any fun kv => decide (kv.1 = k)) = (valV kvs k).isSome
  | [] => rfl
  | p :: r => by
    rw [List.any_cons]
    by_cases e : p.1 = k
    · simp only [valV_pos e, decide_eq_true e, Bool.true_or, Option.isSome_some]
    · rw [valV_neg e, decide_eq_false e, Bool.false_or]; exact valV_any k r
theorem valV_map (k j : κ) (y : V) : ∀ kvs : List (κ × V), valV (kvs.map fun kv => if kv.1 = k then (kv.1, y) else kv) j = (valV kvs j).map fun x => if j = k then y else x
  | [] => rfl
  | p :: r => by
    have ih := valV_map k j y r
    rw [List.map_cons]
    by_cases h : p.1 = k
    · rw [if_pos h]
      by_cases e : p.1 = j
      · rw [valV_pos (p := (p.1, y)) e, valV_pos e, Option.map_some, if_pos (e.symm.trans h)]
      · rw [valV_neg (p := (p.1, y)) e, valV_neg e, ih]
    · rw [if_neg h]
      by_cases e : p.1 = j
      · rw [valV_pos (p := p) e, valV_pos e, Option.map_some, if_neg (fun z => h (e.trans z))]
      · rw [valV_neg (p := p) e, valV_neg e, ih]
theorem valV_snoc (k j : κ) (y : V) : ∀ kvs : List (κ × V), valV kvs k = none → valV (kvs ++ [(k, y)]) j = if j = k then some y else valV kvs j
  | [], _ => by
    by_cases e : k = j
    · rw [if_pos e.symm]; exact valV_pos (p := (k, y)) e
    · rw [if_neg (fun z => e z.symm)]; exact valV_neg (p := (k, y)) e
  | p :: r, hn => by
    rw [List.cons_append]
    have hk : ¬ p.1 = k := fun z => by rw [valV_pos z] at hn; cases hn
    rw [valV_neg hk] at hn
    have ih := valV_snoc k j y r hn
    by_cases e : p.1 = j
    · rw [valV_pos e, valV_pos e, if_neg (fun z => hk (e.trans z))]
    · rw [valV_neg e, valV_neg e, ih]
theorem valV_put (kvs : List (κ × V)) (k j : κ) (y : V) : valV (putK kvs k y) j = if j = k then some y else valV kvs j := by
  unfold putK
  by_cases a : (kvs.any fun kv => decide (kv.1 = k)) = true
  · rw [if_pos a, valV_map]
    rw [valV_any] at a
    by_cases e : j = k
    · obtain ⟨x, hx⟩ := Option.isSome_iff_exists.mp a
      rw [if_pos e, e, hx, Option.map_some, if_pos rfl]
    · rw [if_neg e]
      cases valV kvs j with
      | none => rfl
      | some x => rw [Option.map_some, if_neg e]
  · rw [if_neg a]
    refine valV_snoc k j y kvs ?_
    rw [valV_any] at a
    cases q : valV kvs k with
    | none => rfl
    | some x => rw [q] at a; exact (a rfl).elim
theorem length_putK (kvs : List (κ × V)) (k : κ) (v : V) : (putK kvs k v).length ≤ kvs.length + 1 := by
  unfold putK
  split
  · rw [List.length_map]; omega
  · rw [List.length_append, List.length_cons, List.length_nil]; omega
theorem RelO.isSome_eq {o : Option V} {u : Option Value} (r : RelO o u) : o.isSome = u.isSome := by
  cases o with
  | none => cases u with
    | none => rfl
    | some _ => exact (show False from r).elim
  | some _ => cases u with
    | none => exact (show False from r).elim
    | some _ => rfl
theorem KV.val {kvs : List (κ × V)} {vs : List (κ × Value)} (r : KV kvs vs) (k : κ) : RelO (valV kvs k) (valueAt vs k) := by
  unfold KV at r
  induction r with
  | nil => exact True.intro
  | @cons p q ps qs h t ih =>
    obtain ⟨h1, h2⟩ := h
    by_cases e : p.1 = k
    · have e' : q.1 = k := h1.symm.trans e
      have b : valueAt (q :: qs) k = some q.2 := by simp [valueAt, List.find?_cons, e']
      rw [valV_pos e, b]; exact h2
    · have e' : ¬ q.1 = k := fun z => e (h1.trans z)
      have b : valueAt (q :: qs) k = valueAt qs k := by simp [valueAt, List.find?_cons, e']
      rw [valV_neg e, b]; exact ih
theorem KV.any {kvs : List (κ × V)} {vs : List (κ × Value)} (r : KV kvs vs) (k : κ) : (kvs.any fun kv => decide (kv.1 = k)) = vs.any fun kv => decide (kv.1 = k) := by
  unfold KV at r
  induction r with
  | nil => rfl
  | cons h t ih => rw [List.any_cons, List.any_cons, ih, h.1]
theorem KV.repl {kvs : List (κ × V)} {vs : List (κ × Value)} (r : KV kvs vs) (k : κ) {y : V} {u : Value} (ry : RelV y u) :
    KV (kvs.map fun kv => if kv.1 = k then (kv.1, y) else kv) (vs.map fun kv => if kv.1 = k then (kv.1, u) else kv) := by
  unfold KV at r ⊢
  induction r with
  | nil => exact .nil
  | @cons p q ps qs h t ih =>
    rw [List.map_cons, List.map_cons]
    refine .cons ?_ ih
    obtain ⟨h1, h2⟩ := h
    by_cases e : p.1 = k
    · rw [if_pos e, if_pos (h1.symm.trans e)]; exact ⟨h1, ry⟩
    · rw [if_neg e, if_neg (fun z => e (h1.trans z))]; exact ⟨h1, h2⟩
theorem KV.put {kvs : List (κ × V)} {vs : List (κ × Value)} (r : KV kvs vs) (k : κ) {y : V} {u : Value} (ry : RelV y u) : KV (putK kvs k y) (stored vs k u) := by
  unfold putK stored
  rw [r.any k]
  by_cases e : (vs.any fun kv => decide (kv.1 = k)) = true
  · rw [if_pos e, if_pos e]; exact r.repl k ry
  · rw [if_neg e, if_neg e]; exact Paired.snoc r ⟨rfl, ry⟩
theorem KV.length {kvs : List (κ × V)} {vs : List (κ × Value)} (r : KV kvs vs) : kvs.length = vs.length := Paired.length r
end


theorem kV_is {P : Program} {w : World} {k : Key} {u : Value} (r : RelV (kV k) u) : (mixKind P w).is k u = true := by
  cases k with
  | inl i => obtain ⟨t, e⟩ := (show ∃ t, u = Value.int i t from r); subst e; exact mixKind_int P w i t
  | inr x => obtain ⟨t, e⟩ := (show ∃ t, u = Value.str x t from r); subst e; exact mixKind_str P w x t
theorem items_are {P : Program} {w : World} : ∀ {ks : List Key} {us : List Value}, Vals (ks.map kV) us → ItemsAre (mixKind P w) ks us
  | [], _, r => by rw [List.map_nil] at r; cases r; exact .nil
  | k :: ks, _, r => by
    rw [List.map_cons] at r
    cases r with
    | cons h t => exact .cons (kV_is h) (items_are t)

noncomputable abbrev KT (H : Hp) : List (List Key × V) → List (List Key × Addr × Value) → Prop := Paired fun p q => p.1 = q.1 ∧ H q.2.1 = some (.tup (p.1.map kV)) ∧ RelV p.2 q.2.2
theorem KT.val {H : Hp} {kvs : List (List Key × V)} {xs : List (List Key × Addr × Value)} (r : KT H kvs xs) (k : List Key) : RelO (valV kvs k) ((atKey xs k).map (·.2)) := by
  induction r with
  | nil => exact True.intro
  | @cons p q ps qs h t ih =>
    obtain ⟨h1, _, h2⟩ := h
    by_cases e : p.1 = k
    · have e' : q.1 = k := h1.symm.trans e
      have b : atKey (q :: qs) k = some q.2 := by simp [atKey, List.find?_cons, e']
      rw [valV_pos e, b]; exact h2
    · have e' : ¬ q.1 = k := fun z => e (h1.trans z)
      have b : atKey (q :: qs) k = atKey qs k := by simp [atKey, List.find?_cons, e']
      rw [valV_neg e, b]; exact ih
theorem KT.repl {H : Hp} {kvs : List (List Key × V)} {xs : List (List Key × Addr × Value)} (r : KT H kvs xs) (k : List Key) {y : V} {u : Value} (ry : RelV y u) :
    KT H (kvs.map fun kv => if kv.1 = k then (kv.1, y) else kv) (xs.map (putAt k u)) := by
  induction r with
  | nil => exact .nil
  | @cons p q ps qs h t ih =>
    rw [List.map_cons, List.map_cons]
    refine .cons ?_ ih
    obtain ⟨h1, h2, h3⟩ := h
    unfold putAt
    by_cases e : p.1 = k
    · rw [if_pos e, if_pos (h1.symm.trans e)]; exact ⟨h1, h2, ry⟩
    · rw [if_neg e, if_neg (fun z => e (h1.trans z))]; exact ⟨h1, h2, h3⟩
theorem KT.put {H : Hp} {kvs : List (List Key × V)} {xs : List (List Key × Addr × Value)} (r : KT H kvs xs) (k : List Key) {b : Addr} {y : V} {u : Value} (hb : H b = some (.tup (k.map kV))) (ry : RelV y u) :
    KT H (putK kvs k y) (storedH xs k b u) := by
  have e : (kvs.any fun kv => decide (kv.1 = k)) = (atKey xs k).isSome := by
    rw [valV_any, (r.val k).isSome_eq, Option.isSome_map]
  unfold putK storedH
  rw [e]
  by_cases q : (atKey xs k).isSome = true
  · rw [if_pos q, if_pos q]; exact r.repl k ry
  · rw [if_neg q, if_neg q]; exact Paired.snoc r ⟨rfl, hb, ry⟩
theorem KT.keeps {H H' : Hp} {kvs : List (List Key × V)} {xs : List (List Key × Addr × Value)} (r : KT H kvs xs) (ht : ∀ b ys, H b = some (.tup ys) → H' b = some (.tup ys)) : KT H' kvs xs :=
  Paired.mapP r fun _ _ z => ⟨z.1, ht _ _ z.2.1, z.2.2⟩

section
variable {P : Program} {w : World} {H : Hp} {h : Heap} {a : Addr}
theorem rd_of {u : HO} (ok : HOk P w H h) (e : Rd H a u) : ObjOk P w H h a u := e.ok ok
theorem dk_rd {kvs : List (Key × V)} (ok : HOk P w H h) (e : Rd H a (.dK kvs)) : kvs.length ≤ sizeLine ∧ (a == sysModules) = false ∧ ∃ vs, KV kvs vs ∧ h.DictOf (mixKind P w) a vs :=
  show ObjOk P w H h a (.dK kvs) from rd_of ok e
theorem dk_of {kvs : List (Key × V)} (ok : HOk P w H h) (e : H a = some (.dK kvs)) : kvs.length ≤ sizeLine ∧ (a == sysModules) = false ∧ ∃ vs, KV kvs vs ∧ h.DictOf (mixKind P w) a vs := dk_rd ok (.inl e)
theorem key_of {ks : List Key} (ok : HOk P w H h) (e : H a = some (.tup (ks.map kV))) : (tupleKind (mixKind P w)).is h ks a := by
  obtain ⟨_, its, r, o, h1, h2, ⟨n, h3⟩, _⟩ := (show ObjOk P w H h a (.tup (ks.map kV)) from ok a _ e)
  exact ⟨o, its.toArray, n, h1, h2, h3, by simpa using items_are r⟩
theorem dt_rd {kvs : List (List Key × V)} (ok : HOk P w H h) (e : Rd H a (.dT kvs)) : kvs.length ≤ sizeLine ∧ (a == sysModules) = false ∧
    ∃ xs, KT H kvs xs ∧ h.DictOfH (tupleKind (mixKind P w)) a xs := by
  obtain ⟨z, y, xs, r, o, es, ep, h1, h2, h3, h4, h5⟩ := (show ObjOk P w H h a (.dT kvs) from rd_of ok e)
  refine ⟨z, y, xs, r, o, es, ep, h1, h2, h3, h4, fun x hx => ?_, h5⟩
  have all : ∀ {l : List (List Key × V)} {m : List (List Key × Addr × Value)}, KT H l m → ∀ x ∈ m, (tupleKind (mixKind P w)).is h x.1 x.2.1 := by
    intro l m q
    induction q with
    | nil => intro x hx; exact nomatch hx
    | @cons p q ps qs hq t ih =>
      intro x hx
      rcases List.mem_cons.mp hx with e | hx
      · subst e
        exact key_of ok (by rw [← hq.1]; exact hq.2.1)
      · exact ih x hx
  exact all r x hx
theorem dt_of {kvs : List (List Key × V)} (ok : HOk P w H h) (e : H a = some (.dT kvs)) : kvs.length ≤ sizeLine ∧ (a == sysModules) = false ∧
    ∃ xs, KT H kvs xs ∧ h.DictOfH (tupleKind (mixKind P w)) a xs := dt_rd ok (.inl e)
end

noncomputable def DGet (H : Hp) (a : Addr) (y : V) (r : Option V) : Prop :=
  (∃ kvs k, Rd H a (.dK kvs) ∧ y = kV k ∧ r = valV kvs k) ∨ ∃ kvs k b, Rd H a (.dT kvs) ∧ y = .ref b ∧ H b = some (.tup (k.map kV)) ∧ r = valV kvs k
noncomputable def DPut (H : Hp) (a : Addr) (y v : V) (H' : Hp) : Prop :=
  (∃ kvs k, H a = some (.dK kvs) ∧ y = kV k ∧ kvs.length < sizeLine ∧ H' = upd H a (.dK (putK kvs k v))) ∨
  ∃ kvs k b, H a = some (.dT kvs) ∧ y = .ref b ∧ H b = some (.tup (k.map kV)) ∧ kvs.length < sizeLine ∧ H' = upd H a (.dT (putK kvs k v))
theorem DGet.k {H : Hp} {a : Addr} {kvs : List (Key × V)} {k : Key} (e : H a = some (.dK kvs)) : DGet H a (kV k) (valV kvs k) := .inl ⟨kvs, k, .inl e, rfl, rfl⟩
theorem DPut.k {H : Hp} {a : Addr} {kvs : List (Key × V)} {k : Key} {v : V} (e : H a = some (.dK kvs)) (hl : kvs.length < sizeLine) : DPut H a (kV k) v (upd H a (.dK (putK kvs k v))) := .inl ⟨kvs, k, e, rfl, hl, rfl⟩
section
variable {X : Cx} {pins : List (Addr × Obj)} {σ : St} {H : Hp} {s : Shared} {a : Addr} {y v : V} {u r : Value} {o : Option V} {A : Around} {E : Value → Shared → Prop}

theorem Inv.big (I : Inv X pins σ H s) : sysModules < s.heap.objs.size := by
  have h : mainGlobals < s.heap.objs.size := (I.mod.glob.keeps I.bk).lt
  exact Nat.lt_trans (by decide) h

theorem d_getItem {Q : Value → Shared → Prop} (hu : A.units + 1 < cLine) (I : Inv X pins σ H s) (g : DGet H a y (some v)) (ry : RelV y u) (h : ∀ w' s', Inv X pins σ H s' → RelV v w' → Q w' s') :
    wpAny (model X.prog X.w) A (getItem (.ref a) u) Q E s := by
  rcases g with ⟨kvs, k, e, ey, l⟩ | ⟨kvs, k, b, e, ey, eb, l⟩
  · subst ey
    obtain ⟨z, hd, vs, rel, dd⟩ := dk_rd I.hok e
    obtain ⟨w', hw, rw'⟩ := RelO.some_of (v := v) (o := valueAt vs k) (by rw [l]; exact rel.val k)
    exact wpAny_getItem_of (kV_is ry) dd.mapOf hw (h w' _ (I.tok _) rw')
  · subst ey
    cases (show u = Value.ref b from ry)
    obtain ⟨z, hd, xs, rel, dd⟩ := dt_rd I.hok e
    obtain ⟨w', hw, rw'⟩ := RelO.some_of (v := v) (o := (atKey xs k).map (·.2)) (by rw [l]; exact rel.val k)
    obtain ⟨p, hp, hp2⟩ := Option.map_eq_some_iff.mp hw
    refine wpAny_getItem_heap (tupleKind_room_in1 hu) (key_of I.hok eb) dd hp ?_
    rw [hp2]
    exact h w' _ (I.tok _) rw'
theorem d_write {h' : Heap} {t' : Nat} {ob : HO} (I : Inv X pins σ H s) (mu : Mut (H a)) (hs : Heap.SameBut a s.heap h') (he : ∃ q, h'.get? a = some q) (new : ObjOk X.prog X.w (upd H a ob) h' a ob) :
    Inv X pins σ (upd H a ob) { s with heap := h', toks := t' } :=
  I.write (x := a) (e := a) mu (.inl rfl) (fun b q hb z => (hs.2 b hb).trans z) he new
theorem dk_new {P : Program} {w : World} {H' : Hp} {h' : Heap} {kvs : List (Key × V)} {vs : List (Key × Value)} (z : kvs.length ≤ sizeLine) (hd : (a == sysModules) = false) (rel : KV kvs vs) (dd : h'.DictOf (mixKind P w) a vs) :
    ObjOk P w H' h' a (.dK kvs) := ⟨z, hd, vs, rel, dd⟩
theorem d_setItem {H' : Hp} {Q : Unit → Shared → Prop} (hu : A.units + 1 < cLine) (I : Inv X pins σ H s) (g : DPut H a y v H') (ry : RelV y u) (rv : RelV v r) (h : ∀ s', Inv X pins σ H' s' → Q () s') :
    wpAny (model X.prog X.w) A (setItem (.ref a) u r) Q E s := by
  rcases g with ⟨kvs, k, e, ey, l, eH⟩ | ⟨kvs, k, b, e, ey, eb, l, eH⟩
  · subst ey eH
    obtain ⟨z, hd, vs, rel, dd⟩ := dk_of I.hok e
    have hz : vs.length ≤ sizeLine := by rw [← rel.length]; exact z
    have hl : (putK kvs k v).length ≤ sizeLine := by have := length_putK kvs k v; omega
    refine wpAny_setItem_pairs (hsz := hz) (kV_is ry) dd fun h' dd' hs => h _ ?_
    have he : ∃ q, h'.get? a = some q := let ⟨q, _, _, hq, _⟩ := dd'; ⟨q, hq⟩
    exact d_write I (by rw [e]; exact True.intro) hs he (dk_new hl hd (rel.put k rv) dd')
  · subst ey eH
    cases (show u = Value.ref b from ry)
    obtain ⟨z, hd, xs, rel, dd⟩ := dt_of I.hok e
    have hz : xs.length ≤ sizeLine := by rw [← Paired.length rel]; exact z
    have hl : (putK kvs k v).length ≤ sizeLine := by have := length_putK kvs k v; omega
    refine wpAny_setItem_heap (hsz := hz) (tupleKind_room_in1 hu) (key_of I.hok eb) dd fun h' dd' hs => h _ ?_
    obtain ⟨q, es, ep, hq, h2, h3, h4, _, h5⟩ := dd'
    refine d_write I (by rw [e]; exact True.intro) hs ⟨q, hq⟩ ⟨hl, hd, _, (rel.put k eb rv).keeps fun c ys ec => ?_, q, es, ep, hq, h2, h3, h4, h5⟩
    rw [upd_ne (ne_of ec e (fun z => nomatch z))]
    exact ec
end

section
variable {X : Cx} {pins : List (Addr × Obj)} {σ : St} {H : Hp} {s : Shared} {a : Addr} {kvs : List (Key × V)} {k : Key} {u : Value} {A : Around} {E : Value → Shared → Prop}
end


noncomputable def NoSl (i : Expr) : Prop := ∀ ov iv, subscripted i false ov iv = operate [ov, iv] (getItem ov iv)
theorem subD_of {prog : Program} {w : World} {A : Around} {E : Value → Shared → Prop} {s : Shared} {env : Env} {value slice : Expr} {pos : Pos} {T id : String} {Q : Value → Shared → Prop}
    (hl : typeLookup (.type T) "__getitem__" = pure (some (.builtin id))) (hs : NoSl slice)
    (h : wpAny (model prog w) A (eval value env) (fun o s₁ => wpAny (model prog w) A (eval slice env) (fun i s₂ => s₂.TypeIs o T ∧ wpAny (model prog w) A (getItem o i) Q E s₂) E s₁) E s) :
    wpAny (model prog w) A (eval (.Subscript value slice pos) env) Q E s := by
  refine Subscript_ (wpAny_mono h (fun o s₁ h₁ => wpAny_mono h₁ (fun i s₂ h₂ => ?_) fun _ _ x => x) fun _ _ x => x)
  obtain ⟨hT, h₂⟩ := h₂
  unfold subscriptTail
  refine wpAny_bind ?_
  rw [getitemInPython_of_ne hT.not_modules]
  refine wpAny_bind (wpAny_specialOf hT hl ?_)
  have fin : wpAny (model prog w) A (subscripted slice false o i) (fun r s₃ => wpAny (model prog w) A (letTemporaryGo value o r >>= fun _ => pure r) Q E s₃) E s₂ := by
    rw [hs o i]
    exact wpAny_operating (wpAny_mono h₂ (fun r s₃ h₃ => wpAny_bind (wpAny_letTemporaryGo (wpAny_pure h₃))) fun _ _ x => x)
  first
    | exact wpAny_pure (wpAny_bind fin)
    | exact wpAny_bind (wpAny_pure (wpAny_bind fin))
    | exact wpAny_bind fin

theorem dict_typeIs {X : Cx} {pins : List (Addr × Obj)} {σ : St} {H : Hp} {s : Shared} {a : Addr} {y : V} {o : Option V} (I : Inv X pins σ H s) (g : DGet H a y o) : s.TypeIs (.ref a) "dict" := by
  rcases g with ⟨kvs, k, e, _, _⟩ | ⟨kvs, k, b, e, _, _, _⟩
  · obtain ⟨_, _, vs, _, dd⟩ := dk_rd I.hok e
    exact dd.typeIs
  · obtain ⟨_, _, xs, _, dd⟩ := dt_rd I.hok e
    exact dd.typeIs
noncomputable def tDGet (td ty : TE) : TE := fun σ H Q => td σ H fun x H1 => ty σ H1 fun y H2 => ∃ a v, x = .ref a ∧ DGet H2 a y (some v) ∧ Q v H2
noncomputable def sDPut (td ty tv : TE) : TS := fun D σ H => tv σ H fun v H1 => td σ H1 fun x H2 => ty σ H2 fun y H3 => ∃ a H4, x = .ref a ∧ DPut H3 a y v H4 ∧ D.nx σ H4
section
variable {X : Cx} {o i e value : Expr} {pos pos' tpos : Pos} {td ty tv : TE}
theorem pe_dget (hu : X.A.units + 1 < cLine) (ho : PE X o td) (hi : PE X i ty) (hs : NoSl i) : PE X (.Subscript o i pos) (tDGet td ty) := by
  intro pins s σ H Q I h
  refine subD_of PySem.F.slot_dict_getitem.lookup hs (thn (ho pins s σ H _ I h) fun u s1 ⟨x, H1, I1, rx, q1⟩ => thn (hi pins s1 σ H1 _ I1 q1) fun iv s2 ⟨y, H2, I2, ry, a, v, ex, g, q2⟩ => ?_)
  subst ex
  obtain rfl : u = Value.ref a := rx
  exact ⟨dict_typeIs I2 g, d_getItem hu I2 g ry fun w' s3 I3 rw' => ⟨v, H2, I3, rw', q2⟩⟩
theorem ps_dput (hu : X.A.units + 1 < cLine) (ho : PE X o td) (hi : PE X i ty) (hv : PE X value tv) (hs : swapsWith value (some (.Subscript o i pos')) pos.line X.env = pure false) :
    PS X (.Assign [.Subscript o i pos'] value pos) (sDPut td ty tv) := by
  intro pins s σ H D I h
  refine wpAny_Assign_Subscript (thn (hv pins s σ H _ I h) fun r s1 ⟨v, H1, I1, rv, q1⟩ => thn (ho pins s1 σ H1 _ I1 q1) fun u s2 ⟨x, H2, I2, rx, q2⟩ => thn (hi pins s2 σ H2 _ I2 q2) fun iv s3 ⟨y, H3, I3, ry, a, H4, ex, g, q3⟩ => ?_) hs
  subst ex
  obtain rfl : u = Value.ref a := rx
  exact d_setItem hu I3 g ry rv fun s4 I4 => ⟨σ, H4, I4, q3⟩
end


theorem dk_empty {P : Program} {w : World} {H : Hp} (h : Heap) (hb : sysModules < h.objs.size) : ObjOk P w H (h.push { cls := .type "dict", data := .dict #[] }) h.objs.size (.dK []) :=
  ⟨Nat.zero_le _, beq_eq_false_iff_ne.mpr (Ne.symm (Nat.ne_of_lt hb)), [], .nil, Heap.DictOf.new h⟩
noncomputable def tDNewK : TE := fun _ H Q => ∀ p, H p = none → Q (.ref p) (upd H p (.dK []))
section
variable {X : Cx} {pos : Pos}
theorem pe_dnewK : PE X (.Dict [] [] pos) tDNewK := fun pins s σ H Q I h =>
  wpAny_Dict_empty ⟨.ref s.heap.objs.size, _, I.laid (a := s.heap.objs.size) (o := .dK []) (t' := s.toks) (fun _ _ q => Heap.get?_push_of_some _ q) (Nat.le_refl _) (dk_empty s.heap I.big), rfl, h _ (I.hok.fresh (Nat.le_refl _))⟩
end

section
variable {X : Cx} {pins : List (Addr × Obj)} {σ : St} {H : Hp} {s : Shared} {a : Addr} {y d : V} {u r : Value} {o : Option V} {A : Around} {E : Value → Shared → Prop}
end

section
variable {X : Cx} {o e f : Expr} {apos cpos : Pos} {td ty tx : TE}
end

section
variable {X : Cx} {pins : List (Addr × Obj)} {σ : St} {H : Hp} {s : Shared} {a : Addr} {kvs : List (Key × V)} {A : Around} {E : Value → Shared → Prop}
end


section
variable {X : Cx} {pins : List (Addr × Obj)} {σ : St} {H : Hp} {s : Shared} {a : Addr} {y : V} {u : Value} {A : Around} {E : Value → Shared → Prop}
end
end L2

namespace Att
open PySem PySem.W PySem.Calls PyProof.Rows

theorem ints_of_wellAll {P : Params} {h : Heap} : ∀ (ns : List Int) (vs : List Value), WellAll P h vs (ns.map WData.int) → IntsAre vs ns := by
  intro ns
  induction ns with
  | nil =>
    intro vs w
    rw [List.map_nil] at w
    cases w
    exact .nil
  | cons n ns ih =>
    intro vs w
    rw [List.map_cons] at w
    cases w with
    | cons a b =>
      cases a
      exact .cons _ _ (ih _ b)

theorem script_of {l : OpenLaw} {n : Nat} (hn : l.most = some n) {P : Params} {h : Heap} {args : List WData} {vals : List Value}
    (hpre : l.row.toRowW.claim.pre args = true) (hwl : WellAll P h vals args) :
    ∃ a vs ns, vals = [Value.ref a] ∧ args = [WData.list (ns.map WData.int)] ∧ h.get? a = some { cls := .type "list", data := .seq vs.toArray } ∧ IntsAre vs ns ∧ ns.length ≤ n := by
  have hsh : WShape.hasAll [] args [.list .int] = true := (pre_splitW hpre).1
  have hc : l.pre.holds [] { args := args } = true := (pre_splitW hpre).2
  obtain ⟨d, r, rfl, h1, h2⟩ := hasAllW_cons hsh
  obtain rfl := hasAllW_nil h2
  obtain ⟨xs, rfl, h3⟩ := hasW_list h1
  obtain ⟨ns, rfl⟩ := items_int h3
  have hlen : ns.length ≤ n := by
    unfold OpenLaw.pre at hc
    have h4 : (WTm.not (.lt (.lit (.int (n : Int))) (.len (.arg 0)))).holds [] { args := [.list (ns.map .int)] } = true := by
      have h4 := (holds_andW hc).1
      rw [hn] at h4
      exact h4
    have h5 := condW_of h4 (w_not (w_lt w_lit (w_len_list (w_arg rfl))))
    rw [List.length_map] at h5
    refine Nat.le_of_not_lt fun q => ?_
    have q' : (n : Int) < ((ns.length : Nat) : Int) := by omega
    first
      | (rw [decide_eq_true q'] at h5; exact absurd h5 (by decide))
      | (simp at h5; omega)
  cases hwl with
  | cons w1 w2 =>
    cases w2
    cases w1 with
    | list ho hall => exact ⟨_, _, ns, rfl, rfl, ho, ints_of_wellAll ns _ hall, hlen⟩

theorem post_true (l : OpenLaw) (args : List WData) : l.row.toRowW.claim.post args (.bool true) args = true :=
  postW_of (r := l.row.toRowW) (X := (true == true))
    (show WShape.has [] (.bool true) .bool = true by first | rfl | decide | simp [WShape.has, WShape.arms, WShape.armsAll])
    (show (WTm.eq .res (.lit (.bool true))).value [] { args := args, res := some (.bool true), after := args } = some (.bool (true == true)) from w_eq_bool (w_res rfl) w_lit) rfl

theorem attach_call {l : OpenLaw} {n : Nat} {q : Program} {loose : List Str} {XP : (Str → Option Value) → Heap → Prop} {YP : World → Heap → Prop} {d : DefRec}
    (hn : l.most = some n) (hdf : d.params.defaults = [])
    (call : ∀ (w : World) (s₀ s₁ : Shared) (mg mb : Str → Option Value) (fa : Addr) (o : Obj) (pm cd doc : Value) (a : Addr) (vs : List Value) (ns : List Int),
      Ground q loose [] XP w s₀ mg mb s₁.heap → YP w s₁.heap →
      s₁.heap.get? fa = some o → o.data = .func (docDef d.name d.params d.body d.scope pm cd doc) → s₁.heap.CodeRec cd d.name → mg d.name = some (.ref fa) →
      s₁.heap.get? a = some { cls := .type "list", data := .seq vs.toArray } → IntsAre vs ns → ns.length ≤ n → s₁.gens = #[] →
      codeAny (model l.prog w) callerA (.call (.ref fa) ⟨[.ref a], []⟩) (fun r s' => r = .ok (.ret (.bool true)) ∧ OldK s₁.heap s'.heap ∧ s'.os = s₁.os ∧ AllBare s'.gens) s₁) :
    WalkO q loose XP YP l.row.toRowW d [] (fun f vs => PySem.call f vs) := by
  intro w s₀ s₁ mg mb G Y fa o pm cd doc dV kV ho hd hcd hD hmg hg args vals as hpre hlay hrd hwl hlo
  obtain rfl : dV = .none := Dflts.none hD hdf
  obtain rfl : kV = .none := Dflts.noKw hD
  obtain ⟨a, vs, ns, rfl, rfl, hobj, hints, hlen⟩ := script_of hn hpre hwl
  refine enter_call (codeAny_mono (call w s₀ s₁ mg mb fa o pm cd doc a vs ns G Y ho (fd_plain hd) hcd hmg hobj hints hlen hg) fun r s' hq => ?_)
  obtain ⟨rfl, h2, h3, h4⟩ := hq
  exact ⟨.inl ⟨.bool true, .bool true, [], rfl, fun _ => rfl, .bool true, post_true l _, fun _ => ⟨List.Pairwise.nil, fun _ hm => (nomatch hm)⟩⟩, h2, h3, h4⟩

section
variable {prog : Program} {w : World} {A : Around} {E : Value → Shared → Prop} {s : Shared} {K : Frag}

end
end Att

namespace L2
open PySem PySem.Spec PyProof.Rows

theorem vals_ints : ∀ {vs : List Value} {ns : List Int}, IntsAre vs ns → Vals (ns.map V.int) vs
  | _, _, .nil => .nil
  | _, _, .cons n t h => .cons ⟨t, rfl⟩ (vals_ints h)

noncomputable def Only (H : Hp) : Prop := ∀ b, H b = none ∨ ∃ o xs, H b = some (.frz o (.lst xs))

theorem law_call {P : Program} {w : World} {K : PySem.W.Frag} {mg mb : Str → Option Value} {CX : CXT} {k : Nat} {fa a : Addr} {fd : FuncData} {x : Str} {sp : Sp} {s₁ : Shared} {vs : List Value} {ns : List Int}
    (KX : K.In s₁.heap) (hns : s₁.heap.Ns mainGlobals mg) (hb : s₁.heap.Ns builtinsNs mb) (hbb : ∀ x : Str, x ≠ "__name__" → mb x = bootBuiltins x) (hlim : s₁.heap.NoLimit) (hg : s₁.gens = #[])
    (ha : s₁.heap.get? a = some { cls := .type "list", data := .seq vs.toArray }) (hi : IntsAre vs ns) (hl : ns.length ≤ sizeLine) (hr : Room k callerA)
    (F : ∀ base : Heap, K.In base → base.Ns mainGlobals mg → FnOk P w K mg base CX k fa fd [x] sp) (hbind : ∀ (s : Shared) (u : Value), BindsTo s fd ⟨[u], []⟩ [(x, u)])
    (hsp : ∀ H : Hp, Only H → SqL K H a (ns.map V.int) → sp [.ref a] H (fun v _ => v = .bl true) fun _ _ _ => False)
    (hCX : ∀ H e s', CX [] H s₁ (fun _ _ _ => False) e s' → False) :
    codeAny (model P w) callerA (.call (.ref fa) ⟨[.ref a], []⟩) (fun r s' => r = .ok (.ret (.bool true)) ∧ OldK s₁.heap s'.heap ∧ s'.os = s₁.os ∧ AllBare s'.gens) s₁ := by
  have rv := vals_ints hi
  have lenV := hi.length
  -- from an abstract heap in which nothing but the script may be tracked
  have core : ∀ H : Hp, Only H → SqL K H a (ns.map V.int) → HOk P w H s₁.heap → (∀ b, H b ≠ none → b = a) → (H a ≠ none → K.lookup a = none) →
      codeAny (model P w) callerA (.call (.ref fa) ⟨[.ref a], []⟩) (fun r s' => r = .ok (.ret (.bool true)) ∧ OldK s₁.heap s'.heap ∧ s'.os = s₁.os ∧ AllBare s'.gens) s₁ := by
    intro H hO hS hok hA hK
    have base_of : ∀ {b : Addr} {o : Obj}, s₁.heap.get? b = some o → H b = none → (hidT s₁.heap H).get? b = some o := fun e n => hidT_get e n
    have noA : ∀ {b : Addr} {o : Obj} {es : Array DictEntry} {ep : Nat}, s₁.heap.get? b = some o → o.data = .dict es ep → H b = none := fun {b o es ep} e d => by
      cases q : H b with
      | none => rfl
      | some u =>
        have e' : b = a := hA b (by rw [q]; simp)
        subst e'
        rw [ha] at e; cases e
        have d' : Data.seq vs.toArray _ = Data.dict es ep := d
        cases d'
    have nsK : ∀ {b : Addr} {m : Str → Option Value}, s₁.heap.Ns b m → (hidT s₁.heap H).Ns b m := fun {b m} ⟨o, es, ep, e, d, r⟩ => ⟨o, es, ep, base_of e (noA e d), d, r⟩
    have hKb : K.In (hidT s₁.heap H) := fun b o e => base_of (KX b o e) (by
      cases q : H b with
      | none => rfl
      | some u =>
        have e' : b = a := hA b (by rw [q]; simp)
        subst e'
        rw [hK (by rw [q]; simp)] at e; cases e)
    have hM : Mod K mg (hidT s₁.heap H) := ⟨hKb, nsK hns, ⟨mb, nsK hb, hbb⟩, let ⟨mc, h1, h2⟩ := hlim; ⟨mc, nsK h1, h2⟩⟩
    have e0 : Env0 P w K mg (hidT s₁.heap H) callerA [] s₁ H := ⟨rfl, hM, fun b o e => of_hidT e, Nat.le_of_eq (hidT_size _ _), trivial, fun b hb => absurd (show b ∈ ([] : List Addr) from hb) (by simp), hok, .of_eq hg⟩
    refine codeAny_mono ((F _ hKb (nsK hns)).run callerA [] s₁ H ⟨[.ref a], []⟩ [.ref a] [.ref a] _ _ hr e0 (hbind s₁ (.ref a)) (.cons rfl .nil) (hsp H hO hS)) fun r s' h => ?_
    cases r with
    | error e => exact (hCX H e s' h).elim
    | ok fl =>
      cases fl with
      | next => exact False.elim h
      | brk => exact False.elim h
      | cont => exact False.elim h
      | ret u =>
        obtain ⟨v, H', os, bare, un, hok', r', q⟩ := h
        have q' : v = .bl true := q
        subst q'
        obtain rfl : u = Value.bool true := r'
        refine ⟨rfl, OldK.of_keep fun b o e => ?_, os, bare⟩
        cases q : H b with
        | none => exact un.keep b o e q (by intro z; exact absurd (show b ∈ ([] : List Addr) from z) (by simp)) (by simp)
        | some u =>
          rcases hO b with z | ⟨ob, xs, z⟩
          · rw [q] at z; cases z
          · have z2 := un.frzs b ob _ z
            obtain ⟨e1, _⟩ := hok b _ z
            obtain ⟨e2, _⟩ := hok' b _ z2
            rw [e] at e1; cases e1
            exact e2
  cases hk : K.lookup a with
  | some o =>
    -- the script is one of the module's own objects
    have e := KX a o hk
    rw [ha] at e
    cases e
    refine core (fun _ => none) (fun _ => .inl rfl) (.inr ⟨_, vs.toArray, _, hk, rfl, rfl, rfl, by rw [List.size_toArray, lenV]; exact hl, by simpa using rv⟩) (fun b u z => by have z' : (none : Option HO) = some u := z; cases z') (fun b z => absurd rfl z) fun z => absurd rfl z
  | none =>
    refine core (fun b => if b = a then some (.frz { cls := .type "list", data := .seq vs.toArray } (.lst (ns.map V.int))) else none) (fun b => ?_) (.inl (.inr ⟨{ cls := .type "list", data := .seq vs.toArray }, if_pos rfl⟩)) (fun b u z => ?_) (fun b z => ?_) fun _ => hk
    · by_cases hb : b = a
      · exact .inr ⟨_, _, if_pos hb⟩
      · exact .inl (if_neg hb)
    · by_cases hb : b = a
      · have z' := (if_pos hb).symm.trans z
        cases z'
        subst hb
        exact ⟨ha, by rw [List.length_map]; exact hl, vs, _, rv, ha⟩
      · have z' := (if_neg hb).symm.trans z
        cases z'
    · by_cases hb : b = a
      · exact hb
      · exact absurd (if_neg hb) z
end L2

namespace L2
open PySem PySem.Spec PyProof.Rows

theorem walk_of {l : PySem.W.OpenLaw} {n k : Nat} {q : Program} {loose : List Str} {XP : (Str → Option Value) → Heap → Prop} {YP : World → Heap → Prop} {d : DefRec} {K : Params → PySem.W.Frag} {CX : World → CXT} {sp : World → Sp} {x : Str}
    (hn : l.most = some n) (hn2 : n ≤ sizeLine) (hdf : d.params.defaults = []) (hr : Room k callerA)
    (hY : ∀ (w : World) (h : Heap), YP w h → (K w.params).In h)
    (F : ∀ (w : World) (mg : Str → Option Value) (fa : Addr) (h : Heap), (K w.params).In h → h.Ns mainGlobals mg → mg d.name = some (.ref fa) →
      ∃ fd : FuncData, (∀ (s : Shared) (u : Value), BindsTo s fd ⟨[u], []⟩ [(x, u)]) ∧
        ∀ base : Heap, (K w.params).In base → base.Ns mainGlobals mg → FnOk l.prog w (K w.params) mg base (CX w) k fa fd [x] (sp w))
    (hsp : ∀ (w : World) (H : Hp) (a : Addr) (ns : List Int), ns.length ≤ n → Only H → SqL (K w.params) H a (ns.map V.int) → sp w [.ref a] H (fun v _ => v = .bl true) fun _ _ _ => False)
    (hCX : ∀ (w : World) (H : Hp) (s : Shared) (e : Value) (s' : Shared), CX w [] H s (fun _ _ _ => False) e s' → False) :
    PySem.W.WalkO q loose XP YP l.row.toRowW d [] (fun f vs => PySem.call f vs) := by
  refine Att.attach_call hn hdf fun w s₀ s₁ mg mb fa o pm cd doc a vs ns G Y ho hd hcd hmg hobj hints hlen hg => ?_
  have KX := hY w _ Y
  obtain ⟨fd, hb, hF⟩ := F w mg fa _ KX G.T.g hmg
  exact law_call KX G.T.g G.T.b G.T.builtins G.T.nolimit hg hobj hints (Nat.le_trans hlen hn2) hr hF hb (fun H hO hS => hsp w H a ns hlen hO hS) fun H e s' => hCX w H s₁ e s'
end L2


namespace L2
open PySem PySem.Spec PyProof.Rows

noncomputable def inClass (s : Stmt) (j : Nat) : Stmt := match s with
  | .ClassDef _ _ _ body _ _ _ _ _ _ _ => body.getD j (.Pass ⟨0, 0, 0, 0⟩)
  | _ => .Pass ⟨0, 0, 0, 0⟩
noncomputable def defArgs (s : Stmt) : Arguments := match s with
  | .FunctionDef _ a _ _ _ _ _ _ _ _ => a
  | _ => { posonlyargs := [], args := [], vararg := none, kwonlyargs := [], kw_defaults := [], kwarg := none, defaults := [] }
noncomputable def defBody (s : Stmt) : List Stmt := match s with
  | .FunctionDef _ _ b _ _ _ _ _ _ _ => b
  | _ => []
noncomputable def defScope (s : Stmt) : Scope := match s with
  | .FunctionDef _ _ _ _ _ _ sc _ _ _ => sc
  | _ => { kind := .function, names := [], isGenerator := false, isCoroutine := false }

noncomputable abbrev CX0 : CXT := fun _ _ _ _ _ _ => False
noncomputable abbrev E0 : XK := fun _ _ _ => False
theorem pass0 {X : Cx} : Passes CX0 X E0 := fun _ _ _ _ _ _ _ h => h.elim

structure Fun (K : PySem.W.Frag) (x qual : Str) (st : Stmt) (f : Addr) (fd : FuncData) : Prop where
  ex : ∃ (oc : Value) (od : Option Addr) (kV doc pm : Value) (an : Option Addr) (cdv ct : Value) (osl : Array (Option Value)),
    fd = PySem.W.fnOf x qual (defArgs st) (defBody st) (defScope st) .none kV doc pm an cdv ct ∧ K.lookup f = some ⟨oc, od, .func fd, osl⟩ ∧ PySem.W.codeIn K cdv qual = true
  kp : PySem.W.keepIn K (.ref f) = true
section
variable {P : Program} {w : World} {K : PySem.W.Frag} {mg : Str → Option Value} {base : Heap}
theorem Fun.ok {x qual : Str} {st : Stmt} {f : Addr} {fd : FuncData} {N ps : List Str} {k : Nat} {sp : Sp} (F : Fun K x qual st f fd) (S : FnScope N ps (defScope st)) (len : ∀ vs H Q E, sp vs H Q E → vs.length = ps.length)
    (hbody : ∀ (cdv : Value) (A : Around) (outer : List Env) (s : Shared) (H : Hp) (vs : List V) (Q : VK) (E : XK), Room k (A.deeper (envOfC qual (defScope st) s.heap.objs.size f cdv)) → sp vs H Q E →
      ∃ t, PSs (cxOf CX0 P w K mg base N qual (defScope st) f cdv A outer s H E).nox (defBody st) t ∧ t { nx := fun _ H' => Q .non H', rt := Q } (start N vs) H) : FnOk P w K mg base CX0 (k + 1) f fd ps sp := by
  obtain ⟨oc, od, kV, doc, pm, an, cdv, ct, osl, rfl, lk, hcd⟩ := F.ex
  refine fn_of lk hcd S len fun A outer s H vs Q E hr hsp => ?_
  obtain ⟨t, h, q⟩ := hbody cdv A outer s H vs Q E hr hsp
  exact ⟨t, h.nox, q⟩
theorem Fun.binds {x qual : Str} {st : Stmt} {f : Addr} {fd : FuncData} {ps : List Str} (F : Fun K x qual st f fd)
    (h : ∀ (kV doc pm : Value) (an : Option Addr) (cdv ct : Value) (us : List Value), us.length = ps.length → bindArgs (PySem.W.fnOf x qual (defArgs st) (defBody st) (defScope st) .none kV doc pm an cdv ct) ⟨us, []⟩ = pure (ps.zip us)) : Binds K fd ps [] := by
  obtain ⟨oc, od, kV, doc, pm, an, cdv, ct, osl, rfl, lk, hcd⟩ := F.ex
  exact .all (h kV doc pm an cdv ct)
theorem fun_mk {x qual : Str} {st : Stmt} {f : Addr} {oc : Value} {od an : Option Addr} {osl : Array (Option Value)} {kV doc pm cdv ct : Value} (l : K.lookup f = some ⟨oc, od, .func (PySem.W.fnOf x qual (defArgs st) (defBody st) (defScope st) .none kV doc pm an cdv ct), osl⟩)
    (c : PySem.W.codeIn K cdv qual = true) (k : PySem.W.keepIn K (.ref f) = true) : Fun K x qual st f (PySem.W.fnOf x qual (defArgs st) (defBody st) (defScope st) .none kV doc pm an cdv ct) := ⟨⟨oc, od, kV, doc, pm, an, cdv, ct, osl, rfl, l, c⟩, k⟩
end
theorem hu_of {A : Around} {k : Nat} (hr : Room k A) : A.units + 1 < cLine := Nat.lt_of_le_of_lt (Nat.add_le_add_left (by decide : 1 ≤ 64) _) hr.units
section
variable {X : Cx}
theorem pv (i : Nat) {x : Str} {pos : Pos} (hN : X.N[i]? = some x := by rfl) (hv : Vis X.env.scope x := by first | exact Or.inl rfl | exact Or.inr (Or.inl rfl) | exact Or.inr (Or.inr rfl)) (hd : (x == ("__debug__" : Str)) = false := by decide)
    (hcd : (x == ("__classdict__" : Str)) = false := by decide) : PE X (.Name x pos) (tVar i) := pe_var hN hv hd hcd
end

theorem iteF {A B : Prop} (h : B) : if false = true then A else B := by
  rw [if_neg Bool.false_ne_true]
  exact h
theorem iteT {A B : Prop} (h : A) : if true = true then A else B := by
  rw [if_pos rfl]
  exact h
theorem ite2 {c A B : Prop} [Decidable c] (h1 : c → A) (h2 : ¬ c → B) : if c then A else B := by
  by_cases h : c
  · rw [if_pos h]
    exact h1 h
  · rw [if_neg h]
    exact h2 h
noncomputable def Same (H H' : Hp) : Prop := ∀ b o, H b = some o → H' b = some o
theorem Same.refl (H : Hp) : Same H H := fun _ _ h => h
theorem Same.trans {H H1 H2 : Hp} (a : Same H H1) (b : Same H1 H2) : Same H H2 := fun c o h => b c o (a c o h)
theorem Same.free {H H' : Hp} (e : Same H H') {l : Addr} (h : H' l = Option.none) : H l = Option.none := by
  cases q : H l with
  | none => rfl
  | some o =>
    rw [e l o q] at h
    cases h
theorem Same.seq {K : PySem.W.Frag} {H H' : Hp} {a : Addr} {xs : List V} (e : Same H H') (h : SqL K H a xs) : SqL K H' a xs := by
  rcases h with (h | ⟨o, h⟩) | h
  · exact .inl (.inl (e _ _ h))
  · exact .inl (.inr ⟨o, e _ _ h⟩)
  · exact .inr h

section
variable {κ : Type} [DecidableEq κ]
end
end L2


set_option Elab.async false
set_option linter.all false
set_option maxRecDepth 100000
set_option maxHeartbeats 4000000
namespace L2
open PySem PySem.Spec PyProof.Rows

theorem clos_aux (env : Env) : ∀ (l : List (Str × NameKind)) (cs : List (Str × Addr)), (∀ n, (n, NameKind.free) ∈ l → ∃ c, env.cells.lookup n = some c) → (∀ x c, cs.lookup x = some c → env.cells.lookup x = some c) →
    ∃ cl, (forIn l cs fun x s => if (x.snd == NameKind.free) = true then do let c ← cellOf env x.fst; pure (ForInStep.yield ((x.fst, c) :: s)) else pure (ForInStep.yield s)) = (pure cl : Sem (List (Str × Addr))) ∧
      (∀ x c, cl.lookup x = some c → env.cells.lookup x = some c) ∧ (∀ n, (n, NameKind.free) ∈ l → ∃ c, cl.lookup n = some c) ∧ ∀ n c, cs.lookup n = some c → ∃ c', cl.lookup n = some c'
  | [], cs, _, h => ⟨cs, rfl, h, (fun _ z => nomatch z), (fun n c e => ⟨c, e⟩)⟩
  | (n, k) :: r, cs, hf, h => by
    by_cases hk : k = .free
    · subst hk
      obtain ⟨c, hc⟩ := hf n List.mem_cons_self
      have e : cellOf env n = pure c := by unfold cellOf; rw [hc]
      obtain ⟨cl, e1, h1, h2, h3⟩ := clos_aux env r ((n, c) :: cs) (fun m hm => hf m (List.mem_cons_of_mem _ hm)) (fun x c' q => by
        rw [List.lookup_cons] at q
        by_cases hx : x = n
        · subst hx; simp at q; subst q; exact hc
        · have : (x == n) = false := by simpa using hx
          rw [this] at q; exact h x c' q)
      refine ⟨cl, ?_, h1, fun m hm => ?_, fun m c' q => ?_⟩
      · rw [List.forIn_cons]
        show ((do let c ← cellOf env n; pure (ForInStep.yield ((n, c) :: cs))) >>= _) = _
        rw [e]
        exact e1
      · rcases List.mem_cons.mp hm with z | z
        · cases z; exact h3 n c (by simp)
        · exact h2 m z
      · by_cases hx : m = n
        · subst hx; exact h3 m c (by simp)
        · have : (m == n) = false := by simpa using hx
          exact h3 m c' (by rw [List.lookup_cons, this]; exact q)
    · have hb : (k == NameKind.free) = false := by simpa using hk
      obtain ⟨cl, e1, h1, h2, h3⟩ := clos_aux env r cs (fun m hm => hf m (List.mem_cons_of_mem _ hm)) h
      refine ⟨cl, ?_, h1, fun m hm => ?_, h3⟩
      · rw [List.forIn_cons]
        dsimp only
        rw [hb]
        exact e1
      · rcases List.mem_cons.mp hm with z | z
        · cases z; exact absurd rfl hk
        · exact h2 m z

theorem closureFor_of {scope : Scope} {env : Env} (h : ∀ n, (n, NameKind.free) ∈ scope.names → ∃ c, env.cells.lookup n = some c) :
    ∃ cl, closureFor scope env = pure cl ∧ (∀ x c, cl.lookup x = some c → env.cells.lookup x = some c) ∧ ∀ n, (n, NameKind.free) ∈ scope.names → ∃ c, cl.lookup n = some c := by
  obtain ⟨cl, e, h1, h2, _⟩ := clos_aux env scope.names [] h (fun _ _ z => by simp at z)
  refine ⟨cl, ?_, h1, h2⟩
  simp only [closureFor]
  rw [e]
  rfl

noncomputable def compCx (X : Cx) (scope : Scope) (N' : List Str) (cl : List (Str × Addr)) (C : Addr) (s : Shared) (H : Hp) (fp : List Addr) (pins : List (Addr × Obj)) : Cx where
  prog := X.prog
  w := X.w
  K := X.K
  mg := X.mg
  base := X.base
  A := X.A
  N := N'
  s₀ := s
  H₀ := H
  env := compEnvC scope cl C X.env
  outer := X.stack
  stack := X.stack
  ex := fp
  calm := X.calm
  fn := fun _ => false
  pn := X.pn ++ pins
  xe := fun _ _ => False

structure CompScope (sc : Scope) (out : Scope) : Prop where
  kind : sc.kind = .function
  cell : ∀ y ∈ sc.names, y.2 ≠ .cell
  loc : ∀ y ∈ sc.names, y.2 = .local → sc.names.lookup y.1 = some .local
  free : ∀ y ∈ sc.names, y.2 = .free → out.names.lookup y.1 = some .cell ∨ out.names.lookup y.1 = some .free

noncomputable def inSt (ρ : List (Option Nat)) (σ : St) : St := ρ.map fun o => match o with | some i => (σ[i]?).getD none | none => none
noncomputable def SlotOk (sc : Scope) (env : Env) (N N' : List Str) (ρ : List (Option Nat)) : Prop :=
  ρ.length = N'.length ∧ ∀ (j i : Nat) (x : Str), ρ[j]? = some (some i) → N'[j]? = some x → N[i]? = some x ∧ Vis env.scope x ∧ (x, NameKind.free) ∈ sc.names

theorem lookup_relabel {names : List (Str × NameKind)} {env : Env} {x : Str} {k : NameKind} (h : (names.map fun (n, k) => if (k == NameKind.free && env.scope.kind == .function && env.kindOf n == some .cell) then (n, NameKind.cell) else (n, k)).lookup x = some k)
    (hk : k = .cell ∨ k = .free) (hc : ∀ y ∈ names, y.2 ≠ .cell) : (x, NameKind.free) ∈ names := by
  induction names with
  | nil => simp at h
  | cons p r ih =>
    obtain ⟨n, k'⟩ := p
    by_cases hx : x = n
    · subst hx
      have hk' : k' = .free := by
        by_cases hc' : (k' == NameKind.free && env.scope.kind == .function && env.kindOf x == some .cell) = true
        · simp only [Bool.and_eq_true, beq_iff_eq] at hc'
          exact hc'.1.1
        · simp only [List.map_cons] at h
          rw [if_neg hc'] at h
          simp at h
          subst h
          rcases hk with z | z
          · exact absurd z (hc (x, k') List.mem_cons_self)
          · exact z
      rw [hk']; exact List.mem_cons_self
    · have hb : (x == n) = false := by simpa using hx
      refine List.mem_cons_of_mem _ (ih ?_ fun y hy => hc y (List.mem_cons_of_mem _ hy))
      simp only [List.map_cons] at h
      by_cases hc' : (k' == NameKind.free && env.scope.kind == .function && env.kindOf n == some .cell) = true
      · rw [if_pos hc', List.lookup_cons, hb] at h; exact h
      · rw [if_neg hc', List.lookup_cons, hb] at h; exact h

theorem lookup_relabel_free : ∀ {names : List (Str × NameKind)} {env : Env} {x : Str}, (x, NameKind.free) ∈ names → (names.map fun (n, k) => if (k == NameKind.free && env.scope.kind == .function && env.kindOf n == some .cell) then (n, NameKind.cell) else (n, k)).lookup x = some .cell ∨
    (names.map fun (n, k) => if (k == NameKind.free && env.scope.kind == .function && env.kindOf n == some .cell) then (n, NameKind.cell) else (n, k)).lookup x = some .free ∨ names.lookup x ≠ some .free := by
  intro names env x hm
  by_cases hl : names.lookup x = some .free
  · induction names with
    | nil => simp at hl
    | cons p r ih =>
      obtain ⟨n, k'⟩ := p
      by_cases hx : x = n
      · subst hx
        simp at hl
        subst hl
        by_cases hc' : (NameKind.free == NameKind.free && env.scope.kind == .function && env.kindOf x == some .cell) = true
        · left; simp only [List.map_cons]; rw [if_pos hc']; simp
        · right; left; simp only [List.map_cons]; rw [if_neg hc']; simp
      · have hb : (x == n) = false := by simpa using hx
        rw [List.lookup_cons, hb] at hl
        have hm' : (x, NameKind.free) ∈ r := by
          rcases List.mem_cons.mp hm with z | z
          · cases z; exact absurd rfl hx
          · exact z
        have q := ih hm' hl
        simp only [List.map_cons]
        by_cases hc' : (k' == NameKind.free && env.scope.kind == .function && env.kindOf n == some .cell) = true
        · rw [if_pos hc', List.lookup_cons, hb, List.lookup_cons, hb]; exact q
        · rw [if_neg hc', List.lookup_cons, hb, List.lookup_cons, hb]; exact q
  · exact .inr (.inr hl)

section
variable {X : Cx} {pins : List (Addr × Obj)} {σ : St} {H : Hp} {s : Shared} {scope : Scope} {N' : List Str} {ρ : List (Option Nat)} {cl : List (Str × Addr)} {fp : List Addr} {C D : Addr}

theorem comp_ok (I : Inv X pins σ H s) (S : CompScope scope X.env.scope) (hf : ∀ b ∈ fp, FpOk X pins H b) (h1 : ∀ x c, cl.lookup x = some c → X.env.cells.lookup x = some c) (h2 : ∀ n, (n, NameKind.free) ∈ scope.names → ∃ c, cl.lookup n = some c)
    (hC : s.heap.objs.size ≤ C) (hfs : ∀ b ∈ fp, b < s.heap.objs.size) : (compCx X scope N' cl C s H fp pins).Ok where
  mod := I.ok.mod
  kind := S.kind
  glob := I.ok.glob
  blt := I.ok.blt
  above := hC
  inj := fun x y c e1 e2 => I.ok.inj x y c (h1 x c e1) (h1 y c e2)
  has := fun x hk => h2 x (by
    rcases hk with hk | hk
    · exact lookup_relabel (env := X.env) hk (.inl rfl) S.cell
    · exact lookup_relabel (env := X.env) hk (.inr rfl) S.cell)
  cab := fun _ _ z => nomatch z
  hd := I.ok.hd
  frames := I.ok.frames
  stk := .inl rfl
  exf := fun b hb => ⟨Nat.ne_of_lt (Nat.lt_of_lt_of_le (hfs b hb) hC), fun x c e => (hf b hb).2.2.2.2.1 x c (h1 x c e)⟩
  bs := I.bs
  bsz := Nat.le_trans I.ok.bsz I.sz
  noex := fun b o e hb => by
    rcases (hf b hb).2.2.2.1 with z | z
    · exact I.ok.noex b o e z
    · exact absurd (Nat.lt_of_lt_of_le (Nat.lt_of_lt_of_le (Heap.lt_size e) I.ok.bsz) z) (Nat.lt_irrefl _)
  exfs := fun b hb z => by
    rcases List.mem_cons.mp (I.stkSub b z) with q | q
    · exact (hf b hb).2.1 q
    · exact (hf b hb).2.2.1 q
  funs := I.stack
  frf := I.stkFree

theorem comp_start {h₁ : Heap} {tk : Nat} (I : Inv X pins σ H s) (S : CompScope scope X.env.scope) (hρ : SlotOk scope X.env X.N N' ρ) (hf : ∀ b ∈ fp, FpOk X pins H b) (h1 : ∀ x c, cl.lookup x = some c → X.env.cells.lookup x = some c)
    (h2 : ∀ n, (n, NameKind.free) ∈ scope.names → ∃ c, cl.lookup n = some c) (hC : s.heap.objs.size ≤ C) (hfs : ∀ b ∈ fp, b < s.heap.objs.size) (hn : h₁.Ns C (fun _ => none)) (hk : ∀ b o, s.heap.get? b = some o → h₁.get? b = some o)
    (hl : ∀ x, (x, NameKind.free) ∈ scope.names → scope.names.lookup x = some .free) :
    Inv (compCx X scope N' cl C s H fp pins) [] (inSt ρ σ) H { s with heap := h₁, toks := tk } where
  ok := comp_ok I S hf h1 h2 hC hfs
  os := rfl
  bare := I.bare
  base := Un.kept hk
  loc := by
    refine ⟨_, hn, fun j x v e1 e2 hv => ?_⟩
    obtain ⟨m, hm, hl'⟩ := I.loc
    unfold inSt at e2
    rw [List.getElem?_map] at e2
    cases hr : ρ[j]? with
    | none => rw [hr] at e2; simp at e2
    | some o =>
      cases o with
      | none => rw [hr] at e2; simp at e2
      | some i =>
        rw [hr] at e2
        obtain ⟨q1, q2, q3⟩ := hρ.2 j i x hr e1
        have e3 : σ[i]? = some (some v) := by
          cases hσ : σ[i]? with
          | none => simp [hσ] at e2
          | some z => simp [hσ] at e2; rw [e2]
        obtain ⟨u, r, lk⟩ := hl' i x v q1 e3 q2
        refine ⟨u, r, ?_⟩
        obtain ⟨c, hc⟩ := h2 x q3
        have hkind : (relabel scope X.env).names.lookup x = some .cell ∨ (relabel scope X.env).names.lookup x = some .free := by
          rcases lookup_relabel_free (env := X.env) q3 with z | z | z
          · exact .inl z
          · exact .inr z
          · exact absurd (hl x q3) z
        refine .inr ⟨hkind, c, hc, ?_⟩
        rcases lk with ⟨k, _⟩ | ⟨_, c', e', z⟩
        · rcases S.free (x, .free) q3 rfl with z | z
          · have k' : X.env.scope.names.lookup x = some .local := k
            rw [z] at k'; cases k'
          · have k' : X.env.scope.names.lookup x = some .local := k
            rw [z] at k'; cases k'
        · have := h1 x c hc
          rw [e'] at this; cases this
          obtain ⟨o, ho, hd⟩ := z
          exact ⟨o, hk _ _ ho, hd⟩
  cell := fun x c e => by
    obtain ⟨v, o, ho, hd⟩ := I.cell x c (h1 x c e)
    exact ⟨v, o, hk _ _ ho, hd⟩
  free := I.hok.fresh hC
  freeC := fun x c e => I.freeC x c (h1 x c e)
  pin := fun p hp => by
    have hp' : p ∈ X.pn ++ pins := by simpa [compCx] using hp
    obtain ⟨e, n, ne, nf, d⟩ := I.pin p hp'
    refine ⟨hk _ _ e, n, Nat.ne_of_lt (Nat.lt_of_lt_of_le (Heap.lt_size e) hC), fun z => ?_, d⟩
    rcases List.mem_cons.mp (I.stkSub p.1 z) with q | q
    · exact ne q
    · exact nf q
  hok := I.hok.kept hk
  len := by
    show (inSt ρ σ).length = N'.length
    unfold inSt
    rw [List.length_map]; exact hρ.1
end

theorem HOk.track {P : Program} {w : World} {H : Hp} {h : Heap} {D : Addr} {o : HO} (x : HOk P w H h) (n : H D = none) (new : ObjOk P w (upd H D o) h D o) : HOk P w (upd H D o) h := fun b u e => by
  by_cases hb : b = D
  · subst hb; rw [upd_same] at e; cases e; exact new
  · rw [upd_ne hb] at e
    exact (x b u e).stay (fun c v _ q => q) (fun c q => by rw [upd_ne (ne_of_none q n)]; exact q) fun c xs q => by rw [upd_ne (ne_of_none q n)]; exact q

section
variable {prog : Program} {w : World} {A : Around} {R : Result → Shared → Prop} {s : Shared}
theorem compLoop_gen {elt target iter : Expr} {ifs : List Expr} {scope : Scope} {pos : Pos} {it acc : Value} {env : Env} (I : Nat → Shared → Prop)
    (turn : ∀ n s, I n s → wpAny (model prog w) A (pyNext it) (fun r s₁ => match r with
      | none => R (.ok .next) s₁
      | some v => wpAny (model prog w) A (letOwnedTupleGo target it v) (fun _ s₁' => wpAny (model prog w) A (assign target env v) (fun _ s₂ =>
          wpAny (model prog w) A (forIn ifs true fun c r => if r = true then do let ok ← isTrue c env (eval c env); pure (ForInStep.yield ok) else pure (ForInStep.yield r)) (fun ok s₃ =>
            if ok = true then wpAny (model prog w) A (eval elt env) (fun x s₄ =>
              wpAny (model prog w) A (call (.builtin "list.append") [acc, x]) (fun _ s₅ => ∃ m, m < n ∧ I m s₅) (fun _ _ => False) s₄) (fun _ _ => False) s₃
            else ∃ m, m < n ∧ I m s₃) (fun _ _ => False) s₂) (fun _ _ => False) s₁') (fun _ _ => False) s₁) (fun _ _ => False) s)
    (n : Nat) (h : I n s) :
    codeAny (model prog w) A (.compLoop (.ListComp elt [⟨target, iter, ifs, 0⟩] scope pos) 0 it acc env) R s := by
  refine codeAny_loop rfl I (fun n s hI => ?_) n h
  show wpAny _ A ((compTurn (.ListComp elt [⟨target, iter, ifs, 0⟩] scope pos) 0 it acc env).onRaise (fun x => do noteFrame x env; theTreesLotGoes x)) _ _ s
  refine wpAny_noted ?_
  rw [compTurn_list]
  refine wpAny_bind (wpAny_standAt (wpAny_bind (wpAny_mono (turn n s hI) (fun r s₁ h₁ => ?_) fun _ _ h' => h'.elim)))
  cases r with
  | none => exact wpAny_pure h₁
  | some v =>
    refine wpAny_bind (wpAny_mono h₁ (fun _ s₁' h₁ => ?_) fun _ _ h' => h'.elim)
    refine wpAny_bind (wpAny_mono h₁ (fun _ s₂ h₂ => wpAny_bind (wpAny_mono h₂ (fun ok s₃ h₃ => ?_) fun _ _ h' => h'.elim)) fun _ _ h' => h'.elim)
    cases ok with
    | false => exact wpAny_pure ⟨rfl, h₃⟩
    | true =>
      exact wpAny_bind (wpAny_bind (wpAny_mono h₃ (fun x s₄ h₄ => wpAny_bind (wpAny_mono h₄ (fun _ s₅ h₅ => wpAny_pure (wpAny_pure ⟨rfl, h₅⟩)) fun _ _ h' => h'.elim)) fun _ _ h' => h'.elim))
end

noncomputable def PTs (X : Cx) (ifs : List Expr) (t : TT) : Prop :=
  ∀ (pins : List (Addr × Obj)) (s : Shared) (σ : St) (H : Hp) (Q : Bool → Hp → Prop), Inv X pins σ H s → t σ H Q →
    wpAny (model X.prog X.w) X.A (forIn ifs true fun c r => if r = true then do let ok ← isTrue c X.env (eval c X.env); pure (ForInStep.yield ok) else pure (ForInStep.yield r)) (TP X pins σ Q) X.xe s
noncomputable def tYes : TT := fun _ H Q => Q true H
theorem pts_nil {X : Cx} : PTs X [] tYes := fun _ _ _ H _ I h => wpAny_tests_nil ⟨H, I, h⟩
theorem pts_one {X : Cx} {c : Expr} {t : TT} (h : PT X c t) : PTs X [c] t := fun pins s σ H Q I hw => wpAny_tests_one (h pins s σ H Q I hw)

noncomputable def Outs (ρ : List (Option Nat)) (σ σ2 : St) : Prop := σ2.length = ρ.length ∧ ∀ (j : Nat) v, (inSt ρ σ)[j]? = some (some v) → σ2[j]? = some (some v)
noncomputable def CompW (ρ : List (Option Nat)) (g : TG) (tt : TT) (te : TE) (σ : St) (Q : VK) (J : It) (H1 : Hp) : Prop := ∃ W : Nat → Nat → List V → Hp → Prop, (∃ m, W 0 m [] H1) ∧ ∀ i m ys H', W i m ys H' →
  (J.stop i H' ∧ ys.length ≤ sizeLine ∧ ∀ p, H' p = none → Q (.ref p) (upd H' p (.lst ys))) ∨
  (J.go i H' ∧ ys.length < sizeLine ∧ ∃ N : List V → Hp → Prop, (∀ ys' H'', N ys' H'' → ∃ m', m' < m ∧ W (i + 1) m' ys' H'') ∧ ∀ x H2, J.yld i H' x H2 → g x (inSt ρ σ) H2 fun σ2 H3 => Outs ρ σ σ2 ∧ tt σ2 H3 fun ok H4 => if ok = true then te σ2 H4 fun v H5 => N (ys ++ [v]) H5 else N ys H4)
noncomputable def tComp (ρ : List (Option Nat)) (wi : TI) (g : TG) (tt : TT) (te : TE) : TE := fun σ H Q => wi σ H fun J H1 => CompW ρ g tt te σ Q J H1

theorem comp_run {X : Cx} {elt iter tg : Expr} {ifs : List Expr} {scope : Scope} {pos : Pos} {N' : List Str} {ρ : List (Option Nat)} {wi : TI} {g : TG} {tt : TT} {te : TE} {cl : List (Str × Addr)} {RR : Value → Addr → Result → Shared → Prop} (hc : X.calm = true) (hi : PI X tg iter wi) (S : CompScope scope X.env.scope) (hρ : SlotOk scope X.env X.N N' ρ)
    (hl : ∀ x, (x, NameKind.free) ∈ scope.names → scope.names.lookup x = some .free)
    (inner : ∀ (cl : List (Str × Addr)) (C : Addr) (s : Shared) (H : Hp) (fp : List Addr) (pins : List (Addr × Obj)), PG (compCx X scope N' cl C s H fp pins) tg g ∧ PTs (compCx X scope N' cl C s H fp pins) ifs tt ∧ PE (compCx X scope N' cl C s H fp pins) elt te)
    {pins : List (Addr × Obj)} {s : Shared} {σ : St} {H : Hp} {Q : VK} (I : Inv X pins σ H s) (h : tComp ρ wi g tt te σ H Q)
    (h1 : ∀ x c, cl.lookup x = some c → X.env.cells.lookup x = some c) (h2 : ∀ n, (n, NameKind.free) ∈ scope.names → ∃ c, cl.lookup n = some c)
    (fin : ∀ D C s' H' m, Inv X pins σ H' s' → Q (.ref D) H' → s'.heap.Ns C m → FpOk X pins H' C → RR (.ref D) C (.ok .next) s') :
    wpAny (model X.prog X.w) X.A (eval iter X.env) (fun x s₁ => wpAny (model X.prog X.w) X.A (pyIter x) (fun it s₂ => wpAny (model X.prog X.w) X.A (newList []) (fun acc s₃ =>
      wpAny (model X.prog X.w) X.A (newFunctionEnv scope X.env.globals cl [] X.env.qual none .none (some X.env)) (fun cenv s₄ =>
        codeAny (model X.prog X.w) X.A (.compStart (.ListComp elt [⟨tg, iter, ifs, 0⟩] scope pos) 0 it acc { cenv with scope := relabel scope X.env }) (RR acc cenv.locals) s₄) X.xe s₃) X.xe s₂) X.xe s₁) X.xe s := by
  refine thn (hi pins s σ H _ I h) fun v s1 h1' => thn h1' fun itv s2 hx => ?_
  obtain ⟨it, fp, tn, J, H2, e, I2, T, st2, f2, W, ⟨m0, w0⟩, turn⟩ := hx
  subst e
  have hfs : ∀ b ∈ fp, b < s2.heap.objs.size := fun b hb => by
    obtain ⟨o, e, _⟩ := T.obj _ _ st2 b hb
    exact Heap.lt_size e
  refine wpAny_newObj_type (wpAny_newFunctionEnv S.cell (by intro y hy; simp at hy) (fun h₁ hns₁ hsb₁ => ?_) S.kind)
  dsimp only at hns₁ hsb₁ ⊢
  generalize hH2 : s2.heap.push { cls := .type "list", dict := none, data := .seq ([] : List Value).toArray } = G at hns₁ hsb₁ ⊢
  have hC : G.objs.size = s2.heap.objs.size + 1 := by rw [← hH2, Heap.size_push]
  have hDC : s2.heap.objs.size ≠ G.objs.size := by rw [hC]; exact Nat.ne_of_lt (Nat.lt_succ_self _)
  have hCle : s2.heap.objs.size ≤ G.objs.size := by rw [hC]; exact Nat.le_succ _
  have old : ∀ b o, s2.heap.get? b = some o → h₁.get? b = some o := fun b o e => hsb₁.extBut b o (Nat.ne_of_lt (Nat.lt_of_lt_of_le (Heap.lt_size e) hCle)) (Heap.get?_push_of_some _ (hH2 ▸ Heap.get?_push_of_some _ e))
  have hacc : h₁.get? s2.heap.objs.size = some { cls := .type "list", dict := none, data := .seq ([] : List Value).toArray } := hsb₁.extBut _ _ hDC (Heap.get?_push_of_some _ (hH2 ▸ Heap.get?_push_size _ rfl))
  have hns₂ : h₁.Ns G.objs.size (fun _ => none) := hns₁
  generalize hXX : compCx X scope N' cl G.objs.size s2 H2 fp pins = XX at *
  have IN : ∀ (tk : Nat), Inv XX [] (inSt ρ σ) H2 { s2 with heap := h₁, toks := tk } := fun tk => hXX ▸ comp_start (N' := N') I2 S hρ f2 h1 h2 hCle hfs hns₂ old hl
  obtain ⟨pg, pt, pe⟩ := inner cl G.objs.size s2 H2 fp pins
  rw [hXX] at pg pt pe
  have eP : XX.prog = X.prog := by rw [← hXX]; rfl
  have eW : XX.w = X.w := by rw [← hXX]; rfl
  have eK : XX.K = X.K := by rw [← hXX]; rfl
  have eA : XX.A = X.A := by rw [← hXX]; rfl
  have eE : XX.env = compEnvC scope cl G.objs.size X.env := by rw [← hXX]; rfl
  have eL : XX.env.locals = G.objs.size := by rw [eE]; rfl
  have ec : XX.calm = true := by rw [← hXX]; exact hc
  have ex : XX.xe = fun _ _ => False := by rw [← hXX]; rfl
  have es0 : XX.s₀ = s2 := by rw [← hXX]; rfl
  have eex : XX.ex = fp := by rw [← hXX]; rfl
  have efs : XX.fs = frs X.stack := by rw [← hXX]; rfl
  have eH0 : XX.H₀ = H2 := by rw [← hXX]; rfl
  have epn : XX.pn = X.pn ++ pins := by rw [← hXX]; rfl
  have ecl : XX.env.cells = cl := by rw [eE]; rfl
  -- what stays true of the iterator's records
  have stat : ∀ {H' : Hp} {ps : List (Addr × Obj)}, (∀ b ∈ fp, H' b = none) → (∀ p ∈ ps, p.1 = s2.heap.objs.size) → ∀ b ∈ fp, FpOk XX ps H' b := fun {H' ps} hn hp b hb => by
    refine ⟨hn b hb, ?_, ?_, ?_, ?_, ?_⟩
    · rw [eL]; exact Nat.ne_of_lt (Nat.lt_of_lt_of_le (hfs b hb) hCle)
    · rw [efs]
      intro z
      rcases List.mem_cons.mp (I2.stkSub b z) with q | q
      · exact (f2 b hb).2.1 q
      · exact (f2 b hb).2.2.1 q
    · rw [eex]; exact .inl hb
    · rw [ecl]; exact fun x c e => (f2 b hb).2.2.2.2.1 x c (h1 x c e)
    · intro p hp' z
      rw [epn] at hp'
      rcases List.mem_append.mp hp' with q | q
      · exact (f2 b hb).2.2.2.2.2 p q z
      · rw [hp p q] at z
        exact absurd (hfs b hb) (by rw [z]; exact Nat.lt_irrefl _)
  have nofsD : s2.heap.objs.size ∉ XX.fs := by
    rw [efs]; intro z
    rcases List.mem_cons.mp (I2.stkSub _ z) with q | q
    · exact absurd I2.lt (by rw [← q]; exact Nat.lt_irrefl _)
    · exact I2.nofs (Nat.le_refl _) q
  have pinD : ∀ {σ' : St} {H' : Hp} {s' : Shared} {its : List Value} {n : Nat}, Inv XX [] σ' H' s' → H' s2.heap.objs.size = none → s'.heap.get? s2.heap.objs.size = some { cls := .type "list", data := .seq its.toArray n } →
      Inv XX [(s2.heap.objs.size, { cls := .type "list", data := .seq its.toArray n })] σ' H' s' := fun {σ' H' s' its n} I' hn ho => I'.pins_of fun p hp => by
    have e : p = (s2.heap.objs.size, { cls := .type "list", data := .seq its.toArray n }) := by simpa using hp
    subst e
    refine ⟨ho, hn, by rw [eL]; exact hDC, nofsD, fun v z => ?_⟩
    have z' : Data.seq its.toArray n = Data.cell v := z
    cases z'
  have loop : ∀ s₃ : Shared, (∃ tk, s₃ = { s2 with heap := h₁, toks := tk }) →
      codeAny (model X.prog X.w) X.A (.compLoop (.ListComp elt [⟨tg, iter, ifs, 0⟩] scope pos) 0 (.ref it) (.ref s2.heap.objs.size) (compEnvC scope cl G.objs.size X.env)) (RR (.ref s2.heap.objs.size) G.objs.size) s₃ := by
    rintro s₃ ⟨tk, rfl⟩
    refine compLoop_gen (fun n s' => ∃ i ys its k H', Inv XX [] (inSt ρ σ) H' s' ∧ tn i s'.heap ∧ (∀ b ∈ fp, H' b = none) ∧ H' s2.heap.objs.size = none ∧ Vals ys its ∧
      s'.heap.get? s2.heap.objs.size = some { cls := .type "list", data := .seq its.toArray k } ∧ W i n ys H') ?_ m0
      ⟨0, [], [], 0, H2, IN tk, T.keep _ _ _ st2 fun b _ o e => old b o e, fun b hb => (f2 b hb).1, I2.hok.fresh (Nat.le_refl _), .nil, hacc, w0⟩
    rintro n s3 ⟨i, ys, its, k, H3, I3, st3, fr3, hD3, rv, ho3, w3⟩
    rcases turn i n ys H3 w3 with ⟨stop, hz, qn⟩ | ⟨go, hz, N, hN, step⟩
    · have I3p := pinD I3 hD3 ho3
      have q := T.done XX eP eW eK ec i _ s3 (inSt ρ σ) H3 (fun _ _ => False) I3p (stat fr3 (by simp)) st3 stop
      rw [eA] at q
      refine thn q fun r s4 ⟨hr, I4⟩ => ?_
      subst hr
      have ho4 := (I4.pin (s2.heap.objs.size, { cls := .type "list", data := .seq its.toArray k }) (by simp)).1
      obtain ⟨m, hm, _⟩ := I4.loc
      rw [eL] at hm
      have hun : Un (frs X.stack) fp H2 (upd H3 s2.heap.objs.size (.lst ys)) s2.heap s4.heap := by
        have u := I4.base
        rw [efs, eex, eH0, es0] at u
        refine ⟨u.keep, u.slot, fun b o e n hx => ?_, u.there, fun b xs e => ?_, fun b o xs e => ?_, fun b ps e => ?_⟩
        · rw [upd_ne (Nat.ne_of_lt (Heap.lt_size e))]; exact u.free b o e n hx
        · have q := u.tups b xs e
          rw [upd_ne (ne_of_none q hD3)]; exact q
        · have q := u.frzs b o xs e
          rw [upd_ne (ne_of_none q hD3)]; exact q
        · obtain ⟨more, q⟩ := u.tbls b ps e
          exact ⟨more, by rw [upd_ne (ne_of_none q hD3)]; exact q⟩
      have hok : HOk X.prog X.w (upd H3 s2.heap.objs.size (.lst ys)) s4.heap := by
        have q := I4.hok
        rw [eP, eW] at q
        exact q.track hD3 ⟨hz, its, k, rv, ho4⟩
      have hfr : ∀ b ∈ fp, (b ∈ X.ex ∨ X.s₀.heap.objs.size ≤ b) ∧ b ≠ X.env.locals ∧ (∀ x c, X.env.cells.lookup x = some c → c ≠ b) ∧ ∀ p ∈ X.pn ++ pins, p.1 ≠ b := fun b hb => ⟨(f2 b hb).2.2.2.1, (f2 b hb).2.1, (f2 b hb).2.2.2.2.1, (f2 b hb).2.2.2.2.2⟩
      have IO : Inv X pins σ (upd H3 s2.heap.objs.size (.lst ys)) s4 := I2.call' (by have := I4.os; rw [es0] at this; exact this) hun hok I4.bare hfr
      refine fin _ _ s4 _ m IO (qn _ hD3) hm (I2.fpOk hCle ?_)
      rw [upd_ne (Ne.symm hDC)]
      have := I4.free
      rw [eL] at this
      exact this
    · have I3p := pinD I3 hD3 ho3
      have q := T.item XX eP eW eK ec i _ s3 (inSt ρ σ) H3 (fun _ _ => False) I3p (stat fr3 (by simp)) st3 go
      rw [eA] at q
      refine thn q fun r s4 ⟨u, hr, h4⟩ => ?_
      subst hr
      refine thn h4 fun _ s5 ⟨x, H5, I5, r5, y5, st5, fr5⟩ => ?_
      have I5' := I5.pinned (stat fr5 (by simp)) (T.obj _ _ st5)
      have qa := pg _ s5 (inSt ρ σ) H5 x u _ I5' r5 (step x H5 y5)
      rw [eP, eW, eA, eE, ex] at qa
      refine thn qa fun _ s6 ⟨σ6, H6, I6, ⟨ou1, ou2⟩, q6⟩ => ?_
      have hw6 : (inSt ρ σ).length = σ6.length := by rw [ou1]; unfold inSt; rw [List.length_map]
      have qt := pt _ s6 σ6 H6 _ I6 q6
      rw [eP, eW, eA, eE, ex] at qt
      refine thn qt fun ok s7 ⟨H7, I7, q7⟩ => ?_
      have back : ∀ {s8 : Shared} {H8 : Hp}, Inv XX ([(s2.heap.objs.size, { cls := .type "list", data := .seq its.toArray k })] ++ pinsAt fp s5.heap) σ6 H8 s8 → tn (i + 1) s8.heap ∧ (∀ b ∈ fp, H8 b = none) ∧ H8 s2.heap.objs.size = none ∧
          s8.heap.get? s2.heap.objs.size = some { cls := .type "list", data := .seq its.toArray k } := fun {s8 H8} I8 => by
        refine ⟨T.keep _ _ _ st5 fun b hb o e => (I8.pin (b, o) (List.mem_append_right _ (List.mem_append_right _ (mem_pinsAt hb e)))).1, fun b hb => ?_, ?_, ?_⟩
        · obtain ⟨o, e, d⟩ := T.obj _ _ st5 b hb
          exact (I8.pin (b, o) (List.mem_append_right _ (List.mem_append_right _ (mem_pinsAt hb e)))).2.1
        · exact (I8.pin (s2.heap.objs.size, { cls := .type "list", data := .seq its.toArray k }) (by simp)).2.1
        · exact (I8.pin (s2.heap.objs.size, { cls := .type "list", data := .seq its.toArray k }) (by simp)).1
      cases ok with
      | false =>
        obtain ⟨m', hm, w7⟩ := hN _ _ q7
        obtain ⟨b1, b2, b3, b4⟩ := back I7
        exact ⟨m', hm, i + 1, ys, its, k, H7, (I7.pins_of (pins' := []) (fun _ z => nomatch z)).weak hw6 ou2, b1, b2, b3, rv, b4, w7⟩
      | true =>
        have qe := pe _ s7 σ6 H7 _ I7 q7
        rw [eP, eW, eA, eE, ex] at qe
        refine thn qe fun y s8 ⟨v8, H8, I8, r8, n8⟩ => ?_
        obtain ⟨m', hm, w8⟩ := hN _ _ n8
        obtain ⟨b1, b2, b3, b4⟩ := back I8
        have hlen := rv.length
        refine call_meets F.slot_list_append ⟨_, b4, rfl⟩ F.entry_list_append (F.args_list_append_2 _ _) (PySem.list_append s2.heap.objs.size its.toArray k y (by rw [List.size_toArray]; omega)) ⟨b4, ?_⟩
        have qL := PySem.IsL.update b4 (fun xs => xs.push y)
        have I8' : Inv XX [] σ6 H8 s8 := I8.pins_of (fun _ z => nomatch z)
        have I9 : Inv XX [] σ6 H8 { s8 with heap := s8.heap.update s2.heap.objs.size (Obj.mapSeq fun xs => xs.push y), toks := s8.toks } := I8'.turned (it := s2.heap.objs.size) (fun b o hb e => (Heap.get?_update_other s8.heap _ (Ne.symm hb)).trans e) b3
          (by rw [eL]; exact hDC) (.inr (by rw [es0]; exact Nat.le_refl _)) (by
            rw [ecl]; intro x c e z
            obtain ⟨v, qc⟩ := I2.cell x c (h1 x c e)
            exact absurd qc.lt (by rw [z]; exact Nat.lt_irrefl _)) (by
            intro p hp z
            have hp' : p ∈ X.pn ++ pins := by rw [epn] at hp; simpa using hp
            exact absurd (Heap.lt_size (I2.pin p hp').1) (by rw [z]; exact Nat.lt_irrefl _))
        have hnd : s2.heap.objs.size ∉ fp := fun z => Nat.lt_irrefl _ (hfs _ z)
        rw [show its.toArray.push y = (its ++ [y]).toArray by simp] at qL
        refine ⟨m', hm, i + 1, ys ++ [v8], its ++ [y], _, H8, I9.weak hw6 ou2, T.keep _ _ _ b1 fun b hb o e => (Heap.get?_update_other s8.heap _ (by rintro rfl; exact hnd hb)).trans e, b2, b3, rv.append (.cons r8 .nil), qL, w8⟩
  refine codeAny_compStart_list (loop _ ⟨_, rfl⟩) (T.self X.A 0 _ _ _ (T.keep _ _ _ st2 fun b _ o e => old b o e) (loop _ ⟨_, rfl⟩))
theorem pe_comp {X : Cx} {elt iter tg : Expr} {ifs : List Expr} {scope : Scope} {pos : Pos} (N' : List Str) (ρ : List (Option Nat)) {wi : TI} {g : TG} {tt : TT} {te : TE} (hc : X.calm = true) (hi : PI X tg iter wi) (S : CompScope scope X.env.scope) (hρ : SlotOk scope X.env X.N N' ρ)
    (hl : ∀ x, (x, NameKind.free) ∈ scope.names → scope.names.lookup x = some .free)
    (inner : ∀ (cl : List (Str × Addr)) (C : Addr) (s : Shared) (H : Hp) (fp : List Addr) (pins : List (Addr × Obj)), PG (compCx X scope N' cl C s H fp pins) tg g ∧ PTs (compCx X scope N' cl C s H fp pins) ifs tt ∧ PE (compCx X scope N' cl C s H fp pins) elt te)
    (hs : ∀ x, foldedSetIterable iter X.env x = pure x := by intro _; rfl) : PE X (.ListComp elt [⟨tg, iter, ifs, 0⟩] scope pos) (tComp ρ wi g tt te) := by
  intro pins s σ H Q I h
  obtain ⟨cl, hcl, h1, h2⟩ := closureFor_of (scope := scope) (env := X.env) (fun n hn => I.ok.has n (S.free (n, .free) hn rfl))
  rw [eval_ListComp]
  refine wpAny_comprehension_free (use := none) rfl hs hcl S.kind S.loc ?_
  refine comp_run (RR := fun acc C => compPost (model X.prog X.w) X.A X.xe none (EP X pins σ Q) acc C) hc hi S hρ hl inner I h h1 h2 ?_
  intro D C s' H' m I' q hm hf
  refine ⟨m, hm, fun h' sb => ⟨.ref D, H', ?_, rfl, q⟩⟩
  exact I'.turned (t' := s'.toks) (fun b o hb e => (sb.2 b hb).trans e) hf.1 hf.2.1 hf.2.2.2.1 hf.2.2.2.2.1 hf.2.2.2.2.2

theorem ps_setcomp {X : Cx} {elt iter tg : Expr} {ifs : List Expr} {scope : Scope} {pos pos' spos : Pos} {i : Nat} {x : Str} (N' : List Str) (ρ : List (Option Nat)) {wi : TI} {g : TG} {tt : TT} {te : TE} (hN : X.N.Nodup) (hix : X.N[i]? = some x) (hx : Loc X.env.scope x)
    (hc : X.calm = true) (hi : PI X tg iter wi) (S : CompScope scope X.env.scope) (hρ : SlotOk scope X.env X.N N' ρ)
    (hl : ∀ x, (x, NameKind.free) ∈ scope.names → scope.names.lookup x = some .free)
    (inner : ∀ (cl : List (Str × Addr)) (C : Addr) (s : Shared) (H : Hp) (fp : List Addr) (pins : List (Addr × Obj)), PG (compCx X scope N' cl C s H fp pins) tg g ∧ PTs (compCx X scope N' cl C s H fp pins) ifs tt ∧ PE (compCx X scope N' cl C s H fp pins) elt te)
    (hsw : swapsWith (.ListComp elt [⟨tg, iter, ifs, 0⟩] scope pos) (some (.Name x pos')) spos.line X.env = pure true := by rfl)
    (hs : ∀ x, foldedSetIterable iter X.env x = pure x := by intro _; rfl) (hf : X.fn x = true ∨ X.env.scope.names.lookup x = some .local := by first | exact .inl rfl | exact .inr rfl | assumption) :
    PS X (.Assign [.Name x pos'] (.ListComp elt [⟨tg, iter, ifs, 0⟩] scope pos) spos) (tAsg (tComp ρ wi g tt te) (gName i)) := by
  intro pins s σ H Dn I h
  obtain ⟨cl, hcl, h1, h2⟩ := closureFor_of (scope := scope) (env := X.env) (fun n hn => I.ok.has n (S.free (n, .free) hn rfl))
  rw [exec_Assign_Name_used _ _ _ _ hsw]
  refine wpAny_bind (wpAny_standAt (wpAny_bind ?_))
  show wpAny _ X.A (do let _ ← comprehension (.ListComp elt [⟨tg, iter, ifs, 0⟩] scope pos) scope X.env _ (newList []) false (eval iter X.env) (some (assign (.Name x pos') X.env))) _ _ s
  refine wpAny_bind (wpAny_mono (wpAny_comprehension_free (use := some (assign (.Name x pos') X.env)) (Q := fun _ s' => SP X pins Dn .next s') rfl hs hcl S.kind S.loc ?_) (fun _ s' hq => wpAny_pure (wpAny_pure hq)) fun _ _ e => e)
  refine comp_run (RR := fun acc C => compPost (model X.prog X.w) X.A X.xe (some (assign (.Name x pos') X.env)) (fun _ s' => SP X pins Dn .next s') acc C) hc hi S hρ hl inner I h h1 h2 ?_
  intro D C s' H' m I' q hm hfC
  obtain ⟨oC, es, ep, hoC, hr⟩ := id hm
  have pin : Inv X (pins ++ pinsAt [C] s'.heap) σ H' s' := I'.pinned (fun b hb => by
    have e : b = C := by simpa using hb
    subst e
    exact hfC) (fun b hb => by
    have e : b = C := by simpa using hb
    subst e
    exact ⟨oC, hoC, fun v z => by rw [hr.1] at z; cases z⟩)
  show wpAny _ X.A (assign (.Name x pos') X.env (.ref D)) _ _ _
  refine wpAny_assign_Name ?_
  refine store_ok (M := model X.prog X.w) (A := X.A) (E := X.xe) pin hN hix hx (v := .ref D) (u := .ref D) rfl (fun s'' I'' => ?_) hf
  have pC := (I''.pin (C, oC) (List.mem_append_right _ (List.mem_append_right _ (mem_pinsAt (by simp) hoC))))
  refine ⟨m, ⟨oC, es, ep, pC.1, hr⟩, fun h' sb => ⟨_, H', ?_, q⟩⟩
  have I2 : Inv X pins (σ.set i (some (.ref D))) H' s'' := I''.unpinned
  exact I2.turned (t' := s''.toks) (fun b o hb e => (sb.2 b hb).trans e) hfC.1 hfC.2.1 hfC.2.2.2.1 hfC.2.2.2.2.1 hfC.2.2.2.2.2

theorem inSt_cons (σ : St) (o : Option Nat) (ρ : List (Option Nat)) : inSt (o :: ρ) σ = (match o with | some i => (σ[i]?).getD none | none => none) :: inSt ρ σ := rfl
theorem outs1 {ρ : List (Option Nat)} {σ : St} (o : Option V) : Outs (none :: ρ) σ (o :: inSt ρ σ) := by
  refine ⟨by unfold inSt; simp, fun j v e => ?_⟩
  cases j with
  | zero => rw [inSt_cons] at e; simp at e
  | succ j => rw [inSt_cons] at e; simpa using e
theorem outs2 {ρ : List (Option Nat)} {σ : St} (o o' : Option V) : Outs (none :: none :: ρ) σ (o :: o' :: inSt ρ σ) := by
  refine ⟨by unfold inSt; simp, fun j v e => ?_⟩
  cases j with
  | zero => rw [inSt_cons] at e; simp at e
  | succ j =>
    rw [inSt_cons, inSt_cons] at e
    cases j with
    | zero => simp at e
    | succ j => simpa using e
theorem comp_by {J : It} {n : Nat} {X : Nat → V → Prop} {ρ : List (Option Nat)} {tt : TT} {te : TE} {σ : St} {H : Hp} {Q : VK} (Pv : Nat → List V → Hp → Prop) (h0 : Pv 0 [] H) (hlen : n ≤ sizeLine)
    (hy : ∀ i ys H, i ≤ n → Pv i ys H → ys.length ≤ i) (hgo : ∀ i ys H, i < n → Pv i ys H → J.go i H) (hyl : ∀ i ys H x H', i < n → Pv i ys H → J.yld i H x H' → H' = H ∧ X i x) (hst : ∀ ys H, Pv n ys H → J.stop n H)
    (hs : ∀ i x ys H, i < n → X i x → Pv i ys H → tt (some x :: inSt ρ σ) H fun ok H4 => if ok = true then te (some x :: inSt ρ σ) H4 fun v H5 => Pv (i + 1) (ys ++ [v]) H5 else Pv (i + 1) ys H4)
    (hd : ∀ ys H, Pv n ys H → ∀ p, H p = none → Q (.ref p) (upd H p (.lst ys))) :
    CompW (none :: ρ) (gName 0) tt te σ Q J H := by
  refine ⟨fun i m ys H => m = n - i ∧ i ≤ n ∧ Pv i ys H, ⟨n, by simp, Nat.zero_le _, h0⟩, ?_⟩
  rintro i m ys H ⟨rfl, hi, p⟩
  have hl := hy i ys H hi p
  by_cases hlt : i < n
  · refine .inr ⟨hgo i ys H hlt p, by omega, Pv (i + 1), fun ys' H'' p' => ⟨n - (i + 1), by omega, rfl, hlt, p'⟩, fun x H' y => ?_⟩
    obtain ⟨e, y2⟩ := hyl i ys H x H' hlt p y
    subst e
    exact ⟨outs1 _, hs i x ys _ hlt y2 p⟩
  · have e : i = n := by omega
    subst e
    exact .inl ⟨hst ys H p, by omega, hd ys H p⟩
theorem comp_tup {K : PySem.W.Frag} {a : Addr} {xs : List V} {ρ : List (Option Nat)} {tt : TT} {te : TE} {σ : St} {H : Hp} {Q : VK} (Pv : Nat → List V → Hp → Prop) (h0 : Pv 0 [] H) (hlen : xs.length ≤ sizeLine) (hl : ∀ i ys H, i ≤ xs.length → Pv i ys H → SqT K H a xs ∧ ys.length ≤ i)
    (hs : ∀ i x ys H, xs[i]? = some x → Pv i ys H → tt (some x :: inSt ρ σ) H fun ok H4 => if ok = true then te (some x :: inSt ρ σ) H4 fun v H5 => Pv (i + 1) (ys ++ [v]) H5 else Pv (i + 1) ys H4)
    (hd : ∀ ys H, Pv xs.length ys H → ∀ p, H p = none → Q (.ref p) (upd H p (.lst ys))) :
    CompW (none :: ρ) (gName 0) tt te σ Q (Itt K a) H :=
  comp_by (n := xs.length) (X := fun i x => xs[i]? = some x) Pv h0 hlen (fun i ys H hi p => (hl i ys H hi p).2) (fun i ys H hi p => ⟨xs, xs[i], (hl i ys H (Nat.le_of_lt hi) p).1, by simp [hi]⟩) (fun i ys H x H' hi p y => ⟨y.1, y.2 xs (hl i ys H (Nat.le_of_lt hi) p).1⟩)
    (fun ys H p => ⟨xs, (hl _ ys H (Nat.le_refl _) p).1, Nat.le_refl _⟩) (fun i x ys H _ e p => hs i x ys H e p) hd
theorem comp_list {K : PySem.W.Frag} {a : Addr} {xs : List V} {ρ : List (Option Nat)} {tt : TT} {te : TE} {σ : St} {H : Hp} {Q : VK} (Pv : Nat → List V → Hp → Prop) (h0 : Pv 0 [] H) (hlen : xs.length ≤ sizeLine) (hl : ∀ i ys H, i ≤ xs.length → Pv i ys H → SqL K H a xs ∧ ys.length ≤ i)
    (hs : ∀ i x ys H, xs[i]? = some x → Pv i ys H → tt (some x :: inSt ρ σ) H fun ok H4 => if ok = true then te (some x :: inSt ρ σ) H4 fun v H5 => Pv (i + 1) (ys ++ [v]) H5 else Pv (i + 1) ys H4)
    (hd : ∀ ys H, Pv xs.length ys H → ∀ p, H p = none → Q (.ref p) (upd H p (.lst ys))) :
    CompW (none :: ρ) (gName 0) tt te σ Q (Itl K a) H :=
  comp_by (n := xs.length) (X := fun i x => xs[i]? = some x) Pv h0 hlen (fun i ys H hi p => (hl i ys H hi p).2) (fun i ys H hi p => ⟨xs, xs[i], (hl i ys H (Nat.le_of_lt hi) p).1, by simp [hi]⟩) (fun i ys H x H' hi p y => ⟨y.1, y.2 xs (hl i ys H (Nat.le_of_lt hi) p).1⟩)
    (fun ys H p => ⟨xs, (hl _ ys H (Nat.le_refl _) p).1, Nat.le_refl _⟩) (fun i x ys H _ e p => hs i x ys H e p) hd
theorem comp_range {lo : Int} {n : Nat} {ρ : List (Option Nat)} {tt : TT} {te : TE} {σ : St} {H : Hp} {Q : VK} (Pv : Nat → List V → Hp → Prop) (h0 : Pv 0 [] H) (hlen : n ≤ sizeLine) (hl : ∀ i ys H, i ≤ n → Pv i ys H → ys.length ≤ i)
    (hs : ∀ i ys H, i < n → Pv i ys H → tt (some (.int (lo + i)) :: inSt ρ σ) H fun ok H4 => if ok = true then te (some (.int (lo + i)) :: inSt ρ σ) H4 fun v H5 => Pv (i + 1) (ys ++ [v]) H5 else Pv (i + 1) ys H4)
    (hd : ∀ ys H, Pv n ys H → ∀ p, H p = none → Q (.ref p) (upd H p (.lst ys))) :
    CompW (none :: ρ) (gName 0) tt te σ Q (Itr lo n) H :=
  comp_by (n := n) (X := fun i x => x = .int (lo + i)) Pv h0 hlen hl (fun i ys H hi p => hi) (fun i ys H x H' hi p y => y) (fun ys H p => Nat.le_refl _) (fun i x ys H hi e p => by subst e; exact hs i ys H hi p) hd
end L2

set_option Elab.async false
set_option linter.all false
set_option maxRecDepth 100000
set_option maxHeartbeats 4000000
namespace L2
open PySem PySem.Spec PyProof.Rows

noncomputable abbrev cds (x : Str) : List Nat := x.cps.toList
theorem cds_len (x : Str) : (cds x).length = x.length := by simp [cds, Str.length]
theorem cds_ext {x y : Str} (h : cds x = cds y) : x = y := StrLaws.mk_of_toList (x := x) h ▸ (StrLaws.mk_of_toList (x := y) rfl).symm
theorem cds_app (x y : Str) : cds (x ++ y) = cds x ++ cds y := by simp [cds, Str.cps_append]
theorem cds_mk (l : List Nat) : cds ⟨l.toArray⟩ = l := by simp [cds]
noncomputable def sOf (l : List Nat) : Str := ⟨l.toArray⟩
theorem cds_sOf (l : List Nat) : cds (sOf l) = l := by simp [cds, sOf]
theorem sOf_cds (x : Str) : sOf (cds x) = x := cds_ext (cds_sOf _)

noncomputable def cutC {α : Type} (xs : List α) (lo hi : Option Int) : List α := (xs.drop (HT.sIx xs.length 0 lo)).take (HT.sIx xs.length xs.length hi - HT.sIx xs.length 0 lo)
theorem clip_str (n : Nat) (i : Int) (k : Nat) : max 0 (min (if i < 0 then i + (n : Int) else i) (n : Int)) = ((HT.sIx n k (some i) : Nat) : Int) := by
  unfold HT.sIx
  dsimp only
  split <;> omega
theorem slice_ix (lo hi : Option Int) (n : Nat) : Builtin.Str.strSliceIndices lo hi 1 n = (List.range (HT.sIx n n hi - HT.sIx n 0 lo)).map (fun k => HT.sIx n 0 lo + k) := by
  have e : Builtin.Str.strSliceIndices lo hi 1 n = sliceRange ((HT.sIx n 0 lo : Nat) : Int) ((HT.sIx n n hi : Nat) : Int) 1 := by
    unfold Builtin.Str.strSliceIndices
    simp only [show ((1 : Int) > 0) = True by simp, if_true]
    congr 1
    · cases lo with
      | none => rfl
      | some i => exact clip_str n i 0
    · cases hi with
      | none => rfl
      | some i => exact clip_str n i n
  rw [e]
  unfold sliceRange
  simp only [show ((1 : Int) > 0) = True by simp, if_true]
  generalize HT.sIx n 0 lo = a
  generalize HT.sIx n n hi = b
  by_cases h : (a : Int) < b
  · rw [if_pos h, show (((b : Int) - a + 1 - 1) / 1).toNat = b - a by simp <;> omega]
    refine List.map_congr_left fun k _ => ?_
    omega
  · rw [if_neg h, show b - a = 0 by omega]
    rfl
theorem cds_slice (x : Str) (lo hi : Option Int) : cds (Txt.slice x lo hi) = cutC (cds x) lo hi := by
  unfold Txt.slice cutC
  have hl := cds_len x
  rw [hl, slice_ix]
  have b1 := HT.sIx_le x.length 0 (Nat.zero_le _) lo
  have b2 := HT.sIx_le x.length x.length (Nat.le_refl _) hi
  generalize HT.sIx x.length 0 lo = a at *
  generalize HT.sIx x.length x.length hi = b at *
  split
  · rename_i h
    have hb : b - a = x.length := by simpa using h
    have ha : a = 0 := by omega
    subst ha
    rw [List.drop_zero, hb, ← hl, List.take_length]
  · by_cases hab : a ≤ b
    · have q := StrLaws.picks (cds x) (b - a) a (by omega)
      have q2 : (List.filterMap (fun x_1 => x.cps[x_1]?) (List.map (fun k => a + k) (List.range (b - a)))) = List.filterMap (fun x_1 => (cds x)[x_1]?) (List.map (fun k => a + k) (List.range (b - a))) := by
        simp [cds]
      rw [cds_mk, q2, q]
    · rw [show b - a = 0 by omega]
      simp [cds]
section
variable {X : Cx}
noncomputable def rSlS : V → Option Int → Option Int → Hp → VK → Prop := fun x lo hi H Q => ∃ z, x = .str z ∧ z.length ≤ sizeLine ∧ Q (.str (sOf (cutC (cds z) lo hi))) H
theorem sl_str : SlR X rSlS := by
  intro pins s σ H x v vl vu lo hi sl Q I rx hs pl pu h
  obtain ⟨z, rfl, hz, q⟩ := h
  obtain ⟨t, rfl⟩ := rx
  rw [← cds_slice, sOf_cds] at q
  refine ⟨"str", _, F.slot_str_getitem.lookup, typeIs_str _ _ _, ?_⟩
  have go : ∀ (l u : Option (Int × Tok)), l.map (·.1) = lo → u.map (·.1) = hi → s.heap.IsSlice sl l u none → wpAny (model X.prog X.w) X.A (getItem (.str z t) (.ref sl)) (EP X pins σ Q) X.xe s := fun l u e1 e2 hS => by
    subst e1 e2
    exact wpAny_getItem_str_slice hS rfl (post_val_or_str ⟨Nat.le_trans (Txt.slice_le z _ _) hz, fun t' k => ⟨.str _, H, I.tok _, ⟨_, rfl⟩, q⟩⟩)
  cases pl with
  | none =>
    cases pu with
    | none => exact go none none rfl rfl hs
    | int j u => exact go none (some (j, u)) rfl rfl hs
  | int i t' =>
    cases pu with
    | none => exact go (some (i, t')) none rfl rfl hs
    | int j u => exact go (some (i, t')) (some (j, u)) rfl rfl hs

end

section
variable {X : Cx}
noncomputable def clsV : V → Option Value
  | .ty n => some (.type n)
  | .ref a => some (.ref a)
  | _ => none
theorem call_isi : CallR X (.builtin "isinstance") (fun xs H Q => ∃ x c t cv b, xs = [x, c] ∧ clsV c = some cv ∧ TyOf X.K H x t ∧ PySem.W.kitOne X.K t cv = some b ∧ Q (.bl b) H) := by
  intro pins s σ H xs us Q I r h
  obtain ⟨x, c, t, cv, b, rfl, rc, ty, e, q⟩ := h
  obtain ⟨u, w', rfl, rx, rw'⟩ := r.two
  have : w' = cv := by
    cases c with
    | ref a => cases rc; exact rw'
    | ty a => cases rc; exact rw'
    | _ => cases rc
  subst this
  exact isinst_ok I rx ty e fun tk => ⟨.bl b, H, I.tok _, rfl, q⟩
end
end L2

set_option Elab.async false
set_option linter.all false
set_option maxRecDepth 100000
set_option maxHeartbeats 4000000
namespace L2
open PySem PySem.Spec PyProof.Rows

noncomputable def compB (sc out : Scope) (N N' : List Str) (ρ : List (Option Nat)) : Bool :=
  decide (sc.kind = .function) && sc.names.all (fun y => decide (y.2 ≠ .cell)) && sc.names.all (fun y => decide (y.2 = .local → sc.names.lookup y.1 = some .local)) &&
  sc.names.all (fun y => decide (y.2 = .free → sc.names.lookup y.1 = some .free ∧ (out.names.lookup y.1 = some .cell ∨ out.names.lookup y.1 = some .free))) &&
  decide (ρ.length = N'.length) && decide N'.Nodup &&
  (ρ.zip N').all (fun p => match p.1 with | none => true | some i => decide (N[i]? = some p.2) && decide (out.names.lookup p.2 = some .local ∨ out.names.lookup p.2 = some .cell ∨ out.names.lookup p.2 = some .free) && sc.names.any (fun y => decide (y = (p.2, NameKind.free))))
structure CompF (sc : Scope) (env : Env) (N N' : List Str) (ρ : List (Option Nat)) : Prop where
  S : CompScope sc env.scope
  sl : SlotOk sc env N N' ρ
  hl : ∀ x, (x, NameKind.free) ∈ sc.names → sc.names.lookup x = some .free
  nd : N'.Nodup
theorem compF_of {sc : Scope} {env : Env} {N N' : List Str} {ρ : List (Option Nat)} (h : compB sc env.scope N N' ρ = true) : CompF sc env N N' ρ := by
  unfold compB at h
  simp only [Bool.and_eq_true, decide_eq_true_eq, List.all_eq_true] at h
  obtain ⟨⟨⟨⟨⟨⟨h1, h2⟩, h3⟩, h4⟩, h5⟩, h6⟩, h7⟩ := h
  refine ⟨⟨h1, h2, h3, fun y hy e => (h4 y hy e).2⟩, ⟨h5, fun j i x e1 e2 => ?_⟩, fun x hx => (h4 _ hx rfl).1, h6⟩
  have hm : (some i, x) ∈ ρ.zip N' := by
    refine List.mem_of_getElem? (i := j) ?_
    rw [List.getElem?_zip_eq_some]
    exact ⟨e1, e2⟩
  have q := h7 _ hm
  simp only [Bool.and_eq_true, decide_eq_true_eq, List.any_eq_true] at q
  obtain ⟨⟨q1, q2⟩, y, hy, e⟩ := q
  exact ⟨q1, q2, e ▸ hy⟩

theorem pe_compB {X : Cx} {elt iter tg : Expr} {ifs : List Expr} {scope : Scope} {pos : Pos} (N' : List Str) (ρ : List (Option Nat)) {wi : TI} {g : TG} {tt : TT} {te : TE} (hc : X.calm = true) (hi : PI X tg iter wi) (h : compB scope X.env.scope X.N N' ρ = true)
    (inner : ∀ (cl : List (Str × Addr)) (C : Addr) (s : Shared) (H : Hp) (fp : List Addr) (pins : List (Addr × Obj)), PG (compCx X scope N' cl C s H fp pins) tg g ∧ PTs (compCx X scope N' cl C s H fp pins) ifs tt ∧ PE (compCx X scope N' cl C s H fp pins) elt te)
    (hs : ∀ x, foldedSetIterable iter X.env x = pure x := by intro _; rfl) : PE X (.ListComp elt [⟨tg, iter, ifs, 0⟩] scope pos) (tComp ρ wi g tt te) :=
  have F := compF_of h
  pe_comp N' ρ hc hi F.S F.sl F.hl inner hs
theorem ps_setcompB {X : Cx} {elt iter tg : Expr} {ifs : List Expr} {scope : Scope} {pos pos' spos : Pos} {i : Nat} {x : Str} (N' : List Str) (ρ : List (Option Nat)) {wi : TI} {g : TG} {tt : TT} {te : TE} (hN : X.N.Nodup) (hix : X.N[i]? = some x) (hx : Loc X.env.scope x)
    (hc : X.calm = true) (hi : PI X tg iter wi) (h : compB scope X.env.scope X.N N' ρ = true)
    (inner : ∀ (cl : List (Str × Addr)) (C : Addr) (s : Shared) (H : Hp) (fp : List Addr) (pins : List (Addr × Obj)), PG (compCx X scope N' cl C s H fp pins) tg g ∧ PTs (compCx X scope N' cl C s H fp pins) ifs tt ∧ PE (compCx X scope N' cl C s H fp pins) elt te)
    (hsw : swapsWith (.ListComp elt [⟨tg, iter, ifs, 0⟩] scope pos) (some (.Name x pos')) spos.line X.env = pure true := by rfl)
    (hs : ∀ x, foldedSetIterable iter X.env x = pure x := by intro _; rfl) (hf : X.fn x = true ∨ X.env.scope.names.lookup x = some .local := by first | exact .inl rfl | exact .inr rfl | assumption) :
    PS X (.Assign [.Name x pos'] (.ListComp elt [⟨tg, iter, ifs, 0⟩] scope pos) spos) (tAsg (tComp ρ wi g tt te) (gName i)) :=
  have F := compF_of h
  ps_setcomp N' ρ hN hix hx hc hi F.S F.sl F.hl inner hsw hs hf

noncomputable def spLaw (K : PySem.W.Frag) : Sp := fun vs H Q _ => ∃ (a : Addr) (ns : List Int), vs = [.ref a] ∧ SqL K H a (ns.map V.int) ∧ ns.length ≤ 63 ∧ Only H ∧ ∀ H', Q (.bl true) H'
theorem law_walk {l : PySem.W.OpenLaw} {q : Program} {loose : List Str} {XP : (Str → Option Value) → Heap → Prop} {YP : World → Heap → Prop} {d : DefRec} {K : Params → PySem.W.Frag} {x : Str} (k : Nat) (hk : k ≤ 200) (hn : l.most = some 63) (hdf : d.params.defaults = [])
    (hY : ∀ (w : World) (h : Heap), YP w h → (K w.params).In h)
    (F : ∀ (w : World) (mg : Str → Option Value) (fa : Addr) (h : Heap), (K w.params).In h → h.Ns mainGlobals mg → mg d.name = some (.ref fa) →
      ∃ fd : FuncData, (∀ (s : Shared) (u : Value), BindsTo s fd ⟨[u], []⟩ [(x, u)]) ∧ ∀ base : Heap, (K w.params).In base → base.Ns mainGlobals mg → FnOk l.prog w (K w.params) mg base CX0 k fa fd [x] (spLaw (K w.params))) :
    PySem.W.WalkO q loose XP YP l.row.toRowW d [] (fun f vs => PySem.call f vs) :=
  L2.walk_of (n := 63) (k := k) (x := x) (CX := fun _ => CX0) (sp := fun w => spLaw (K w.params)) hn (by decide) hdf
    ⟨rfl, by have : callerA.depth + 605 < recursionLimit := by decide
             omega, by have : callerA.units + 3400 < cLine := by decide
                       omega, rfl⟩ hY F (fun _ H a ns hl hO hS => ⟨a, ns, rfl, hS, hl, hO, fun _ => rfl⟩) fun _ _ _ _ _ z => z
end L2
namespace L2
open PySem
noncomputable def mkSc (l : List (Str × NameKind)) : Scope := { kind := .function, names := l, isGenerator := false, isCoroutine := false, more := [] }
end L2

namespace L2
open PySem
theorem bt_len : bootBuiltins "len" = some (.builtin "len") := by decide +kernel
theorem bt_isinstance : bootBuiltins "isinstance" = some (.builtin "isinstance") := by decide +kernel
theorem bt_min : bootBuiltins "min" = some (.builtin "min") := by decide +kernel
theorem bt_int : bootBuiltins "int" = some (.type "int") := by decide +kernel
theorem bt_bool : bootBuiltins "bool" = some (.type "bool") := by decide +kernel
theorem bt_list : bootBuiltins "list" = some (.type "list") := by decide +kernel
theorem bt_tuple : bootBuiltins "tuple" = some (.type "tuple") := by decide +kernel
end L2

set_option Elab.async false
set_option linter.all false
set_option maxRecDepth 100000
set_option maxHeartbeats 4000000
namespace L2
open PySem PySem.Spec PyProof.Rows

theorem szl {n : Nat} (h : n ≤ 1000000) : n ≤ sizeLine := by rw [sizeLine_eq]; omega
theorem szlt {n : Nat} (h : n < 1000000) : n < sizeLine := by rw [sizeLine_eq]; omega
theorem same_new {H : Hp} {p : Addr} (h : H p = none) (o : HO) : Same H (upd H p o) := fun b u q => by rw [upd_ne (ne_of_none q h)]; exact q
theorem Same.seqT {K : PySem.W.Frag} {H H' : Hp} {a : Addr} {xs : List V} (e : Same H H') (h : SqT K H a xs) : SqT K H' a xs := by
  rcases h with h | h
  · rcases h with h | ⟨o, h⟩
    · exact .inl (.inl (e _ _ h))
    · exact .inl (.inr ⟨o, e _ _ h⟩)
  · exact .inr h
theorem dT {p : Prop} [Decidable p] (h : decide p = true) : p := of_decide_eq_true h
theorem dF {p : Prop} [Decidable p] (h : ¬ decide p = true) : ¬ p := fun z => h (decide_eq_true z)

theorem cell_in {ns : List Int} {k : Int} (h0 : 0 ≤ k) (h : k < (ns.length : Int)) : atI (ns.map V.int) k = some (.int (ns.getD k.toNat 0)) := by
  have hk : k.toNat < ns.length := by omega
  have ek : k = ((k.toNat : Nat) : Int) := by omega
  have q : atI (ns.map V.int) ((k.toNat : Nat) : Int) = some (.int (ns.getD k.toNat 0)) := atI_nat (by rw [List.getElem?_map, List.getElem?_eq_getElem hk]; simp [List.getD_eq_getElem?_getD, hk])
  rw [← ek] at q
  exact q
noncomputable def isInt : V → Bool
  | .int _ => true
  | _ => false
noncomputable def plainV : V → Bool
  | .int _ => true
  | .bl _ => true
  | .non => true
  | .str _ => true
  | _ => false
noncomputable def spWhole : Sp := fun vs H Q _ => ∃ x, vs = [x] ∧ plainV x = true ∧ Q (.bl (isInt x)) H
theorem take_snoc {α : Type} {l : List α} {i : Nat} {c : α} (h : l[i]? = some c) : l.take (i + 1) = l.take i ++ [c] := by
  rw [List.take_succ, h]; rfl
end L2
namespace L2
open PySem
end L2
namespace L2
open PySem
theorem seq_any {t u : TS} {D : Ends} {σ : St} {H : Hp} (M : St → Hp → Prop) (hu : ∀ σ' H', M σ' H' → u D σ' H') (ht : (∀ σ' H', M σ' H' → u D σ' H') → t { D with nx := u D } σ H) : tSeq t u D σ H := ht hu
theorem ndF {p : Prop} [Decidable p] (h : p) : (!decide p) = false := by rw [decide_eq_true h]; rfl
theorem ndT {p : Prop} [Decidable p] (h : ¬ p) : (!decide p) = true := by rw [decide_eq_false h]; rfl
theorem iteE {b : Bool} {A B : Prop} {v : Bool} (e : b = v) (h : if v = true then A else B) : if b = true then A else B := by rw [e]; exact h
end L2
namespace L2
open PySem
theorem len_sOf (l : List Nat) : (sOf l).length = l.length := by rw [← cds_len, cds_sOf]
theorem len_app (x y : Str) : (x ++ y).length = x.length + y.length := Str.length_append x y
end L2

set_option Elab.async false
set_option linter.all false
set_option maxRecDepth 100000
set_option maxHeartbeats 4000000
namespace L2
open PySem PySem.Spec PyProof.Rows

inductive Tr where
  | v (x : V)
  | lst (l : List Tr)
  | tup (l : List Tr)
mutual
inductive TrIs (K : PySem.W.Frag) (H : Hp) : V → Tr → Prop
  | flat {x : V} : flatV x = true → TrIs K H x (.v x)
  | lst {p : Addr} {xs : List V} {l : List Tr} : SqL K H p xs → TrsIs K H xs l → TrIs K H (.ref p) (.lst l)
  | tup {p : Addr} {xs : List V} {l : List Tr} : SqT K H p xs → TrsIs K H xs l → TrIs K H (.ref p) (.tup l)
inductive TrsIs (K : PySem.W.Frag) (H : Hp) : List V → List Tr → Prop
  | nil : TrsIs K H [] []
  | cons {x : V} {t : Tr} {xs : List V} {l : List Tr} : TrIs K H x t → TrsIs K H xs l → TrsIs K H (x :: xs) (t :: l)
end
mutual
noncomputable def eqT : Tr → Tr → Bool
  | .v x, .v y => eqV x y
  | .lst l, .lst m => eqTs l m
  | .tup l, .tup m => eqTs l m
  | _, _ => false
noncomputable def eqTs : List Tr → List Tr → Bool
  | [], [] => true
  | x :: l, y :: m => eqT x y && eqTs l m
  | _, _ => false
end
mutual
noncomputable def simT : Tr → Tr → Bool
  | .v _, .v _ => true
  | .lst l, .lst m => simTs l m
  | .tup l, .tup m => simTs l m
  | _, _ => false
noncomputable def simTs : List Tr → List Tr → Bool
  | x :: l, y :: m => simT x y && simTs l m
  | _, _ => true
end
mutual
noncomputable def depT : Tr → Nat
  | .v _ => 0
  | .lst l => depTs l + 1
  | .tup l => depTs l + 1
noncomputable def depTs : List Tr → Nat
  | [] => 0
  | x :: l => max (depT x) (depTs l)
end
theorem eqV_refl {x : V} (h : flatV x = true) : eqV x x = true := by
  cases x <;> first | rfl | (simp [eqV]; done) | (simp [flatV] at h)
mutual
/-- a tree of flat values -/
noncomputable def okT : Tr → Bool
  | .v x => flatV x
  | .lst l => okTs l
  | .tup l => okTs l
noncomputable def okTs : List Tr → Bool
  | [] => true
  | x :: l => okT x && okTs l
end
mutual
theorem eqT_refl : ∀ t : Tr, okT t = true → eqT t t = true
  | .v x, h => by rw [eqT]; exact eqV_refl (by simpa [okT] using h)
  | .lst l, h => by rw [eqT]; exact eqTs_refl l (by simpa [okT] using h)
  | .tup l, h => by rw [eqT]; exact eqTs_refl l (by simpa [okT] using h)
theorem eqTs_refl : ∀ l : List Tr, okTs l = true → eqTs l l = true
  | [], _ => by rw [eqTs]
  | x :: l, h => by
    rw [okTs, Bool.and_eq_true] at h
    rw [eqTs, eqT_refl x h.1, eqTs_refl l h.2]; rfl
end
mutual
theorem simT_refl : ∀ t : Tr, simT t t = true
  | .v x => by rw [simT]
  | .lst l => by rw [simT]; exact simTs_refl l
  | .tup l => by rw [simT]; exact simTs_refl l
theorem simTs_refl : ∀ l : List Tr, simTs l l = true
  | [] => by simp [simTs]
  | x :: l => by rw [simTs, simT_refl x, simTs_refl l]; rfl
end
mutual
theorem TrIs.ok {K : PySem.W.Frag} {H : Hp} : ∀ {x : V} {t : Tr}, TrIs K H x t → okT t = true
  | _, _, h => by
    cases h with
    | flat h => rw [okT]; exact h
    | lst _ h => rw [okT]; exact h.ok
    | tup _ h => rw [okT]; exact h.ok
theorem TrsIs.ok {K : PySem.W.Frag} {H : Hp} : ∀ {xs : List V} {l : List Tr}, TrsIs K H xs l → okTs l = true
  | _, _, h => by
    cases h with
    | nil => rw [okTs]
    | cons h r => rw [okTs, h.ok, r.ok]; rfl
end
theorem TrsIs.length {K : PySem.W.Frag} {H : Hp} : ∀ {xs : List V} {l : List Tr}, TrsIs K H xs l → xs.length = l.length
  | _, _, h => by
    cases h with
    | nil => rfl
    | cons _ r => simp [r.length]
theorem eqTs_len : ∀ {l m : List Tr}, l.length ≠ m.length → eqTs l m = false
  | [], [], h => absurd rfl h
  | [], _ :: _, _ => by rw [eqTs] <;> simp
  | _ :: _, [], _ => by rw [eqTs] <;> simp
  | x :: l, y :: m, h => by
    rw [eqTs, eqTs_len (l := l) (m := m) (fun e => h (by simp [e])), Bool.and_false]
section
variable {X : Cx} {pins : List (Addr × Obj)} {σ : St} {H : Hp} {s : Shared}
mutual
theorem TrIs.inj (I : Inv X pins σ H s) : ∀ {t t' : Tr} {x : V}, TrIs X.K H x t → TrIs X.K H x t' → t = t'
  | _, _, _, h, h' => by
    cases h with
    | flat h =>
      cases h' with
      | flat _ => rfl
      | lst _ _ => cases h
      | tup _ _ => cases h
    | lst hq hr =>
      cases h' with
      | flat h => cases h
      | lst hq' hr' =>
        have e := I.list_inj hq hq'
        subst e
        rw [TrsIs.inj I hr hr']
      | tup hq' hr' =>
        obtain ⟨_, _, ⟨o, n, e1, c1, _⟩, _⟩ := I.list hq
        obtain ⟨_, _, ⟨o', e2, c2, _⟩, _⟩ := I.tuple hq'
        rw [e1] at e2; cases e2
        rw [c1] at c2; simp at c2
    | tup hq hr =>
      cases h' with
      | flat h => cases h
      | tup hq' hr' =>
        have e := I.tuple_inj hq hq'
        subst e
        rw [TrsIs.inj I hr hr']
      | lst hq' hr' =>
        obtain ⟨_, _, ⟨o, n, e1, c1, _⟩, _⟩ := I.list hq'
        obtain ⟨_, _, ⟨o', e2, c2, _⟩, _⟩ := I.tuple hq
        rw [e1] at e2; cases e2
        rw [c1] at c2; simp at c2
theorem TrsIs.inj (I : Inv X pins σ H s) : ∀ {l l' : List Tr} {xs : List V}, TrsIs X.K H xs l → TrsIs X.K H xs l' → l = l'
  | _, _, _, h, h' => by
    cases h with
    | nil =>
      cases h'
      rfl
    | cons h r =>
      cases h' with
      | cons h2 r2 => rw [TrIs.inj I h h2, TrsIs.inj I r r2]
end
theorem range_all_eq {α : Type} {e : Nat → Bool} {f : α → Bool} : ∀ {l : List α}, (∀ j x, l[j]? = some x → e j = f x) → (List.range l.length).all e = l.all f := by
  intro l h
  rw [Bool.eq_iff_iff]
  simp only [List.all_eq_true, List.mem_range]
  constructor
  · intro q x hx
    obtain ⟨i, hi, hx⟩ := List.mem_iff_getElem.mp hx
    rw [← h i x (by rw [List.getElem?_eq_getElem hi, hx])]
    exact q i hi
  · intro q i hi
    rw [h i l[i] (List.getElem?_eq_getElem hi)]
    exact q _ (List.getElem_mem hi)
theorem eqTs_zip : ∀ {l m : List Tr}, l.length = m.length → eqTs l m = (l.zip m).all fun p => eqT p.1 p.2
  | [], [], _ => by rw [eqTs]; rfl
  | [], _ :: _, h => by simp at h
  | _ :: _, [], h => by simp at h
  | x :: l, y :: m, h => by
    rw [eqTs, eqTs_zip (l := l) (m := m) (by simpa using h)]
    rfl
theorem TrsIs.at {K : PySem.W.Frag} {H : Hp} : ∀ {xs : List V} {l : List Tr} {j : Nat} {t : Tr}, TrsIs K H xs l → l[j]? = some t → ∃ x, xs[j]? = some x ∧ TrIs K H x t
  | _, _, _, _, .nil, h => by simp at h
  | _, _, 0, _, .cons h _, e => by simp at e; subst e; exact ⟨_, rfl, h⟩
  | _, _, j + 1, _, .cons _ r, e => by
    obtain ⟨x, h1, h2⟩ := r.at (j := j) (by simpa using e)
    exact ⟨x, by simpa using h1, h2⟩
theorem simTs_at : ∀ {l m : List Tr} {j : Nat} {t t' : Tr}, simTs l m = true → l[j]? = some t → m[j]? = some t' → simT t t' = true
  | [], _, _, _, _, _, h, _ => by simp at h
  | _ :: _, [], _, _, _, _, _, h => by simp at h
  | x :: l, y :: m, 0, t, t', h, e1, e2 => by
    simp at e1 e2; subst e1 e2
    rw [simTs, Bool.and_eq_true] at h; exact h.1
  | x :: l, y :: m, j + 1, t, t', h, e1, e2 => by
    rw [simTs, Bool.and_eq_true] at h
    exact simTs_at (j := j) h.2 (by simpa using e1) (by simpa using e2)
theorem depTs_at : ∀ {l : List Tr} {j : Nat} {t : Tr}, l[j]? = some t → depT t ≤ depTs l
  | [], _, _, h => by simp at h
  | x :: l, 0, t, h => by simp at h; subst h; rw [depTs]; omega
  | x :: l, j + 1, t, h => by
    have := depTs_at (l := l) (j := j) (t := t) (by simpa using h)
    rw [depTs]; omega
theorem items_eq {A : Around} {l m : List Tr} {xs ys : List V} {its jts : List Value} (hr : TrsIs X.K H xs l) (hr' : TrsIs X.K H ys m) (rv : Vals xs its) (rv' : Vals ys jts)
    (ih : ∀ (j : Nat) (t t' : Tr) (x y : V) (u v : Value), l[j]? = some t → m[j]? = some t' → TrIs X.K H x t → RelV x u → TrIs X.K H y t' → RelV y v → SeqAt.EqAt A.in1 s u v (eqT t t')) :
    ∀ j (h1 : j < its.toArray.size) (h2 : j < jts.toArray.size), SeqAt.EqAt A.in1 s its.toArray[j] jts.toArray[j] (match l[j]?, m[j]? with | some t, some t' => eqT t t' | _, _ => true) := by
  intro j h1 h2
  have l1 := hr.length; have l2 := hr'.length; have l3 := rv.length; have l4 := rv'.length
  rw [List.size_toArray] at h1 h2
  obtain ⟨t, ht⟩ : ∃ t, l[j]? = some t := ⟨l[j]'(by omega), List.getElem?_eq_getElem (by omega)⟩
  obtain ⟨t', ht'⟩ : ∃ t', m[j]? = some t' := ⟨m[j]'(by omega), List.getElem?_eq_getElem (by omega)⟩
  obtain ⟨x, hx, hxt⟩ := hr.at ht
  obtain ⟨y, hy, hyt⟩ := hr'.at ht'
  obtain ⟨u, hu, ru⟩ := rv.get hx
  obtain ⟨v, hv, rw'⟩ := rv'.get hy
  rw [ht, ht']
  have e1 : its.toArray[j] = u := by
    have := List.getElem?_eq_getElem (l := its) (i := j) h1
    rw [hu] at this
    simpa using (Option.some.inj this).symm
  have e2 : jts.toArray[j] = v := by
    have := List.getElem?_eq_getElem (l := jts) (i := j) h2
    rw [hv] at this
    simpa using (Option.some.inj this).symm
  rw [e1, e2]
  exact ih j t t' x y u v ht ht' hxt ru hyt rw'
theorem all_items {l m : List Tr} (h : l.length = m.length) : (List.range l.length).all (fun j => match l[j]?, m[j]? with | some t, some t' => eqT t t' | _, _ => true) = eqTs l m := by
  rw [eqTs_zip h]
  have e : l.length = (l.zip m).length := by rw [List.length_zip]; omega
  rw [e]
  refine range_all_eq fun j p hp => ?_
  obtain ⟨h1, h2⟩ := List.getElem?_zip_eq_some.mp hp
  rw [h1, h2]
theorem RcAt_lists {A : Around} {p q : Addr} {xs ys : List V} {l m : List Tr} (I : Inv X pins σ H s) (hu : A.units < cLine) (hq : SqL X.K H p xs) (hr : TrsIs X.K H xs l) (hq' : SqL X.K H q ys) (hr' : TrsIs X.K H ys m)
    (ih : ∀ (j : Nat) (t t' : Tr) (x y : V) (u v : Value), l[j]? = some t → m[j]? = some t' → TrIs X.K H x t → RelV x u → TrIs X.K H y t' → RelV y v → SeqAt.EqAt A.in1 s u v (eqT t t')) :
    SeqAt.RcAt A s (.ref p) (.ref q) (eqTs l m) ∧ SeqAt.RcNeAt A s (.ref p) (.ref q) (!eqTs l m) := by
  obtain ⟨its, rv, pl, _⟩ := I.list hq
  obtain ⟨jts, rv', pl', _⟩ := I.list hq'
  have l1 := hr.length; have l2 := hr'.length; have l3 := rv.length; have l4 := rv'.length
  by_cases hl : l.length = m.length
  · have e : its.toArray.size = l.length := by rw [List.size_toArray]; omega
    have a := SeqAt.RcAt.lists (A := A) pl.isList pl'.isList (by rw [List.size_toArray, List.size_toArray]; omega) hu (items_eq hr hr' rv rv' ih)
    have b := SeqAt.RcNeAt.lists (A := A) pl.isList pl'.isList (by rw [List.size_toArray, List.size_toArray]; omega) hu (items_eq hr hr' rv rv' ih)
    rw [e, all_items hl] at a b
    exact ⟨a, b⟩
  · rw [eqTs_len hl]
    have hne : (its.toArray.size != jts.toArray.size) = true := by
      rw [List.size_toArray, List.size_toArray]
      simp only [bne_iff_ne, ne_eq]; omega
    exact ⟨SeqAt.RcAt.lists_lengths pl.isList pl'.isList hne hu, SeqAt.RcNeAt.lists_lengths pl.isList pl'.isList hne hu⟩
theorem RcAt_tuples {A : Around} {p q : Addr} {xs ys : List V} {l m : List Tr} (I : Inv X pins σ H s) (hu : A.units < cLine) (hq : SqT X.K H p xs) (hr : TrsIs X.K H xs l) (hq' : SqT X.K H q ys) (hr' : TrsIs X.K H ys m)
    (ih : ∀ (j : Nat) (t t' : Tr) (x y : V) (u v : Value), l[j]? = some t → m[j]? = some t' → TrIs X.K H x t → RelV x u → TrIs X.K H y t' → RelV y v → SeqAt.EqAt A.in1 s u v (eqT t t')) :
    SeqAt.RcAt A s (.ref p) (.ref q) (eqTs l m) ∧ SeqAt.RcNeAt A s (.ref p) (.ref q) (!eqTs l m) := by
  obtain ⟨its, rv, pl, _⟩ := I.tuple hq
  obtain ⟨jts, rv', pl', _⟩ := I.tuple hq'
  have l1 := hr.length; have l2 := hr'.length; have l3 := rv.length; have l4 := rv'.length
  have a := SeqAt.RcAt.tuples (A := A) (show s.heap.IsTuple p its.toArray from pl) (show s.heap.IsTuple q jts.toArray from pl') hu (items_eq hr hr' rv rv' ih)
  have b := SeqAt.RcNeAt.tuples (A := A) (show s.heap.IsTuple p its.toArray from pl) (show s.heap.IsTuple q jts.toArray from pl') hu (items_eq hr hr' rv rv' ih)
  have e : ((List.range (min its.toArray.size jts.toArray.size)).all (fun j => match l[j]?, m[j]? with | some t, some t' => eqT t t' | _, _ => true) && its.toArray.size == jts.toArray.size) = eqTs l m := by
    by_cases hl : l.length = m.length
    · have e1 : min its.toArray.size jts.toArray.size = l.length := by rw [List.size_toArray, List.size_toArray]; omega
      have e2 : (its.toArray.size == jts.toArray.size) = true := by rw [List.size_toArray, List.size_toArray]; simp; omega
      rw [e1, e2, all_items hl, Bool.and_true]
    · have e2 : (its.toArray.size == jts.toArray.size) = false := by rw [List.size_toArray, List.size_toArray]; simp; omega
      rw [e2, eqTs_len hl, Bool.and_false]
  rw [e] at a b
  exact ⟨a, b⟩
theorem eqAt_T (I : Inv X pins σ H s) (n : Nat) : ∀ (A : Around) (t t' : Tr) (x y : V) (u v : Value), depT t ≤ n → A.units + n < cLine → simT t t' = true → TrIs X.K H x t → RelV x u → TrIs X.K H y t' → RelV y v → SeqAt.EqAt A s u v (eqT t t') := by
  induction n with
  | zero =>
    intro A t t' x y u v hd hu hs hx rx hy ry
    cases hx with
    | flat fx =>
      cases hy with
      | flat fy => rw [eqT]; exact eqAt_V rx ry fx fy
      | lst _ _ => simp [simT] at hs
      | tup _ _ => simp [simT] at hs
    | lst _ _ => simp [depT] at hd
    | tup _ _ => simp [depT] at hd
  | succ n ih =>
    intro A t t' x y u v hd hu hs hx rx hy ry
    cases hx with
    | flat fx =>
      cases hy with
      | flat fy => rw [eqT]; exact eqAt_V rx ry fx fy
      | lst _ _ => simp [simT] at hs
      | tup _ _ => simp [simT] at hs
    | @lst p xs l hq hr =>
      cases hy with
      | flat fy => simp [simT] at hs
      | tup _ _ => simp [simT] at hs
      | @lst q ys m hq' hr' =>
        cases rx; cases ry
        rw [depT] at hd
        rw [simT] at hs
        by_cases e : p = q
        · subst e
          have e1 := TrIs.inj I (TrIs.lst hq hr) (TrIs.lst hq' hr')
          rw [← e1, eqT_refl _ (TrIs.lst hq hr).ok]
          exact SeqAt.EqAt.same _
        · rw [eqT]
          refine SeqAt.EqAt.of_refs e (RcAt_lists I (by omega) hq hr hq' hr' fun j t t' x y u v h1 h2 h3 h4 h5 h6 => ?_).1
          exact ih A.in1 t t' x y u v (by have := depTs_at h1; omega) (by show A.units + 1 + n < cLine; omega) (simTs_at hs h1 h2) h3 h4 h5 h6
    | @tup p xs l hq hr =>
      cases hy with
      | flat fy => simp [simT] at hs
      | lst _ _ => simp [simT] at hs
      | @tup q ys m hq' hr' =>
        cases rx; cases ry
        rw [depT] at hd
        rw [simT] at hs
        by_cases e : p = q
        · subst e
          have e1 := TrIs.inj I (TrIs.tup hq hr) (TrIs.tup hq' hr')
          rw [← e1, eqT_refl _ (TrIs.tup hq hr).ok]
          exact SeqAt.EqAt.same _
        · rw [eqT]
          refine SeqAt.EqAt.of_refs e (RcAt_tuples I (by omega) hq hr hq' hr' fun j t t' x y u v h1 h2 h3 h4 h5 h6 => ?_).1
          exact ih A.in1 t t' x y u v (by have := depTs_at h1; omega) (by show A.units + 1 + n < cLine; omega) (simTs_at hs h1 h2) h3 h4 h5 h6
end

section
variable {X : Cx}
noncomputable def rEqX (K : PySem.W.Frag) (neg : Bool) : R2 := fun x y H Q => ∃ t t', TrIs K H x t ∧ TrIs K H y t' ∧ (∃ p, x = .ref p) ∧ (∃ p, y = .ref p) ∧ simT t t' = true ∧ depT t ≤ 60 ∧ Q (.bl (if neg then !eqT t t' else eqT t t')) H
theorem eqX_aux {neg : Bool} (hu : X.A.units + 64 < cLine) : OpR X (compareOp (if neg then .NotEq else .Eq)) (rEqX X.K neg) := by
  intro pins s σ H x y v u Q I rx ry h
  obtain ⟨t, t', hx, hy, ⟨p, rfl⟩, ⟨q, rfl⟩, hs, hd, q'⟩ := h
  cases rx; cases ry
  have done : ∀ l m, SeqAt.RcAt X.A s (.ref p) (.ref q) (eqTs l m) ∧ SeqAt.RcNeAt X.A s (.ref p) (.ref q) (!eqTs l m) → Q (.bl (if neg then !eqTs l m else eqTs l m)) H →
      wpAny (model X.prog X.w) X.A (compareOp (if neg then .NotEq else .Eq) (.ref p) (.ref q)) (EP X pins σ Q) X.xe s := fun l m hb hq => by
    cases neg with
    | false => exact hb.1 X.prog X.w X.xe _ ⟨.bl _, H, I, rfl, hq⟩
    | true => exact hb.2 X.prog X.w X.xe _ ⟨.bl _, H, I, rfl, hq⟩
  cases hx with
  | flat fx => cases fx
  | @lst _ xs l hq hr =>
    cases hy with
    | flat fy => cases fy
    | tup _ _ => simp [simT] at hs
    | @lst _ ys m hq' hr' =>
      rw [depT] at hd
      rw [simT] at hs
      rw [eqT] at q'
      refine done l m (RcAt_lists I (by omega) hq hr hq' hr' fun j t t' x y u v h1 h2 h3 h4 h5 h6 => ?_) q'
      exact eqAt_T I 60 X.A.in1 t t' x y u v (by have := depTs_at h1; omega) (by show X.A.units + 1 + 60 < cLine; omega) (simTs_at hs h1 h2) h3 h4 h5 h6
  | @tup _ xs l hq hr =>
    cases hy with
    | flat fy => cases fy
    | lst _ _ => simp [simT] at hs
    | @tup _ ys m hq' hr' =>
      rw [depT] at hd
      rw [simT] at hs
      rw [eqT] at q'
      refine done l m (RcAt_tuples I (by omega) hq hr hq' hr' fun j t t' x y u v h1 h2 h3 h4 h5 h6 => ?_) q'
      exact eqAt_T I 60 X.A.in1 t t' x y u v (by have := depTs_at h1; omega) (by show X.A.units + 1 + 60 < cLine; omega) (simTs_at hs h1 h2) h3 h4 h5 h6
theorem op_eqS (hu : X.A.units + 64 < cLine) : OpR X (compareOp .Eq) (rEqX X.K false) := eqX_aux (neg := false) hu
theorem op_neS (hu : X.A.units + 64 < cLine) : OpR X (compareOp .NotEq) (rEqX X.K true) := eqX_aux (neg := true) hu
theorem hu64 {A : Around} {k : Nat} (hr : Room k A) : A.units + 64 < cLine := by have := hr.un; omega
end
end L2

set_option Elab.async false
set_option linter.all false
set_option maxRecDepth 100000
set_option maxHeartbeats 4000000
namespace L2
open PySem PySem.Spec PyProof.Rows

section
variable {X : Cx}
end

theorem len_put {k : Key} {v : V} {kvs : List (Key × V)} : (putK kvs k v).length ≤ kvs.length + 1 := by
  unfold putK
  split
  · rw [List.length_map]; omega
  · rw [List.length_append]; simp
end L2

set_option Elab.async false
set_option linter.all false
set_option maxRecDepth 100000
set_option maxHeartbeats 4000000
namespace L2
open PySem PySem.Spec PyProof.Rows

noncomputable abbrev abc : Str := "abcdefghijklmnopqrstuvwxyz"
theorem cds_abc : cds abc = (List.range 26).map (97 + ·) := by decide +kernel
noncomputable def letC (x : Int) : Nat := 97 + (x % 26).toNat
theorem abc_at (x : Int) : atI (cds abc) (x % 26) = some (letC x) := by
  have h0 := Int.emod_nonneg x (show (26 : Int) ≠ 0 by decide)
  have h1 := Int.emod_lt_of_pos x (show (0 : Int) < 26 by decide)
  have e : x % 26 = (((x % 26).toNat : Nat) : Int) := by omega
  rw [e]
  refine atI_nat ?_
  rw [cds_abc, List.getElem?_map, List.getElem?_range (by omega)]
  rfl
theorem abc_len : abc.length ≤ sizeLine := szl (by decide +kernel)
noncomputable def resv : List (List Nat) := [cds "for", cds "end", cds "size"]
theorem in_resv (z : List Nat) : inV (.str (sOf z)) [.str "for", .str "end", .str "size"] = decide (z ∈ resv) := by
  have key : ∀ y : Str, eqV (.str y) (.str (sOf z)) = decide (z = cds y) := fun y => by
    show (y == sOf z) = _
    rw [Bool.eq_iff_iff]
    simp only [beq_iff_eq, decide_eq_true_eq]
    exact ⟨fun e => by rw [e, cds_sOf], fun e => by rw [e, sOf_cds]⟩
  unfold inV resv
  simp only [List.any_cons, List.any_nil, key, Bool.or_false]
  rw [Bool.eq_iff_iff]
  simp
theorem cut_to {α : Type} (l : List α) {k : Int} (h : 0 ≤ k) : cutC l none (some k) = l.take k.toNat := by
  unfold cutC
  have e : k = ((k.toNat : Nat) : Int) := by omega
  rw [HT.sIx_none, e, HT.sIx_nat, List.drop_zero, Nat.sub_zero]
  rw [show (((k.toNat : Nat) : Int)).toNat = k.toNat by omega]
  by_cases h : k.toNat ≤ l.length
  · rw [Nat.min_eq_left h]
  · rw [Nat.min_eq_right (by omega), List.take_of_length_le (by omega), List.take_of_length_le (by omega)]
theorem cut_from {α : Type} (l : List α) {i : Int} (hi : 0 ≤ i) : cutC l (some i) none = l.drop i.toNat := by
  unfold cutC
  have e1 : i = ((i.toNat : Nat) : Int) := by omega
  rw [e1, HT.sIx_nat, HT.sIx_none, show (((i.toNat : Nat) : Int)).toNat = i.toNat by omega]
  by_cases h : i.toNat ≤ l.length
  · rw [Nat.min_eq_left h, List.take_of_length_le (by rw [List.length_drop]; omega)]
  · rw [Nat.min_eq_right (by omega), Nat.sub_self, List.take_zero, List.drop_eq_nil_of_le (by omega)]
end L2
namespace L2
open PySem
end L2
namespace L2
open PySem
end L2
namespace L2
open PySem
end L2

set_option Elab.async false
set_option linter.all false
set_option maxRecDepth 100000
set_option maxHeartbeats 4000000
namespace L2
open PySem PySem.Spec PyProof.Rows

end L2

set_option Elab.async false
set_option linter.all false
set_option maxRecDepth 100000
set_option maxHeartbeats 4000000
namespace L2
open PySem PySem.Spec PyProof.Rows
noncomputable def spDInit (C : Addr) : Sp := fun vs H Q _ => ∃ (x dx : Addr) (v1 v2 v3 v4 v5 v6 v7 : V), vs = [.ref x, v1, v2, v3, v4, v5, v6, v7] ∧ H x = some (.ins C dx []) ∧ ∀ H', (∀ b o, H b = some o → b ≠ x → H' b = some o) → (∃ dx, H' x = some (.ins C dx [("names", v1), ("lows", v2), ("highs", v3), ("table", v4), ("spots", v5), ("term", v6), ("path", v7)])) → Q .non H'
noncomputable def spAlikeN : Sp := fun vs H Q _ => ∃ (p1 p2 : Addr) (xs ys : List Int) (m k : Nat), vs = [.ref p1, .ref p2, .int (m : Int)] ∧ H p1 = some (.tup (xs.map V.int)) ∧ H p2 = some (.tup (ys.map V.int)) ∧ m ≤ xs.length ∧ m ≤ ys.length ∧ m ≤ 1000 ∧ k ≤ m ∧ (∀ e < k, xs.getD e 0 = ys.getD e 0) ∧ (k < m → xs.getD k 0 ≠ ys.getD k 0) ∧ Q (.int (k : Int)) H
theorem cutV_neg (l m : List V) (hm : 0 < m.length) {n : Int} (hn : n = -(m.length : Int)) : cutV (l ++ m) none (some n) = l := by
  unfold cutV
  have hl : (l ++ m).length = l.length + m.length := List.length_append
  have e1 : HT.sIx (l ++ m).length 0 none = 0 := rfl
  have e2 : HT.sIx (l ++ m).length (l ++ m).length (some n) = l.length := by
    show (if n < 0 then (n + ((l ++ m).length : Int)).toNat else min n.toNat (l ++ m).length) = l.length
    rw [hl, if_pos (by omega)]
    omega
  rw [e1, e2, List.drop_zero, Nat.sub_zero, List.take_left']
  rfl
theorem snoc_of {α : Type} {l : List α} {n : Nat} (h : l.length = n + 1) : ∃ p x, l = p ++ [x] ∧ p.length = n := by
  have hne : l ≠ [] := fun e => by rw [e] at h; cases h
  exact ⟨l.dropLast, l.getLast hne, (List.dropLast_concat_getLast hne).symm, by rw [List.length_dropLast]; omega⟩
theorem made_same {H H2 : Hp} {x dx C : Addr} (hx : H x = none) (hdx : H dx = none) (k : ∀ b o, (upd (upd H dx (.own x)) x (.ins C dx [])) b = some o → b ≠ x → H2 b = some o) : Same H H2 := fun b o e => by
  have n1 := ne_of_none e hx
  have n2 := ne_of_none e hdx
  exact k b o (by rw [upd_ne n1, upd_ne n2]; exact e) n1
end L2

set_option Elab.async false
set_option linter.all false
set_option maxRecDepth 100000
set_option maxHeartbeats 4000000
namespace L2
open PySem PySem.Spec PyProof.Rows
section
variable {X : Cx} {pins : List (Addr × Obj)} {σ : St} {H : Hp} {s : Shared} {h' : Heap}
theorem Inv.turnedL {t' : Nat} {ch : List Addr} (I : Inv X pins σ H s) (k : ∀ b o, b ∉ ch → s.heap.get? b = some o → h'.get? b = some o) (hf : ∀ b ∈ ch, FpOk X pins H b) : Inv X pins σ H { s with heap := h', toks := t' } := by
  have nit : ∀ b u, H b = some u → b ∉ ch := fun b u e z => by rw [(hf b z).1] at e; cases e
  have hL : X.env.locals ∉ ch := fun z => (hf _ z).2.1 rfl
  refine I.step (g' := s.gens) (d' := s.drawn) (ch := ch) (fun b hb => ?_) (fun b o _ _ hc e _ => k b o hc e) (fun b o _ _ hc e _ => ⟨o.slots, k b o hc e⟩) (fun _ _ _ _ n => n)
    (fun b o hc e => ⟨o, k b o hc e⟩) (fun _ _ e => e) (fun _ _ _ e => e) (fun b ps e => ⟨#[], by rw [e]; simp⟩) (fun m hm => ?_) (fun b u e => ?_) I.bare
  · obtain ⟨f0, f1, f2, f3, f4, f5⟩ := hf b hb
    exact ⟨f3, f1, f4, f5⟩
  · obtain ⟨o, es, ep, ho, r⟩ := hm
    exact ⟨o, es, ep, k _ o hL ho, r⟩
  · refine (I.hok b u e).stay (fun c v hc q => k c v ?_ q) (fun _ q => q) fun _ _ q => q
    rcases hc with z | z
    · rw [z]; exact nit b u e
    · exact nit c _ z
end
noncomputable def Ite (K : PySem.W.Frag) (a : Addr) : It :=
  ⟨fun i H => ∃ xs x, SqL K H a xs ∧ xs[i]? = some x, fun i H v H' => ∃ x T, (∀ xs, SqL K H a xs → xs[i]? = some x) ∧ H T = none ∧ v = .ref T ∧ H' = upd H T (.tup [.int i, x]), fun i H => ∃ xs, SqL K H a xs ∧ xs.length ≤ i⟩
theorem turn_enum {P : Program} {w : World} {K : PySem.W.Frag} {elts : List Expr} {x1 : Nat} {pos : Pos} (a e it : Addr) (hei : e ≠ it) : Turn P w K (.Tuple elts x1 pos) (Ite K a) [e, it] e (fun i h => (∃ old, IsEnum h e it i old) ∧ h.IsListIter it a i) where
  mem := by simp
  obj := fun i h st b hb => by
    obtain ⟨⟨old, he⟩, hit⟩ := st
    rcases List.mem_cons.mp hb with rfl | hb
    · exact ⟨_, he, fun v z => by cases z⟩
    · have e : b = it := by simpa using hb
      subst e
      obtain ⟨o, e, c, d⟩ := hit
      exact ⟨o, e, fun v z => by rw [d] at z; cases z⟩
  keep := fun i h h' st k => by
    obtain ⟨⟨old, he⟩, hit⟩ := st
    exact ⟨⟨old, k e (by simp) _ he⟩, hit.at fun o e => k it (by simp) o e⟩
  item := by
    intro X hP hw hK hc i pins s σ H E I hf st hg
    subst hP hw hK
    obtain ⟨xs, x, hq, hx⟩ := hg
    obtain ⟨its, rv, p, hz⟩ := I.list hq
    obtain ⟨u, hu, ru⟩ := rv.get hx
    obtain ⟨⟨old, he⟩, hit⟩ := st
    refine wpAny_pyNext_enum_item he hit p.isList (x := u) (by simpa using hu) hei fun h1 ho hit' hT hsz hk => ⟨_, rfl, ?_⟩
    refine wpAny_letOwnedTupleGo_enum ho fun h2 he2 hs2 => ?_
    have hTn : H s.heap.objs.size = none := I.hok.fresh (Nat.le_refl _)
    have helt : e < s.heap.objs.size := Heap.lt_size he
    have hilt : it < s.heap.objs.size := by obtain ⟨_, x, _⟩ := hit; exact Heap.lt_size x
    have I1 : Inv X pins σ (upd H s.heap.objs.size (.tup [.int i, x])) { s with heap := s.heap.push { cls := .type "tuple", data := .seq #[.int i s.toks, u] }, toks := s.toks + 1 } := I.laid (t' := s.toks + 1) (o := .tup [.int i, x]) (fun b o e => Heap.get?_push_of_some _ e) (Nat.le_refl _) ⟨szl (by show 2 ≤ 1000000; decide), [.int i s.toks, u], .cons ⟨_, rfl⟩ (.cons ru .nil), IsTupN.new _ _⟩
    have I2 : Inv X pins σ (upd H s.heap.objs.size (.tup [.int i, x])) { s with heap := h2, toks := s.toks + 1 } := by
      refine Inv.turnedL (s := { s with heap := s.heap.push { cls := .type "tuple", data := .seq #[.int i s.toks, u] }, toks := s.toks + 1 }) (h' := h2) (ch := [e, it]) (t' := s.toks + 1) I1 (fun b o hb q => ?_) (fun b hb => ?_)
      · have nbe : b ≠ e := fun z => hb (by simp [z])
        have nbi : b ≠ it := fun z => hb (by simp [z])
        show h2.get? b = some o
        rw [hs2.2 b nbe]
        rcases Heap.get?_push_cases q with ⟨rfl, rfl⟩ | q
        · exact hT
        · exact hk b o nbe nbi q
      · obtain ⟨f0, f1, f2, f3, f4, f5⟩ := hf b hb
        have nb : b ≠ s.heap.objs.size := by
          rcases List.mem_cons.mp hb with rfl | hb
          · exact Nat.ne_of_lt helt
          · have : b = it := by simpa using hb
            subst this
            exact Nat.ne_of_lt hilt
        exact ⟨by rw [upd_ne nb]; exact f0, f1, f2, f3, f4, f5⟩
    refine ⟨.ref s.heap.objs.size, _, I2, rfl, ⟨x, _, fun ys hy => by rw [I.list_inj hy hq]; exact hx, hTn, rfl, rfl⟩, ⟨⟨_, by simpa using he2⟩, hit'.at fun o y => (hs2.2 it hei.symm).trans y⟩, fun b hb => ?_⟩
    obtain ⟨f0, f1, f2, f3, f4, f5⟩ := hf b hb
    have nb : b ≠ s.heap.objs.size := by
      rcases List.mem_cons.mp hb with rfl | hb
      · exact Nat.ne_of_lt helt
      · have : b = it := by simpa using hb
        subst this
        exact Nat.ne_of_lt hilt
    rw [upd_ne nb]
    exact f0
  done := by
    intro X hP hw hK hc i pins s σ H E I hf st hg
    subst hP hw hK
    obtain ⟨xs, hq, hx⟩ := hg
    obtain ⟨its, rv, p, hz⟩ := I.list hq
    obtain ⟨⟨old, he⟩, hit⟩ := st
    have hl := rv.length
    refine wpAny_pyNext_enum_end (I.ok.hd hc) he hit p.isList (by simp; omega) fun h' eb => ⟨rfl, ?_⟩
    exact I.turnedL (ch := [e, it]) (t' := s.toks) (fun b o hb q => eb b o (fun z => hb (by simp [z])) q) hf
  self := fun _ _ _ _ _ st h => by
    obtain ⟨⟨old, he⟩, _⟩ := st
    exact wpAny_pyIter_enum he h
noncomputable def iEnum (K : PySem.W.Frag) (ta : TA) : TI := fun σ H R => ta σ H fun vs H1 => ∃ a : Addr, vs = [.ref a] ∧ (∃ xs, SqL K H1 a xs) ∧ R (Ite K a) H1
theorem pi_enum {X : Cx} {a : Expr} {ta : TA} {p pos : Pos} {elts : List Expr} {x1 : Nat} {pos2 : Pos} (hg : Gl X "enumerate") (hm : X.mg "enumerate" = none) (ha : PA X [a] ta) (hs : starEach [a] X.env = [(false, eval a X.env)] := by rfl) : PI X (.Tuple elts x1 pos2) (.Call (.Name "enumerate" p) [a] [] pos) (iEnum X.K ta) := by
  intro pins s σ H R I h
  refine Call_ (ld_blt I hg hm boot_enumerate (PyProof.Rows.callWith_type1 (thn (ha pos pins s σ H _ I h) fun us s1 ⟨vs, H1, I1, r1, q1⟩ => ?_) hs rfl))
  obtain ⟨l, rfl, ⟨xs, hq⟩, q⟩ := q1
  cases r1 with
  | cons r rr =>
    cases rr
    cases r
    obtain ⟨its, rv, pl, hz⟩ := I1.list hq
    refine call_enumerate_list pl.isList fun h' he hit hsz hk => ?_
    refine wpAny_pyIter_enum he ?_
    refine ⟨_, [s1.heap.objs.size + 1, s1.heap.objs.size], _, _, H1, rfl, I1.kept (t' := s1.toks) hk, turn_enum l _ _ (Nat.ne_of_gt (Nat.lt_succ_self _)), ⟨⟨_, he⟩, hit⟩, fun b hb => ?_, q⟩
    rcases List.mem_cons.mp hb with rfl | hb
    · exact I1.fpOk (Nat.le_succ _) (I1.hok.fresh (Nat.le_succ _))
    · have e : b = s1.heap.objs.size := by simpa using hb
      subst e
      exact I1.fpOk (Nat.le_refl _) (I1.hok.fresh (Nat.le_refl _))
theorem for_enum {K : PySem.W.Frag} {a : Addr} {xs : List V} {g : TG} {tb : TS} {D : Ends} {σ : St} {H : Hp} (Pv : Nat → St → Hp → Prop) (h0 : Pv 0 σ H) (hl : ∀ i σ H, i ≤ xs.length → Pv i σ H → SqL K H a xs)
    (hs : ∀ i x T σ H, xs[i]? = some x → Pv i σ H → H T = none → g (.ref T) σ (upd H T (.tup [.int i, x])) fun σ2 H2 => tb { D with nx := Pv (i + 1), ct := Pv (i + 1), bk := D.nx } σ2 H2) (hd : ∀ σ H, Pv xs.length σ H → D.nx σ H) :
    ∃ W : Nat → Nat → St → Hp → Prop, (∃ m, W 0 m σ H) ∧ ∀ i m σ H, W i m σ H →
      ((Ite K a).stop i H ∧ D.nx σ H) ∨ ((Ite K a).go i H ∧ ∃ N : St → Hp → Prop, (∀ σ' H', N σ' H' → ∃ m', m' < m ∧ W (i + 1) m' σ' H') ∧ ∀ x H', (Ite K a).yld i H x H' → g x σ H' fun σ2 H2 => tb { D with nx := N, ct := N, bk := D.nx } σ2 H2) := by
  refine ⟨fun i m σ H => m = xs.length - i ∧ i ≤ xs.length ∧ Pv i σ H, ⟨xs.length, by simp, Nat.zero_le _, h0⟩, ?_⟩
  rintro i m σ H ⟨rfl, hi, p⟩
  have q := hl i σ H hi p
  by_cases hlt : i < xs.length
  · refine .inr ⟨⟨xs, xs[i], q, List.getElem?_eq_getElem hlt⟩, Pv (i + 1), fun σ' H' p' => ⟨xs.length - (i + 1), by omega, rfl, hlt, p'⟩, fun v H' y => ?_⟩
    obtain ⟨x, T, hx, hT, rfl, rfl⟩ := y
    exact hs i x T σ H (hx xs q) p hT
  · have e : i = xs.length := by omega
    subst e
    exact .inl ⟨⟨xs, q, Nat.le_refl _⟩, hd σ H p⟩
theorem pe_alt {X : Cx} {e : Expr} {t u : TE} (h1 : PE X e t) (h2 : PE X e u) : PE X e (fun σ H Q => t σ H Q ∨ u σ H Q) := by
  intro pins s σ H Q I h
  exact h.elim (h1 pins s σ H Q I) (h2 pins s σ H Q I)
end L2

set_option Elab.async false
set_option linter.all false
set_option maxRecDepth 100000
set_option maxHeartbeats 4000000
namespace Bd
end Bd
namespace L2
open PySem PySem.Spec PyProof.Rows Bd
section
variable {es : List Expr} {env : Env} {p : Pos}
theorem star_C {c : Const} {n : Nat} : starEach (.Constant c n p :: es) env = (false, eval (.Constant c n p) env) :: starEach es env := rfl
theorem star_N {x : Str} : starEach (.Name x p :: es) env = (false, eval (.Name x p) env) :: starEach es env := rfl
theorem star_B {a b : Expr} {o : Operator} : starEach (.BinOp a o b p :: es) env = (false, eval (.BinOp a o b p) env) :: starEach es env := rfl
theorem star_K {f : Expr} {as : List Expr} {ks : List Keyword} : starEach (.Call f as ks p :: es) env = (false, eval (.Call f as ks p) env) :: starEach es env := rfl
theorem star_S {a b : Expr} : starEach (.Subscript a b p :: es) env = (false, eval (.Subscript a b p) env) :: starEach es env := rfl
theorem star_T {as : List Expr} {n : Nat} : starEach (.Tuple as n p :: es) env = (false, eval (.Tuple as n p) env) :: starEach es env := rfl
theorem star_U {o : UnaryOp} {a : Expr} : starEach (.UnaryOp o a p :: es) env = (false, eval (.UnaryOp o a p) env) :: starEach es env := rfl
theorem star_A {a : Expr} {x : Str} : starEach (.Attribute a x p :: es) env = (false, eval (.Attribute a x p) env) :: starEach es env := rfl
end
@[irreducible] def PAq (X : Cx) (es : List Expr) (t : TA) : Prop := PA X es t
section
variable {X : Cx} {e : Expr} {es : List Expr} {te : TE} {t : TA} {pos : Pos}
theorem paq_nil : PAq X [] tNil := by unfold PAq; exact pa_nil
theorem paq_cons (ha : PE X e te) (hr : PAq X es t) (hs : starEach (e :: es) X.env = (false, eval e X.env) :: starEach es X.env) : PAq X (e :: es) (tCons te t) := by unfold PAq at *; exact pa_cons ha hr hs
theorem pe_lstq (h : PAq X es t) : PE X (.List es pos) (tLst t) := by unfold PAq at h; exact pe_lst h
theorem pe_tupq {x1 : Nat} (h : PAq X es t) : PE X (.Tuple es x1 pos) (tTup t) := by unfold PAq at h; exact pe_tup h
end
noncomputable def optV : Option Nat → V
  | none => .non
  | some i => .int (i : Int)
theorem pickI {L : List Int} {i : Int} (h0 : 0 ≤ i) (h1 : i < (L.length : Int)) : ∃ z ∈ L, atI (L.map V.int) i = some (.int z) := by
  have e : L[i.toNat]? = some L[i.toNat] := List.getElem?_eq_getElem (by omega)
  refine ⟨L[i.toNat], List.getElem_mem _, ?_⟩
  have h : atI (L.map V.int) ((i.toNat : Nat) : Int) = some (.int L[i.toNat]) := atI_nat (by rw [List.getElem?_map, e]; rfl)
  rwa [Int.toNat_of_nonneg h0] at h
theorem pickN {L : List Int} {i : Int} (n : Nat) (hn : L.length = n) (h0 : 0 ≤ i) (h1 : i < (n : Int)) : ∃ z ∈ L, atI (L.map V.int) i = some (.int z) := pickI h0 (by rw [hn]; exact h1)
theorem while_ix {c : TT} {tb : TS} {D : Ends} {σ : St} {H : Hp} (k : Nat) (Pv : Nat → St → Hp → Prop) (h0 : Pv 0 σ H)
    (hs : ∀ i σ H, i ≤ k → Pv i σ H → c σ H fun b H1 => if b = true then i < k ∧ tb { D with nx := Pv (i + 1), ct := Pv (i + 1), bk := D.nx } σ H1 else D.nx σ H1)
    (mono : ∀ σ H Q Q', (∀ b H1, Q b H1 → Q' b H1) → c σ H Q → c σ H Q') : tWhile c tb D σ H := by
  refine ⟨fun m σ H => ∃ i, i ≤ k ∧ m = k - i ∧ Pv i σ H, ⟨_, 0, Nat.zero_le _, rfl, h0⟩, ?_⟩
  rintro m σ H ⟨i, hi, rfl, p⟩
  refine mono σ H _ _ (fun b H1 q => ?_) (hs i σ H hi p)
  cases b with
  | true => exact ⟨Pv (i + 1), fun σ' H' p' => ⟨k - (i + 1), by have := q.1; omega, i + 1, by have := q.1; omega, rfl, p'⟩, q.2⟩
  | false => exact q
noncomputable def spCellA (K : PySem.W.Frag) : Sp := fun vs H Q _ => ∃ (p : Addr) (ns : List Int) (k : Int), vs = [.ref p, .int k] ∧ SqL K H p (ns.map V.int) ∧ 0 ≤ k ∧ k ≤ 1000000 ∧ ∀ i : Int, Q (.int i) H
end L2

set_option Elab.async false
set_option linter.all false
set_option maxRecDepth 100000
set_option maxHeartbeats 4000000
namespace Bd
end Bd
namespace L2
open PySem PySem.Spec PyProof.Rows Bd
theorem if_thn {tt : TT} {ta tb : TS} {D : Ends} {σ : St} {H : Hp} (M : Hp → Prop) (ha : ∀ H', M H' → ta D σ H') (h : (∀ H', M H' → ta D σ H') → tIfS tt ta tb D σ H) : tIfS tt ta tb D σ H := h ha
end L2

set_option Elab.async false
set_option linter.all false
set_option maxRecDepth 100000
set_option maxHeartbeats 4000000
namespace L2
open PySem PySem.Spec PyProof.Rows
open Bd
noncomputable def mixF (c k : Int) : Int := ((c + 7919 * k + 1) * 48271 % 2147483647) * ((c + 7919 * k + 1) * 48271 % 2147483647) % 2147483629
theorem mix_b (c k : Int) : 0 ≤ mixF c k ∧ mixF c k < 2147483629 := ⟨Int.emod_nonneg _ (by decide), Int.emod_lt_of_pos _ (by decide)⟩
noncomputable def spMix2 : Sp := fun vs H Q _ => ∃ (c k : Int), vs = [.int c, .int k] ∧ Q (.int (mixF c k)) H
noncomputable def nmW (m : Int) (n : Nat) : List Nat := (List.range n).map fun k : Nat => letC (m / ((k : Int) + 9))
theorem nmW_len (m : Int) (n : Nat) : (nmW m n).length = n := by unfold nmW; rw [List.length_map, List.length_range]
noncomputable def nmL (m : Int) : Nat := (m % 8).toNat
theorem nmL_b (m : Int) : nmL m ≤ 7 := by
  have := Int.emod_nonneg m (show (8 : Int) ≠ 0 by decide)
  have := Int.emod_lt_of_pos m (show (0 : Int) < 8 by decide)
  unfold nmL; omega
noncomputable def nmAt (m : Int) : Nat := (m / 8 % ((nmL m : Int) + 1)).toNat
theorem nmAt_b (m : Int) : nmAt m ≤ nmL m ∧ ((nmAt m : Nat) : Int) = m / 8 % ((nmL m : Int) + 1) := by
  have := Int.emod_nonneg (m / 8) (show ((nmL m : Int) + 1) ≠ 0 by omega)
  have := Int.emod_lt_of_pos (m / 8) (show (0 : Int) < (nmL m : Int) + 1 by omega)
  unfold nmAt; omega
noncomputable def nmA (m e : Int) : List Nat := (nmW m (nmL m)).take (nmAt m) ++ [letC (m / 72 + 5 * e)] ++ (nmW m (nmL m)).drop (nmAt m)
noncomputable def nmB (m e : Int) : List Nat := (nmW m (nmL m) ++ cds "qrstuvwx").take (5 + e).toNat
noncomputable def nmR (m e : Int) : List Nat := if m / 5003 % 4 = 1 then nmB m e else nmA m e
noncomputable def nmC (m e : Int) : List Nat := if nmR m e ∈ resv then nmR m e ++ [115] else nmR m e
theorem nmA_len (m e : Int) : (nmA m e).length = nmL m + 1 := by
  unfold nmA
  have := (nmAt_b m).1
  rw [List.length_append, List.length_append, List.length_take, List.length_drop, nmW_len, List.length_singleton]
  omega
theorem q8 : (cds "qrstuvwx").length = 8 := by decide +kernel
theorem nmB_len {m e : Int} (h0 : 0 ≤ e) (h1 : e ≤ 2) : (nmB m e).length = (5 + e).toNat := by
  unfold nmB
  have := nmL_b m
  rw [List.length_take, List.length_append, nmW_len, q8]
  omega
theorem nmA_at (m e : Int) : (nmA m e)[nmAt m]? = some (letC (m / 72 + 5 * e)) := by
  unfold nmA
  have := (nmAt_b m).1
  rw [List.append_assoc, List.getElem?_append_right (by rw [List.length_take, nmW_len]; omega), List.length_take, nmW_len, show nmAt m - min (nmAt m) (nmL m) = 0 by omega]
  rfl
theorem nmR_ne {m i j : Int} (i0 : 0 ≤ i) (i1 : i ≤ 2) (j0 : 0 ≤ j) (j1 : j ≤ 2) (h : i ≠ j) : nmR m i ≠ nmR m j := fun e => by
  unfold nmR at e
  by_cases c : m / 5003 % 4 = 1
  · rw [if_pos c, if_pos c] at e
    have := congrArg List.length e
    rw [nmB_len i0 i1, nmB_len j0 j1] at this
    omega
  · rw [if_neg c, if_neg c] at e
    have := congrArg (fun l : List Nat => l[nmAt m]?) e
    simp only [nmA_at] at this
    have := Option.some.inj this
    unfold letC at this
    omega
theorem nmR_len {m i j : Int} (i0 : 0 ≤ i) (i1 : i ≤ 2) (hi : nmR m i ∈ resv) : (nmR m i).length = (nmR m j).length := by
  have h4 : ∀ l ∈ resv, l.length ≤ 4 := by decide +kernel
  unfold nmR at hi ⊢
  by_cases c : m / 5003 % 4 = 1
  · rw [if_pos c] at hi
    have := h4 _ hi
    rw [nmB_len i0 i1] at this
    omega
  · rw [if_neg c, if_neg c, nmA_len, nmA_len]
theorem nmC_ne {m i j : Int} (i0 : 0 ≤ i) (i1 : i ≤ 2) (j0 : 0 ≤ j) (j1 : j ≤ 2) (h : i ≠ j) : nmC m i ≠ nmC m j := fun e => by
  unfold nmC at e
  by_cases c1 : nmR m i ∈ resv <;> by_cases c2 : nmR m j ∈ resv
  · rw [if_pos c1, if_pos c2] at e
    exact nmR_ne i0 i1 j0 j1 h (List.append_cancel_right e)
  · rw [if_pos c1, if_neg c2] at e
    have := congrArg List.length e
    rw [List.length_append, nmR_len (j := j) i0 i1 c1] at this
    simp at this
  · rw [if_neg c1, if_pos c2] at e
    have := congrArg List.length e
    rw [List.length_append, nmR_len (j := i) j0 j1 c2] at this
    simp at this
  · rw [if_neg c1, if_neg c2] at e
    exact nmR_ne i0 i1 j0 j1 h e
theorem nmR_b {m e : Int} (h0 : 0 ≤ e) (h1 : e ≤ 2) : 1 ≤ (nmR m e).length ∧ (nmR m e).length ≤ 8 := by
  unfold nmR
  have := nmL_b m
  split
  · rw [nmB_len h0 h1]; omega
  · rw [nmA_len]; omega
theorem nmC_b {m e : Int} (h0 : 0 ≤ e) (h1 : e ≤ 2) : 1 ≤ (nmC m e).length ∧ (nmC m e).length ≤ 9 := by
  have := nmR_b (m := m) h0 h1
  unfold nmC
  split
  · rw [List.length_append]; simp; omega
  · omega
noncomputable def spName : Sp := fun vs H Q _ => ∃ (c e : Int), vs = [.int c, .int e] ∧ 0 ≤ e ∧ e ≤ 2 ∧ ∀ H', Same H H' → Q (.str (sOf (nmC (mixF c 11) e))) H'
end L2

set_option Elab.async false
set_option linter.all false
set_option maxRecDepth 100000
set_option maxHeartbeats 4000000
namespace L2
open PySem PySem.Spec PyProof.Rows
noncomputable def spIni (C : Addr) (fs : List Str) : Sp := fun as H Q _ => ∃ (x dx : Addr) (vs : List V), as = .ref x :: vs ∧ vs.length = fs.length ∧ H x = some (.ins C dx []) ∧ ∀ H', (∀ b o, H b = some o → b ≠ x → H' b = some o) → (∃ dx, H' x = some (.ins C dx (fs.zip vs))) → Q .non H'
mutual
theorem TrIs.over {K : PySem.W.Frag} {H H' : Hp} (e : Same H H') : ∀ {t : Tr} {x : V}, TrIs K H x t → TrIs K H' x t
  | .v _, _, .flat h => .flat h
  | .lst _, _, .lst h r => .lst (e.seq h) (TrsIs.over e r)
  | .tup _, _, .tup h r => .tup (e.seqT h) (TrsIs.over e r)
theorem TrsIs.over {K : PySem.W.Frag} {H H' : Hp} (e : Same H H') : ∀ {l : List Tr} {xs : List V}, TrsIs K H xs l → TrsIs K H' xs l
  | [], _, .nil => .nil
  | _ :: _, _, .cons h r => .cons (TrIs.over e h) (TrsIs.over e r)
end
structure Cs where
  n : Addr
  v : Addr
  c : Addr
  j : Addr
noncomputable def spNone : Sp := fun vs H Q _ => ∃ x : V, vs = [x] ∧ ∀ (r : Addr) (H' : Hp), Same H H' → H' r = some (.lst []) → Q (.ref r) H'
noncomputable def spReadC (C : Addr) : Sp := fun vs H Q _ => ∃ (x dx : Addr) (z : Str) (v : V), vs = [.ref x] ∧ H x = some (.ins C dx [("table", .str z), ("spots", v)]) ∧ ∀ (t r : Addr) (H' : Hp), Same H H' → H' t = some (.tup [.str z, v]) → H' r = some (.lst [.ref t]) → Q (.ref r) H'
theorem SqL.updI {K : PySem.W.Frag} {H : Hp} {p x C dx : Addr} {fs : List (Str × V)} {ys : List V} {o : HO} (h : SqL K H p ys) (hx : H x = some (.ins C dx fs)) : SqL K (upd H x o) p ys := by
  rcases h with (h | ⟨ob, h⟩) | h
  · refine .inl (.inl ?_)
    rw [upd_ne (fun e => by rw [e, hx] at h; cases h)]
    exact h
  · refine .inl (.inr ⟨ob, ?_⟩)
    rw [upd_ne (fun e => by rw [e, hx] at h; cases h)]
    exact h
  · exact .inr h
noncomputable def spPIni (K : PySem.W.Frag) (C : Addr) : Sp := fun vs H Q _ => ∃ (x dx : Addr) (sz : V) (p : Addr) (ys : List V), vs = [.ref x, sz, .ref p] ∧ H x = some (.ins C dx []) ∧ SqL K H p ys ∧ ∀ (l : Addr) (H' : Hp), H l = none → (∀ b o, H b = some o → b ≠ x → H' b = some o) → H' l = some (.lst ys) → (∃ dx, H' x = some (.ins C dx [("size", sz), ("deeds", .ref l)])) → Q .non H'
end L2

set_option Elab.async false
set_option linter.all false
set_option maxRecDepth 100000
set_option maxHeartbeats 4000000
namespace PySem
open Builtin
open AutoSeq1 (wpAny_loadPart')
end PySem
namespace L2
open PySem PySem.Spec PyProof.Rows
section
variable {X : Cx}
end
end L2

set_option Elab.async false
set_option linter.all false
set_option maxRecDepth 100000
set_option maxHeartbeats 4000000
namespace L2
open PySem PySem.Spec PyProof.Rows Bd
noncomputable def PairsAt (H : Hp) (vs : List V) : Prop := ∀ v ∈ vs, ∃ (t : Addr) (z : Str) (n : Int), v = .ref t ∧ H t = some (.tup [.str z, .int n])
theorem PairsAt.over {H H' : Hp} {vs : List V} (h : PairsAt H vs) (e : Same H H') : PairsAt H' vs := fun v hv => by
  obtain ⟨t, z, n, h1, h2⟩ := h v hv
  exact ⟨t, z, n, h1, e _ _ h2⟩
theorem at_mem {vs : List V} {i : Int} (h0 : 0 ≤ i) (h1 : i < (vs.length : Int)) : ∃ v ∈ vs, atI vs i = some v := by
  have e : vs[i.toNat]? = some vs[i.toNat] := List.getElem?_eq_getElem (by omega)
  refine ⟨vs[i.toNat], List.getElem_mem _, ?_⟩
  have h : atI vs ((i.toNat : Nat) : Int) = some vs[i.toNat] := atI_nat e
  rwa [Int.toNat_of_nonneg h0] at h
noncomputable def SpAt (H : Hp) (p : Addr) : Prop := ∃ xs, H p = some (.tup xs) ∧ xs.length ≤ 3 ∧ PairsAt H xs
theorem SpAt.over {H H' : Hp} {p : Addr} (h : SpAt H p) (e : Same H H') : SpAt H' p := by
  obtain ⟨xs, h1, h2, h3⟩ := h
  exact ⟨xs, e _ _ h1, h2, h3.over e⟩
noncomputable abbrev Reads := List (Str × Addr)
inductive TmT (H : Hp) : Nat → V → Reads → Prop
  | n {t : Addr} (i : Int) : H t = some (.tup [.str "n", .int i]) → TmT H 1 (.ref t) []
  | v {t : Addr} (z : Str) : H t = some (.tup [.str "v", .str z]) → TmT H 1 (.ref t) []
  | c {t p : Addr} (z : Str) : H t = some (.tup [.str "c", .str z, .ref p]) → SpAt H p → TmT H 1 (.ref t) [(z, p)]
  | j {t : Addr} {l r : V} {m n : Nat} {rs us : Reads} (z : Str) : z ∈ [Str.ofString "+", Str.ofString "-", Str.ofString "*"] → H t = some (.tup [.str z, l, r]) → TmT H m l rs → TmT H n r us → TmT H (m + n) (.ref t) (rs ++ us)
theorem TmT.over {H H' : Hp} (e : Same H H') {n : Nat} {x : V} {rs : Reads} (h : TmT H n x rs) : TmT H' n x rs := by
  induction h with
  | n i h => exact .n i (e _ _ h)
  | v z h => exact .v z (e _ _ h)
  | c z h hp => exact .c z (e _ _ h) (hp.over e)
  | j z hz h _ _ a b => exact .j z hz (e _ _ h) a b
theorem TmT.pos {H : Hp} {n : Nat} {x : V} {rs : Reads} (h : TmT H n x rs) : 1 ≤ n ∧ rs.length ≤ n ∧ ∀ r ∈ rs, SpAt H r.2 := by
  induction h with
  | n i h => exact ⟨Nat.le_refl _, Nat.zero_le _, fun r hr => by cases hr⟩
  | v z h => exact ⟨Nat.le_refl _, Nat.zero_le _, fun r hr => by cases hr⟩
  | c z h hp => exact ⟨Nat.le_refl _, Nat.le_refl _, fun r hr => by rw [List.mem_singleton] at hr; subst hr; exact hp⟩
  | j z hz h _ _ a b =>
    refine ⟨by omega, by rw [List.length_append]; omega, fun r hr => ?_⟩
    rcases List.mem_append.mp hr with hr | hr
    · exact a.2.2 r hr
    · exact b.2.2 r hr
inductive TmO (c : Cs) (H : Hp) : Nat → V → Reads → Prop
  | num {x dx : Addr} (i : Int) : H x = some (.ins c.n dx [("n", .int i)]) → TmO c H 1 (.ref x) []
  | val {x dx : Addr} (z : Str) : H x = some (.ins c.v dx [("name", .str z)]) → TmO c H 1 (.ref x) []
  | cel {x dx p : Addr} (z : Str) : H x = some (.ins c.c dx [("table", .str z), ("spots", .ref p)]) → TmO c H 1 (.ref x) [(z, p)]
  | joi {x dx : Addr} {l r : V} {m n : Nat} {rs us : Reads} (z : Str) : H x = some (.ins c.j dx [("sign", .str z), ("left", l), ("right", r)]) → TmO c H m l rs → TmO c H n r us → TmO c H (m + n) (.ref x) (rs ++ us)
theorem TmO.over {c : Cs} {H H' : Hp} (e : Same H H') {n : Nat} {x : V} {rs : Reads} (h : TmO c H n x rs) : TmO c H' n x rs := by
  induction h with
  | num i h => exact .num i (e _ _ h)
  | val z h => exact .val z (e _ _ h)
  | cel z h => exact .cel z (e _ _ h)
  | joi z h _ _ a b => exact .joi z (e _ _ h) a b
theorem TmO.pos {c : Cs} {H : Hp} {n : Nat} {x : V} {rs : Reads} (h : TmO c H n x rs) : 1 ≤ n ∧ rs.length ≤ n := by
  induction h with
  | num i h => exact ⟨Nat.le_refl _, Nat.zero_le _⟩
  | val z h => exact ⟨Nat.le_refl _, Nat.zero_le _⟩
  | cel z h => exact ⟨Nat.le_refl _, Nat.le_refl _⟩
  | joi z h _ _ a b => exact ⟨by omega, by rw [List.length_append]; omega⟩
noncomputable def RdsAt (H : Hp) (f : Str × Addr → List V) (ys : List V) (rs : Reads) : Prop := ys.length = rs.length ∧ ∀ (i : Nat) (y : V) (r : Str × Addr), ys[i]? = some y → rs[i]? = some r → ∃ t, y = .ref t ∧ H t = some (.tup (f r))
theorem RdsAt.over {H H' : Hp} {f : Str × Addr → List V} {ys : List V} {rs : Reads} (h : RdsAt H f ys rs) (e : Same H H') : RdsAt H' f ys rs := ⟨h.1, fun i y r a b => by obtain ⟨t, x, z⟩ := h.2 i y r a b; exact ⟨t, x, e _ _ z⟩⟩
theorem RdsAt.nil {H : Hp} {f : Str × Addr → List V} : RdsAt H f [] [] := ⟨rfl, fun i y r a => by simp at a⟩
theorem RdsAt.one {H : Hp} {f : Str × Addr → List V} {t : Addr} {r : Str × Addr} (h : H t = some (.tup (f r))) : RdsAt H f [.ref t] [r] := ⟨rfl, fun i y r' a b => by
  cases i with
  | zero => cases a; cases b; exact ⟨t, rfl, h⟩
  | succ i => simp at a⟩
theorem RdsAt.app {H : Hp} {f : Str × Addr → List V} {ys zs : List V} {rs us : Reads} (h : RdsAt H f ys rs) (g : RdsAt H f zs us) : RdsAt H f (ys ++ zs) (rs ++ us) := by
  refine ⟨by rw [List.length_append, List.length_append, h.1, g.1], fun i x c hx hc => ?_⟩
  by_cases hi : i < ys.length
  · rw [List.getElem?_append_left hi] at hx
    rw [List.getElem?_append_left (by rw [← h.1]; exact hi)] at hc
    exact h.2 i x c hx hc
  · rw [List.getElem?_append_right (by omega)] at hx
    rw [List.getElem?_append_right (by rw [← h.1]; omega), ← h.1] at hc
    exact g.2 _ x c hx hc
noncomputable def rdF (r : Str × Addr) : List V := [.str r.1, .ref r.2]
noncomputable def duF (r : Str × Addr) : List V := [.bl false, .str r.1, .ref r.2]
noncomputable def spObj (c : Cs) (n : Nat) : Sp := fun vs H Q _ => ∃ (x : V) (m : Nat) (rs : Reads), vs = [x] ∧ m ≤ n ∧ TmT H m x rs ∧ ∀ (y : V) (H' : Hp), Same H H' → TmO c H' m y rs → Q y H'
noncomputable def spRds (n : Nat) : Sp := fun vs H Q _ => ∃ (x : V) (m : Nat) (rs : Reads), vs = [x] ∧ m ≤ n ∧ m ≤ 1000 ∧ TmT H m x rs ∧ ∀ (l : Addr) (H' : Hp) (xs : List V), Same H H' → H' l = some (.lst xs) → RdsAt H' duF xs rs → Q (.ref l) H'
noncomputable def spReadJ2 (c : Cs) (n : Nat) : Sp := fun vs H Q _ => ∃ (x dx : Addr) (z : Str) (l r : V) (m k : Nat) (rs us : Reads), vs = [.ref x] ∧ H x = some (.ins c.j dx [("sign", .str z), ("left", l), ("right", r)]) ∧ TmO c H m l rs ∧ TmO c H k r us ∧ m + k ≤ n + 1 ∧ n ≤ 100 ∧ ∀ (p : Addr) (ys : List V) (H' : Hp), Same H H' → H' p = some (.lst ys) → RdsAt H' rdF ys (rs ++ us) → Q (.ref p) H'
noncomputable def tReads2 (c : Cs) (n : Nat) (ta : TE) : TE := fun σ H_1 Q => tMeth c.n (Str.ofString "reads") spNone [] E0 ta tNil σ H_1 Q ∨ tMeth c.v (Str.ofString "reads") spNone [] E0 ta tNil σ H_1 Q ∨ tMeth c.c (Str.ofString "reads") (spReadC c.c) [] E0 ta tNil σ H_1 Q ∨ tMeth c.j (Str.ofString "reads") (spReadJ2 c n) [] E0 ta tNil σ H_1 Q
theorem reads_any2 {c : Cs} {n : Nat} {ta : TE} {σ : St} {H H1 : Hp} {Q : VK} {v : V} {m : Nat} {rs : Reads} (ha : ∀ R : VK, R v H1 → ta σ H R) (h : TmO c H1 m v rs) (hm : m ≤ n + 1) (hn : n ≤ 100)
    (q : ∀ (p : Addr) (ys : List V) (H' : Hp), Same H1 H' → H' p = some (.lst ys) → RdsAt H' rdF ys rs → Q (.ref p) H') : tReads2 c n ta σ H Q := by
  cases h with
  | @num x dx i h => exact .inl (ha _ ⟨x, dx, _, rfl, h, rfl, _, rfl, fun r H' e hr => q r _ H' e hr .nil⟩)
  | @val x dx z h => exact .inr (.inl (ha _ ⟨x, dx, _, rfl, h, rfl, _, rfl, fun r H' e hr => q r _ H' e hr .nil⟩))
  | @cel x dx p z h => exact .inr (.inr (.inl (ha _ ⟨x, dx, _, rfl, h, rfl, x, dx, z, _, rfl, h, fun t' r H' e ht' hr => q r _ H' e hr (.one (r := (z, p)) ht')⟩)))
  | @joi x dx l r m' k ts us z h a b => exact .inr (.inr (.inr (ha _ ⟨x, dx, _, rfl, h, rfl, x, dx, z, l, r, m', k, ts, us, rfl, h, a, b, hm, hn, q⟩)))
noncomputable def LpAt (H : Hp) (v : V) : Prop := ∃ (p p1 p2 : Addr) (nm b1 b2 : Str) (n1 n2 ab tn : Int), v = .ref p ∧ H p = some (.tup [.str nm, .ref p1, .ref p2, .int ab, .int tn]) ∧ H p1 = some (.tup [.str b1, .int n1]) ∧ H p2 = some (.tup [.str b2, .int n2]) ∧ 0 ≤ tn ∧ tn ≤ 2
theorem lp_tr {K : PySem.W.Frag} {H : Hp} : ∀ {vs : List V}, (∀ v ∈ vs, LpAt H v) → ∃ ts, TrsIs K H vs ts ∧ depTs ts ≤ 2 ∧ ts.length = vs.length
  | [], _ => ⟨[], .nil, Nat.zero_le _, rfl⟩
  | v :: vs, h => by
    obtain ⟨ts, h1, h2, h3⟩ := lp_tr (K := K) (vs := vs) fun x hx => h x (List.mem_cons_of_mem _ hx)
    obtain ⟨p, p1, p2, nm, b1, b2, n1, n2, ab, tn, rfl, g0, g1, g2, _⟩ := h v List.mem_cons_self
    refine ⟨.tup [.v (.str nm), .tup [.v (.str b1), .v (.int n1)], .tup [.v (.str b2), .v (.int n2)], .v (.int ab), .v (.int tn)] :: ts, .cons (.tup (SqT.of g0) (.cons (.flat rfl) (.cons (.tup (SqT.of g1) (.cons (.flat rfl) (.cons (.flat rfl) .nil))) (.cons (.tup (SqT.of g2) (.cons (.flat rfl) (.cons (.flat rfl) .nil))) (.cons (.flat rfl) (.cons (.flat rfl) .nil)))))) h1, ?_, by rw [List.length_cons, List.length_cons, h3]⟩
    simp only [depT, depTs]
    omega
theorem sign_ne {z : Str} (h : z ∈ [Str.ofString "+", Str.ofString "-", Str.ofString "*"]) : z ≠ "n" ∧ z ≠ "v" ∧ z ≠ "c" := by
  have : ∀ z ∈ [Str.ofString "+", Str.ofString "-", Str.ofString "*"], z ≠ "n" ∧ z ≠ "v" ∧ z ≠ "c" := by decide +kernel
  exact this z h
theorem dS {x y : Str} (h : x ≠ y) : decide (V.str x = V.str y) = false := decide_eq_false fun e => h (V.str.inj e)
theorem comp_listG {K : PySem.W.Frag} {a : Addr} {xs : List V} {ρ : List (Option Nat)} {g : TG} {tt : TT} {te : TE} {σ : St} {H : Hp} {Q : VK} (Pv : Nat → List V → Hp → Prop) (h0 : Pv 0 [] H) (hlen : xs.length ≤ sizeLine) (hl : ∀ i ys H, i ≤ xs.length → Pv i ys H → SqL K H a xs ∧ ys.length ≤ i)
    (hs : ∀ i x ys H, xs[i]? = some x → Pv i ys H → g x (inSt ρ σ) H fun σ2 H3 => Outs ρ σ σ2 ∧ tt σ2 H3 fun ok H4 => if ok = true then te σ2 H4 fun v H5 => Pv (i + 1) (ys ++ [v]) H5 else Pv (i + 1) ys H4)
    (hd : ∀ ys H, Pv xs.length ys H → ∀ p, H p = none → Q (.ref p) (upd H p (.lst ys))) : CompW ρ g tt te σ Q (Itl K a) H := by
  refine ⟨fun i m ys H => m = xs.length - i ∧ i ≤ xs.length ∧ Pv i ys H, ⟨_, rfl, Nat.zero_le _, h0⟩, ?_⟩
  rintro i m ys H ⟨rfl, hi, p⟩
  obtain ⟨hq, hy⟩ := hl i ys H hi p
  by_cases hlt : i < xs.length
  · refine .inr ⟨⟨xs, xs[i], hq, by simp [hlt]⟩, by omega, Pv (i + 1), fun ys' H'' p' => ⟨xs.length - (i + 1), by omega, rfl, hlt, p'⟩, fun x H' y => ?_⟩
    obtain ⟨e, y2⟩ := y
    subst e
    exact hs i x ys _ (y2 xs hq) p
  · have e : i = xs.length := by omega
    subst e
    exact .inl ⟨⟨xs, hq, Nat.le_refl _⟩, by omega, hd ys H p⟩
noncomputable def tchF (fl : Bool) (r : Str × Addr) : List V := [.bl fl, .str r.1, .ref r.2]
noncomputable def DeedTm (c : Cs) (C : Addr) (H : Hp) (v : V) (z : Str) (p : Addr) (m : Nat) (rs : Reads) : Prop := ∃ (d dx : Addr) (v1 v2 v3 x v7 : V), v = .ref d ∧ H d = some (.ins C dx [("names", v1), ("lows", v2), ("highs", v3), ("table", .str z), ("spots", .ref p), ("term", x), ("path", v7)]) ∧ TmO c H m x rs
theorem DeedTm.over {c : Cs} {C : Addr} {H H' : Hp} {v : V} {z : Str} {p : Addr} {m : Nat} {rs : Reads} (h : DeedTm c C H v z p m rs) (e : Same H H') : DeedTm c C H' v z p m rs := by
  obtain ⟨d, dx, v1, v2, v3, x, v7, rfl, h1, h2⟩ := h
  exact ⟨d, dx, v1, v2, v3, x, v7, rfl, e _ _ h1, h2.over e⟩
noncomputable def TchAt (H : Hp) (l : Addr) (z : Str) (p : Addr) (rs : Reads) : Prop := ∃ (t : Addr) (ys : List V), H l = some (.lst (.ref t :: ys)) ∧ H t = some (.tup (tchF true (z, p))) ∧ RdsAt H (tchF false) ys rs
noncomputable def spTouches (c : Cs) (C : Addr) : Sp := fun vs H Q _ => ∃ (v : V) (z : Str) (p : Addr) (m : Nat) (rs : Reads), vs = [v] ∧ DeedTm c C H v z p m rs ∧ m ≤ 100 ∧ ∀ (l : Addr) (H' : Hp), Same H H' → H l = none → TchAt H' l z p rs → Q (.ref l) H'
end L2

set_option Elab.async false
set_option linter.all false
set_option maxRecDepth 100000
set_option maxHeartbeats 4000000
namespace L2
open PySem PySem.Spec PyProof.Rows
theorem wp_below {M : Model} {A : Around} {E : Value → Shared → Prop} {s : Shared} {β : Type} {f : Nat → β → Sem (ForInStep β)} {n : Nat} {b : β} {Q : β → Shared → Prop} (I : Nat → β → Shared → Prop) (h : I 0 b s)
    (turn : ∀ i b s, i < n → I i b s → wpAny M A (f i b) (fun r s' => match r with | .yield b' => I (i + 1) b' s' | .done b' => Q b' s') E s) (fin : ∀ b s, I n b s → Q b s) : wpAny M A (forIn [:n] b f) Q E s := by
  rw [Std.Legacy.Range.forIn_eq_forIn_range']
  have key : ∀ (k i : Nat) (b : β) (s : Shared), i + k = n → I i b s → wpAny M A (forIn (List.range' i k) b f) Q E s := by
    intro k
    induction k with
    | zero => intro i b s e hi; rw [List.range'_zero, List.forIn_nil]; exact wpAny_pure (fin _ _ (by rw [← e]; exact hi))
    | succ k ih =>
      intro i b s e hi
      rw [List.range'_succ, List.forIn_cons]
      refine wpAny_bind (wpAny_mono (turn i b s (by omega) hi) (fun r s' hr => ?_) fun _ _ x => x)
      cases r with
      | done b' => exact wpAny_pure hr
      | yield b' => exact ih (i + 1) b' s' (by omega) hr
  have e : (Std.Legacy.Range.size [:n]) = n := by simp [Std.Legacy.Range.size]
  rw [e]
  exact key n 0 b s (by omega) h
section
open PySem.SeqAt
open PySem.AutoSeq1 (wpAny_loadPart')
open PySem.MeetsSeq PySem.MeetsSeq2 PySem.MeetsSeq3
theorem tuple_indexAt (l : Addr) (items : Array Value) (n : Nat) (dd : Option Addr) (sl : Array (Option Value)) (x : Value) (e : Value → Bool) (j : Nat) (hj : j < items.size) (hit : e items[j] = true) (hno : ∀ m (hm : m < items.size), m < j → e items[m] = false) :
    Meets (Builtin.«tuple.index» ⟨[.ref l, x], []⟩)
      (fun A R s => s.heap.get? l = some { cls := .type "tuple", dict := dd, data := .seq items n, slots := sl } ∧ (∀ y, y ∈ items → EqAt A.in1 s y x (e y)) ∧ R (.ok (.ret (.int j s.toks))) { s with toks := s.toks + 1 }) :=
  .of_wp fun prog w A R s h => by
    obtain ⟨hp, g, d, tk, os⟩ := s; obtain ⟨hl, he, h⟩ := h
    wp_walk using wpAny_loadPart' hl
    refine wp_below (n := min items.size items.size) (b := (none, ())) (f := fun i _ => match items[i]? with
      | some y => do
        let q ← eqBool y x
        if q = true then do
          let r ← retInt i
          pure (ForInStep.done (some r, ()))
        else pure (ForInStep.yield (none, ()))
      | _ => pure (ForInStep.yield (none, ()))) (fun i b s' => i ≤ j ∧ b.1 = none ∧ s' = ⟨hp, g, d, tk, os⟩) ⟨Nat.zero_le _, rfl, rfl⟩ (fun i b s' hi hI => ?_) (fun b s' hI => ?_)
    · obtain ⟨hij, hb, rfl⟩ := hI
      have hlt : i < items.size := by omega
      have ei : items[i]? = some items[i] := Array.getElem?_eq_getElem hlt
      simp only [ei]
      refine wpAny_bind (he _ (Array.getElem_mem hlt) prog w _ _ ?_)
      by_cases c : i = j
      · subst c
        rw [hit]
        wp_walk
        exact ⟨_, rfl, h⟩
      · rw [hno i hlt (by omega)]
        wp_walk
        exact ⟨by omega, rfl, rfl⟩
    · obtain ⟨hij, _, _⟩ := hI
      omega
end
noncomputable def strE (z : Str) : Value → Bool
  | .str y _ => y == z
  | _ => false
theorem strs_get {zs : List Str} {its : List Value} (r : Vals (zs.map V.str) its) {i : Nat} {u : Value} (h : its[i]? = some u) : ∃ z t, zs[i]? = some z ∧ u = .str z t := by
  cases e : (zs.map V.str)[i]? with
  | none => rw [r.none_of e] at h; cases h
  | some v =>
    obtain ⟨u', h', ru⟩ := r.get e
    rw [h] at h'
    cases h'
    rw [List.getElem?_map] at e
    cases ez : zs[i]? with
    | none => rw [ez] at e; cases e
    | some z =>
      rw [ez] at e
      cases e
      obtain ⟨t, ht⟩ := (show ∃ t, u = Value.str z t from ru)
      exact ⟨z, t, rfl, ht⟩
noncomputable def rTIndex (K : PySem.W.Frag) : V → List V → Hp → VK → Prop := fun x vs H Q => ∃ (p : Addr) (zs : List Str) (z : Str) (j : Nat), x = .ref p ∧ vs = [.str z] ∧ SqT K H p (zs.map V.str) ∧ zs[j]? = some z ∧ (∀ m < j, zs[m]? ≠ some z) ∧ Q (.int (j : Int)) H
theorem mt_tindex {X : Cx} : MtM X "tuple.index" (rTIndex X.K) := by
  intro pins s σ H x vs v us Q I rx rv h
  obtain ⟨p, zs, z, j, rfl, rfl, hq, hj, hno, q⟩ := h
  cases rx
  obtain ⟨u, rfl, ru⟩ := vals1 rv
  obtain ⟨tk, rfl⟩ := (show ∃ t, u = Value.str z t from ru)
  obtain ⟨its, r, ⟨o, e, hc, n, hd⟩, hz⟩ := I.tuple hq
  have hl := r.length
  rw [List.length_map] at hl
  have hjl : j < its.length := by have := (List.getElem?_eq_some_iff.mp hj).1; omega
  obtain ⟨cls, dd, data, sl⟩ := o
  simp only at hc hd
  subst hc hd
  have at' : ∀ m (hm : m < its.toArray.size), ∃ y t, zs[m]? = some y ∧ its.toArray[m] = .str y t := fun m hm => by
    have hm' : m < its.length := by simpa using hm
    obtain ⟨y, t, h1, h2⟩ := strs_get r (i := m) (u := its[m]) (List.getElem?_eq_getElem hm')
    exact ⟨y, t, h1, by simpa using h2⟩
  refine call_meets PySem.F.slot_tuple_index ⟨_, e, rfl⟩ PySem.F.entry_tuple_index (PySem.F.args_tuple_index_2 _ _) (tuple_indexAt p its.toArray n dd sl (.str z tk) (strE z) j (by simpa using hjl) ?_ ?_) ⟨e, fun y hy => ?_, ?_⟩
  · obtain ⟨y, t, h1, h2⟩ := at' j (by simpa using hjl)
    rw [hj] at h1
    cases h1
    rw [h2]
    exact beq_self_eq_true z
  · intro m hm hmj
    obtain ⟨y, t, h1, h2⟩ := at' m hm
    rw [h2]
    have : y ≠ z := fun e => hno m hmj (by rw [h1, e])
    exact beq_eq_false_iff_ne.mpr this
  · obtain ⟨m, hm, rfl⟩ := Array.mem_iff_getElem.mp hy
    obtain ⟨y, t, h1, h2⟩ := at' m hm
    rw [h2]
    exact PySem.SeqAt.EqAt.str_str y t z tk
  · exact ⟨.int (j : Int), H, I.tok _, ⟨_, rfl⟩, q⟩
noncomputable def tBMT (r : V → List V → Hp → VK → Prop) (to : TE) (t : TA) : TE := fun σ H Q => to σ H fun x H1 => (∃ p xs, x = .ref p ∧ H1 p = some (.tup xs)) ∧ t σ H1 fun xs H2 => r x xs H2 Q
theorem tup_is {X : Cx} {pins : List (Addr × Obj)} {σ : St} {H : Hp} {s : Shared} {p : Addr} {xs : List V} (I : Inv X pins σ H s) (h : H p = some (.tup xs)) : s.TypeIs (.ref p) "tuple" ∧ ∀ a, Value.ref p = .ref a → ∃ ob, s.heap.get? a = some ob ∧ ob.dict = none := by
  obtain ⟨_, its, _, o, e, c, _, d⟩ := (show ObjOk X.prog X.w H s.heap p (.tup xs) from I.hok p _ h)
  exact ⟨⟨o, e, c⟩, fun a z => by cases z; exact ⟨o, e, d⟩⟩
theorem pe_bmT {X : Cx} {o e : Expr} {es : List Expr} {to : TE} {t : TA} {name : Str} {apos cpos : Pos} {id : String} {r : V → List V → Hp → VK → Prop} (slot : Slot "tuple" name id) (hty : typeOf (.builtin id) = pure (.type "method_descriptor")) (hm : MtM X id r) (ho : PE X o to) (ha : PA X (e :: es) t)
    (hbase : attributeBase o name X.env (eval o X.env) = eval o X.env := by rfl)
    (hfew : ((backTo cpos (starEach (e :: es) X.env)).all (fun x => !x.1) && (backToKw cpos (keywordEach [] X.env)).all (fun x => x.1.isSome) && decide ((e :: es).length + ([] : List Keyword).length + (if ([] : List Keyword).isEmpty then 0 else 1) < 30)) = true := by rfl)
    (hline : (apos.endLine == cpos.line) = true := by rfl) (hs : starEach (e :: es) X.env = (false, eval e X.env) :: starEach es X.env := by rfl) (hplain : (backTo cpos (starEach es X.env)).any (·.1) = false := by rfl) :
    PE X (.Call (.Attribute o name apos) (e :: es) [] cpos) (tBMT r to t) := by
  intro pins s σ H Q I h
  refine wpAny_Call_method_late hbase hfew hline rfl (thn (ho pins s σ H _ I h) fun v s1 hx => ?_)
  obtain ⟨x, H1, I1, r1, ⟨p, xs, rfl, hp⟩, q1⟩ := hx
  cases r1
  obtain ⟨h1, h2⟩ := tup_is I1 hp
  refine ⟨"tuple", id, PySem.F.plainAttrs_tuple, slot, hty, h1, h2, ?_⟩
  have hA := ha cpos pins s1 σ H1 _ I1 q1
  rw [hs] at hA ⊢
  refine Calls.callWith_builtin (by show (false || (backTo cpos (starEach es X.env)).any (·.1)) = false; rw [hplain] <;> rfl) (Calls.evalArgs_plain ?_)
  exact thn hA fun us s2 hy => by
    obtain ⟨vs, H2, I2, r2, q2⟩ := hy
    exact hm pins s2 σ H2 (.ref p) vs (.ref p) us Q I2 rfl r2 q2
noncomputable def upto (n : Nat) : List V := (List.range n).map fun i : Nat => V.int (i : Int)
noncomputable def tLRange (ta : TA) : TE := fun σ H Q => ta σ H fun vs H1 => ∃ n : Nat, vs = [.int (n : Int)] ∧ n ≤ 1000000 ∧ ∀ l, H1 l = none → Q (.ref l) (upd H1 l (.lst (upto n)))
theorem vals_upto {n : Nat} {acc : Array Value} (h : ItemsOf (fun i v => ∃ t, v = .int (0 + (i : Int) * 1) t) acc n) : Vals (upto n) acc.toList := by
  have key : ∀ (k : Nat) (l : List Value), (∀ (j : Nat) (v : Value), l[j]? = some v → ∃ t, v = Value.int ((k + j : Nat) : Int) t) → Vals ((List.range' k l.length).map fun i : Nat => V.int (i : Int)) l := by
    intro k l
    induction l generalizing k with
    | nil => intro _; exact .nil
    | cons x l ih =>
      intro hl
      rw [List.length_cons, List.range'_succ, List.map_cons]
      obtain ⟨t, ht⟩ := hl 0 x rfl
      refine .cons ⟨t, by rw [ht]; rfl⟩ (ih (k + 1) fun j v hj => ?_)
      obtain ⟨t', ht'⟩ := hl (j + 1) v (by simpa using hj)
      exact ⟨t', by rw [ht']; congr 1; omega⟩
  have hl : acc.toList.length = n := by simpa using h.1
  have := key 0 acc.toList fun j v hj => by
    obtain ⟨t, ht⟩ := h.2 j v (by simpa using hj)
    exact ⟨t, by rw [ht]; congr 1; omega⟩
  rw [hl] at this
  unfold upto
  rw [List.range_eq_range']
  exact this
theorem pe_lrange {X : Cx} {a : Expr} {ta : TA} {p p2 pos pos2 : Pos} (hc : X.calm = true) (hgl : Gl X "list") (hml : X.mg "list" = none) (hg : Gl X "range") (hm : X.mg "range" = none) (ha : PA X [a] ta)
    (hs : starEach [a] X.env = [(false, eval a X.env)] := by rfl) : PE X (.Call (.Name "list" p) [.Call (.Name "range" p2) [a] [] pos2] [] pos) (tLRange ta) := by
  intro pins s σ H Q I h
  refine wpAny_Call_Name_kw (ld_blt I hgl hml bt_list ?_ (by decide) (by decide))
  refine PyProof.Rows.callWith_type1 ?_ rfl rfl
  show wpAny _ _ (spliced ((false, eval (.Call (.Name "range" p2) [a] [] pos2) X.env) :: backTo pos (starEach [] X.env))) _ _ s
  refine Calls.spliced_cons ?_
  refine Call_ (ld_blt I hg hm boot_range (PyProof.Rows.callWith_type1 (thn (ha pos2 pins s σ H _ I h) fun us s1 hx => ?_) hs rfl))
  obtain ⟨vs, H1, I1, r1, n, e, hn, q⟩ := hx
  subst e
  obtain ⟨u, rfl, ru⟩ := vals1 r1
  obtain ⟨t, rfl⟩ := (show ∃ t, u = Value.int (n : Int) t from ru)
  refine call_range_1 ?_
  refine Calls.spliced_nil ?_
  have p62 : (2 : Int) ^ 62 = 4611686018427387904 := by decide
  refine call_list_range (n := n) (I1.ok.hd hc) (IsRange.new ..) (small_one (by decide) (by decide) (by omega) (by omega)) (by rw [rangeSize_one]; split <;> omega) (by omega) fun h' tk acc c' hk hl hi => ?_
  have hsz : (s1.heap.push { cls := .type "range", data := .fields #[.int 0 s1.toks, .int (n : Int) t, .int 1 (s1.toks + 1)] }).objs.size = s1.heap.objs.size + 1 := Heap.size_push ..
  have hf : H1 (s1.heap.objs.size + 1) = none := I1.hok.fresh (Nat.le_succ _)
  have hul : (upto n).length ≤ sizeLine := by unfold upto; rw [List.length_map, List.length_range]; exact szl hn
  change h'.get? (s1.heap.push { cls := .type "range", data := .fields #[.int 0 s1.toks, .int (n : Int) t, .int 1 (s1.toks + 1)] }).objs.size = _ at hl
  rw [hsz] at hl
  refine ⟨.ref (s1.heap.objs.size + 1), upd H1 (s1.heap.objs.size + 1) (.lst (upto n)), I1.laid (t' := tk) (o := .lst (upto n)) (fun b o e => hk b o (Heap.get?_push_of_some _ e)) (Nat.le_succ _) ⟨hul, acc.toList, c', vals_upto hi, by simpa using hl⟩, ?_, q _ hf⟩
  show Value.ref _ = Value.ref _
  rw [← hsz]
noncomputable def Whose (zs : List Str) (z : Str) (first u : Int) : Prop := (z = "" ∧ u = 0) ∨ (z ≠ "" ∧ ∃ j : Nat, zs[j]? = some z ∧ (∀ m < j, zs[m]? ≠ some z) ∧ u = first + (j : Int))
noncomputable def spUnknown : Sp := fun vs H Q _ => ∃ (t nm : Addr) (z : Str) (n first : Int) (zs : List Str) (u : Int), vs = [.ref t, .ref nm, .int first] ∧ H t = some (.tup [.str z, .int n]) ∧ H nm = some (.tup (zs.map V.str)) ∧ Whose zs z first u ∧ Q (.int u) H
noncomputable def spWhose : Sp := fun vs H Q _ => ∃ (nm : Addr) (z : Str) (first : Int) (zs : List Str) (u : Int), vs = [.str z, .ref nm, .int first] ∧ H nm = some (.tup (zs.map V.str)) ∧ Whose zs z first u ∧ Q (.int u) H
end L2

set_option Elab.async false
set_option linter.all false
set_option maxRecDepth 100000
set_option maxHeartbeats 4000000
namespace L2
open PySem PySem.Spec PyProof.Rows
section
variable {prog : Program} {w : World} {A : Around} {E : Value → Shared → Prop} {s : Shared}
theorem tu_ask {it t : Addr} {k : Nat} {its : Array Value} {Q : Value → Shared → Prop} (a : s.heap.IsTupleIter it t k) (b : s.heap.IsTuple t its)
    (q : wpAny (model prog w) A.in1 (match its[k]? with
        | some x => do setField (.ref it) 1 (rawInt (k + 1)); ret x
        | none => do rule (toString "tuple_iterator.__next__" ++ toString ".end"); setField (.ref it) 0 .none; Builtin.SmallTypes.stopIteration) (fun fin s' => ∃ v, fin = .done (.ret v) ∧ Q v s') E s) :
    wpAny (model prog w) A (Builtin.SmallTypes.nextOf (.ref it)) Q E s := by
  have ty := a.typeIs
  obtain ⟨o, g, c, d⟩ := a
  obtain ⟨o2, g2, -, n2, d2⟩ := b
  unfold Builtin.SmallTypes.nextOf
  apply wpAny_bind
  apply wpAny_callSpecial?_slot (name := Str.ofString "__next__") ty F.slot_tuple_iterator_next
  refine wpAny_call_entry F.slot_tuple_iterator_next ty F.entry_tuple_iterator_next ?_ (F.args_tuple_iterator_next_1 _)
  unfold Builtin.«tuple_iterator.__next__»
  wp_walk using wpAny_field g d (x := .ref t) rfl
  rw [d]
  apply wpAny_pure
  apply wpAny_pure
  apply wpAny_bind
  apply wpAny_seqItems g2 d2
  rw [show Int.toNat (k : Int) = k from rfl]
  exact wpAny_mono q (fun fin s' ⟨v, e, z⟩ => ⟨v, e, wpAny_pure z⟩) fun _ _ z => z
theorem tu_item {it t : Addr} {k : Nat} {its : Array Value} {x : Value} {Q : Value → Shared → Prop} (a : s.heap.IsTupleIter it t k) (b : s.heap.IsTuple t its) (hx : its[k]? = some x)
    (q : ∀ h', h'.IsTupleIter it t (k + 1) → Heap.SameBut it s.heap h' → Q x { s with heap := h' }) : wpAny (model prog w) A (Builtin.SmallTypes.nextOf (.ref it)) Q E s := by
  apply tu_ask a b
  obtain ⟨o, g, c, d⟩ := a
  rw [hx]
  apply wpAny_bind
  apply wpAny_setField g d (by simp)
  apply wpAny_pure
  refine ⟨x, rfl, q _ ⟨_, Heap.get?_update_self _ g ?_, ?_, ?_⟩ (Heap.SameBut.update ..)⟩
  · exact Obj.isFreed_of_fields (Obj.data_mapFields d _)
  · exact (Obj.cls_mapFields ..).trans c
  · rw [Obj.data_mapFields d]; rfl
theorem tu_end {it t : Addr} {k : Nat} {its : Array Value} {Q : Value → Shared → Prop} (hh : A.handled = none) (a : s.heap.IsTupleIter it t k) (b : s.heap.IsTuple t its) (hx : its[k]? = none)
    (q : ∀ h' e, Heap.ExtBut it s.heap h' → (∃ o, h'.get? e = some o ∧ o.cls = .type "StopIteration") → E (.ref e) { s with heap := h' }) : wpAny (model prog w) A (Builtin.SmallTypes.nextOf (.ref it)) Q E s := by
  apply tu_ask a b
  obtain ⟨o, g, c, d⟩ := a
  rw [hx]
  apply wpAny_bind
  apply wpAny_rule
  apply wpAny_bind
  apply wpAny_setField g d (by simp)
  have h1 : A.in1.handled = none := hh
  wp_walk
  unfold raiseNew
  apply wpAny_bind
  apply wpAny_handled
  rw [h1]
  show wpAny _ _ (throw _) _ _ _
  apply wpAny_throw
  exact q _ _ (((Heap.SameBut.update ..).extBut.push _).push _) ⟨_, Heap.get?_push_size _ rfl, rfl⟩
theorem drawsT (hh : A.handled = none) (it t : Addr) (ne : t ≠ it) (its : Array Value) : Draws prog w A it [it, t] its.size (fun i v => its[i]? = some v) (fun i h => h.IsTupleIter it t i ∧ h.IsTuple t its) where
  live := fun _ _ ⟨⟨o, g, _⟩, _⟩ => ⟨o, g⟩
  frame := fun _ _ _ ⟨⟨o, g, r⟩, ⟨o2, g2, r2⟩⟩ k => ⟨⟨o, k it (by simp) o g, r⟩, ⟨o2, k t (by simp) o2 g2, r2⟩⟩
  item := fun i s Q E lt ⟨a, b⟩ q => tu_item a b (Array.getElem?_eq_getElem lt) fun h' a' sb => q _ h' s.toks (Array.getElem?_eq_getElem lt) ⟨a', b.extBut sb.extBut ne⟩ sb
  done := fun s Q E ⟨a, b⟩ q => tu_end hh a b (by simp) q
end
structure ZA (z TI TO i1 i2 : Addr) (f g : List Addr) : Prop where
  zf : z ∉ f
  zg : z ∉ g
  of : TO ∉ f
  og : TO ∉ g
  nf : i2 ∉ f
  ng : i1 ∉ g
  Iz : TI ≠ z
  Oz : TO ≠ z
  az : i1 ≠ z
  bz : i2 ≠ z
  IO : TI ≠ TO
  Ia : TI ≠ i1
  Ib : TI ≠ i2
  Oa : TO ≠ i1
  Ob : TO ≠ i2
theorem mv {prog : Program} {w : World} {A : Around} {it : Addr} {f : List Addr} {n : Nat} {P : Nat → Value → Prop} {S : Nat → Heap → Prop} (D : Draws prog w A it f n P S) {k : Nat} {h h' : Heap} {a : Addr} (st : S k h) (b : Heap.ExtBut a h h') (na : a ∉ f) : S k h' :=
  D.frame k h h' st fun c hc o e => b c o (fun q => na (q ▸ hc)) e
section
variable {prog : Program} {w : World} {A : Around} {E : Value → Shared → Prop} {s : Shared}
theorem zip_draw {z TI TO i1 i2 : Addr} {f g : List Addr} {m n k : Nat} {P R : Nat → Value → Prop} {S T : Nat → Heap → Prop} (Z : ZA z TI TO i1 i2 f g) (D1 : Draws prog w A i1 f m P S) (D2 : Draws prog w A i2 g n R T) {a b : Value} {Q : Value → Shared → Prop}
    (hz : IsZip s.heap z TI TO .none) (hI : IsPair s.heap TI (.ref i1) (.ref i2)) (hO : IsPair s.heap TO a b) (s1 : S k s.heap) (s2 : T k s.heap) (le1 : k ≤ m) (le2 : k ≤ n)
    (q : k < m → k < n → ∀ x y h' tk, P k x → R k y → IsZip h' z TI TO (rawInt s.heap.objs.size) → IsPair h' TO x y → S (k + 1) h' → T (k + 1) h' → IsPair h' s.heap.objs.size x y → 
      (∀ c o, c ≠ z → c ≠ TO → c ≠ i1 → c ≠ i2 → s.heap.get? c = some o → h'.get? c = some o) → Q (.ref s.heap.objs.size) { s with heap := h', toks := tk })
    (qe : (k = m ∨ k = n) → ∀ h' e tk, (∀ c o, c ≠ z → c ≠ TO → c ≠ i1 → c ≠ i2 → s.heap.get? c = some o → h'.get? c = some o) → (∃ o, h'.get? e = some o ∧ o.cls = .type "StopIteration") → E (.ref e) { s with heap := h', toks := tk }) :
    wpAny (model prog w) A (Builtin.«zip.__next__» ⟨[.ref z], []⟩) (fun fin s' => ∃ v, fin = .done (.ret v) ∧ Q v s') E s := by
  change wpAny _ _ (field (.ref z) 2 >>= _) _ _ _
  apply wpAny_bind
  apply wpAny_field hz rfl (x := .bool false) rfl
  change wpAny _ _ (field (.ref z) 3 >>= _) _ _ _
  apply wpAny_bind
  apply wpAny_field hz rfl (x := .ref TI) rfl
  apply wpAny_bind
  apply wpAny_seqItems hI rfl
  change wpAny _ _ (Builtin.SmallTypes.ownedTupleIsFree (.ref z) >>= _) _ _ _
  apply wpAny_bind
  unfold Builtin.SmallTypes.ownedTupleIsFree
  apply wpAny_bind
  apply wpAny_field hz rfl (x := .none) rfl
  apply wpAny_pure
  simp only [if_true]
  apply wpAny_bind
  apply wpAny_rule
  apply wpAny_bind
  apply wpAny_field hz rfl (x := .ref TO) rfl
  apply wpAny_bind
  apply wpAny_setField_rec hz (by simp)
  intro hA zA bA
  have zA' : IsZip hA z TI TO .ellipsis := zA
  clear zA
  have oA : IsPair hA TO a b := bA.extBut _ _ Z.Oz hO
  have sA := mv D1 s1 bA.extBut Z.zf
  have tA := mv D2 s2 bA.extBut Z.zg
  apply wpAny_bind
  simp only [List.zipIdx_cons, List.zipIdx_nil, List.forIn_cons, List.forIn_nil]
  apply wpAny_bind
  apply wpAny_bind
  apply wpAny_onRaise
  change wpAny _ _ (Builtin.SmallTypes.nextOf (.ref i1) >>= _) _ _ _
  apply wpAny_bind
  rcases Nat.lt_or_eq_of_le le1 with l1 | rfl
  rotate_left
  · apply D1.done _ _ _ sA
    rintro h' e kp ⟨o, ge, ce⟩
    have z' : IsZip h' z TI TO .ellipsis := kp _ _ Z.az.symm zA'
    have ne : e ≠ z := fun q => by subst q; rw [z'] at ge; cases ge; simp at ce
    apply wpAny_setField_rec z' (by simp)
    intro h2 _ b2
    exact qe (.inl rfl) h2 e s.toks (fun c o c1 _ c3 _ x => b2.extBut _ _ c1 (kp _ _ c3 (bA.extBut _ _ c1 x))) ⟨o, b2.extBut _ _ ne ge, ce⟩
  apply D1.item k _ _ _ l1 sA
  intro x hB t1 px sB bB
  apply wpAny_pure
  have oB : IsPair hB TO a b := bB.extBut _ _ Z.Oa oA
  have zB : IsZip hB z TI TO .ellipsis := bB.extBut _ _ Z.az.symm zA'
  have tB := mv D2 tA bB.extBut Z.ng
  apply wpAny_bind
  apply wpAny_seqItems oB rfl
  apply wpAny_bind
  apply wpAny_updateSeq_pair oB
  intro hC oC bC
  have oC' : IsPair hC TO x b := oC
  clear oC
  have zC : IsZip hC z TI TO .ellipsis := bC.extBut _ _ Z.Oz.symm zB
  have sC := mv D1 sB bC.extBut Z.of
  have tC := mv D2 tB bC.extBut Z.og
  apply wpAny_bind
  apply wpAny_letGo
  apply wpAny_pure
  apply wpAny_bind
  apply wpAny_bind
  apply wpAny_onRaise
  change wpAny _ _ (Builtin.SmallTypes.nextOf (.ref i2) >>= _) _ _ _
  apply wpAny_bind
  have upC : ∀ c o, c ≠ z → c ≠ TO → c ≠ i1 → s.heap.get? c = some o → hC.get? c = some o := fun c o c1 c2 c3 e => bC.extBut _ _ c2 (bB.extBut _ _ c3 (bA.extBut _ _ c1 e))
  rcases Nat.lt_or_eq_of_le le2 with l2 | rfl
  rotate_left
  · apply D2.done _ _ _ tC
    rintro h' e kp ⟨o, ge, ce⟩
    have z' : IsZip h' z TI TO .ellipsis := kp _ _ Z.bz.symm zC
    have ne : e ≠ z := fun q => by subst q; rw [z'] at ge; cases ge; simp at ce
    apply wpAny_setField_rec z' (by simp)
    intro h2 _ b2
    exact qe (.inr rfl) h2 e t1 (fun c o c1 c2 c3 c4 x => b2.extBut _ _ c1 (kp _ _ c4 (upC c o c1 c2 c3 x))) ⟨o, b2.extBut _ _ ne ge, ce⟩
  apply D2.item k _ _ _ l2 tC
  intro y hD t2 py tD bD
  apply wpAny_pure
  have oD : IsPair hD TO x b := bD.extBut _ _ Z.Ob oC'
  have zD : IsZip hD z TI TO .ellipsis := bD.extBut _ _ Z.bz.symm zC
  have sD := mv D1 sC bD.extBut Z.nf
  apply wpAny_bind
  apply wpAny_seqItems oD rfl
  apply wpAny_bind
  apply wpAny_updateSeq_pair oD
  intro hE oE bE
  have oE' : IsPair hE TO x y := oE
  clear oE
  have zE : IsZip hE z TI TO .ellipsis := bE.extBut _ _ Z.Oz.symm zD
  have sE := mv D1 sD bE.extBut Z.of
  have tE := mv D2 tD bE.extBut Z.og
  have upE : ∀ c o, c ≠ z → c ≠ TO → c ≠ i1 → c ≠ i2 → s.heap.get? c = some o → hE.get? c = some o := fun c o c1 c2 c3 c4 e => bE.extBut _ _ c2 (bD.extBut _ _ c4 (upC c o c1 c2 c3 e))
  have sz : hE.objs.size = s.heap.objs.size := by rw [bE.1, bD.1, bC.1, bB.1, bA.1]
  apply wpAny_bind
  apply wpAny_letGo
  apply wpAny_pure
  apply wpAny_pure
  apply wpAny_bind
  apply wpAny_seqItems oE' rfl
  apply wpAny_bind
  refine wpAny_newTuple ?_
  change wpAny _ _ (Builtin.SmallTypes.ownedTupleHandOut (.ref z) (.ref hE.objs.size) >>= _) _ _ _
  apply wpAny_bind
  unfold Builtin.SmallTypes.ownedTupleHandOut
  have zF : IsZip (hE.push { cls := .type "tuple", data := .seq #[x, y] }) z TI TO .ellipsis := Heap.get?_push_of_some _ zE
  have pF : IsPair (hE.push { cls := .type "tuple", data := .seq #[x, y] }) hE.objs.size x y := Heap.get?_push_size _ rfl
  apply wpAny_bind
  apply wpAny_setField_rec zF (by simp)
  intro hG zG bG
  have zG' : IsZip hG z TI TO (rawInt hE.objs.size) := zG
  clear zG
  apply wpAny_setField_rec zG' (by simp)
  intro hH zH bH
  have zH' : IsZip hH z TI TO (rawInt hE.objs.size) := zH
  clear zH
  have far : hE.objs.size ≠ z := Nat.ne_of_gt (Heap.lt_size zE)
  have up : Heap.ExtBut z hE hH := fun c o c1 e => bH.extBut _ _ c1 (bG.extBut _ _ c1 (Heap.get?_push_of_some _ e))
  have pH : IsPair hH hE.objs.size x y := bH.extBut _ _ far (bG.extBut _ _ far pF)
  apply wpAny_pure
  refine ⟨_, rfl, ?_⟩
  have := q l1 l2 x y hH t2 px py (by rw [← sz]; exact zH') (up _ _ Z.Oz oE') (mv D1 sE up Z.zf) (mv D2 tE up Z.zg) (by rw [← sz]; exact pH) fun c o c1 c2 c3 c4 e => up c o c1 (upE c o c1 c2 c3 c4 e)
  rw [← sz] at this
  exact this
theorem zip_on {z TI TO i1 i2 : Addr} {f g : List Addr} {m n k : Nat} {P R : Nat → Value → Prop} {S T : Nat → Heap → Prop} (Z : ZA z TI TO i1 i2 f g) (D1 : Draws prog w A.in1 i1 f m P S) (D2 : Draws prog w A.in1 i2 g n R T) {a b : Value} {Q : Option Value → Shared → Prop}
    (hz : IsZip s.heap z TI TO .none) (hI : IsPair s.heap TI (.ref i1) (.ref i2)) (hO : IsPair s.heap TO a b) (s1 : S k s.heap) (s2 : T k s.heap) (le1 : k ≤ m) (le2 : k ≤ n)
    (q : k < m → k < n → ∀ x y h' tk, P k x → R k y → IsZip h' z TI TO (rawInt s.heap.objs.size) → IsPair h' TO x y → S (k + 1) h' → T (k + 1) h' → IsPair h' s.heap.objs.size x y → 
      (∀ c o, c ≠ z → c ≠ TO → c ≠ i1 → c ≠ i2 → s.heap.get? c = some o → h'.get? c = some o) → Q (some (.ref s.heap.objs.size)) { s with heap := h', toks := tk })
    (qe : (k = m ∨ k = n) → ∀ h' tk, (∀ c o, c ≠ z → c ≠ TO → c ≠ i1 → c ≠ i2 → s.heap.get? c = some o → h'.get? c = some o) → Q none { s with heap := h', toks := tk }) :
    wpAny (model prog w) A (pyNext (.ref z)) Q E s := by
  have ty : s.TypeIs (.ref z) "zip" := ⟨_, hz, rfl⟩
  unfold pyNext
  apply wpAny_bind
  apply wpAny_attempt
  apply wpAny_callSpecial?_slot (name := Str.ofString "__next__") ty F.slot_zip_next
  refine wpAny_call_entry F.slot_zip_next ty F.entry_zip_next (zip_draw Z D1 D2 hz hI hO s1 s2 le1 le2 ?_ ?_) (F.args_zip_next_1 _)
  · intro l1 l2 x y h' tk a1 a2 a3 a4 a5 a6 a7 a8
    exact wpAny_pure (q l1 l2 x y h' tk a1 a2 a3 a4 a5 a6 a7 a8)
  · rintro l h' e tk kp ⟨o, ge, ce⟩
    exact wpAny_bind (wpAny_isInstance (T := "StopIteration") (b := true) ⟨o, ge, ce⟩ isSubtype_stop (wpAny_pure (qe l h' tk kp)))
end
noncomputable def Ity (K : PySem.W.Frag) (a b : Addr) : It :=
  ⟨fun i H => ∃ xs ys x y, SqT K H a xs ∧ SqT K H b ys ∧ xs[i]? = some x ∧ ys[i]? = some y, fun i H v H' => ∃ x y T, (∀ xs, SqT K H a xs → xs[i]? = some x) ∧ (∀ ys, SqT K H b ys → ys[i]? = some y) ∧ H T = none ∧ v = .ref T ∧ H' = upd H T (.tup [x, y]),
    fun i H => ∃ xs ys, SqT K H a xs ∧ SqT K H b ys ∧ i ≤ xs.length ∧ i ≤ ys.length ∧ (i = xs.length ∨ i = ys.length)⟩
theorem turn_zipT {P : Program} {w : World} {K : PySem.W.Frag} {elts : List Expr} {x1 : Nat} {pos : Pos} (a b z TI TO i1 i2 : Addr) (D : ZA z TI TO i1 i2 [i1, a] [i2, b]) (na : a ≠ i1) (nb : b ≠ i2) :
    Turn P w K (.Tuple elts x1 pos) (Ity K a b) [z, TI, TO, i1, i2] z (fun i h => IsZip h z TI TO .none ∧ IsPair h TI (.ref i1) (.ref i2) ∧ (∃ p q, IsPair h TO p q) ∧ h.IsTupleIter i1 a i ∧ h.IsTupleIter i2 b i) where
  mem := by simp
  obj := fun i h st c hc => by
    obtain ⟨hz, hTI, ⟨p, q, hTO⟩, h1, h2⟩ := st
    simp only [List.mem_cons, List.not_mem_nil, or_false] at hc
    rcases hc with rfl | rfl | rfl | rfl | rfl
    · exact ⟨_, hz, fun v z => by cases z⟩
    · exact ⟨_, hTI, fun v z => by cases z⟩
    · exact ⟨_, hTO, fun v z => by cases z⟩
    · obtain ⟨o, e, c, d⟩ := h1
      exact ⟨o, e, fun v z => by rw [d] at z; cases z⟩
    · obtain ⟨o, e, c, d⟩ := h2
      exact ⟨o, e, fun v z => by rw [d] at z; cases z⟩
  keep := fun i h h' st k => by
    obtain ⟨hz, hTI, ⟨p, q, hTO⟩, h1, h2⟩ := st
    exact ⟨k z (by simp) _ hz, k TI (by simp) _ hTI, ⟨p, q, k TO (by simp) _ hTO⟩, h1.at fun o e => k i1 (by simp) o e, h2.at fun o e => k i2 (by simp) o e⟩
  item := by
    intro X hP hw hK hc i pins s σ H E I hf st hg
    subst hP hw hK
    obtain ⟨xs, ys, x, y, hq1, hq2, hx, hy⟩ := hg
    obtain ⟨its1, rv1, p1, _⟩ := I.tuple hq1
    obtain ⟨its2, rv2, p2, _⟩ := I.tuple hq2
    obtain ⟨hz, hTI, ⟨pa, qa, hTO⟩, h1, h2⟩ := st
    have p1' : s.heap.IsTuple a its1.toArray := p1
    have p2' : s.heap.IsTuple b its2.toArray := p2
    have l1 := rv1.length
    have l2 := rv2.length
    obtain ⟨b1, _⟩ := List.getElem?_eq_some_iff.1 hx
    obtain ⟨b2, _⟩ := List.getElem?_eq_some_iff.1 hy
    have hn : X.A.in1.handled = none := I.ok.hd hc
    have d1 := drawsT (prog := X.prog) (w := X.w) hn i1 a na its1.toArray
    have d2 := drawsT (prog := X.prog) (w := X.w) hn i2 b nb its2.toArray
    refine zip_on (k := i) D d1 d2 hz hTI hTO ⟨h1, p1'⟩ ⟨h2, p2'⟩ (by simp; omega) (by simp; omega) (fun _ _ u v hh tk hu hv hz' hTO' h1' h2' hT hk => ⟨_, rfl, ?_⟩) fun q => absurd q (by simp; omega)
    obtain ⟨u', hu', ru⟩ := rv1.get hx
    obtain ⟨v', hv', rv⟩ := rv2.get hy
    have eu : u' = u := by simpa [hu'] using hu
    have ev : v' = v := by simpa [hv'] using hv
    subst eu ev
    refine wpAny_letOwnedTupleGo_zip hz' fun h3 hz3 hs3 => ?_
    have hTn : H s.heap.objs.size = none := I.hok.fresh (Nat.le_refl _)
    have lts : ∀ c ∈ [z, TI, TO, i1, i2], c < s.heap.objs.size := fun c hc => by
      simp only [List.mem_cons, List.not_mem_nil, or_false] at hc
      rcases hc with rfl | rfl | rfl | rfl | rfl
      · exact Heap.lt_size hz
      · exact Heap.lt_size hTI
      · exact Heap.lt_size hTO
      · obtain ⟨_, e, _⟩ := h1; exact Heap.lt_size e
      · obtain ⟨_, e, _⟩ := h2; exact Heap.lt_size e
    have I1 : Inv X pins σ (upd H s.heap.objs.size (.tup [x, y])) { s with heap := s.heap.push { cls := .type "tuple", data := .seq #[u', v'] } } := I.laid (t' := s.toks) (o := .tup [x, y]) (fun b o e => Heap.get?_push_of_some _ e) (Nat.le_refl _) ⟨szl (by show 2 ≤ 1000000; decide), [u', v'], .cons ru (.cons rv .nil), IsTupN.new _ _⟩
    have I2 : Inv X pins σ (upd H s.heap.objs.size (.tup [x, y])) { s with heap := h3, toks := tk } := by
      refine Inv.turnedL (s := { s with heap := s.heap.push { cls := .type "tuple", data := .seq #[u', v'] } }) (h' := h3) (ch := [z, TI, TO, i1, i2]) (t' := tk) I1 (fun b o hb q => ?_) (fun b hb => ?_)
      · simp only [List.mem_cons, List.not_mem_nil, or_false, not_or] at hb
        obtain ⟨n1, n2, n3, n4, n5⟩ := hb
        show h3.get? b = some o
        rw [hs3.2 b n1]
        rcases Heap.get?_push_cases q with ⟨rfl, rfl⟩ | q
        · exact hT
        · exact hk b o n1 n3 n4 n5 q
      · obtain ⟨f0, f1, f2, f3, f4, f5⟩ := hf b hb
        exact ⟨by rw [upd_ne (Nat.ne_of_lt (lts b hb))]; exact f0, f1, f2, f3, f4, f5⟩
    have k3 : ∀ c, c ≠ z → ∀ o, hh.get? c = some o → h3.get? c = some o := fun c hc o e => (hs3.2 c hc).trans e
    refine ⟨.ref s.heap.objs.size, _, I2, rfl, ⟨x, y, _, fun zs hy => by rw [I.tuple_inj hy hq1]; exact hx, fun zs hy' => by rw [I.tuple_inj hy' hq2]; exact hy, hTn, rfl, rfl⟩, ⟨hz3, k3 TI D.Iz _ (hk TI _ D.Iz D.IO D.Ia D.Ib hTI), ⟨u', v', k3 TO D.Oz _ hTO'⟩, h1'.1.at (k3 i1 D.az), h2'.1.at (k3 i2 D.bz)⟩, fun b hb => ?_⟩
    rw [upd_ne (Nat.ne_of_lt (lts b hb))]
    exact (hf b hb).1
  done := by
    intro X hP hw hK hc i pins s σ H E I hf st hg
    subst hP hw hK
    obtain ⟨xs, ys, hq1, hq2, b1, b2, hl⟩ := hg
    obtain ⟨its1, rv1, p1, _⟩ := I.tuple hq1
    obtain ⟨its2, rv2, p2, _⟩ := I.tuple hq2
    obtain ⟨hz, hTI, ⟨pa, qa, hTO⟩, h1, h2⟩ := st
    have p1' : s.heap.IsTuple a its1.toArray := p1
    have p2' : s.heap.IsTuple b its2.toArray := p2
    have l1 := rv1.length
    have l2 := rv2.length
    have hn : X.A.in1.handled = none := I.ok.hd hc
    have d1 := drawsT (prog := X.prog) (w := X.w) hn i1 a na its1.toArray
    have d2 := drawsT (prog := X.prog) (w := X.w) hn i2 b nb its2.toArray
    refine zip_on (k := i) D d1 d2 hz hTI hTO ⟨h1, p1'⟩ ⟨h2, p2'⟩ (by simp; omega) (by simp; omega) (fun e1 e2 => absurd e2 (by simp at e1 ⊢; omega)) fun _ h' tk hk => ⟨rfl, ?_⟩
    refine I.turnedL (ch := [z, TI, TO, i1, i2]) (t' := tk) (fun b o hb q => ?_) hf
    simp only [List.mem_cons, List.not_mem_nil, or_false, not_or] at hb
    obtain ⟨n1, n2, n3, n4, n5⟩ := hb
    exact hk b o n1 n3 n4 n5 q
  self := fun _ _ _ _ _ st h => by
    obtain ⟨hz, _⟩ := st
    exact wpAny_pyIter_zip hz h
theorem zip_newT (a b : Addr) (xs ys : Array Value) :
    Meets (Builtin.«zip.__new__» ⟨[.type "zip", .ref a, .ref b], []⟩) (fun _ R s => s.heap.IsTuple a xs ∧ s.heap.IsTuple b ys ∧
      ∀ h', IsZip h' (s.heap.objs.size + 4) (s.heap.objs.size + 2) (s.heap.objs.size + 3) .none → IsPair h' (s.heap.objs.size + 2) (.ref s.heap.objs.size) (.ref (s.heap.objs.size + 1)) → IsPair h' (s.heap.objs.size + 3) .none .none →
        h'.IsTupleIter s.heap.objs.size a 0 → h'.IsTupleIter (s.heap.objs.size + 1) b 0 → (∀ c o, s.heap.get? c = some o → h'.get? c = some o) → R (.ok (.ret (.ref (s.heap.objs.size + 4)))) { s with heap := h' }) :=
  .of_wp fun prog w A R s h => by
    obtain ⟨hp, g, d, tk, os⟩ := s
    obtain ⟨t1, t2, h⟩ := h
    have hs := sub_zip
    have u1 : Heap.IsTuple (Shared.heap ⟨hp, g, d, tk, os⟩) a xs := t1
    have u2 : Heap.IsTuple (Shared.heap ⟨hp.push { cls := .type "tuple_iterator", data := .fields #[.ref a, .int 0 0] }, g, d, tk, os⟩) b ys := Heap.IsTuple.push t2 _
    wp_walk using wpAny_pyIter_tuple u1, wpAny_pyIter_tuple u2
    refine ⟨_, rfl, ?_⟩
    have key : ∀ (n1 n2 n3 n4 : Nat) (h' : Heap), n1 = hp.objs.size + 1 → n2 = hp.objs.size + 2 → n3 = hp.objs.size + 3 → n4 = hp.objs.size + 4 → IsZip h' n4 n2 n3 .none → IsPair h' n2 (.ref hp.objs.size) (.ref n1) → IsPair h' n3 .none .none →
        h'.IsTupleIter hp.objs.size a 0 → h'.IsTupleIter n1 b 0 → (∀ c o, hp.get? c = some o → h'.get? c = some o) → R (.ok (.ret (.ref n4))) ⟨h', g, d, tk, os⟩ := by
      rintro _ _ _ _ h' rfl rfl rfl rfl
      exact h h'
    refine key (hp.push { cls := .type "tuple_iterator", data := .fields #[.ref a, .int 0 0] }).objs.size _ _ _ _ ?e1 ?e2 ?e3 ?e4 (Heap.get?_push_size _ rfl) ?g5 ?g6 ?g7 ?g8 ?g9
    case g5 => exact Heap.get?_push_of_some _ (Heap.get?_push_of_some _ (Heap.get?_push_size _ rfl))
    case g6 => exact Heap.get?_push_of_some _ (Heap.get?_push_size _ rfl)
    case g7 => exact ⟨_, Heap.get?_push_of_some _ (Heap.get?_push_of_some _ (Heap.get?_push_of_some _ (Heap.get?_push_of_some _ (Heap.get?_push_size _ rfl)))), rfl, rfl⟩
    case g8 => exact ⟨_, Heap.get?_push_of_some _ (Heap.get?_push_of_some _ (Heap.get?_push_of_some _ (Heap.get?_push_size _ rfl))), rfl, rfl⟩
    case g9 => exact fun c o e => Heap.get?_push_of_some _ (Heap.get?_push_of_some _ (Heap.get?_push_of_some _ (Heap.get?_push_of_some _ (Heap.get?_push_of_some _ e))))
    all_goals simp only [Heap.size_push]
noncomputable def iZipT (K : PySem.W.Frag) (ta : TA) : TI := fun σ H R => ta σ H fun vs H1 => ∃ a b : Addr, vs = [.ref a, .ref b] ∧ (∃ xs, SqT K H1 a xs) ∧ (∃ ys, SqT K H1 b ys) ∧ R (Ity K a b) H1
theorem pi_zipT {X : Cx} {a b : Expr} {ta : TA} {p pos : Pos} {elts : List Expr} {x1 : Nat} {pos2 : Pos} (hg : Gl X "zip") (hm : X.mg "zip" = none) (ha : PA X [a, b] ta) (hs : starEach [a, b] X.env = [(false, eval a X.env), (false, eval b X.env)] := by rfl) (hs2 : starEach [b] X.env = [(false, eval b X.env)] := by rfl) :
    PI X (.Tuple elts x1 pos2) (.Call (.Name "zip" p) [a, b] [] pos) (iZipT X.K ta) := by
  intro pins s σ H R I h
  refine Call_ (ld_blt I hg hm boot_zip (PyProof.Rows.callWith_type1 (thn (ha pos pins s σ H _ I h) fun us s1 ⟨vs, H1, I1, r1, q1⟩ => ?_) (by rw [hs, hs2]) (by rw [hs2]; rfl)))
  obtain ⟨l1, l2, rfl, ⟨xs, hq1⟩, ⟨ys, hq2⟩, q⟩ := q1
  cases r1 with
  | cons r rr =>
    cases rr with
    | cons r' rr =>
      cases rr
      cases r
      cases r'
      obtain ⟨its1, rv1, p1, _⟩ := I1.tuple hq1
      obtain ⟨its2, rv2, p2, _⟩ := I1.tuple hq2
      have lt1 : l1 < s1.heap.objs.size := p1.lt
      have lt2 : l2 < s1.heap.objs.size := p2.lt
      refine callType_new F.called_zip (by decide) (F.typeCall_zip_2 _ _) (F.newCall_zip_2 _ _) (fun obj => F.args_object_init_3 obj _ _) F.entry_zip_new (zip_newT l1 l2 its1.toArray its2.toArray) ⟨p1, p2, fun h' hz hTI hTO h1 h2 hk => ⟨⟨_, hz, rfl⟩, ?_⟩⟩
      refine wpAny_pyIter_zip hz ?_
      refine ⟨_, [s1.heap.objs.size + 4, s1.heap.objs.size + 2, s1.heap.objs.size + 3, s1.heap.objs.size, s1.heap.objs.size + 1], _, _, H1, rfl, I1.kept (t' := s1.toks) hk, turn_zipT l1 l2 _ _ _ _ _ ⟨?_, ?_, ?_, ?_, ?_, ?_, ?_, ?_, ?_, ?_, ?_, ?_, ?_, ?_, ?_⟩ ?_ ?_, ⟨hz, hTI, ⟨_, _, hTO⟩, h1, h2⟩, fun b hb => ?_, q⟩
      case refine_18 =>
        simp only [List.mem_cons, List.not_mem_nil, or_false] at hb
        have hb' : s1.heap.objs.size ≤ b := by
          rcases hb with rfl | rfl | rfl | rfl | rfl
          · exact Nat.le_add_right _ 4
          · exact Nat.le_add_right _ 2
          · exact Nat.le_add_right _ 3
          · exact Nat.le_refl _
          · exact Nat.le_add_right _ 1
        exact I1.fpOk hb' (I1.hok.fresh hb')
      all_goals first
        | exact Nat.ne_of_lt lt1
        | exact Nat.ne_of_lt (Nat.lt_of_lt_of_le lt2 (Nat.le_add_right _ _))
        | (show (_ : Nat) ≠ _; omega)
        | (simp only [List.mem_cons, List.not_mem_nil, or_false, not_or]
           exact ⟨by show (_ : Nat) ≠ _; omega, by first
             | exact Nat.ne_of_gt lt1
             | exact Nat.ne_of_gt lt2
             | exact Nat.ne_of_gt (Nat.lt_of_lt_of_le lt1 (Nat.le_add_right _ _))
             | exact Nat.ne_of_gt (Nat.lt_of_lt_of_le lt2 (Nat.le_add_right _ _))⟩)
theorem for_zipT {K : PySem.W.Frag} {a b : Addr} {xs ys : List V} {g : TG} {tb : TS} {D : Ends} {σ : St} {H : Hp} (hlen : xs.length = ys.length) (Pv : Nat → St → Hp → Prop) (h0 : Pv 0 σ H) (hl : ∀ i σ H, i ≤ xs.length → Pv i σ H → SqT K H a xs ∧ SqT K H b ys)
    (hs : ∀ i x y T σ H, xs[i]? = some x → ys[i]? = some y → Pv i σ H → H T = none → g (.ref T) σ (upd H T (.tup [x, y])) fun σ2 H2 => tb { D with nx := Pv (i + 1), ct := Pv (i + 1), bk := D.nx } σ2 H2) (hd : ∀ σ H, Pv xs.length σ H → D.nx σ H) :
    ∃ W : Nat → Nat → St → Hp → Prop, (∃ m, W 0 m σ H) ∧ ∀ i m σ H, W i m σ H →
      ((Ity K a b).stop i H ∧ D.nx σ H) ∨ ((Ity K a b).go i H ∧ ∃ N : St → Hp → Prop, (∀ σ' H', N σ' H' → ∃ m', m' < m ∧ W (i + 1) m' σ' H') ∧ ∀ x H', (Ity K a b).yld i H x H' → g x σ H' fun σ2 H2 => tb { D with nx := N, ct := N, bk := D.nx } σ2 H2) := by
  refine ⟨fun i m σ H => m = xs.length - i ∧ i ≤ xs.length ∧ Pv i σ H, ⟨xs.length, by simp, Nat.zero_le _, h0⟩, ?_⟩
  rintro i m σ H ⟨rfl, hi, p⟩
  obtain ⟨q1, q2⟩ := hl i σ H hi p
  by_cases hlt : i < xs.length
  · refine .inr ⟨⟨xs, ys, xs[i], ys[i], q1, q2, List.getElem?_eq_getElem hlt, List.getElem?_eq_getElem (by omega)⟩, Pv (i + 1), fun σ' H' p' => ⟨xs.length - (i + 1), by omega, rfl, hlt, p'⟩, fun v H' yy => ?_⟩
    obtain ⟨x, y, T, hx, hy, hT, rfl, rfl⟩ := yy
    exact hs i x y T σ H (hx xs q1) (hy ys q2) p hT
  · have e : i = xs.length := by omega
    subst e
    exact .inl ⟨⟨xs, ys, q1, q2, Nat.le_refl _, by omega, .inl rfl⟩, hd σ H p⟩
end L2

set_option Elab.async false
set_option linter.all false
set_option maxRecDepth 100000
set_option maxHeartbeats 4000000
namespace L2
open PySem PySem.Spec PyProof.Rows
noncomputable abbrev Tri := Int × Int × Int
noncomputable def TrisAt (H : Hp) (ys : List V) (B : List Tri) : Prop := ys.length = B.length ∧ ∀ (i : Nat) (y : V) (b : Tri), ys[i]? = some y → B[i]? = some b → ∃ t, y = .ref t ∧ H t = some (.tup [.int b.1, .int b.2.1, .int b.2.2])
theorem TrisAt.over {H H' : Hp} {ys : List V} {B : List Tri} (h : TrisAt H ys B) (e : Same H H') : TrisAt H' ys B := ⟨h.1, fun i y b p q => by obtain ⟨t, x, z⟩ := h.2 i y b p q; exact ⟨t, x, e _ _ z⟩⟩
theorem TrisAt.nil {H : Hp} : TrisAt H [] [] := ⟨rfl, fun i y b p => by simp at p⟩
theorem TrisAt.snoc {H : Hp} {ys : List V} {B : List Tri} {t : Addr} {b : Tri} (h : TrisAt H ys B) (ht : H t = some (.tup [.int b.1, .int b.2.1, .int b.2.2])) : TrisAt H (ys ++ [.ref t]) (B ++ [b]) := by
  refine ⟨by rw [List.length_append, List.length_append, h.1]; rfl, fun i y c p q => ?_⟩
  by_cases l : i < ys.length
  · rw [List.getElem?_append_left l] at p
    rw [List.getElem?_append_left (by rw [← h.1]; exact l)] at q
    exact h.2 i y c p q
  · have hi : i = ys.length := by
      have := (List.getElem?_eq_some_iff.mp p).1
      rw [List.length_append, List.length_singleton] at this
      omega
    subst hi
    rw [List.getElem?_append_right (Nat.le_refl _), Nat.sub_self] at p
    rw [h.1, List.getElem?_append_right (Nat.le_refl _), Nat.sub_self] at q
    cases p; cases q
    exact ⟨t, rfl, ht⟩
theorem TrisAt.upd {H : Hp} {ys zs xs : List V} {B : List Tri} {l : Addr} (h : TrisAt H ys B) (hl : H l = some (.lst zs)) : TrisAt (upd H l (.lst xs)) ys B := ⟨h.1, fun i y b p q => by
  obtain ⟨t, x, z⟩ := h.2 i y b p q
  exact ⟨t, x, by rw [upd_ne (ne_of z hl (by intro z; cases z))]; exact z⟩⟩
noncomputable def spAreBonds : Sp := fun vs H Q _ => ∃ (l : Addr) (ys : List V) (B : List Tri), vs = [.ref l] ∧ H l = some (.lst ys) ∧ TrisAt H ys B ∧ ys.length ≤ 1000 ∧ ∀ H', Same H H' → Q (.bl true) H'
noncomputable def SptAt (H : Hp) (p : Addr) (m : Nat) (z : Nat → Str) (n : Nat → Int) : Prop := ∃ xs : List V, H p = some (.tup xs) ∧ xs.length = m ∧ ∀ (i : Nat) (x : V), xs[i]? = some x → ∃ t, x = .ref t ∧ H t = some (.tup [.str (z i), .int (n i)])
theorem SptAt.over {H H' : Hp} {p : Addr} {m : Nat} {z : Nat → Str} {n : Nat → Int} (h : SptAt H p m z n) (e : Same H H') : SptAt H' p m z n := by
  obtain ⟨xs, h1, h2, h3⟩ := h
  exact ⟨xs, e _ _ h1, h2, fun i x hx => by obtain ⟨t, a, b⟩ := h3 i x hx; exact ⟨t, a, e _ _ b⟩⟩
noncomputable def likeB (F G : Nat → Tri) : Nat → List Tri
  | 0 => []
  | n + 1 => likeB F G n ++ [F n] ++ [G n]
theorem likeB_len (F G : Nat → Tri) (n : Nat) : (likeB F G n).length = 2 * n := by
  induction n with
  | zero => rfl
  | succ n ih => rw [likeB, List.length_append, List.length_append, ih]; simp only [List.length_singleton]; omega
noncomputable def spLikeB : Sp := fun vs H Q _ => ∃ (sp nm ot nm2 : Addr) (f s : Int) (m : Nat) (z1 z2 : Nat → Str) (n1 n2 u w : Nat → Int) (zs zs2 : List Str), vs = [.ref sp, .ref nm, .int f, .ref ot, .ref nm2, .int s] ∧ m ≤ 100 ∧ SptAt H sp m z1 n1 ∧ SptAt H ot m z2 n2 ∧ H nm = some (.tup (zs.map V.str)) ∧ H nm2 = some (.tup (zs2.map V.str)) ∧ (∀ i < m, Whose zs (z1 i) f (u i)) ∧ (∀ i < m, Whose zs2 (z2 i) s (w i)) ∧ ∀ (r : Addr) (ys : List V) (H' : Hp), Same H H' → H' r = some (.lst ys) → TrisAt H' ys (likeB (fun i => (u i, w i, n2 i - n1 i)) (fun i => (w i, u i, n1 i - n2 i)) m) → Q (.ref r) H'
end L2
namespace L2
open PySem PySem.Spec PyProof.Rows
end L2
namespace L2
open PySem PySem.Spec PyProof.Rows
noncomputable def rCatH : R2 := fun x y H Q => ∃ (a b : Addr) (xs ys : List V), x = .ref a ∧ y = .ref b ∧ H a = some (.tup xs) ∧ H b = some (.tup ys) ∧ xs.length + ys.length ≤ sizeLine ∧ ∀ (p : Addr) (H' : Hp), Same H H' → H' p = some (.tup (xs ++ ys)) → Q (.ref p) H'
theorem op_catH {X : Cx} : OpR X (binaryOp .Add) rCatH := by
  intro pins s σ H x y v u Q I rx ry h
  obtain ⟨a, b, xs, ys, rfl, rfl, ha, hb, hz, q⟩ := h
  by_cases c : xs = []
  · subst c
    cases rx
    cases ry
    obtain ⟨its, r1, p1, _⟩ := I.tuple (SqT.of ha)
    obtain ⟨its2, r2, p2, _⟩ := I.tuple (SqT.of hb)
    obtain ⟨⟨cls, dd, data, sl⟩, ho, hc, n, hd⟩ := id p1
    obtain ⟨⟨cls2, dd2, data2, sl2⟩, ho2, hc2, n2, hd2⟩ := id p2
    simp only at hc hd hc2 hd2
    subst hc hd hc2 hd2
    have e : its = [] := r1.nil_iff.mpr rfl
    exact concat_meets ⟨_, ho, rfl⟩ ⟨_, ho2, rfl⟩ noFill_tuple_add seq_tuple_add PySem.F.slot_tuple_add PySem.F.entry_tuple_add (PySem.F.args_tuple_add_2 _ _)
      (tuple_addW0 a b its.toArray its2.toArray n n2 dd dd2 sl sl2 (by simp [e])) ⟨ho, ho2, .ref b, H, I, rfl, q b H (Same.refl _) hb⟩
  · refine op_catT pins s σ H (.ref a) (.ref b) v u Q I rx ry ⟨a, b, xs, ys, rfl, rfl, SqT.of ha, SqT.of hb, c, hz, fun z => ?_, fun z p hp => ?_⟩
    · subst z
      exact q a H (Same.refl _) (by rw [List.append_nil]; exact ha)
    · exact q p _ (same_new hp _) upd_same
end L2

set_option linter.all false
namespace Fo
variable {W L : Type}
section
variable (hdr : Nat → Bool → W → L) (dl : Nat → Int → List (Int × Int) → L)
end
end Fo
namespace Fo
variable {W L : Type}
end Fo

set_option Elab.async false
set_option linter.all false
set_option maxRecDepth 100000
set_option maxHeartbeats 4000000
namespace L2
open PySem PySem.Spec PyProof.Rows
noncomputable def All2 {α : Type} (R : V → α → Prop) (xs : List V) (as : List α) : Prop := xs.length = as.length ∧ ∀ (i : Nat) (x : V) (a : α), xs[i]? = some x → as[i]? = some a → R x a
theorem All2.nil {α : Type} {R : V → α → Prop} : All2 R [] [] := ⟨rfl, fun i x a h => by simp at h⟩
theorem All2.mono {α : Type} {R S : V → α → Prop} {xs : List V} {as : List α} (h : All2 R xs as) (m : ∀ x a, R x a → S x a) : All2 S xs as := ⟨h.1, fun i x a p q => m _ _ (h.2 i x a p q)⟩
theorem All2.get {α : Type} {R : V → α → Prop} {xs : List V} {as : List α} {i : Nat} {a : α} (h : All2 R xs as) (ha : as[i]? = some a) : ∃ x, xs[i]? = some x ∧ R x a := by
  have hi : i < xs.length := by rw [h.1]; exact (List.getElem?_eq_some_iff.mp ha).1
  exact ⟨_, List.getElem?_eq_getElem hi, h.2 i _ a (List.getElem?_eq_getElem hi) ha⟩
theorem All2.get' {α : Type} {R : V → α → Prop} {xs : List V} {as : List α} {i : Nat} {x : V} (h : All2 R xs as) (hx : xs[i]? = some x) : ∃ a, as[i]? = some a ∧ R x a := by
  have hi : i < as.length := by rw [← h.1]; exact (List.getElem?_eq_some_iff.mp hx).1
  exact ⟨_, List.getElem?_eq_getElem hi, h.2 i x _ hx (List.getElem?_eq_getElem hi)⟩
theorem All2.app {α : Type} {R : V → α → Prop} {xs ys : List V} {as bs : List α} (h : All2 R xs as) (g : All2 R ys bs) : All2 R (xs ++ ys) (as ++ bs) := by
  refine ⟨by rw [List.length_append, List.length_append, h.1, g.1], fun i x a p q => ?_⟩
  by_cases l : i < xs.length
  · rw [List.getElem?_append_left l] at p
    rw [List.getElem?_append_left (by rw [← h.1]; exact l)] at q
    exact h.2 i x a p q
  · rw [List.getElem?_append_right (by omega)] at p
    rw [List.getElem?_append_right (by have := h.1; omega)] at q
    rw [h.1] at p
    exact g.2 _ x a p q
theorem All2.one {α : Type} {R : V → α → Prop} {x : V} {a : α} (h : R x a) : All2 R [x] [a] := ⟨rfl, fun i y b p q => by
  cases i with
  | zero => cases p; cases q; exact h
  | succ i => simp at p⟩
theorem All2.snoc {α : Type} {R : V → α → Prop} {xs : List V} {as : List α} {x : V} {a : α} (h : All2 R xs as) (g : R x a) : All2 R (xs ++ [x]) (as ++ [a]) := h.app (.one g)
theorem All2.cons {α : Type} {R : V → α → Prop} {xs : List V} {as : List α} {x : V} {a : α} (g : R x a) (h : All2 R xs as) : All2 R (x :: xs) (a :: as) := All2.app (.one g) h
end L2

set_option Elab.async false
set_option linter.all false
set_option maxRecDepth 100000
set_option maxHeartbeats 4000000
namespace L2
open PySem PySem.Spec PyProof.Rows
noncomputable def TK (H H' : Hp) : Prop := ∀ (b : Addr) (xs : List V), H b = some (.tup xs) → H' b = some (.tup xs)
theorem Same.tk {H H' : Hp} (e : Same H H') : TK H H' := fun b xs h => e b _ h
theorem TK.upd {H : Hp} {l : Addr} {xs : List V} {o : HO} (hl : H l = some (.lst xs)) : TK H (upd H l o) := fun b ys hb => by
  rw [upd_ne (ne_of hb hl (by intro z; cases z))]
  exact hb
noncomputable def ME (t : TE) : Prop := ∀ (σ : St) (H : Hp) (Q Q' : VK), (∀ v H1, Q v H1 → Q' v H1) → t σ H Q → t σ H Q'
noncomputable def MT (t : TT) : Prop := ∀ σ H Q Q', (∀ b H1, Q b H1 → Q' b H1) → t σ H Q → t σ H Q'
noncomputable def MA (t : TA) : Prop := ∀ σ H Q Q', (∀ b H1, Q b H1 → Q' b H1) → t σ H Q → t σ H Q'
noncomputable def MR (r : R2) : Prop := ∀ (x y : V) (H : Hp) (Q Q' : VK), (∀ v H1, Q v H1 → Q' v H1) → r x y H Q → r x y H Q'
noncomputable def MB (r : List V → Hp → VK → Prop) : Prop := ∀ (vs : List V) (H : Hp) (Q Q' : VK), (∀ v H1, Q v H1 → Q' v H1) → r vs H Q → r vs H Q'
theorem ME.var (i : Nat) : ME (tVar i) := fun σ H Q Q' hq ⟨v, h, k⟩ => ⟨v, h, hq _ _ k⟩
theorem ME.c (v : V) : ME (tC v) := fun σ H Q Q' hq h => hq _ _ h
theorem ME.op {r : R2} {a b : TE} (hr : MR r) (ha : ME a) (hb : ME b) : ME (tOp r a b) := fun σ H Q Q' hq h => ha _ _ _ _ (fun x H1 k => hb _ _ _ _ (fun y H2 k => hr _ _ _ _ _ hq k) k) h
theorem ME.cb {r : List V → Hp → VK → Prop} {t : TA} (hr : MB r) (h : MA t) : ME (tCB r t) := fun σ H Q Q' hq k => h _ _ _ _ (fun xs H1 m => hr _ _ _ _ hq m) k
theorem MA.nil : MA tNil := fun σ H Q Q' hq h => hq _ _ h
theorem MA.cons {t : TE} {u : TA} (ht : ME t) (hu : MA u) : MA (tCons t u) := fun σ H Q Q' hq h => ht _ _ _ _ (fun x H1 k => hu _ _ _ _ (fun xs H2 m => hq _ _ m) k) h
theorem MT.test {t : TE} (h : ME t) : MT (tTest t) := fun σ H Q Q' hq k => h _ _ _ _ (fun x H1 ⟨b, e, m⟩ => ⟨b, e, hq _ _ m⟩) k
theorem MT.and {t u : TT} (h : MT t) (g : MT u) : MT (tAnd t u) := fun σ H Q Q' hq k => h _ _ _ _ (fun c H1 m => by
  cases c with
  | true => exact g _ _ _ _ hq m
  | false => exact hq _ _ m) k
theorem MR.i0 (g : Int → Int → V) : MR (rI0 g) := fun x y H Q Q' hq ⟨i, j, a, b, d⟩ => ⟨i, j, a, b, hq _ _ d⟩
theorem MR.eq : MR rEq := fun x y H Q Q' hq ⟨a, b⟩ => ⟨a, hq _ _ b⟩
theorem MR.ixT (K : PySem.W.Frag) : MR (rIxT K) := fun x y H Q Q' hq ⟨p, xs, i, v, a, b, c, d, e⟩ => ⟨p, xs, i, v, a, b, c, d, hq _ _ e⟩
theorem MB.len {P R : Hp → Addr → List V → Prop} : MB (fun xs H Q => ∃ p ys, xs = [V.ref p] ∧ (P H p ys ∨ R H p ys) ∧ Q (V.int (ys.length : Int)) H) := fun vs H Q Q' hq ⟨p, ys, a, b, c⟩ => ⟨p, ys, a, b, hq _ _ c⟩
theorem ints_tr {K : PySem.W.Frag} {H : Hp} : ∀ L : List Int, TrsIs K H (L.map V.int) (L.map fun i => Tr.v (.int i))
  | [] => .nil
  | x :: L => .cons (.flat rfl) (ints_tr L)
theorem ints_dep : ∀ L : List Int, depTs (L.map fun i => Tr.v (.int i)) = 0
  | [] => rfl
  | x :: L => by rw [List.map_cons, depTs, ints_dep L]; rfl
theorem seq_asgC {v : V} {i : Nat} {b : TS} {D : Ends} {σ : St} {H : Hp} (h : b D (σ.set i (some v)) H) : tSeq (tAsg (tC v) (gName i)) b D σ H := h
end L2

set_option Elab.async false
set_option linter.all false
set_option maxRecDepth 100000
set_option maxHeartbeats 4000000
namespace L2
open PySem PySem.Spec PyProof.Rows
end L2
namespace HT
open PySem PySem.Spec PyProof.Rows L2
section
variable {prog : Program} {w : World} {A : Around} {E : Value → Shared → Prop} {s : Shared}
theorem getItem_tuple_all {t sl : Addr} {items : Array Value} {vl vu : Value} {lo hi : Option Int} {Q : Value → Shared → Prop} (ht : IsTup s.heap t items) (hs : s.heap.IsSliceOf sl vl vu .none) (pl : IsPart vl lo) (pu : IsPart vu hi)
    (hw : sIx items.size 0 lo = 0 ∧ sIx items.size items.size hi = items.size) (h : Q (.ref t) s) : wpAny (model prog w) A (getItem (.ref t) (.ref sl)) Q E s := by
  obtain ⟨os, hos, hcs, hds⟩ := id hs
  have hTs : s.TypeIs (.ref sl) "slice" := ⟨os, hos, hcs⟩
  unfold getItem
  try with_reducible refine wpAny_holding ?_
  first | refine wpAny_bind (wpAny_pure ?_) | skip
  refine wpAny_bind (wpAny_sequenceKey ht.typeIs (by decide) ?_)
  refine wpAny_bind (wpAny_callSpecial?_slot (name := Str.ofString "__getitem__") ht.typeIs PyProof.Rows.slot_tuple_getitem
    (wpAny_call_entry PyProof.Rows.slot_tuple_getitem ht.typeIs entry_tuple_getitem ?_ (args_tuple_getitem _ _)))
  show wpAny _ _ (Builtin.Tuple.tupleItemsOf (.ref t) >>= _) _ _ s
  refine wpAny_bind (tupleItemsOf_ ht ?_)
  refine wpAny_bind (wpAny_typeOf hTs ?_)
  rw [if_pos (by decide)]
  refine wpAny_bind (sliceApplied_gen hs pl pu ?_)
  have hyes : (((sIx items.size 0 lo : Nat) : Int) == 0 && (1 : Int) == 1 && (sIx items.size items.size hi - sIx items.size 0 lo) == items.size) = true := by
    rw [hw.1, hw.2]
    simp
  show wpAny _ _ (if (((sIx items.size 0 lo : Nat) : Int) == 0 && (1 : Int) == 1 && (sIx items.size items.size hi - sIx items.size 0 lo) == items.size) = true then _ else _) _ _ s
  rw [if_pos hyes]
  show wpAny _ _ (Builtin.Tuple.tupleIsExact (.ref t) >>= _) _ _ s
  unfold Builtin.Tuple.tupleIsExact
  refine wpAny_bind (wpAny_bind (wpAny_typeOf ht.typeIs (wpAny_pure ?_)))
  rw [if_pos (by decide)]
  wp_walk
  first
    | exact ⟨_, rfl, wpAny_pure h⟩
    | exact wpAny_pure ⟨_, rfl, wpAny_pure h⟩
end
end HT
namespace L2
open PySem PySem.Spec PyProof.Rows
noncomputable def rSlH : V → Option Int → Option Int → Hp → VK → Prop := fun x lo hi H Q => ∃ (a : Addr) (xs : List V), x = .ref a ∧ H a = some (.tup xs) ∧ ∀ (p : Addr) (H' : Hp), Same H H' → H' p = some (.tup (cutV xs lo hi)) → Q (.ref p) H'
theorem sl_tupH {X : Cx} : SlR X rSlH := by
  intro pins s σ H x v vl vu lo hi sl Q I rx hs pl pu h
  obtain ⟨a, xs, rfl, ha, q⟩ := h
  by_cases c : HT.sIx xs.length 0 lo = 0 ∧ HT.sIx xs.length xs.length hi = xs.length
  · cases rx
    obtain ⟨its, r, ht, hz⟩ := I.tuple (SqT.of ha)
    have hlen : its.toArray.size = xs.length := by rw [List.size_toArray]; exact r.length.symm
    refine ⟨"tuple", _, PyProof.Rows.slot_tuple_getitem.lookup, ht.typeIs, ?_⟩
    refine HT.getItem_tuple_all ht hs pl pu (by rw [hlen]; exact c) ⟨.ref a, H, I, rfl, q a H (Same.refl _) ?_⟩
    have : cutV xs lo hi = xs := by
      unfold cutV
      rw [c.1, c.2]
      simp
    rw [this]
    exact ha
  · exact sl_tup pins s σ H (.ref a) v vl vu lo hi sl Q I rx hs pl pu ⟨a, xs, rfl, SqT.of ha, c, fun p hp => q p _ (same_new hp _) upd_same⟩
noncomputable def triT (b : Tri) : Tr := .tup [.v (.int b.1), .v (.int b.2.1), .v (.int b.2.2)]
theorem tri_tr {K : PySem.W.Frag} {H : Hp} : ∀ {ys : List V} {B : List Tri}, TrisAt H ys B → TrsIs K H ys (B.map triT)
  | [], [], _ => .nil
  | [], p :: P, h => by have := h.1; cases this
  | y :: ys, [], h => by have := h.1; cases this
  | y :: ys, b :: B, h => by
    obtain ⟨t, rfl, ht⟩ := h.2 0 y b rfl rfl
    exact .cons (.tup (SqT.of ht) (.cons (.flat rfl) (.cons (.flat rfl) (.cons (.flat rfl) .nil)))) (tri_tr ⟨Nat.succ.inj h.1, fun i x a p q => h.2 (i + 1) x a (by simpa using p) (by simpa using q)⟩)
theorem tri_dep : ∀ B : List Tri, depTs (B.map triT) ≤ 1
  | [] => Nat.zero_le _
  | b :: B => by
    rw [List.map_cons, depTs]
    have := tri_dep B
    have : depT (triT b) = 1 := by simp [triT, depT, depTs]
    omega

theorem TrisAt.app {H : Hp} {ys zs : List V} {B C : List Tri} (h : TrisAt H ys B) (g : TrisAt H zs C) : TrisAt H (ys ++ zs) (B ++ C) := by
  have a : All2 (fun x (b : Tri) => ∃ t, x = .ref t ∧ H t = some (.tup [.int b.1, .int b.2.1, .int b.2.2])) ys B := ⟨h.1, fun i x b p q => h.2 i x b p q⟩
  have c : All2 (fun x (b : Tri) => ∃ t, x = .ref t ∧ H t = some (.tup [.int b.1, .int b.2.1, .int b.2.2])) zs C := ⟨g.1, fun i x b p q => g.2 i x b p q⟩
  have := a.app c
  exact ⟨this.1, fun i x b p q => this.2 i x b p q⟩
end L2

set_option Elab.async false
set_option linter.all false
set_option maxRecDepth 100000
set_option maxHeartbeats 4000000
namespace L2
open PySem PySem.Spec PyProof.Rows

end L2

set_option Elab.async false
set_option linter.all false
set_option maxRecDepth 100000
set_option maxHeartbeats 4000000
namespace L2
open PySem PySem.Spec PyProof.Rows
end L2

set_option Elab.async false
set_option linter.all false
set_option maxRecDepth 100000
set_option maxHeartbeats 4000000
namespace L2
open PySem PySem.Spec PyProof.Rows
inductive Tw where
  | n (i : Int)
  | v (z : Str)
  | c (z : Str) (sp : List (Str × Int))
  | j (z : Str) (l r : Tw)
namespace Tw
end Tw
noncomputable def SpoAt (H : Hp) (x : V) (s : Str × Int) : Prop := ∃ t, x = .ref t ∧ H t = some (.tup [.str s.1, .int s.2])
theorem SpoAt.tk {H H' : Hp} {x : V} {s : Str × Int} (k : TK H H') (h : SpoAt H x s) : SpoAt H' x s := let ⟨t, e, h⟩ := h; ⟨t, e, k _ _ h⟩
end L2
namespace L2
open PySem
end L2
namespace L2
open PySem
end L2
namespace L2
open PySem
end L2
namespace L2
open PySem
end L2

set_option Elab.async false
set_option linter.all false
set_option maxRecDepth 100000
set_option maxHeartbeats 4000000
namespace L2
open PySem PySem.Spec PyProof.Rows
section
variable {prog : Program} {w : World} {A : Around} {E : Value → Shared → Prop} {s : Shared}
end
end L2

set_option Elab.async false
set_option linter.all false
set_option maxRecDepth 100000
set_option maxHeartbeats 4000000
namespace L2
open PySem PySem.Spec PyProof.Rows
section
variable {prog : Program} {w : World} {A : Around} {E : Value → Shared → Prop} {s : Shared}
end
end L2

set_option Elab.async false
set_option linter.all false
set_option maxRecDepth 100000
set_option maxHeartbeats 4000000
namespace L2
open PySem PySem.Spec PyProof.Rows
end L2

set_option Elab.async false
set_option linter.all false
set_option maxRecDepth 100000
set_option maxHeartbeats 4000000
namespace L2
open PySem PySem.Spec PyProof.Rows
section
variable {prog : Program} {w : World} {A : Around} {E : Value → Shared → Prop} {s : Shared}
end
end L2

set_option Elab.async false
set_option linter.all false
set_option maxRecDepth 100000
set_option maxHeartbeats 4000000
namespace L2
open PySem PySem.Spec PyProof.Rows
end L2

set_option Elab.async false
set_option linter.all false
set_option maxRecDepth 100000
set_option maxHeartbeats 4000000
namespace L2
open PySem PySem.Spec PyProof.Rows
end L2

set_option Elab.async false
set_option linter.all false
set_option maxRecDepth 100000
set_option maxHeartbeats 4000000
namespace L2
open PySem PySem.Spec PyProof.Rows
noncomputable def lkN (kn : List (Str × Int)) (z : Str) : Int := match kn.find? fun p => decide (p.1 = z) with
  | some p => p.2
  | none => 0
noncomputable def stW (kn : List (Str × Int)) (s : Str × Int) : Int := if s.1 = "" then s.2 else lkN kn s.1 + s.2
end L2

set_option Elab.async false
set_option linter.all false
set_option maxRecDepth 100000
set_option maxHeartbeats 4000000
namespace L2
open PySem PySem.Spec PyProof.Rows
section
variable {prog : Program} {w : World} {A : Around} {E : Value → Shared → Prop} {s : Shared}
end
end L2

set_option linter.all false
namespace Pw
variable {T S : Type}
end Pw

set_option Elab.async false
set_option linter.all false
set_option maxRecDepth 100000
set_option maxHeartbeats 4000000
namespace L2
open PySem PySem.Spec PyProof.Rows
structure LpT where
  nm : Str
  lo : Str × Int
  hi : Str × Int
structure Dw where
  loops : List LpT
  tbl : Str
  sp : List (Str × Int)
  tm : Tw
  path : List Int
end L2
namespace L2
open PySem
end L2
namespace L2
open PySem PySem.Spec PyProof.Rows
noncomputable def NL (H H' : Hp) : Prop := ∀ b o, H b = some o → (∀ xs, o ≠ .lst xs) → H' b = some o
theorem NL.upd {H : Hp} {l : Addr} {xs : List V} {o : HO} (hl : H l = some (.lst xs)) : NL H (upd H l o) := fun b ob hb hn => by
  rw [upd_ne (fun z => by rw [z, hl] at hb; cases hb; exact hn _ rfl)]
  exact hb
end L2

set_option linter.all false
namespace Pm
variable {S : Type} [DecidableEq S]
structure T4 (S : Type) where
  k : Nat
  a : Nat
  b : Bool
  z : S
noncomputable def tk3 (k : Nat) : Nat → List (Bool × S) → List (T4 S)
  | _, [] => []
  | a, t :: L => ⟨k, a, t.1, t.2⟩ :: tk3 k (a + 1) L
noncomputable def all3 : Nat → List (List (Bool × S)) → List (T4 S)
  | _, [] => []
  | k, L :: Ls => tk3 k 0 L ++ all3 (k + 1) Ls
theorem tk3_len (k : Nat) : ∀ (a : Nat) (L : List (Bool × S)), (tk3 k a L).length = L.length
  | _, [] => rfl
  | a, t :: L => by show (tk3 k (a + 1) L).length + 1 = L.length + 1; rw [tk3_len]
theorem tk3_snoc (k : Nat) : ∀ (a : Nat) (L : List (Bool × S)) (t : Bool × S), tk3 k a (L ++ [t]) = tk3 k a L ++ [⟨k, a + L.length, t.1, t.2⟩]
  | _, [], t => rfl
  | a, u :: L, t => by
    show _ :: tk3 k (a + 1) (L ++ [t]) = _ :: (tk3 k (a + 1) L ++ _)
    rw [tk3_snoc, show a + 1 + L.length = a + (u :: L).length by rw [List.length_cons]; omega]
theorem all3_snoc : ∀ (k : Nat) (Ls : List (List (Bool × S))) (L : List (Bool × S)), all3 k (Ls ++ [L]) = all3 k Ls ++ tk3 (k + Ls.length) 0 L
  | k, [], L => by show tk3 k 0 L ++ [] = [] ++ tk3 (k + 0) 0 L; rw [List.append_nil, List.nil_append, Nat.add_zero]
  | k, M :: Ls, L => by
    show tk3 k 0 M ++ all3 (k + 1) (Ls ++ [L]) = tk3 k 0 M ++ all3 (k + 1) Ls ++ _
    rw [all3_snoc, List.append_assoc, show k + 1 + Ls.length = k + (M :: Ls).length by rw [List.length_cons]; omega]
theorem all3_len : ∀ (k : Nat) (Ls : List (List (Bool × S))) (c : Nat), (∀ L ∈ Ls, L.length ≤ c) → (all3 k Ls).length ≤ c * Ls.length
  | _, [], c, _ => Nat.zero_le _
  | k, L :: Ls, c, h => by
    have h1 := all3_len (k + 1) Ls c fun x hx => h x (List.mem_cons_of_mem _ hx)
    have h2 := h L List.mem_cons_self
    show (tk3 k 0 L ++ all3 (k + 1) Ls).length ≤ _
    rw [List.length_append, tk3_len, List.length_cons, Nat.mul_succ]
    omega
noncomputable abbrev Q4 := Nat × Nat × Nat × Nat
noncomputable def ok (x y : T4 S) : Bool := decide (x.z = y.z) && (x.b || y.b)
noncomputable def in1 (x : T4 S) (T : List (T4 S)) : List Q4 := (T.filter (ok x)).map fun y => (x.k, x.a, y.k, y.a)
noncomputable def mtF (U T : List (T4 S)) : List Q4 := (U.map fun x => in1 x T).flatten
noncomputable def mt (T : List (T4 S)) : List Q4 := mtF T T
theorem in1_snoc (x y : T4 S) (T : List (T4 S)) : in1 x (T ++ [y]) = in1 x T ++ if ok x y = true then [(x.k, x.a, y.k, y.a)] else [] := by
  unfold in1
  rw [List.filter_append, List.map_append]
  by_cases c : ok x y = true
  · rw [if_pos c, List.filter_cons_of_pos c]; rfl
  · rw [if_neg c, List.filter_cons_of_neg c]; rfl
theorem mtF_snoc (U T : List (T4 S)) (x : T4 S) : mtF (U ++ [x]) T = mtF U T ++ in1 x T := by
  unfold mtF
  rw [List.map_append, List.flatten_append]
  show _ ++ (in1 x T ++ []) = _
  rw [List.append_nil]
theorem in1_len (x : T4 S) (T : List (T4 S)) : (in1 x T).length ≤ T.length := by
  unfold in1
  rw [List.length_map]
  exact List.length_filter_le _ _
theorem mtF_len (T : List (T4 S)) : ∀ U : List (T4 S), (mtF U T).length ≤ U.length * T.length
  | [] => Nat.zero_le _
  | x :: U => by
    have h1 := mtF_len T U
    have h2 := in1_len x T
    show (in1 x T ++ mtF U T).length ≤ _
    rw [List.length_append, List.length_cons, Nat.succ_mul]
    omega
theorem pref_ex (f g : Nat → Int) : ∀ m : Nat, ∃ k, k ≤ m ∧ (∀ e < k, f e = g e) ∧ (k < m → f k ≠ g k)
  | 0 => ⟨0, Nat.le_refl _, fun e he => absurd he (Nat.not_lt_zero _), fun h => absurd h (Nat.not_lt_zero _)⟩
  | m + 1 => by
    obtain ⟨k, h1, h2, h3⟩ := pref_ex f g m
    by_cases c : k < m
    · exact ⟨k, by omega, h2, fun _ => h3 c⟩
    · have e : k = m := by omega
      subst e
      by_cases d : f k = g k
      · exact ⟨k + 1, Nat.le_refl _, fun e he => by
          by_cases c2 : e = k
          · rw [c2]; exact d
          · exact h2 e (by omega), fun h => absurd h (Nat.lt_irrefl _)⟩
      · exact ⟨k, by omega, h2, fun _ => d⟩
end Pm

set_option Elab.async false
set_option linter.all false
set_option maxRecDepth 100000
set_option maxHeartbeats 4000000
namespace L2
open PySem PySem.Spec PyProof.Rows
structure R5 where
  n : Nat
  path : List Int
  z : Str
  p : Addr
  m : Nat
  rs : Reads
noncomputable def tl5 (R : R5) : List (Bool × Str) := (true, R.z) :: R.rs.map fun r => (false, r.1)
structure R5.Ok (R : R5) : Prop where
  n3 : R.n ≤ 3
  pl : R.path.length = R.n + 1
  ms : R.m ≤ 30
  rl : R.rs.length ≤ R.m
theorem tl5_len {R : R5} (h : R.Ok) : (tl5 R).length ≤ 31 := by
  unfold tl5
  rw [List.length_cons, List.length_map]
  have := h.rl
  have := h.ms
  omega
theorem SpAt.tk {H H' : Hp} {p : Addr} (h : SpAt H p) (e : TK H H') : SpAt H' p := by
  obtain ⟨xs, h1, h2, h3⟩ := h
  exact ⟨xs, e _ _ h1, h2, fun v hv => let ⟨t, z, n, a, b⟩ := h3 v hv; ⟨t, z, n, a, e _ _ b⟩⟩
theorem TmT.tk {H H' : Hp} (e : TK H H') {n : Nat} {x : V} {rs : Reads} (h : TmT H n x rs) : TmT H' n x rs := by
  induction h with
  | n i h => exact .n i (e _ _ h)
  | v z h => exact .v z (e _ _ h)
  | c z h hp => exact .c z (e _ _ h) (hp.tk e)
  | j z hz h _ _ a b => exact .j z hz (e _ _ h) a b
noncomputable def R5At (H : Hp) (v : V) (R : R5) : Prop := ∃ (r u1 u4 : Addr) (v1 v2 x : V) (ys : List V), v = .ref r ∧ H r = some (.tup [.ref u1, v1, v2, .str R.z, .ref R.p, x, .ref u4]) ∧ H u1 = some (.tup ys) ∧ ys.length = R.n ∧ (∀ y ∈ ys, ∃ z, y = V.str z) ∧ H u4 = some (.tup (R.path.map V.int)) ∧ TmT H R.m x R.rs
theorem R5At.tk {H H' : Hp} {v : V} {R : R5} (h : R5At H v R) (e : TK H H') : R5At H' v R := by
  obtain ⟨r, u1, u4, v1, v2, x, ys, a, b, c, d, f, g, k⟩ := h
  exact ⟨r, u1, u4, v1, v2, x, ys, a, e _ _ b, e _ _ c, d, f, e _ _ g, k.tk e⟩
theorem R5At.over {H H' : Hp} {v : V} {R : R5} (h : R5At H v R) (e : Same H H') : R5At H' v R := h.tk (Same.tk e)
noncomputable def R5sAt (H : Hp) (l : Addr) (Rs : List R5) : Prop := ∃ xs, H l = some (.lst xs) ∧ All2 (R5At H) xs Rs
theorem TmO.nl {c : Cs} {H H' : Hp} (e : NL H H') {n : Nat} {x : V} {rs : Reads} (h : TmO c H n x rs) : TmO c H' n x rs := by
  induction h with
  | num i h => exact .num i (e _ _ h (fun _ z => by cases z))
  | val z h => exact .val z (e _ _ h (fun _ z => by cases z))
  | cel z h => exact .cel z (e _ _ h (fun _ z => by cases z))
  | joi z h _ _ a b => exact .joi z (e _ _ h (fun _ z => by cases z)) a b
noncomputable def D5At (c : Cs) (C : Addr) (H : Hp) (v : V) (R : R5) : Prop := ∃ (d dx nm pt : Addr) (v2 v3 x : V) (ys : List V), v = .ref d ∧ H d = some (.ins C dx [("names", .ref nm), ("lows", v2), ("highs", v3), ("table", .str R.z), ("spots", .ref R.p), ("term", x), ("path", .ref pt)]) ∧ H nm = some (.tup ys) ∧ ys.length = R.n ∧ H pt = some (.tup (R.path.map V.int)) ∧ TmO c H R.m x R.rs
theorem D5At.nl {c : Cs} {C : Addr} {H H' : Hp} {v : V} {R : R5} (h : D5At c C H v R) (e : NL H H') : D5At c C H' v R := by
  obtain ⟨d, dx, nm, pt, v2, v3, x, ys, a, b, f, g, k, l⟩ := h
  exact ⟨d, dx, nm, pt, v2, v3, x, ys, a, e _ _ b (fun _ z => by cases z), e _ _ f (fun _ z => by cases z), g, e _ _ k (fun _ z => by cases z), l.nl e⟩
theorem Same.nl {H H' : Hp} (e : Same H H') : NL H H' := fun b o h _ => e b o h
theorem D5At.over {c : Cs} {C : Addr} {H H' : Hp} {v : V} {R : R5} (h : D5At c C H v R) (e : Same H H') : D5At c C H' v R := h.nl e.nl
noncomputable def P5At (CP C : Addr) (c : Cs) (H : Hp) (v : V) (Rs : List R5) : Prop := ∃ (x dx dl : Addr) (sz : V) (xs : List V), v = .ref x ∧ H x = some (.ins CP dx [("size", sz), ("deeds", .ref dl)]) ∧ H dl = some (.lst xs) ∧ All2 (D5At c C H) xs Rs
noncomputable def spSize55 (K : PySem.W.Frag) : Sp := fun vs H Q _ => ∃ (sc : Addr) (ns : List Int), vs = [.ref sc] ∧ SqL K H sc (ns.map V.int) ∧ ns.length ≤ 63 ∧ ∀ (H' : Hp) (n : Int), Same H H' → Q (.int n) H'
noncomputable def ThAt (H : Hp) (y : V) (b : Bool × Str) : Prop := ∃ u p, y = .ref u ∧ H u = some (.tup [.bl b.1, .str b.2, .ref p])
theorem rds_th {H : Hp} {f : Str × Addr → List V} (hf : ∀ r, f r = [.bl false, .str r.1, .ref r.2]) {ys : List V} {rs : Reads} (h : RdsAt H f ys rs) : All2 (ThAt H) ys (rs.map fun r => (false, r.1)) := by
  refine ⟨by rw [List.length_map]; exact h.1, fun i x a hx ha => ?_⟩
  rw [List.getElem?_map] at ha
  cases hr : rs[i]? with
  | none => rw [hr] at ha; cases ha
  | some r =>
    rw [hr] at ha
    cases ha
    obtain ⟨t, rfl, ht⟩ := h.2 i x r hx hr
    rw [hf] at ht
    exact ⟨t, r.2, rfl, ht⟩
theorem tch_th {H : Hp} {l : Addr} {R : R5} (h : TchAt H l R.z R.p R.rs) : ∃ xs, H l = some (.lst xs) ∧ All2 (ThAt H) xs (tl5 R) := by
  obtain ⟨t, ys, h1, h2, h3⟩ := h
  exact ⟨_, h1, .cons ⟨t, R.p, rfl, h2⟩ (rds_th (fun _ => rfl) h3)⟩
noncomputable abbrev T5 := Pm.T4 Str
noncomputable def T3At (H : Hp) (y : V) (x : T5) : Prop := ∃ t u p, y = .ref t ∧ H t = some (.tup [.int (x.k : Int), .int (x.a : Int), .ref u]) ∧ H u = some (.tup [.bl x.b, .str x.z, .ref p])
theorem T3At.tk {H H' : Hp} {y : V} {x : T5} (h : T3At H y x) (e : TK H H') : T3At H' y x := let ⟨t, u, p, a, b, c⟩ := h; ⟨t, u, p, a, e _ _ b, e _ _ c⟩
theorem T3At.over {H H' : Hp} {y : V} {x : T5} (h : T3At H y x) (e : Same H H') : T3At H' y x := h.tk (Same.tk e)
noncomputable abbrev al5 (Rs : List R5) : List T5 := Pm.all3 0 (Rs.map tl5)
theorem al5_len {Rs : List R5} (h : ∀ R ∈ Rs, R.Ok) (n : Rs.length ≤ 6) : (al5 Rs).length ≤ 186 := by
  have := Pm.all3_len 0 (Rs.map tl5) 31 fun L hL => by
    obtain ⟨R, hR, rfl⟩ := List.mem_map.mp hL
    exact tl5_len (h R hR)
  rw [List.length_map] at this
  have h2 : 31 * Rs.length ≤ 31 * 6 := Nat.mul_le_mul_left _ n
  show (Pm.all3 0 (Rs.map tl5)).length ≤ 186
  omega
noncomputable def Q4At (H : Hp) (y : V) (q : Pm.Q4) : Prop := ∃ t, y = .ref t ∧ H t = some (.tup [.int (q.1 : Int), .int (q.2.1 : Int), .int (q.2.2.1 : Int), .int (q.2.2.2 : Int)])
theorem Q4At.tk {H H' : Hp} {y : V} {x : Pm.Q4} (h : Q4At H y x) (e : TK H H') : Q4At H' y x := let ⟨t, a, b⟩ := h; ⟨t, a, e _ _ b⟩
theorem Q4At.over {H H' : Hp} {y : V} {x : Pm.Q4} (h : Q4At H y x) (e : Same H H') : Q4At H' y x := h.tk (Same.tk e)
noncomputable def Q4sAt (H : Hp) (l : Addr) (L : List Pm.Q4) : Prop := ∃ ys, H l = some (.lst ys) ∧ All2 (Q4At H) ys L
noncomputable def spMeetsL55 : Sp := fun vs H Q _ => ∃ (l : Addr) (Rs : List R5), vs = [.ref l] ∧ R5sAt H l Rs ∧ (∀ R ∈ Rs, R.Ok) ∧ Rs.length ≤ 6 ∧ ∀ (r : Addr) (H' : Hp), Same H H' → Q4sAt H' r (Pm.mt (al5 Rs)) → Q (.ref r) H'
theorem ne_same5 {K : PySem.W.Frag} {H : Hp} {x y : Addr} {t : Tr} {Q : VK} (hx : TrIs K H (.ref x) t) (hy : TrIs K H (.ref y) t) (hd : depT t ≤ 60) (h : Q (.bl false) H) : rEqX K true (.ref x) (.ref y) H Q := by
  refine ⟨t, t, hx, hy, ⟨_, rfl⟩, ⟨_, rfl⟩, simT_refl t, hd, ?_⟩
  rw [eqT_refl t hx.ok]
  exact h
noncomputable def Pf5 (R S : R5) (k : Nat) : Prop := k ≤ R.n ∧ k ≤ S.n ∧ (∀ e < k, R.path.getD e 0 = S.path.getD e 0) ∧ (k < min R.n S.n → R.path.getD k 0 ≠ S.path.getD k 0)
theorem pf_ex (R S : R5) : ∃ k, Pf5 R S k := by
  obtain ⟨k, h1, h2, h3⟩ := Pm.pref_ex (fun e => R.path.getD e 0) (fun e => S.path.getD e 0) (min R.n S.n)
  exact ⟨k, by omega, by omega, h2, h3⟩
noncomputable def spShared55 (C : Addr) (c : Cs) : Sp := fun vs H Q _ => ∃ (x y : V) (R S : R5) (k : Nat), vs = [x, y] ∧ D5At c C H x R ∧ D5At c C H y S ∧ R.Ok ∧ S.Ok ∧ Pf5 R S k ∧ Q (.int (k : Int)) H
noncomputable def spSharedL55 : Sp := fun vs H Q _ => ∃ (x y : V) (R S : R5) (k : Nat), vs = [x, y] ∧ R5At H x R ∧ R5At H y S ∧ R.Ok ∧ S.Ok ∧ Pf5 R S k ∧ Q (.int (k : Int)) H
noncomputable def caN (k l s : Nat) : Nat := if k < l then s + 1 else s
noncomputable def spCases55 (CP C : Addr) (c : Cs) : Sp := fun vs H Q _ => ∃ (v : V) (Rs : List R5) (k l s : Nat) (R S : R5), vs = [v, .int (k : Int), .int (l : Int)] ∧ P5At CP C c H v Rs ∧ (∀ R ∈ Rs, R.Ok) ∧ Rs[k]? = some R ∧ Rs[l]? = some S ∧ Pf5 R S s ∧ ∀ (r : Addr) (H' : Hp), Same H H' → H r = none → H' r = some (.lst ((List.range (caN k l s)).map fun i : Nat => V.int (i : Int))) → Q (.ref r) H'
noncomputable def spCasesL55 : Sp := fun vs H Q _ => ∃ (a : Addr) (Rs : List R5) (k l s : Nat) (R S : R5), vs = [.ref a, .int (k : Int), .int (l : Int)] ∧ R5sAt H a Rs ∧ (∀ R ∈ Rs, R.Ok) ∧ Rs[k]? = some R ∧ Rs[l]? = some S ∧ Pf5 R S s ∧ ∀ (r : Addr) (H' : Hp), Same H H' → H' r = some (.lst ((List.range (caN k l s)).map fun i : Nat => V.int (i : Int))) → Q (.ref r) H'
theorem rng_tr {K : PySem.W.Frag} {H : Hp} {l : Addr} {n : Nat} (h : H l = some (.lst ((List.range n).map fun i : Nat => V.int (i : Int)))) : TrIs K H (.ref l) (.lst (((List.range n).map fun i : Nat => (i : Int)).map fun i => Tr.v (.int i))) := by
  have e : ((List.range n).map fun i : Nat => V.int (i : Int)) = ((List.range n).map fun i : Nat => (i : Int)).map V.int := by rw [List.map_map]; rfl
  rw [e] at h
  exact .lst (SqL.of h) (ints_tr _)
end L2

set_option Elab.async false
set_option linter.all false
set_option maxRecDepth 100000
set_option maxHeartbeats 4000000
namespace L2
open PySem PySem.Spec PyProof.Rows
structure Lp where
  nm : Str
  lz : Str
  ln : Int
  hz : Str
  hn : Int
  ab : Int
  tn : Int
noncomputable def LpIs (H : Hp) (v : V) (q : Lp) : Prop := ∃ p p1 p2, v = .ref p ∧ H p = some (.tup [.str q.nm, .ref p1, .ref p2, .int q.ab, .int q.tn]) ∧ H p1 = some (.tup [.str q.lz, .int q.ln]) ∧ H p2 = some (.tup [.str q.hz, .int q.hn])
theorem LpIs.over {H H' : Hp} {v : V} {q : Lp} (h : LpIs H v q) (e : Same H H') : LpIs H' v q := by obtain ⟨p, p1, p2, a, b, c, d⟩ := h; exact ⟨p, p1, p2, a, e _ _ b, e _ _ c, e _ _ d⟩
theorem LpIs.tk {H H' : Hp} {v : V} {q : Lp} (h : LpIs H v q) (e : TK H H') : LpIs H' v q := by obtain ⟨p, p1, p2, a, b, c, d⟩ := h; exact ⟨p, p1, p2, a, e _ _ b, e _ _ c, e _ _ d⟩
noncomputable def Bs (S : List Lp) (z : Str) : Prop := z = "" ∨ ∃ r ∈ S, z = r.nm
noncomputable def StIs (H : Hp) (st : Addr) (S : List Lp) : Prop := ∃ vs, H st = some (.lst vs) ∧ All2 (LpIs H) vs S
noncomputable def nmF (c e : Int) : Str := sOf (nmC (mixF c 11) e)
noncomputable def NewLp (S : List Lp) (c : Int) (q : Lp) : Prop := q.nm = nmF c (((S.length : Int) + q.tn) % 3) ∧ 0 ≤ q.tn ∧ q.tn ≤ 2 ∧ (∀ r, S.head? = some r → q.tn = r.tn) ∧ Bs S q.lz ∧ Bs S q.hz
structure SOk (S : List Lp) (c : Int) : Prop where
  len : S.length ≤ 3
  tn : ∃ t : Int, 0 ≤ t ∧ t ≤ 2 ∧ ∀ (i : Nat) (q : Lp), S[i]? = some q → q.tn = t ∧ q.nm = nmF c (((i : Int) + t) % 3)
  bs : ∀ (i : Nat) (q : Lp), S[i]? = some q → Bs (S.take i) q.lz ∧ Bs (S.take i) q.hz
theorem SOk.nil (c : Int) : SOk [] c := ⟨Nat.zero_le _, ⟨0, by decide, by decide, fun i q h => by simp at h⟩, fun i q h => by simp at h⟩
theorem SOk.snoc {S : List Lp} {c : Int} {q : Lp} (h : SOk S c) (l : S.length < 3) (g : NewLp S c q) : SOk (S ++ [q]) c := by
  obtain ⟨g1, g2, g3, g4, g5, g6⟩ := g
  obtain ⟨t, t0, t1, ht⟩ := h.tn
  have tq : S = [] ∨ q.tn = t := by
    cases S with
    | nil => exact .inl rfl
    | cons r S => exact .inr ((g4 r rfl).trans (ht 0 r rfl).1)
  have get : ∀ (i : Nat) (r : Lp), (S ++ [q])[i]? = some r → (i < S.length ∧ S[i]? = some r) ∨ (i = S.length ∧ r = q) := fun i r hr => by
    by_cases c : i < S.length
    · rw [List.getElem?_append_left c] at hr
      exact .inl ⟨c, hr⟩
    · have : i = S.length := by
        have := (List.getElem?_eq_some_iff.mp hr).1
        rw [List.length_append, List.length_singleton] at this
        omega
      subst this
      rw [List.getElem?_append_right (Nat.le_refl _), Nat.sub_self] at hr
      cases hr
      exact .inr ⟨rfl, rfl⟩
  refine ⟨by rw [List.length_append, List.length_singleton]; omega, ⟨q.tn, g2, g3, fun i r hr => ?_⟩, fun i r hr => ?_⟩
  · rcases get i r hr with ⟨hi, hr⟩ | ⟨rfl, rfl⟩
    · rcases tq with rfl | e
      · simp at hr
      · rw [e]; exact ht i r hr
    · exact ⟨rfl, g1⟩
  · rcases get i r hr with ⟨hi, hr⟩ | ⟨rfl, rfl⟩
    · rw [List.take_append_of_le_length (by omega)]
      exact h.bs i r hr
    · rw [List.take_append_of_le_length (Nat.le_refl _), List.take_length]
      exact ⟨g5, g6⟩
noncomputable def nmsOf (S : List Lp) : List Str := S.map (·.nm)
theorem nms_nd {S : List Lp} {c : Int} (h : SOk S c) : (nmsOf S).Nodup := by
  obtain ⟨t, t0, t1, ht⟩ := h.tn
  have hl := h.len
  unfold nmsOf
  rw [List.nodup_iff_pairwise_ne, List.pairwise_iff_getElem]
  intro i j hi hj hij e
  rw [List.length_map] at hi hj
  rw [List.getElem_map, List.getElem_map, (ht i _ (List.getElem?_eq_getElem hi)).2, (ht j _ (List.getElem?_eq_getElem hj)).2] at e
  have e := congrArg cds e
  unfold nmF at e
  rw [cds_sOf, cds_sOf] at e
  have a0 := Int.emod_nonneg ((i : Int) + t) (show (3 : Int) ≠ 0 by decide)
  have a1 := Int.emod_lt_of_pos ((i : Int) + t) (show (0 : Int) < 3 by decide)
  have b0 := Int.emod_nonneg ((j : Int) + t) (show (3 : Int) ≠ 0 by decide)
  have b1 := Int.emod_lt_of_pos ((j : Int) + t) (show (0 : Int) < 3 by decide)
  exact nmC_ne (by omega) (by omega) (by omega) (by omega) (fun z => by omega) e
theorem nms_ne {S : List Lp} {c : Int} (h : SOk S c) : ∀ z ∈ nmsOf S, z ≠ "" := fun z hz e => by
  obtain ⟨t, t0, t1, ht⟩ := h.tn
  unfold nmsOf at hz
  obtain ⟨q, hq, rfl⟩ := List.mem_map.mp hz
  obtain ⟨i, hi⟩ := List.mem_iff_getElem?.mp hq
  rw [(ht i q hi).2] at e
  have := congrArg (fun z => (cds z).length) e
  unfold nmF at this
  rw [cds_sOf] at this
  have a0 := Int.emod_nonneg ((i : Int) + t) (show (3 : Int) ≠ 0 by decide)
  have a1 := Int.emod_lt_of_pos ((i : Int) + t) (show (0 : Int) < 3 by decide)
  have b := (nmC_b (m := mixF c 11) (e := ((i : Int) + t) % 3) (by omega) (by omega)).1
  have : (nmC (mixF c 11) (((i : Int) + t) % 3)).length = 0 := this
  omega
theorem bs_at {S : List Lp} {i : Nat} {z : Str} (h : Bs (S.take i) z) : z = "" ∨ ∃ j : Nat, j < i ∧ (nmsOf S)[j]? = some z := by
  rcases h with h | ⟨r, hr, rfl⟩
  · exact .inl h
  · obtain ⟨j, hj⟩ := List.mem_iff_getElem?.mp hr
    have l := (List.getElem?_eq_some_iff.mp hj).1
    rw [List.length_take] at l
    rw [List.getElem?_take_of_lt (by omega)] at hj
    exact .inr ⟨j, by omega, by unfold nmsOf; rw [List.getElem?_map, hj]; rfl⟩
theorem whose_at {zs : List Str} {j : Nat} {z : Str} (nd : zs.Nodup) (ne : ∀ z ∈ zs, z ≠ "") (h : zs[j]? = some z) (first : Int) : Whose zs z first (first + (j : Int)) := by
  refine .inr ⟨ne z (List.mem_of_getElem? h), j, h, fun m hm e => ?_, rfl⟩
  obtain ⟨l1, e1⟩ := List.getElem?_eq_some_iff.mp h
  obtain ⟨l2, e2⟩ := List.getElem?_eq_some_iff.mp e
  exact List.pairwise_iff_getElem.mp nd m j l2 l1 hm (by rw [e1, e2])

noncomputable def ArIs (kvs : List (Key × V)) (zs : List Str) (W : List Int) : Prop := ∀ (j : Nat) (z : Str), j < W.length → zs[j]? = some z → valV kvs (Sum.inr z : Key) = some (.int (W.getD j 0))
noncomputable def spAround : Sp := fun vs H Q _ => ∃ (nm vt : Addr) (zs : List Str) (W : List Int), vs = [.ref nm, .ref vt] ∧ H nm = some (.tup (zs.map V.str)) ∧ H vt = some (.tup (W.map V.int)) ∧ W.length ≤ zs.length ∧ zs.length ≤ 100 ∧ zs.Nodup ∧ ∀ (r : Addr) (kvs : List (Key × V)) (H' : Hp), Same H H' → H' r = some (.dK kvs) → ArIs kvs zs W → Q (.ref r) H'
noncomputable def StB (kvs : List (Key × V)) (z : Str) (b : Int) : Prop := (z = "" ∧ b = 0) ∨ (z ≠ "" ∧ valV kvs (Sum.inr z : Key) = some (.int b))
noncomputable def BV (zs : List Str) (W : List Int) (i : Nat) (z : Str) (b : Int) : Prop := (z = "" ∧ b = 0) ∨ (z ≠ "" ∧ ∃ j : Nat, j < i ∧ zs[j]? = some z ∧ b = W.getD j 0)
noncomputable def InAt (zs : List Str) (lz hz : Nat → Str) (ln hn : Nat → Int) (W : List Int) (i : Nat) : Prop := ∃ b b' : Int, BV zs W i (lz i) b ∧ BV zs W i (hz i) b' ∧ b + ln i ≤ W.getD i 0 ∧ W.getD i 0 ≤ b' + hn i
noncomputable def Bnds (zs : List Str) (lz : Nat → Str) (m : Nat) : Prop := ∀ i < m, lz i = "" ∨ (lz i ≠ "" ∧ ∃ j : Nat, j < i ∧ zs[j]? = some (lz i))
noncomputable def kval (first : Int) (W : List Int) (x : Int) : Int := if x = 0 then 0 else W.getD (x - first).toNat 0
noncomputable def KeyOk (first : Int) (W : List Int) (x : Int) : Prop := x = 0 ∨ ∃ j : Nat, j < W.length ∧ x = first + (j : Int)
noncomputable def holdB (first : Int) (W : List Int) (b : Tri) : Bool := decide (kval first W b.1 - kval first W b.2.1 ≤ b.2.2)
noncomputable def F52 (first : Int) (u ln : Nat → Int) (i : Nat) : Tri := (u i, first + (i : Int), -(ln i))
noncomputable def G52 (first : Int) (w hn : Nat → Int) (i : Nat) : Tri := (first + (i : Int), w i, hn i)
noncomputable def spLoopBonds (C : Addr) : Sp := fun vs H Q _ => ∃ (d dx nm lo hi : Addr) (v4 v5 v6 v7 : V) (first : Int) (zs : List Str) (lz hz : Nat → Str) (ln hn u w : Nat → Int), vs = [.ref d, .int first] ∧ H d = some (.ins C dx [("names", .ref nm), ("lows", .ref lo), ("highs", .ref hi), ("table", v4), ("spots", v5), ("term", v6), ("path", v7)]) ∧ H nm = some (.tup (zs.map V.str)) ∧ SptAt H lo zs.length lz ln ∧ SptAt H hi zs.length hz hn ∧ zs.length ≤ 100 ∧ (∀ i < zs.length, Whose zs (lz i) first (u i)) ∧ (∀ i < zs.length, Whose zs (hz i) first (w i)) ∧ ∀ (r : Addr) (ys : List V) (H' : Hp), Same H H' → H' r = some (.lst ys) → TrisAt H' ys (likeB (F52 first u ln) (G52 first w hn) zs.length) → Q (.ref r) H'
theorem for_zipU {K : PySem.W.Frag} {a b : Addr} {xs ys : List V} {g : TG} {tb : TS} {D : Ends} {σ : St} {H : Hp} (hlen : ys.length ≤ xs.length) (Pv : Nat → St → Hp → Prop) (h0 : Pv 0 σ H) (hl : ∀ i σ H, i ≤ ys.length → Pv i σ H → SqT K H a xs ∧ SqT K H b ys)
    (hs : ∀ i x y T σ H, xs[i]? = some x → ys[i]? = some y → Pv i σ H → H T = none → g (.ref T) σ (upd H T (.tup [x, y])) fun σ2 H2 => tb { D with nx := Pv (i + 1), ct := Pv (i + 1), bk := D.nx } σ2 H2) (hd : ∀ σ H, Pv ys.length σ H → D.nx σ H) :
    ∃ W : Nat → Nat → St → Hp → Prop, (∃ m, W 0 m σ H) ∧ ∀ i m σ H, W i m σ H →
      ((Ity K a b).stop i H ∧ D.nx σ H) ∨ ((Ity K a b).go i H ∧ ∃ N : St → Hp → Prop, (∀ σ' H', N σ' H' → ∃ m', m' < m ∧ W (i + 1) m' σ' H') ∧ ∀ x H', (Ity K a b).yld i H x H' → g x σ H' fun σ2 H2 => tb { D with nx := N, ct := N, bk := D.nx } σ2 H2) := by
  refine ⟨fun i m σ H => m = ys.length - i ∧ i ≤ ys.length ∧ Pv i σ H, ⟨ys.length, by simp, Nat.zero_le _, h0⟩, ?_⟩
  rintro i m σ H ⟨rfl, hi, p⟩
  obtain ⟨q1, q2⟩ := hl i σ H hi p
  by_cases hlt : i < ys.length
  · refine .inr ⟨⟨xs, ys, xs[i], ys[i], q1, q2, List.getElem?_eq_getElem (by omega), List.getElem?_eq_getElem hlt⟩, Pv (i + 1), fun σ' H' p' => ⟨ys.length - (i + 1), by omega, rfl, hlt, p'⟩, fun v H' yy => ?_⟩
    obtain ⟨x, y, T, hx, hy, hT, rfl, rfl⟩ := yy
    exact hs i x y T σ H (hx xs q1) (hy ys q2) p hT
  · have e : i = ys.length := by omega
    subst e
    exact .inl ⟨⟨xs, ys, q1, q2, by omega, Nat.le_refl _, .inr rfl⟩, hd σ H p⟩
theorem BV.inj {zs : List Str} {W : List Int} {b b' : Int} {i : Nat} {z : Str} (nd : zs.Nodup) (h : BV zs W i z b) (g : BV zs W i z b') : b = b' := by
  rcases h with ⟨h, rfl⟩ | ⟨h, j, h1, h2, rfl⟩ <;> rcases g with ⟨g, rfl⟩ | ⟨g, k, g1, g2, rfl⟩
  · rfl
  · exact absurd h g
  · exact absurd g h
  · obtain ⟨l1, e1⟩ := List.getElem?_eq_some_iff.mp h2
    obtain ⟨l2, e2⟩ := List.getElem?_eq_some_iff.mp g2
    have : j = k := by
      rcases Nat.lt_trichotomy j k with c | c | c
      · exact absurd (by rw [e1, e2]) (List.pairwise_iff_getElem.mp nd j k l1 l2 c)
      · exact c
      · exact absurd (by rw [e1, e2]) (List.pairwise_iff_getElem.mp nd k j l2 l1 c)
    rw [this]
theorem st_of {zs : List Str} {kvs : List (Key × V)} {W : List Int} {lz : Nat → Str} {i m : Nat} (hb : Bnds zs lz m) (hi : i < m) (hw : W.length = i) (ha : ArIs kvs zs W) : ∃ b, StB kvs (lz i) b ∧ BV zs W i (lz i) b := by
  rcases hb i hi with h | ⟨h, j, h1, h2⟩
  · exact ⟨0, .inl ⟨h, rfl⟩, .inl ⟨h, rfl⟩⟩
  · exact ⟨W.getD j 0, .inr ⟨h, ha j _ (by omega) h2⟩, .inr ⟨h, j, h1, h2, rfl⟩⟩
end L2
namespace PySem
open Builtin
open AutoSeq1 (wpAny_loadPart')
end PySem
namespace L2
open PySem PySem.Spec PyProof.Rows
noncomputable def cellD (ns : List Int) (k : Int) : Int := if k < (ns.length : Int) then ns.getD k.toNat 0 else
  if 0 < ns.length then ((ns.getD (k * 7 % (ns.length : Int)).toNat 0 * 48271 + k * 7919) % 2147483647) * ((ns.getD (k * 7 % (ns.length : Int)).toNat 0 * 48271 + k * 7919) % 2147483647) % 2147483629 else (k * 7919 + 5) * (k * 7919 + 5) % 2147483629
noncomputable def spCellD (K : PySem.W.Frag) : Sp := fun vs H Q _ => ∃ (p : Addr) (ns : List Int) (k : Int), vs = [.ref p, .int k] ∧ SqL K H p (ns.map V.int) ∧ 0 ≤ k ∧ k ≤ 1000000 ∧ Q (.int (cellD ns k)) H

noncomputable def UB (zs : List Str) (lz : Nat → Str) (first : Int) (u : Nat → Int) (i : Nat) : Prop := (lz i = "" ∧ u i = 0) ∨ (lz i ≠ "" ∧ ∃ j : Nat, j < i ∧ zs[j]? = some (lz i) ∧ u i = first + (j : Int))
theorem likeB_mem {F G : Nat → Tri} {m : Nat} {b : Tri} (h : b ∈ likeB F G m) : ∃ i, i < m ∧ (b = F i ∨ b = G i) := by
  induction m with
  | zero => cases h
  | succ m ih =>
    rw [likeB] at h
    rcases List.mem_append.mp h with h | h
    · rcases List.mem_append.mp h with h | h
      · obtain ⟨i, hi, e⟩ := ih h
        exact ⟨i, by omega, e⟩
      · rw [List.mem_singleton] at h; exact ⟨m, by omega, .inl h⟩
    · rw [List.mem_singleton] at h; exact ⟨m, by omega, .inr h⟩
theorem likeB_all {F G : Nat → Tri} {p : Tri → Bool} {m : Nat} : (likeB F G m).all p = true ↔ ∀ i < m, p (F i) = true ∧ p (G i) = true := by
  induction m with
  | zero => exact ⟨fun _ i hi => by omega, fun _ => rfl⟩
  | succ m ih =>
    rw [likeB, List.all_append, List.all_append, Bool.and_eq_true, Bool.and_eq_true, ih]
    simp only [List.all_cons, List.all_nil, Bool.and_true]
    constructor
    · rintro ⟨⟨h, h1⟩, h2⟩ i hi
      by_cases c : i < m
      · exact h i c
      · have : i = m := by omega
        subst this
        exact ⟨h1, h2⟩
    · intro h
      exact ⟨⟨fun i hi => h i (by omega), (h m (by omega)).1⟩, (h m (by omega)).2⟩
theorem ub_key {zs : List Str} {lz : Nat → Str} {first : Int} {u : Nat → Int} {i : Nat} {W : List Int} (h : UB zs lz first u i) (hi : i < W.length) : KeyOk first W (u i) := by
  rcases h with ⟨_, e⟩ | ⟨_, j, h1, _, e⟩
  · exact .inl e
  · exact .inr ⟨j, by omega, e⟩
theorem ub_bv {zs : List Str} {lz : Nat → Str} {first : Int} {u : Nat → Int} {i : Nat} {W : List Int} (f1 : 1 ≤ first) (h : UB zs lz first u i) : BV zs W i (lz i) (kval first W (u i)) := by
  unfold kval
  rcases h with ⟨a, e⟩ | ⟨a, j, h1, h2, e⟩
  · rw [e, if_pos rfl]; exact .inl ⟨a, rfl⟩
  · rw [e, if_neg (by omega), show (first + (j : Int) - first).toNat = j by omega]
    exact .inr ⟨a, j, h1, h2, rfl⟩
theorem ub_whose {zs : List Str} {lz : Nat → Str} {first : Int} {u : Nat → Int} {i : Nat} (nd : zs.Nodup) (ne : ∀ z ∈ zs, z ≠ "") (h : UB zs lz first u i) : Whose zs (lz i) first (u i) := by
  rcases h with ⟨a, e⟩ | ⟨a, j, h1, h2, e⟩
  · exact .inl ⟨a, e⟩
  · rw [e]; exact whose_at nd ne h2 first
theorem ub_of {zs : List Str} {lz : Nat → Str} {m : Nat} (h : Bnds zs lz m) (first : Int) : ∃ u : Nat → Int, ∀ i < m, UB zs lz first u i := by
  have ex : ∀ i, i < m → ∃ v : Int, (lz i = "" ∧ v = 0) ∨ (lz i ≠ "" ∧ ∃ j : Nat, j < i ∧ zs[j]? = some (lz i) ∧ v = first + (j : Int)) := fun i hi => by
    rcases h i hi with a | ⟨a, j, h1, h2⟩
    · exact ⟨0, .inl ⟨a, rfl⟩⟩
    · exact ⟨first + (j : Int), .inr ⟨a, j, h1, h2, rfl⟩⟩
  refine ⟨fun i => if h : i < m then (ex i h).choose else 0, fun i hi => ?_⟩
  unfold UB
  simp only [dif_pos hi]
  exact (ex i hi).choose_spec
theorem all_in {zs : List Str} {lz hz : Nat → Str} {ln hn u w : Nat → Int} {W : List Int} {first : Int} {m : Nat} (nd : zs.Nodup) (f1 : 1 ≤ first) (hu : ∀ i < m, UB zs lz first u i) (hw : ∀ i < m, UB zs hz first w i) : (likeB (F52 first u ln) (G52 first w hn) m).all (holdB first W) = true ↔ ∀ i < m, InAt zs lz hz ln hn W i := by
  rw [likeB_all]
  have own : ∀ i : Nat, kval first W (first + (i : Int)) = W.getD i 0 := fun i => by
    unfold kval
    rw [if_neg (by omega), show (first + (i : Int) - first).toNat = i by omega]
  constructor
  · intro h i hi
    obtain ⟨h1, h2⟩ := h i hi
    have h1 := of_decide_eq_true h1
    have h2 := of_decide_eq_true h2
    simp only [F52, G52, own] at h1 h2
    exact ⟨_, _, ub_bv f1 (hu i hi), ub_bv f1 (hw i hi), by omega, by omega⟩
  · intro h i hi
    obtain ⟨b, b', h1, h2, h3, h4⟩ := h i hi
    have e1 := BV.inj nd h1 (ub_bv f1 (hu i hi))
    have e2 := BV.inj nd h2 (ub_bv f1 (hw i hi))
    subst e1 e2
    constructor
    · refine decide_eq_true ?_
      simp only [F52, own]
      omega
    · refine decide_eq_true ?_
      simp only [G52, own]
      omega
noncomputable def lzF (S : List Lp) (i : Nat) : Str := ((S[i]?).map (·.lz)).getD ""
noncomputable def hzF (S : List Lp) (i : Nat) : Str := ((S[i]?).map (·.hz)).getD ""
noncomputable def lnF (S : List Lp) (i : Nat) : Int := ((S[i]?).map (·.ln)).getD 0
noncomputable def hnF (S : List Lp) (i : Nat) : Int := ((S[i]?).map (·.hn)).getD 0
theorem bnds_of {S : List Lp} {c : Int} (h : SOk S c) : Bnds (nmsOf S) (lzF S) S.length ∧ Bnds (nmsOf S) (hzF S) S.length := by
  have key : ∀ (i : Nat) (z : Str), Bs (S.take i) z → z = "" ∨ (z ≠ "" ∧ ∃ j : Nat, j < i ∧ (nmsOf S)[j]? = some z) := fun i z hz => by
    by_cases e : z = ""
    · exact .inl e
    · rcases bs_at hz with e' | ⟨j, h1, h2⟩
      · exact absurd e' e
      · exact .inr ⟨e, j, h1, h2⟩
  constructor
  · intro i hi
    have hs := List.getElem?_eq_getElem hi
    have := (h.bs i _ hs).1
    unfold lzF
    rw [hs]
    exact key i _ this
  · intro i hi
    have hs := List.getElem?_eq_getElem hi
    have := (h.bs i _ hs).2
    unfold hzF
    rw [hs]
    exact key i _ this
end L2

set_option linter.all false
namespace Tn
open Pw
variable {T S : Type}
noncomputable def rng (lo hi : Int) : List Int := (List.range (hi + 1 - lo).toNat).map fun (i : Nat) => lo + (i : Int)
theorem mem_rng {lo hi v : Int} : v ∈ rng lo hi ↔ lo ≤ v ∧ v ≤ hi := by
  unfold rng
  rw [List.mem_map]
  constructor
  · rintro ⟨i, hi, rfl⟩
    rw [List.mem_range] at hi
    omega
  · intro h
    exact ⟨(v - lo).toNat, by rw [List.mem_range]; omega, by omega⟩
theorem rng_len {lo hi : Int} : (rng lo hi).length = (hi + 1 - lo).toNat := by
  unfold rng
  rw [List.length_map, List.length_range]
theorem rng_get {lo hi : Int} {i : Nat} (h : i < (hi + 1 - lo).toNat) : (rng lo hi)[i]? = some (lo + (i : Int)) := by
  unfold rng
  rw [List.getElem?_map, List.getElem?_range h]
  rfl
theorem flat_len {α β : Type} {f : α → List β} : ∀ {l : List α} {i : Nat} {x : α}, l[i]? = some x → ((l.take i).flatMap f).length + (f x).length ≤ (l.flatMap f).length
  | [], i, x, h => by cases h
  | y :: l, 0, x, h => by
    cases h
    show 0 + (f y).length ≤ (f y ++ l.flatMap f).length
    rw [List.length_append]
    omega
  | y :: l, i + 1, x, h => by
    have := flat_len (f := f) (l := l) (i := i) (x := x) h
    show (f y ++ (l.take i).flatMap f).length + (f x).length ≤ (f y ++ l.flatMap f).length
    rw [List.length_append, List.length_append]
    omega
theorem take_at {l m : List Int} {c n : Nat} (h : l.take n = m.take n) (hc : c < n) : l.getD c 0 = m.getD c 0 := by
  have e : (l.take n)[c]? = (m.take n)[c]? := by rw [h]
  rw [List.getElem?_take, List.getElem?_take, if_pos hc, if_pos hc] at e
  rw [List.getD_eq_getElem?_getD, List.getD_eq_getElem?_getD, e]
theorem take_le {α : Type} {l m : List α} {c n : Nat} (h : l.take n = m.take n) (hc : c ≤ n) : l.take c = m.take c := by
  have := congrArg (List.take c) h
  rw [List.take_take, List.take_take, Nat.min_eq_left hc] at this
  exact this
theorem take_s {l : List Int} {n : Nat} (h : n < l.length) : l.take (n + 1) = l.take n ++ [l.getD n 0] := by
  rw [List.take_succ, List.getD_eq_getElem?_getD, List.getElem?_eq_getElem h]
  rfl
noncomputable def lv (b : List Int → Int × Int) : Nat → List (List Int)
  | 0 => [[]]
  | n + 1 => (lv b n).flatMap fun vs => (rng (b vs).1 (b vs).2).map fun v => vs ++ [v]
theorem mem_lv {b : List Int → Int × Int} : ∀ {n : Nat} {w : List Int}, w ∈ lv b n ↔ w.length = n ∧ ∀ e, e < n → (b (w.take e)).1 ≤ w.getD e 0 ∧ w.getD e 0 ≤ (b (w.take e)).2
  | 0, w => by
    show w ∈ [[]] ↔ _
    rw [List.mem_singleton]
    exact ⟨fun e => by subst e; exact ⟨rfl, fun e h => absurd h (Nat.not_lt_zero _)⟩, fun h => List.eq_nil_of_length_eq_zero h.1⟩
  | n + 1, w => by
    show w ∈ (lv b n).flatMap _ ↔ _
    rw [List.mem_flatMap]
    constructor
    · rintro ⟨vs, hv, hw⟩
      obtain ⟨v, hv1, rfl⟩ := List.mem_map.mp hw
      obtain ⟨l, hb⟩ := mem_lv.mp hv
      refine ⟨by rw [List.length_append, l]; rfl, fun e he => ?_⟩
      rcases Nat.lt_or_ge e n with z | z
      · have := hb e z
        rw [List.take_append_of_le_length (by omega), List.getD_eq_getElem?_getD, List.getElem?_append_left (by omega), ← List.getD_eq_getElem?_getD]
        exact this
      · obtain rfl : e = n := by omega
        rw [List.take_append_of_le_length (by omega), List.take_of_length_le (by omega), List.getD_eq_getElem?_getD, List.getElem?_append_right (by omega), l, Nat.sub_self]
        exact mem_rng.mp hv1
    · rintro ⟨l, hb⟩
      refine ⟨w.take n, mem_lv.mpr ⟨by rw [List.length_take]; omega, fun e he => ?_⟩, List.mem_map.mpr ⟨w.getD n 0, mem_rng.mpr (hb n (Nat.lt_succ_self _)), (take_s (by omega)).symm.trans (List.take_of_length_le (by omega))⟩⟩
      have := hb e (by omega)
      rw [List.take_take, Nat.min_eq_left (by omega), List.getD_eq_getElem?_getD, List.getElem?_take, if_pos he, ← List.getD_eq_getElem?_getD]
      exact this
end Tn

set_option Elab.async false
set_option linter.all false
set_option maxRecDepth 100000
set_option maxHeartbeats 4000000
namespace L2
open PySem PySem.Spec PyProof.Rows
noncomputable def nms (D : Dw) : List Str := D.loops.map LpT.nm
noncomputable def bD (D : Dw) (vs : List Int) : Int × Int := match D.loops[vs.length]? with
  | some t => (stW ((nms D).zip vs) t.lo, stW ((nms D).zip vs) t.hi)
  | none => (0, -1)
noncomputable def Bt (l : Addr) (H H' : Hp) : Prop := ∀ b o, b ≠ l → H b = some o → H' b = some o
theorem Bt.tk {l : Addr} {H H' : Hp} {xs : List V} (h : Bt l H H') (hl : H l = some (.lst xs)) : TK H H' := fun b ys hb => h b _ (fun e => by rw [e, hl] at hb; cases hb) hb
theorem Bt.trans {l : Addr} {H H1 H2 : Hp} (a : Bt l H H1) (b : Bt l H1 H2) : Bt l H H2 := fun c o n h => b c o n (a c o n h)
theorem Bt.same {l : Addr} {H H' : Hp} (e : Same H H') : Bt l H H' := fun b o _ h => e b o h
theorem Bt.put {l : Addr} {H : Hp} {o : HO} : Bt l H (upd H l o) := fun b o n h => by rw [upd_ne n]; exact h
end L2

set_option Elab.async false
set_option linter.all false
set_option maxRecDepth 100000
set_option maxHeartbeats 4000000
namespace L2
open PySem PySem.Spec PyProof.Rows
theorem all2_snoc {α : Type} {R : V → α → Prop} {xs : List V} {as : List α} {x : V} {a : α} (h : All2 R (xs ++ [x]) (as ++ [a])) : All2 R xs as ∧ R x a := by
  obtain ⟨l, g⟩ := h
  rw [List.length_append, List.length_append, List.length_singleton, List.length_singleton] at l
  refine ⟨⟨by omega, fun i y b hy hb => g i y b ?_ ?_⟩, g xs.length x a ?_ ?_⟩
  · rw [List.getElem?_append_left (List.getElem?_eq_some_iff.mp hy).1]; exact hy
  · rw [List.getElem?_append_left (List.getElem?_eq_some_iff.mp hb).1]; exact hb
  · rw [List.getElem?_append_right (Nat.le_refl _), Nat.sub_self]; rfl
  · rw [show xs.length = as.length by omega, List.getElem?_append_right (Nat.le_refl _), Nat.sub_self]; rfl
noncomputable def Bq (S : List Lp) (z : Str) (k : Int) : Prop := (z = "" ∧ k = 0) ∨ ∃ r ∈ S, z = r.nm ∧ k = r.ab
theorem Bq.bs {S : List Lp} {z : Str} {k : Int} (h : Bq S z k) : Bs S z := by
  rcases h with ⟨h, _⟩ | ⟨r, hr, h, _⟩
  · exact .inl h
  · exact .inr ⟨r, hr, h⟩
noncomputable def BqAt (H : Hp) (S : List Lp) (vs : List V) : Prop := ∀ v ∈ vs, ∃ (t : Addr) (z : Str) (n : Int), v = .ref t ∧ H t = some (.tup [.str z, .int n]) ∧ Bq S z n
theorem BqAt.over {H H' : Hp} {S : List Lp} {vs : List V} (h : BqAt H S vs) (e : Same H H') : BqAt H' S vs := fun v hv => by
  obtain ⟨t, z, n, a, b, c⟩ := h v hv
  exact ⟨t, z, n, a, e _ _ b, c⟩
structure NewL (S : List Lp) (c : Int) (q : Lp) : Prop where
  nw : NewLp S c q
  ab : -(10 ^ 17) ≤ q.ab ∧ q.ab ≤ 10 ^ 17
  lo : ∃ k d, Bq S q.lz k ∧ q.ln = q.ab - k + d ∧ 0 ≤ d ∧ d ≤ 1
  hi : ∃ k m, Bq S q.hz k ∧ q.hn = q.ab - k + m ∧ -1 ≤ m ∧ m ≤ 3
noncomputable def spLoop31 : Sp := fun vs H Q _ => ∃ (n far c : Int) (st : Addr) (S : List Lp), vs = [.int n, .int far, .ref st, .int c] ∧ 0 ≤ n ∧ StIs H st S ∧ S.length ≤ 10 ∧ (∀ r ∈ S, 0 ≤ r.tn ∧ r.tn ≤ 2) ∧ -(10 ^ 17) ≤ far ∧ far ≤ 10 ^ 17 ∧ ∀ (x : V) (H' : Hp) (q : Lp), Same H H' → LpIs H' x q → NewL S c q → Q x H'
noncomputable def StOk (S : List Lp) (c : Int) : Prop := S.length ≤ 3 ∧ ∀ (i : Nat) (q : Lp), S[i]? = some q → NewL (S.take i) c q
theorem StOk.nil (c : Int) : StOk [] c := ⟨Nat.zero_le _, fun i q h => by cases h⟩
theorem StOk.snoc {S : List Lp} {c : Int} {q : Lp} (h : StOk S c) (l : S.length < 3) (g : NewL S c q) : StOk (S ++ [q]) c := by
  refine ⟨by rw [List.length_append, List.length_singleton]; omega, fun i r hr => ?_⟩
  by_cases z : i < S.length
  · rw [List.getElem?_append_left z] at hr
    rw [List.take_append_of_le_length (by omega)]
    exact h.2 i r hr
  · have : i = S.length := by
      have := (List.getElem?_eq_some_iff.mp hr).1
      rw [List.length_append, List.length_singleton] at this
      omega
    subst this
    rw [List.getElem?_append_right (Nat.le_refl _), Nat.sub_self] at hr
    cases hr
    rw [List.take_append_of_le_length (Nat.le_refl _), List.take_length]
    exact g
theorem StOk.init {S : List Lp} {c : Int} {q : Lp} (h : StOk (S ++ [q]) c) : StOk S c ∧ NewL S c q := by
  have l := h.1
  rw [List.length_append, List.length_singleton] at l
  refine ⟨⟨by omega, fun i r hr => ?_⟩, ?_⟩
  · have li := (List.getElem?_eq_some_iff.mp hr).1
    have := h.2 i r (by rw [List.getElem?_append_left li]; exact hr)
    rw [List.take_append_of_le_length (by omega)] at this
    exact this
  · have := h.2 S.length q (by rw [List.getElem?_append_right (Nat.le_refl _), Nat.sub_self]; rfl)
    rw [List.take_append_of_le_length (Nat.le_refl _), List.take_length] at this
    exact this
theorem StOk.sok {c : Int} : ∀ {n : Nat} {S : List Lp}, S.length = n → StOk S c → SOk S c
  | 0, S, l, h => by rw [List.eq_nil_of_length_eq_zero l]; exact SOk.nil c
  | n + 1, S, l, h => by
    obtain ⟨S', q, rfl, l'⟩ := snoc_of (l := S) (n := n) l
    obtain ⟨h1, h2⟩ := h.init
    have l3 := h.1
    rw [List.length_append, List.length_singleton] at l3
    exact (StOk.sok l' h1).snoc (by omega) h2.nw
theorem StOk.tn {S : List Lp} {c : Int} (h : StOk S c) : ∀ r ∈ S, 0 ≤ r.tn ∧ r.tn ≤ 2 := fun r hr => by
  obtain ⟨i, hi⟩ := List.mem_iff_getElem?.mp hr
  have := (h.2 i r hi).nw
  exact ⟨this.2.1, this.2.2.1⟩
structure R3 where
  S : List Lp
  path : List Int
  z : Str
  p : Addr
  m : Nat
  rs : Reads
noncomputable def R3At (H : Hp) (v : V) (R : R3) : Prop := ∃ (r u1 u2 u3 u4 : Addr) (x : V) (ls hs : List V), v = .ref r ∧ H r = some (.tup [.ref u1, .ref u2, .ref u3, .str R.z, .ref R.p, x, .ref u4]) ∧ H u1 = some (.tup ((nmsOf R.S).map V.str)) ∧ H u2 = some (.tup ls) ∧ All2 (fun v q => SpoAt H v (q.lz, q.ln)) ls R.S ∧ H u3 = some (.tup hs) ∧ All2 (fun v q => SpoAt H v (q.hz, q.hn)) hs R.S ∧ H u4 = some (.tup (R.path.map V.int)) ∧ TmT H R.m x R.rs
theorem R3At.tk {H H' : Hp} {v : V} {R : R3} (h : R3At H v R) (e : TK H H') : R3At H' v R := by
  obtain ⟨r, u1, u2, u3, u4, x, ls, hs, a, b, c, d, f, g, i, j, k⟩ := h
  exact ⟨r, u1, u2, u3, u4, x, ls, hs, a, e _ _ b, e _ _ c, e _ _ d, f.mono fun _ _ z => z.tk e, e _ _ g, i.mono fun _ _ z => z.tk e, e _ _ j, k.tk e⟩
theorem R3At.over {H H' : Hp} {v : V} {R : R3} (h : R3At H v R) (e : Same H H') : R3At H' v R := h.tk (Same.tk e)
noncomputable def Par (R R' : R3) : Prop := ∃ e, e ≤ R.S.length ∧ e ≤ R'.S.length ∧ R.S.take e = R'.S.take e ∧ R.path.take e = R'.path.take e ∧ R.path.getD e 0 < R'.path.getD e 0
structure ROk (c : Int) (R : R3) : Prop where
  so : StOk R.S c
  pl : R.path.length = R.S.length + 1
  m3 : R.m ≤ 3
structure Dr3 (Rs : List R3) (S : List Lp) (C P : List Int) (c : Int) : Prop where
  so : StOk S c
  cl : C.length = S.length + 1
  pl : P.length = S.length
  cp : ∀ j, j < S.length → P.getD j 0 < C.getD j 0
  ah : ∀ R ∈ Rs, ∃ e, e ≤ R.S.length ∧ e ≤ S.length ∧ R.S.take e = S.take e ∧ R.path.take e = P.take e ∧ R.path.getD e 0 < if e < S.length then P.getD e 0 else C.getD e 0
theorem Dr3.nil (c : Int) : Dr3 [] [] [0] [] c := ⟨.nil c, rfl, rfl, fun j h => absurd h (Nat.not_lt_zero _), fun R h => by cases h⟩
theorem gd_l {l m : List Int} {j : Nat} (h : j < l.length) : (l ++ m).getD j 0 = l.getD j 0 := by
  rw [List.getD_eq_getElem?_getD, List.getElem?_append_left h, ← List.getD_eq_getElem?_getD]
theorem gd_r {l m : List Int} {x : Int} : (l ++ x :: m).getD l.length 0 = x := by
  rw [List.getD_eq_getElem?_getD, List.getElem?_append_right (Nat.le_refl _), Nat.sub_self]
  rfl
theorem Dr3.pop {Rs : List R3} {S : List Lp} {C P : List Int} {c x y : Int} {q : Lp} (h : Dr3 Rs (S ++ [q]) (C ++ [x]) (P ++ [y]) c) : Dr3 Rs S C P c ∧ NewL S c q := by
  obtain ⟨so, cl, pl, cp, ah⟩ := h
  obtain ⟨s1, s2⟩ := so.init
  rw [List.length_append, List.length_append, List.length_singleton, List.length_singleton] at cl
  rw [List.length_append, List.length_append, List.length_singleton, List.length_singleton] at pl
  rw [List.length_append, List.length_singleton] at cp
  have pS : P.length = S.length := by omega
  have yx := cp S.length (by omega)
  rw [← pS, gd_r, gd_l (by omega)] at yx
  refine ⟨⟨s1, by omega, pS, fun j hj => ?_, fun R hR => ?_⟩, s2⟩
  · have := cp j (by omega)
    rw [gd_l (by omega), gd_l (by omega)] at this
    exact this
  · obtain ⟨e, e1, e2, e3, e4, e5⟩ := ah R hR
    rw [List.length_append, List.length_singleton] at e2 e5
    rcases Nat.lt_or_ge e S.length with z | z
    · rw [if_pos (by omega), gd_l (by omega)] at e5
      refine ⟨e, e1, by omega, ?_, ?_, by rw [if_pos z]; exact e5⟩
      · rw [e3, List.take_append_of_le_length (by omega)]
      · rw [e4, List.take_append_of_le_length (by omega)]
    · have t3 : R.S.take S.length = S := by
        have := Tn.take_le e3 z
        rw [List.take_append_of_le_length (Nat.le_refl _), List.take_length] at this
        exact this
      have t4 : R.path.take S.length = P.take S.length := by
        have := Tn.take_le e4 z
        rw [this, List.take_append_of_le_length (by omega)]
      refine ⟨S.length, by omega, Nat.le_refl _, by rw [t3, List.take_length], t4, ?_⟩
      rw [if_neg (Nat.lt_irrefl _), ← pS]
      rcases Nat.lt_or_ge S.length e with z2 | z2
      · have := Tn.take_at e4 z2
        rw [← pS, gd_r] at this
        rw [this]
        exact yx
      · have ee : e = S.length := by omega
        rw [if_pos (by omega), ee, ← pS, gd_r] at e5
        omega
theorem Dr3.push {Rs : List R3} {S : List Lp} {C P : List Int} {c x : Int} {q : Lp} (h : Dr3 Rs S (C ++ [x]) P c) (l : S.length < 3) (g : NewL S c q) : Dr3 Rs (S ++ [q]) (C ++ [x + 1, 0]) (P ++ [x]) c := by
  obtain ⟨so, cl, pl, cp, ah⟩ := h
  rw [List.length_append, List.length_singleton] at cl
  have Cl : C.length = S.length := by omega
  refine ⟨so.snoc l g, by rw [List.length_append, List.length_append]; show C.length + 2 = _; rw [List.length_singleton]; omega, by rw [List.length_append, List.length_append, List.length_singleton, List.length_singleton]; omega, fun j hj => ?_, fun R hR => ?_⟩
  · rw [List.length_append, List.length_singleton] at hj
    rcases Nat.lt_or_ge j S.length with z | z
    · have := cp j z
      rw [gd_l (by omega)] at this
      rw [gd_l (by omega), gd_l (by omega)]
      exact this
    · obtain rfl : j = S.length := by omega
      have a1 : (P ++ [x]).getD S.length 0 = x := by rw [← pl, gd_r]
      have a2 : (C ++ [x + 1, 0]).getD S.length 0 = x + 1 := by rw [← Cl, gd_r]
      rw [a1, a2]
      omega
  · obtain ⟨e, e1, e2, e3, e4, e5⟩ := ah R hR
    refine ⟨e, e1, by rw [List.length_append]; omega, by rw [e3, List.take_append_of_le_length e2], by rw [e4, List.take_append_of_le_length (by omega)], ?_⟩
    rw [List.length_append, List.length_singleton, if_pos (by omega)]
    rcases Nat.lt_or_ge e S.length with z | z
    · rw [if_pos z] at e5
      rw [gd_l (by omega)]
      exact e5
    · have ee : e = S.length := by omega
      rw [if_neg (by omega), ee, ← Cl, gd_r] at e5
      rw [ee, ← pl, gd_r]
      rw [← Cl] at pl
      rw [pl]
      exact e5
theorem Dr3.row {Rs : List R3} {R : R3} {C P : List Int} {c x : Int} (h : Dr3 Rs R.S (C ++ [x]) P c) (hp : R.path = P ++ [x]) : Dr3 (Rs ++ [R]) R.S (C ++ [x + 1]) P c ∧ ∀ R' ∈ Rs, Par R' R := by
  obtain ⟨so, cl, pl, cp, ah⟩ := h
  rw [List.length_append, List.length_singleton] at cl
  have Cl : C.length = R.S.length := by omega
  refine ⟨⟨so, by rw [List.length_append, List.length_singleton]; omega, pl, fun j hj => ?_, fun R' hR => ?_⟩, fun R' hR => ?_⟩
  · have := cp j hj
    rw [gd_l (by omega)] at this ⊢
    exact this
  · rcases List.mem_append.mp hR with hR | hR
    · obtain ⟨e, e1, e2, e3, e4, e5⟩ := ah R' hR
      refine ⟨e, e1, e2, e3, e4, ?_⟩
      rcases Nat.lt_or_ge e R.S.length with z | z
      · rw [if_pos z] at e5 ⊢
        exact e5
      · have ee : e = R.S.length := by omega
        rw [if_neg (by omega), ee, ← Cl, gd_r] at e5
        rw [if_neg (by omega), ee, ← Cl, gd_r]
        omega
    · rw [List.mem_singleton.mp hR]
      refine ⟨R.S.length, Nat.le_refl _, Nat.le_refl _, rfl, ?_, ?_⟩
      · rw [hp, List.take_append_of_le_length (by omega)]
      · rw [if_neg (Nat.lt_irrefl _), hp]
        have a1 : (P ++ [x]).getD R.S.length 0 = x := by rw [← pl, gd_r]
        have a2 : (C ++ [x + 1]).getD R.S.length 0 = x + 1 := by rw [← Cl, gd_r]
        rw [a1, a2]
        omega
  · obtain ⟨e, e1, e2, e3, e4, e5⟩ := ah R' hR
    refine ⟨e, e1, e2, e3, by rw [e4, hp, List.take_append_of_le_length (by omega)], ?_⟩
    rw [hp]
    rcases Nat.lt_or_ge e R.S.length with z | z
    · rw [if_pos z] at e5
      rw [gd_l (by omega)]
      exact e5
    · have ee : e = R.S.length := by omega
      rw [if_neg (by omega), ee, ← Cl, gd_r] at e5
      have a1 : (P ++ [x]).getD R.S.length 0 = x := by rw [← pl, gd_r]
      rw [ee, a1, ← Cl]
      exact e5
end L2

set_option Elab.async false
set_option linter.all false
set_option maxRecDepth 100000
set_option maxHeartbeats 4000000
namespace L2
open PySem PySem.Spec PyProof.Rows
noncomputable def lpT (q : Lp) : LpT := ⟨q.nm, (q.lz, q.ln), (q.hz, q.hn)⟩
noncomputable def R3.dw (R : R3) : Dw := ⟨R.S.map lpT, "", [], .n 0, R.path⟩
theorem dw_nms (R : R3) : nms R.dw = nmsOf R.S := by
  unfold nms nmsOf R3.dw
  rw [List.map_map]
  rfl
structure RG (R : R3) : Prop where
  ll : R.S.length ≤ 3
  pl : R.path.length = R.S.length + 1
  nd : (nmsOf R.S).Nodup
  ne : ∀ z ∈ nmsOf R.S, z ≠ ""
  bs : ∀ (e : Nat) (q : Lp), R.S[e]? = some q → Bs (R.S.take e) q.lz ∧ Bs (R.S.take e) q.hz
  m3 : R.m ≤ 3
theorem ROk.rg {R : R3} {c : Int} (h : ROk c R) : RG R := by
  have so := StOk.sok rfl h.so
  exact ⟨h.so.1, h.pl, nms_nd so, nms_ne so, so.bs, h.m3⟩
theorem lk_zip : ∀ {zs : List Str} {vs : List Int} {j : Nat} {z : Str}, zs.Nodup → zs[j]? = some z → j < vs.length → lkN (zs.zip vs) z = vs.getD j 0
  | [], vs, j, z, _, h, _ => by cases h
  | y :: zs, [], j, z, _, _, h => by cases h
  | y :: zs, v :: vs, 0, z, nd, h, _ => by
    cases h
    unfold lkN
    rw [List.zip_cons_cons, List.find?_cons_of_pos (by simp)]
    rfl
  | y :: zs, v :: vs, j + 1, z, nd, h, hl => by
    obtain ⟨n1, n2⟩ := List.nodup_cons.mp nd
    have hz : z ∈ zs := List.mem_of_getElem? h
    have ih := lk_zip (vs := vs) n2 h (Nat.lt_of_succ_lt_succ hl)
    unfold lkN at ih ⊢
    rw [List.zip_cons_cons, List.find?_cons_of_neg (by simpa using fun e : y = z => n1 (e ▸ hz))]
    exact ih
noncomputable def Nr (S : List Lp) (vs : List Int) : Prop := ∀ (j : Nat) (q : Lp), j < vs.length → S[j]? = some q → 0 ≤ vs.getD j 0 - q.ab ∧ vs.getD j 0 - q.ab ≤ 3 * ((j : Int) + 1)
theorem bq_val {S : List Lp} {e : Nat} {vs : List Int} {z : Str} {k : Int} (nd : (nmsOf S).Nodup) (ne : ∀ z ∈ nmsOf S, z ≠ "") (hv : vs.length = e) (hn : Nr S vs) (n : Int) (h : Bq (S.take e) z k) : ∃ x, stW ((nmsOf S).zip vs) (z, n) = x + n ∧ 0 ≤ x - k ∧ x - k ≤ 3 * (e : Int) := by
  rcases h with ⟨rfl, rfl⟩ | ⟨r, hr, rfl, rfl⟩
  · refine ⟨0, ?_, by omega, by omega⟩
    unfold stW
    rw [if_pos rfl]
    show n = 0 + n
    omega
  · obtain ⟨j, hj⟩ := List.mem_iff_getElem?.mp hr
    have l := (List.getElem?_eq_some_iff.mp hj).1
    rw [List.length_take] at l
    rw [List.getElem?_take_of_lt (by omega)] at hj
    have hz : (nmsOf S)[j]? = some r.nm := by unfold nmsOf; rw [List.getElem?_map, hj]; rfl
    have := hn j r (by omega) hj
    refine ⟨vs.getD j 0, ?_, by omega, by omega⟩
    unfold stW
    rw [if_neg (ne _ (List.mem_of_getElem? hz)), lk_zip nd hz (by omega)]
theorem bD_at {R : R3} {vs : List Int} {q : Lp} (h : R.S[vs.length]? = some q) : bD R.dw vs = (stW ((nmsOf R.S).zip vs) (q.lz, q.ln), stW ((nmsOf R.S).zip vs) (q.hz, q.hn)) := by
  unfold bD
  have : R.dw.loops[vs.length]? = some (lpT q) := by show (R.S.map lpT)[vs.length]? = _; rw [List.getElem?_map, h]; rfl
  rw [this, dw_nms]
  rfl
theorem near_step {R : R3} {c : Int} {vs : List Int} {q : Lp} (h : ROk c R) (hn : Nr R.S vs) (hq : R.S[vs.length]? = some q) : q.ab ≤ (bD R.dw vs).1 ∧ (bD R.dw vs).2 ≤ q.ab + 3 * ((vs.length : Int) + 1) ∧ (bD R.dw vs).1 ≤ q.ab + 3 * (vs.length : Int) + 1 ∧ q.ab - 1 ≤ (bD R.dw vs).2 ∧ -(10 ^ 17) ≤ q.ab ∧ q.ab ≤ 10 ^ 17 := by
  have g := h.rg
  have nw := h.so.2 _ q hq
  obtain ⟨k, d, b1, e1, d0, d1⟩ := nw.lo
  obtain ⟨k', m, b2, e2, m0, m1⟩ := nw.hi
  obtain ⟨x, ex, x0, x1⟩ := bq_val g.nd g.ne rfl hn q.ln b1
  obtain ⟨y, ey, y0, y1⟩ := bq_val g.nd g.ne rfl hn q.hn b2
  rw [bD_at hq, ex, ey]
  have := nw.ab
  show q.ab ≤ x + q.ln ∧ y + q.hn ≤ _ ∧ x + q.ln ≤ _ ∧ q.ab - 1 ≤ y + q.hn ∧ _
  omega
theorem Nr.snoc {S : List Lp} {vs : List Int} {v : Int} {q : Lp} (h : Nr S vs) (hq : S[vs.length]? = some q) (h0 : q.ab ≤ v) (h1 : v ≤ q.ab + 3 * ((vs.length : Int) + 1)) : Nr S (vs ++ [v]) := fun j r hj hr => by
  rw [List.length_append, List.length_singleton] at hj
  rcases Nat.lt_or_ge j vs.length with z | z
  · rw [gd_l z]
    exact h j r z hr
  · obtain rfl : j = vs.length := by omega
    rw [gd_r]
    rw [hq] at hr
    cases hr
    omega
noncomputable def Tame (W : Int) (D : Dw) : Prop := ∃ G : List Int → Prop, G [] ∧ ∀ vs, G vs → vs.length < D.loops.length → (-(2 ^ 60) ≤ (bD D vs).1 ∧ (bD D vs).1 ≤ 2 ^ 60 ∧ -(2 ^ 60) ≤ (bD D vs).2 ∧ (bD D vs).2 ≤ 2 ^ 60) ∧ (bD D vs).2 - (bD D vs).1 + 1 ≤ W ∧ ∀ v, (bD D vs).1 ≤ v → v ≤ (bD D vs).2 → G (vs ++ [v])
theorem ROk.tame {R : R3} {c : Int} (h : ROk c R) : Tame 10 R.dw := by
  refine ⟨fun vs => Nr R.S vs, fun j q hj => absurd hj (Nat.not_lt_zero _), fun vs hn hl => ?_⟩
  have hl : vs.length < (R.S.map lpT).length := hl
  rw [List.length_map] at hl
  have hq : R.S[vs.length]? = some R.S[vs.length] := List.getElem?_eq_getElem hl
  generalize R.S[vs.length] = q at hq
  obtain ⟨s1, s2, s3, s4, s5, s6⟩ := near_step h hn hq
  have l3 := h.so.1
  refine ⟨by omega, by omega, fun v v0 v1 => hn.snoc hq (by omega) (by omega)⟩
noncomputable def PV (D : Dw) (vs : List Int) : Prop := ∀ e, e < vs.length → (bD D (vs.take e)).1 ≤ vs.getD e 0 ∧ vs.getD e 0 ≤ (bD D (vs.take e)).2
theorem PV.init {D : Dw} {vs : List Int} {v : Int} (h : PV D (vs ++ [v])) : PV D vs ∧ (bD D vs).1 ≤ v ∧ v ≤ (bD D vs).2 := by
  refine ⟨fun e he => ?_, ?_⟩
  · have := h e (by rw [List.length_append]; omega)
    rw [gd_l he, List.take_append_of_le_length (by omega)] at this
    exact this
  · have := h vs.length (by rw [List.length_append, List.length_singleton]; omega)
    rw [gd_r, List.take_append_of_le_length (Nat.le_refl _), List.take_length] at this
    exact this
noncomputable def Tm (W : Nat) (D : Dw) : Prop := ∀ vs, PV D vs → vs.length < D.loops.length → (-(2 ^ 60) ≤ (bD D vs).1 ∧ (bD D vs).1 ≤ 2 ^ 60 ∧ -(2 ^ 60) ≤ (bD D vs).2 ∧ (bD D vs).2 ≤ 2 ^ 60) ∧ (bD D vs).2 - (bD D vs).1 + 1 ≤ (W : Int)
theorem Tame.tm {W : Nat} {D : Dw} (h : Tame (W : Int) D) : Tm W D := by
  obtain ⟨G, g0, g1⟩ := h
  have all : ∀ (n : Nat) (vs : List Int), vs.length = n → n ≤ D.loops.length → PV D vs → G vs := by
    intro n
    induction n with
    | zero => intro vs l _ _; rw [List.eq_nil_of_length_eq_zero l]; exact g0
    | succ n ih =>
      intro vs l le hp
      obtain ⟨us, v, rfl, ul⟩ := snoc_of l
      obtain ⟨p1, p2, p3⟩ := hp.init
      exact (g1 us (ih us ul (by omega) p1) (by omega)).2.2 v p2 p3
  exact fun vs hp hl => ⟨(g1 vs (all _ vs rfl (by omega) hp) hl).1, (g1 vs (all _ vs rfl (by omega) hp) hl).2.1⟩
theorem sum_le {W : Nat} : ∀ {l : List Nat}, (∀ x ∈ l, x ≤ W) → l.sum ≤ l.length * W
  | [], _ => by rw [List.sum_nil]; exact Nat.zero_le _
  | x :: l, h => by
    rw [List.sum_cons, List.length_cons, Nat.succ_mul]
    have := sum_le (l := l) fun y hy => h y (List.mem_cons_of_mem _ hy)
    have := h x List.mem_cons_self
    omega
theorem lv_len {W : Nat} {D : Dw} (h : Tm W D) : ∀ {n : Nat}, n ≤ D.loops.length → (Tn.lv (bD D) n).length ≤ W ^ n
  | 0, _ => Nat.le_refl _
  | n + 1, hn => by
    have ih := lv_len h (n := n) (by omega)
    show ((Tn.lv (bD D) n).flatMap fun vs => (Tn.rng (bD D vs).1 (bD D vs).2).map fun v => vs ++ [v]).length ≤ W ^ (n + 1)
    rw [List.length_flatMap, Nat.pow_succ]
    refine Nat.le_trans (sum_le (W := W) fun x hx => ?_) ?_
    · obtain ⟨vs, hvs, rfl⟩ := List.mem_map.mp hx
      obtain ⟨l, p⟩ := Tn.mem_lv.mp hvs
      rw [List.length_map, Tn.rng_len]
      have := (h vs (fun e he => p e (by omega)) (by omega)).2
      omega
    · rw [List.length_map]
      exact Nat.mul_le_mul_right _ ih
theorem all2_map {α β : Type} {P : V → β → Prop} {f : α → β} {xs : List V} {as : List α} (h : All2 (fun v q => P v (f q)) xs as) : All2 P xs (as.map f) := by
  refine ⟨by rw [List.length_map]; exact h.1, fun i x b hx hb => ?_⟩
  rw [List.getElem?_map] at hb
  cases ha : as[i]? with
  | none => rw [ha] at hb; cases hb
  | some q =>
    rw [ha] at hb
    cases hb
    exact h.2 i x q hx ha
theorem lvb_of {W : Nat} {R : R3} (t : Tm W R.dw) (w1 : 1 ≤ W) {m : Nat} (hm : R.S.length ≤ m) (b : W ^ m ≤ 400000) : ∀ n, n ≤ R.S.length → (Tn.lv (bD R.dw) n).length ≤ 400000 := fun n hn => by
  have := lv_len t (n := n) (by show n ≤ (R.S.map lpT).length; rw [List.length_map]; exact hn)
  exact Nat.le_trans this (Nat.le_trans (Nat.pow_le_pow_right w1 (by omega)) b)
end L2

set_option Elab.async false
set_option linter.all false
set_option maxRecDepth 100000
set_option maxHeartbeats 4000000
namespace L2
open PySem PySem.Spec PyProof.Rows
theorem st_b {S : List Lp} {e : Nat} {us : List Int} {kvs : List (Key × V)} {z : Str} (nd : (nmsOf S).Nodup) (ne : ∀ z ∈ nmsOf S, z ≠ "") (hu : us.length = e) (ar : ArIs kvs (nmsOf S) us) (n : Int) (h : Bs (S.take e) z) : StB kvs z (stW ((nmsOf S).zip us) (z, n) - n) := by
  rcases h with rfl | ⟨r, hr, rfl⟩
  · refine .inl ⟨rfl, ?_⟩
    unfold stW
    rw [if_pos rfl]
    show n - n = 0
    omega
  · obtain ⟨j, hj⟩ := List.mem_iff_getElem?.mp hr
    have l := (List.getElem?_eq_some_iff.mp hj).1
    rw [List.length_take] at l
    rw [List.getElem?_take_of_lt (by omega)] at hj
    have hz : (nmsOf S)[j]? = some r.nm := by unfold nmsOf; rw [List.getElem?_map, hj]; rfl
    have nz := ne _ (List.mem_of_getElem? hz)
    refine .inr ⟨nz, ?_⟩
    rw [ar j r.nm (by omega) hz]
    unfold stW
    rw [if_neg nz, lk_zip nd hz (by omega)]
    congr 2
    show us.getD j 0 = us.getD j 0 + n - n
    omega
theorem bd_stand {R : R3} (g : RG R) {us : List Int} {q : Lp} {kvs : List (Key × V)} (hq : R.S[us.length]? = some q) (ar : ArIs kvs (nmsOf R.S) us) : StB kvs q.lz ((bD R.dw us).1 - q.ln) ∧ StB kvs q.hz ((bD R.dw us).2 - q.hn) := by
  obtain ⟨b1, b2⟩ := g.bs _ q hq
  rw [bD_at hq]
  exact ⟨st_b g.nd g.ne rfl ar q.ln b1, st_b g.nd g.ne rfl ar q.hn b2⟩
noncomputable def PiAt (H : Hp) (v : V) (l : List Int) : Prop := ∃ t, v = .ref t ∧ H t = some (.tup (l.map V.int))
theorem PiAt.tk {H H' : Hp} {v : V} {l : List Int} (h : PiAt H v l) (e : TK H H') : PiAt H' v l := by
  obtain ⟨t, a, b⟩ := h
  exact ⟨t, a, e _ _ b⟩
theorem PiAt.over {H H' : Hp} {v : V} {l : List Int} (h : PiAt H v l) (e : Same H H') : PiAt H' v l := h.tk (Same.tk e)
end L2

set_option Elab.async false
set_option linter.all false
set_option maxRecDepth 100000
set_option maxHeartbeats 4000000
namespace L2
open PySem PySem.Spec PyProof.Rows
noncomputable def PzAt (Z : Str → Prop) (H : Hp) (vs : List V) : Prop := ∀ v ∈ vs, ∃ (t : Addr) (z : Str) (n : Int), v = .ref t ∧ H t = some (.tup [.str z, .int n]) ∧ Z z
theorem PzAt.tk {Z : Str → Prop} {H H' : Hp} {vs : List V} (h : PzAt Z H vs) (e : TK H H') : PzAt Z H' vs := fun v hv => by
  obtain ⟨t, z, n, a, b, c⟩ := h v hv
  exact ⟨t, z, n, a, e _ _ b, c⟩
theorem PzAt.over {Z : Str → Prop} {H H' : Hp} {vs : List V} (h : PzAt Z H vs) (e : Same H H') : PzAt Z H' vs := h.tk (Same.tk e)
noncomputable def BzAt (Z : Str → Prop) (H : Hp) (l : Addr) : Prop := ∃ vs, H l = some (.lst vs) ∧ 0 < vs.length ∧ vs.length ≤ 100 ∧ PzAt Z H vs
theorem BzAt.over {Z : Str → Prop} {H H' : Hp} {l : Addr} (h : BzAt Z H l) (e : Same H H') : BzAt Z H' l := by
  obtain ⟨vs, h1, h2, h3, h4⟩ := h
  exact ⟨vs, e _ _ h1, h2, h3, h4.over e⟩
noncomputable def HzAt (M : Str → Int → Prop) (H : Hp) (l : Addr) : Prop := ∃ vs, H l = some (.lst vs) ∧ vs.length = 3 ∧ ∀ v ∈ vs, ∃ (t : Addr) (z : Str) (m n : Int), v = .ref t ∧ H t = some (.tup [.str z, .int m, .int n]) ∧ 1 ≤ m ∧ m ≤ 3 ∧ M z m
theorem HzAt.over {M : Str → Int → Prop} {H H' : Hp} {l : Addr} (h : HzAt M H l) (e : Same H H') : HzAt M H' l := by
  obtain ⟨vs, h1, h2, h3⟩ := h
  exact ⟨vs, e _ _ h1, h2, fun v hv => by obtain ⟨t, z, m, n, a, b, c⟩ := h3 v hv; exact ⟨t, z, m, n, a, e _ _ b, c⟩⟩
noncomputable def SzAt (Z : Str → Prop) (n : Nat) (H : Hp) (p : Addr) : Prop := ∃ xs, H p = some (.tup xs) ∧ xs.length = n ∧ n ≤ 3 ∧ PzAt Z H xs
theorem SzAt.sp {Z : Str → Prop} {n : Nat} {H : Hp} {p : Addr} (h : SzAt Z n H p) : SpAt H p := by
  obtain ⟨xs, a, b, c, d⟩ := h
  exact ⟨xs, a, by omega, fun v hv => by obtain ⟨t, z, n, x, y, _⟩ := d v hv; exact ⟨t, z, n, x, y⟩⟩
theorem SzAt.tk {Z : Str → Prop} {n : Nat} {H H' : Hp} {p : Addr} (h : SzAt Z n H p) (e : TK H H') : SzAt Z n H' p := by
  obtain ⟨xs, a, b, c, d⟩ := h
  exact ⟨xs, e _ _ a, b, c, d.tk e⟩
noncomputable def TzAt (Z : Str → Prop) (M : Str → Int → Prop) (H : Hp) (r : Str × Addr) : Prop := ∃ n : Nat, M r.1 (n : Int) ∧ SzAt Z n H r.2
theorem TzAt.tk {Z : Str → Prop} {M : Str → Int → Prop} {H H' : Hp} {r : Str × Addr} (h : TzAt Z M H r) (e : TK H H') : TzAt Z M H' r := by
  obtain ⟨n, a, b⟩ := h
  exact ⟨n, a, b.tk e⟩
theorem TzAt.over {Z : Str → Prop} {M : Str → Int → Prop} {H H' : Hp} {r : Str × Addr} (h : TzAt Z M H r) (e : Same H H') : TzAt Z M H' r := h.tk (Same.tk e)
noncomputable def spSpots4 : Sp := fun vs H Q _ => ∃ (Z : Str → Prop) (n m off : Int) (b : Addr), vs = [.int n, .ref b, .int m, .int off] ∧ 0 ≤ n ∧ BzAt Z H b ∧ 1 ≤ m ∧ m ≤ 3 ∧ ∀ (r : Addr) (H' : Hp), Same H H' → SzAt Z m.toNat H' r → Q (.ref r) H'
noncomputable def spCellOf4 : Sp := fun vs H Q _ => ∃ (Z : Str → Prop) (M : Str → Int → Prop) (n : Int) (b h : Addr), vs = [.int n, .ref b, .ref h] ∧ 0 ≤ n ∧ BzAt Z H b ∧ HzAt M H h ∧ ∀ (r : Addr) (H' : Hp) (z : Str) (p : Addr), Same H H' → H' r = some (.tup [.str z, .ref p]) → TzAt Z M H' (z, p) → Q (.ref r) H'
noncomputable def spLeaf4 : Sp := fun vs H Q _ => ∃ (Z : Str → Prop) (M : Str → Int → Prop) (n : Int) (b h : Addr), vs = [.int n, .ref b, .ref h] ∧ 0 ≤ n ∧ n < 4294967296 ∧ BzAt Z H b ∧ HzAt M H h ∧ ∀ (x : V) (H' : Hp) (rs : Reads), Same H H' → TmT H' 1 x rs → (∀ r ∈ rs, TzAt Z M H' r) → Q x H'
noncomputable def spTerm4 : Sp := fun vs H Q _ => ∃ (Z : Str → Prop) (M : Str → Int → Prop) (c : Int) (b h : Addr), vs = [.int c, .ref b, .ref h] ∧ BzAt Z H b ∧ HzAt M H h ∧ ∀ (x : V) (H' : Hp) (m : Nat) (rs : Reads), Same H H' → m ≤ 3 → TmT H' m x rs → (∀ r ∈ rs, TzAt Z M H' r) → Q x H'
noncomputable def MtF (c : Int) (z : Str) (m : Int) : Prop := ∃ t : Nat, t < 3 ∧ z = nmF (mixF c 0 / 3) (t : Int) ∧ atI ([1, 2, 1, 3, 1, 2].map V.int) ((mixF c 0 / 7 + (t : Int)) % 6) = some (.int m)
theorem MtF.one {c : Int} {z : Str} {m n : Int} (h : MtF c z m) (g : MtF c z n) : m = n := by
  obtain ⟨t, a, b, d⟩ := h
  obtain ⟨u, a', b', d'⟩ := g
  have e : t = u := by
    rcases Nat.decEq t u with ne | e
    · rw [b] at b'
      have e := congrArg cds b'
      unfold nmF at e
      rw [cds_sOf, cds_sOf] at e
      exact absurd e (nmC_ne (by omega) (by omega) (by omega) (by omega) (fun z => ne (by omega)))
    · exact e
  rw [e, d'] at d
  exact (V.int.inj (Option.some.inj d)).symm
noncomputable def spHeads4 (K : PySem.W.Frag) : Sp := fun vs H Q _ => ∃ (p : Addr) (ns : List Int), vs = [.ref p] ∧ SqL K H p (ns.map V.int) ∧ ∀ (l : Addr) (H' : Hp), Same H H' → HzAt (MtF (cellD ns 0)) H' l → Q (.ref l) H'
noncomputable def R3.tch (R : R3) : Reads := (R.z, R.p) :: R.rs
noncomputable def R4At (M : Str → Int → Prop) (H : Hp) (v : V) (R : R3) : Prop := R3At H v R ∧ ∀ r ∈ R.tch, TzAt (Bs R.S) M H r
theorem R4At.tk {M : Str → Int → Prop} {H H' : Hp} {v : V} {R : R3} (h : R4At M H v R) (e : TK H H') : R4At M H' v R := ⟨h.1.tk e, fun r hr => (h.2 r hr).tk e⟩
theorem R4At.over {M : Str → Int → Prop} {H H' : Hp} {v : V} {R : R3} (h : R4At M H v R) (e : Same H H') : R4At M H' v R := h.tk (Same.tk e)
noncomputable def R4sAt (M : Str → Int → Prop) (H : Hp) (l : Addr) (Rs : List R3) : Prop := ∃ xs, H l = some (.lst xs) ∧ All2 (R4At M H) xs Rs
theorem R4sAt.over {M : Str → Int → Prop} {H H' : Hp} {l : Addr} {Rs : List R3} (h : R4sAt M H l Rs) (e : Same H H') : R4sAt M H' l Rs := by
  obtain ⟨xs, a, b⟩ := h
  exact ⟨xs, e _ _ a, b.mono fun _ _ z => z.over e⟩
noncomputable def spRow54 : Sp := fun vs H Q _ => ∃ (M : Str → Int → Prop) (c : Int) (st pt hd : Addr) (S : List Lp) (ps : List Int), vs = [.int c, .ref st, .ref pt, .ref hd] ∧ StIs H st S ∧ S.length ≤ 10 ∧ H pt = some (.lst (ps.map V.int)) ∧ HzAt M H hd ∧ ∀ (r : Addr) (H' : Hp) (z : Str) (p : Addr) (m : Nat) (rs : Reads), Same H H' → R4At M H' (.ref r) ⟨S, ps, z, p, m, rs⟩ → m ≤ 3 → Q (.ref r) H'
noncomputable def spRows54 (K : PySem.W.Frag) : Sp := fun vs H Q _ => ∃ (sc : Addr) (ns : List Int) (n : Nat), vs = [.ref sc, .int (n : Int)] ∧ SqL K H sc (ns.map V.int) ∧ ns.length ≤ 63 ∧ n ≤ 6 ∧ ∀ (r : Addr) (H' : Hp) (Rs : List R3), Same H H' → R4sAt (MtF (cellD ns 0)) H' r Rs → Rs.length = n → (∀ R ∈ Rs, ROk (cellD ns 1) R) → Q (.ref r) H'
noncomputable def D4At (c : Cs) (C : Addr) (H : Hp) (v : V) (R : R3) : Prop := ∃ (d dx nm lo hi pt : Addr) (x : V) (ls hs : List V), v = .ref d ∧ H d = some (.ins C dx [("names", .ref nm), ("lows", .ref lo), ("highs", .ref hi), ("table", .str R.z), ("spots", .ref R.p), ("term", x), ("path", .ref pt)]) ∧ H nm = some (.tup ((nmsOf R.S).map V.str)) ∧ H lo = some (.tup ls) ∧ All2 (fun v q => SpoAt H v (q.lz, q.ln)) ls R.S ∧ H hi = some (.tup hs) ∧ All2 (fun v q => SpoAt H v (q.hz, q.hn)) hs R.S ∧ H pt = some (.tup (R.path.map V.int)) ∧ TmO c H R.m x R.rs
theorem D4At.over {c : Cs} {C : Addr} {H H' : Hp} {v : V} {R : R3} (h : D4At c C H v R) (e : Same H H') : D4At c C H' v R := by
  obtain ⟨d, dx, nm, lo, hi, pt, x, ls, hs, a, b, f, g, i, j, k, l, m⟩ := h
  have tk := Same.tk e
  exact ⟨d, dx, nm, lo, hi, pt, x, ls, hs, a, e _ _ b, e _ _ f, e _ _ g, i.mono fun _ _ z => z.tk tk, e _ _ j, k.mono fun _ _ z => z.tk tk, e _ _ l, m.over e⟩
noncomputable def R3.r5 (R : R3) : R5 := ⟨R.S.length, R.path, R.z, R.p, R.m, R.rs⟩
theorem nmsOf_len (S : List Lp) : (nmsOf S).length = S.length := by unfold nmsOf; rw [List.length_map]
theorem D4At.d5 {c : Cs} {C : Addr} {H : Hp} {v : V} {R : R3} (h : D4At c C H v R) : D5At c C H v R.r5 := by
  obtain ⟨d, dx, nm, lo, hi, pt, x, ls, hs, a, b, f, g, i, j, k, l, m⟩ := h
  exact ⟨d, dx, nm, pt, _, _, x, _, a, b, f, by rw [List.length_map, nmsOf_len]; rfl, l, m⟩
theorem R3At.r5 {H : Hp} {v : V} {R : R3} (h : R3At H v R) : R5At H v R.r5 := by
  obtain ⟨r, u1, u2, u3, u4, x, ls, hs, a, b, c, d, f, g, i, j, k⟩ := h
  exact ⟨r, u1, u4, _, _, x, _, a, b, c, by rw [List.length_map, nmsOf_len]; rfl, fun y hy => by obtain ⟨z, _, e⟩ := List.mem_map.mp hy; exact ⟨z, e.symm⟩, j, k⟩
theorem R3At.ok5 {H : Hp} {v : V} {R : R3} {c : Int} (h : R3At H v R) (o : ROk c R) : R.r5.Ok := by
  obtain ⟨r, u1, u2, u3, u4, x, ls, hs, a, b, _, d, f, g, i, j, k⟩ := h
  exact ⟨o.so.1, o.pl, by have := o.m3; show R.m ≤ 30; omega, k.pos.2.1⟩
theorem spt_all {H : Hp} {p : Addr} {ls : List V} {S : List Lp} {f : Lp → Str × Int} (h : H p = some (.tup ls)) (a : All2 (fun v q => SpoAt H v (f q)) ls S) : SptAt H p S.length (fun i => ((S[i]?).map fun q => (f q).1).getD "") (fun i => ((S[i]?).map fun q => (f q).2).getD 0) := by
  refine ⟨ls, h, a.1, fun i x hx => ?_⟩
  obtain ⟨q, hq, t, e, ht⟩ := a.get' hx
  refine ⟨t, e, ?_⟩
  dsimp only
  rw [hq]
  exact ht
theorem spt_lo {H : Hp} {p : Addr} {ls : List V} {S : List Lp} (h : H p = some (.tup ls)) (a : All2 (fun v q => SpoAt H v (q.lz, q.ln)) ls S) : SptAt H p S.length (lzF S) (lnF S) := spt_all (f := fun q => (q.lz, q.ln)) h a
theorem spt_hi {H : Hp} {p : Addr} {ls : List V} {S : List Lp} (h : H p = some (.tup ls)) (a : All2 (fun v q => SpoAt H v (q.hz, q.hn)) ls S) : SptAt H p S.length (hzF S) (hnF S) := spt_all (f := fun q => (q.hz, q.hn)) h a
noncomputable def spFew54 (K : PySem.W.Frag) : Sp := fun vs H Q _ => ∃ (sc : Addr) (ns : List Int), vs = [.ref sc] ∧ SqL K H sc (ns.map V.int) ∧ ns.length ≤ 63 ∧ ∀ (H' : Hp) (n : Nat), Same H H' → 1 ≤ n → n ≤ 3 → Q (.int (n : Int)) H'
noncomputable def spMade54 (CP C : Addr) (c : Cs) : Sp := fun vs H Q _ => ∃ (n : Int) (l : Addr) (Rs : List R3) (M : Str → Int → Prop), vs = [.int n, .ref l] ∧ R4sAt M H l Rs ∧ Rs.length ≤ 6 ∧ (∀ R ∈ Rs, R.m ≤ 30) ∧ ∀ (x dx dl : Addr) (xs : List V) (H' : Hp), Same H H' → H' x = some (.ins CP dx [("size", .int n), ("deeds", .ref dl)]) → H' dl = some (.lst xs) → All2 (D4At c C H') xs Rs → Q (.ref x) H'
noncomputable def spTouchL54 : Sp := fun vs H Q _ => ∃ (v : V) (R : R5), vs = [v] ∧ R5At H v R ∧ R.m ≤ 100 ∧ ∀ (l : Addr) (H' : Hp), Same H H' → H l = none → TchAt H' l R.z R.p R.rs → Q (.ref l) H'
theorem tch_get {H : Hp} {l : Addr} {z : Str} {p : Addr} {rs : Reads} (h : TchAt H l z p rs) {a : Nat} {r : Str × Addr} (ha : ((z, p) :: rs)[a]? = some r) : ∃ (xs : List V) (t : Addr) (fl : Bool), H l = some (.lst xs) ∧ atI xs (a : Int) = some (.ref t) ∧ H t = some (.tup [.bl fl, .str r.1, .ref r.2]) := by
  obtain ⟨t, ys, h1, h2, h3, h4⟩ := h
  cases a with
  | zero =>
    cases ha
    exact ⟨_, t, true, h1, atI_nat (j := 0) rfl, h2⟩
  | succ a =>
    rw [List.getElem?_cons_succ] at ha
    have hl := (List.getElem?_eq_some_iff.mp ha).1
    have hy : ys[a]? = some ys[a] := List.getElem?_eq_getElem (by omega)
    obtain ⟨u, e, hu⟩ := h4 a _ r hy ha
    exact ⟨_, u, false, h1, atI_nat (j := a + 1) (by rw [List.getElem?_cons_succ, hy, e]), hu⟩
theorem tk3_mem {k : Nat} : ∀ {a : Nat} {L : List (Bool × Str)} {x : T5}, x ∈ Pm.tk3 k a L → x.k = k ∧ ∃ j, x.a = a + j ∧ L[j]? = some (x.b, x.z)
  | _, [], x, h => by cases h
  | a, t :: L, x, h => by
    rcases List.mem_cons.mp h with rfl | h
    · exact ⟨rfl, 0, rfl, rfl⟩
    · obtain ⟨e, j, e1, e2⟩ := tk3_mem h
      exact ⟨e, j + 1, by omega, e2⟩
theorem all3_mem : ∀ {k : Nat} {Ls : List (List (Bool × Str))} {x : T5}, x ∈ Pm.all3 k Ls → ∃ i L, x.k = k + i ∧ Ls[i]? = some L ∧ L[x.a]? = some (x.b, x.z)
  | _, [], x, h => by cases h
  | k, L :: Ls, x, h => by
    rcases List.mem_append.mp h with h | h
    · obtain ⟨e, j, e1, e2⟩ := tk3_mem h
      exact ⟨0, L, e, rfl, by rw [e1, Nat.zero_add]; exact e2⟩
    · obtain ⟨i, L', e, e1, e2⟩ := all3_mem h
      exact ⟨i + 1, L', by omega, e1, e2⟩
theorem al5_mem {Rs : List R3} {x : T5} (h : x ∈ al5 (Rs.map R3.r5)) : ∃ R r, Rs[x.k]? = some R ∧ R.tch[x.a]? = some r ∧ r.1 = x.z := by
  obtain ⟨i, L, e, e1, e2⟩ := all3_mem h
  rw [Nat.zero_add] at e
  rw [List.map_map, List.getElem?_map] at e1
  cases hR : Rs[i]? with
  | none => rw [hR] at e1; cases e1
  | some R =>
    rw [hR] at e1
    cases e1
    refine ⟨R, ?_⟩
    have et : tl5 R.r5 = (true, R.z) :: R.rs.map fun r => (false, r.1) := rfl
    have e2 : ((true, R.z) :: R.rs.map fun r => (false, r.1))[x.a]? = some (x.b, x.z) := e2
    rw [e]
    cases ha : x.a with
    | zero =>
      rw [ha] at e2
      exact ⟨_, hR, rfl, congrArg Prod.snd (Option.some.inj e2)⟩
    | succ a =>
      rw [ha, List.getElem?_cons_succ, List.getElem?_map] at e2
      cases hr : R.rs[a]? with
      | none => rw [hr] at e2; cases e2
      | some r =>
        rw [hr] at e2
        exact ⟨r, hR, by unfold R3.tch; rw [List.getElem?_cons_succ]; exact hr, congrArg Prod.snd (Option.some.inj e2)⟩
theorem mt_mem {Rs : List R3} {q : Pm.Q4} (h : q ∈ Pm.mt (al5 (Rs.map R3.r5))) : ∃ R r R' r', Rs[q.1]? = some R ∧ R.tch[q.2.1]? = some r ∧ Rs[q.2.2.1]? = some R' ∧ R'.tch[q.2.2.2]? = some r' ∧ r.1 = r'.1 := by
  unfold Pm.mt Pm.mtF at h
  obtain ⟨l, hl, hq⟩ := List.mem_flatten.mp h
  obtain ⟨x, hx, rfl⟩ := List.mem_map.mp hl
  unfold Pm.in1 at hq
  obtain ⟨y, hy, rfl⟩ := List.mem_map.mp hq
  obtain ⟨hy, ok⟩ := List.mem_filter.mp hy
  obtain ⟨R, r, a, b, c⟩ := al5_mem hx
  obtain ⟨R', r', a', b', c'⟩ := al5_mem hy
  unfold Pm.ok at ok
  exact ⟨R, r, R', r', a, b, a', b', by rw [c, c']; exact of_decide_eq_true (Bool.and_eq_true _ _ ▸ ok).1⟩
theorem mt_pos {Rs : List R3} (h : 0 < Rs.length) : 0 < (Pm.mt (al5 (Rs.map R3.r5))).length := by
  cases Rs with
  | nil => cases h
  | cons R Rs =>
    have hm : (0, 0, 0, 0) ∈ Pm.mt (al5 ((R :: Rs).map R3.r5)) := by
      unfold Pm.mt Pm.mtF
      refine List.mem_flatten.mpr ⟨_, List.mem_map.mpr ⟨⟨0, 0, true, R.z⟩, List.mem_cons_self, rfl⟩, ?_⟩
      unfold Pm.in1
      refine List.mem_map.mpr ⟨⟨0, 0, true, R.z⟩, List.mem_filter.mpr ⟨List.mem_cons_self, ?_⟩, rfl⟩
      unfold Pm.ok
      rw [decide_eq_true rfl]
      rfl
    exact List.length_pos_of_mem hm
noncomputable def vsL (m : Nat) (f : Nat → Int) : List Int := (List.range m).map f
theorem vsL_len (m : Nat) (f : Nat → Int) : (vsL m f).length = m := by unfold vsL; rw [List.length_map, List.length_range]
theorem vsL_s (m : Nat) (f : Nat → Int) : vsL (m + 1) f = vsL m f ++ [f m] := by unfold vsL; rw [List.range_succ, List.map_append]; rfl
theorem vsL_eq {m : Nat} {f g : Nat → Int} : vsL m f = vsL m g ↔ ∀ i < m, f i = g i := by
  induction m with
  | zero => exact ⟨fun _ i hi => absurd hi (Nat.not_lt_zero _), fun _ => rfl⟩
  | succ m ih =>
    rw [vsL_s, vsL_s]
    constructor
    · intro h i hi
      obtain ⟨h1, h2⟩ := List.append_inj' h rfl
      rcases Nat.lt_or_ge i m with z | z
      · exact ih.mp h1 i z
      · rw [show i = m by omega]
        exact (List.cons.inj h2).1
    · intro h
      rw [ih.mpr fun i hi => h i (by omega), h m (by omega)]
noncomputable def spStand54 : Sp := fun vs H Q _ => ∃ (sp d : Addr) (m : Nat) (z : Nat → Str) (n b : Nat → Int) (kvs : List (Key × V)), vs = [.ref sp, .ref d] ∧ SptAt H sp m z n ∧ m ≤ 100 ∧ H d = some (.dK kvs) ∧ (∀ i < m, StB kvs (z i) (b i)) ∧ ∀ (r : Addr) (H' : Hp), Same H H' → H' r = some (.tup ((vsL m fun i => b i + n i).map V.int)) → Q (.ref r) H'
theorem spt_two {H : Hp} {sp t1 t2 : Addr} {z1 z2 : Str} {n1 n2 : Int} (h : H sp = some (.tup [.ref t1, .ref t2])) (h1 : H t1 = some (.tup [.str z1, .int n1])) (h2 : H t2 = some (.tup [.str z2, .int n2])) : SptAt H sp 2 (fun i => if i = 0 then z1 else z2) (fun i => if i = 0 then n1 else n2) := by
  refine ⟨_, h, rfl, fun i x hx => ?_⟩
  cases i with
  | zero => cases hx; exact ⟨t1, rfl, h1⟩
  | succ i =>
    cases i with
    | zero => cases hx; exact ⟨t2, rfl, h2⟩
    | succ i => cases hx
theorem stb_two {kvs : List (Key × V)} {z1 z2 : Str} {b1 b2 : Int} (h1 : StB kvs z1 b1) (h2 : StB kvs z2 b2) : ∀ i < 2, StB kvs (if i = 0 then z1 else z2) (if i = 0 then b1 else b2) := fun i hi => by
  cases i with
  | zero => exact h1
  | succ i =>
    cases i with
    | zero => exact h2
    | succ i => omega
noncomputable def spLevels54 : Sp := fun vs H Q _ => ∃ (v : V) (R : R3), vs = [v] ∧ R3At H v R ∧ RG R ∧ (∀ n, n ≤ R.S.length → (Tn.lv (bD R.dw) n).length ≤ 400000) ∧ ∀ (r l : Addr) (xs ys : List V) (H' : Hp), Same H H' → H' r = some (.lst (xs ++ [.ref l])) → H' l = some (.lst ys) → All2 (PiAt H') ys (Tn.lv (bD R.dw) R.S.length) → Q (.ref r) H'
structure RK (c : Int) (R : R3) : Prop where
  ok : ROk c R
  lv : ∀ n, n ≤ R.S.length → (Tn.lv (bD R.dw) n).length ≤ 400000
theorem ROk.rk {c : Int} {R : R3} (h : ROk c R) : RK c R := ⟨h, lvb_of (W := 10) h.tame.tm (by decide) h.rg.ll (by decide)⟩
theorem RK.so {c : Int} {R : R3} (h : RK c R) : SOk R.S c := StOk.sok rfl h.ok.so
theorem pi_tr {K : PySem.W.Frag} {H : Hp} : ∀ {ys : List V} {L : List (List Int)}, All2 (PiAt H) ys L → TrsIs K H ys (L.map fun l => Tr.tup (l.map fun i => Tr.v (.int i)))
  | [], [], _ => .nil
  | [], q :: L, h => by have := h.1; cases this
  | y :: ys, [], h => by have := h.1; cases this
  | y :: ys, q :: L, h => by
    obtain ⟨t, rfl, ht⟩ := h.2 0 y q rfl rfl
    exact .cons (.tup (SqT.of ht) (ints_tr q)) (pi_tr ⟨Nat.succ.inj h.1, fun i x a p q => h.2 (i + 1) x a (by simpa using p) (by simpa using q)⟩)
theorem pi_dep : ∀ L : List (List Int), depTs (L.map fun l => Tr.tup (l.map fun i => Tr.v (.int i))) ≤ 1
  | [] => by rw [List.map_nil, depTs]; exact Nat.zero_le _
  | q :: L => by
    rw [List.map_cons, depTs, depT, ints_dep]
    have := pi_dep L
    omega
theorem pi_nil {K : PySem.W.Frag} {H : Hp} {l z : Addr} {ys : List V} {L : List (List Int)} {Q : VK} (hl : H l = some (.lst ys)) (a : All2 (PiAt H) ys L) (hz : H z = some (.lst [])) (q : Q (.bl (decide (L = []))) H) : rEqX K false (.ref l) (.ref z) H Q := by
  refine ⟨_, _, .lst (SqL.of hl) (pi_tr a), .lst (SqL.of hz) .nil, ⟨_, rfl⟩, ⟨_, rfl⟩, by rw [simT]; cases L <;> rfl, by rw [depT]; have := pi_dep L; omega, ?_⟩
  cases L with
  | nil => exact q
  | cons x L => exact q
theorem sim_i : ∀ A B : List Int, simTs (A.map fun i => Tr.v (.int i)) (B.map fun i => Tr.v (.int i)) = true
  | [], [] => rfl
  | [], _ :: _ => rfl
  | _ :: _, [] => rfl
  | a :: A, b :: B => by rw [List.map_cons, List.map_cons, simTs, sim_i A B, simT]; rfl
theorem eq_i : ∀ A B : List Int, eqTs (A.map fun i => Tr.v (.int i)) (B.map fun i => Tr.v (.int i)) = decide (A = B)
  | [], [] => rfl
  | [], b :: B => by rw [List.map_cons, List.map_nil, eqTs, decide_eq_false (by intro h; cases h)] <;> simp
  | a :: A, [] => by rw [List.map_cons, List.map_nil, eqTs, decide_eq_false (by intro h; cases h)] <;> simp
  | a :: A, b :: B => by
    rw [List.map_cons, List.map_cons, eqTs, eq_i A B, eqT]
    by_cases c : a = b
    · subst c
      by_cases d : A = B
      · subst d; simp [eqV]
      · simp [d, eqV]
    · simp [c, eqV]
theorem cmp_i {K : PySem.W.Frag} {H : Hp} {x y : Addr} {A B : List Int} {neg : Bool} {Q : VK} (hx : H x = some (.tup (A.map V.int))) (hy : H y = some (.tup (B.map V.int))) (q : Q (.bl (if neg then !decide (A = B) else decide (A = B))) H) : rEqX K neg (.ref x) (.ref y) H Q := by
  refine ⟨_, _, .tup (SqT.of hx) (ints_tr A), .tup (SqT.of hy) (ints_tr B), ⟨_, rfl⟩, ⟨_, rfl⟩, by rw [simT]; exact sim_i A B, by rw [depT, ints_dep]; decide, ?_⟩
  rw [eqT, eq_i]
  exact q
noncomputable def spFirst54 : Sp := fun vs H Q _ => ∃ (v : V) (R : R3) (c n : Int), vs = [v, .int n] ∧ R3At H v R ∧ RK c R ∧ 0 ≤ n ∧ ∀ (t : Addr) (W : List Int) (H' : Hp), Same H H' → H' t = some (.tup (W.map V.int)) → W.length = R.S.length → Q (.ref t) H'
noncomputable def spOther54 : Sp := fun vs H Q _ => ∃ (v : V) (R : R3) (c n : Int) (sp pl : Addr) (m : Nat) (z : Nat → Str) (k : Nat → Int) (P : List Int), vs = [v, .ref sp, .ref pl, .int n] ∧ R3At H v R ∧ RK c R ∧ 0 ≤ n ∧ SptAt H sp m z k ∧ m ≤ 3 ∧ (∀ i < m, Bs R.S (z i)) ∧ H pl = some (.tup (P.map V.int)) ∧ ∀ (t : Addr) (W : List Int) (H' : Hp), Same H H' → H' t = some (.tup (W.map V.int)) → W.length = R.S.length → Q (.ref t) H'
noncomputable def InR (R : R3) (W : List Int) : Prop := ∀ i < R.S.length, InAt (nmsOf R.S) (lzF R.S) (hzF R.S) (lnF R.S) (hnF R.S) W i
noncomputable def spInside54 : Sp := fun vs H Q _ => ∃ (v : V) (R : R3) (c : Int) (t : Addr) (W : List Int), vs = [v, .ref t] ∧ R3At H v R ∧ RK c R ∧ H t = some (.tup (W.map V.int)) ∧ W.length = R.S.length ∧ ∀ (b : Bool) (H' : Hp), Same H H' → (b = true ↔ InR R W) → Q (.bl b) H'
theorem BV.take {zs : List Str} {W : List Int} {b : Int} {i : Nat} {z : Str} (h : BV zs (W.take i) i z b) : BV zs W i z b := by
  rcases h with h | ⟨h, j, h1, h2, rfl⟩
  · exact .inl h
  · refine .inr ⟨h, j, h1, h2, ?_⟩
    rw [List.getD_eq_getElem?_getD, List.getD_eq_getElem?_getD, List.getElem?_take_of_lt h1]
noncomputable def CaseAt (s k l : Nat) (W V : List Int) (e : Nat) : Prop := (∀ j < e, W.getD j 0 = V.getD j 0) ∧ ((e < s ∧ W.getD e 0 < V.getD e 0) ∨ (e = s ∧ k < l))

noncomputable def spCaseOf54 : Sp := fun vs H Q _ => ∃ (rl t1 t2 w1 w2 : Addr) (Rs : List R3) (M : Str → Int → Prop) (R R' : R3) (k l s : Nat) (c : Int) (W W' : List Int), vs = [.ref rl, .ref t1, .ref t2] ∧ R4sAt M H rl Rs ∧ Rs[k]? = some R ∧ Rs[l]? = some R' ∧ RK c R ∧ RK c R' ∧ Pf5 R.r5 R'.r5 s ∧ H t1 = some (.tup [.int (k : Int), .ref w1]) ∧ H t2 = some (.tup [.int (l : Int), .ref w2]) ∧ H w1 = some (.tup (W.map V.int)) ∧ H w2 = some (.tup (W'.map V.int)) ∧ W.length = R.S.length ∧ W'.length = R'.S.length ∧ ∀ (d : Option Nat) (H' : Hp), Same H H' → (∀ e, d = some e ↔ CaseAt s k l W W' e) → Q (optV d) H'
structure Cd where
  m : Nat
  s : Nat
  u : Nat → Int
  w : Nat → Int
  u' : Nat → Int
  w' : Nat → Int
  z1 : Nat → Str
  z2 : Nat → Str
  n1 : Nat → Int
  n2 : Nat → Int
  x1 : Nat → Int
  x2 : Nat → Int
structure CdOk (R R' : R3) (D : Cd) : Prop where
  m3 : D.m ≤ 3
  hx1 : ∀ i < D.m, Whose (nmsOf R.S) (D.z1 i) 1 (D.x1 i)
  hx2 : ∀ i < D.m, Whose (nmsOf R'.S) (D.z2 i) (1 + (R.S.length : Int)) (D.x2 i)
  hu : ∀ i < R.S.length, UB (nmsOf R.S) (lzF R.S) 1 D.u i
  hw : ∀ i < R.S.length, UB (nmsOf R.S) (hzF R.S) 1 D.w i
  hu' : ∀ i < R'.S.length, UB (nmsOf R'.S) (lzF R'.S) (1 + (R.S.length : Int)) D.u' i
  hw' : ∀ i < R'.S.length, UB (nmsOf R'.S) (hzF R'.S) (1 + (R.S.length : Int)) D.w' i
  pf : Pf5 R.r5 R'.r5 D.s
noncomputable def lbB (S : List Lp) (first : Int) (u w : Nat → Int) : List Tri := likeB (F52 first u (lnF S)) (G52 first w (hnF S)) S.length
noncomputable def spB (D : Cd) : List Tri := likeB (fun i => (D.x1 i, D.x2 i, D.n2 i - D.n1 i)) (fun i => (D.x2 i, D.x1 i, D.n1 i - D.n2 i)) D.m
noncomputable def orL (behind : Int) (n : Nat) : List Tri := likeB (fun e => (1 + (e : Int), behind + (e : Int), 0)) (fun e => (behind + (e : Int), 1 + (e : Int), 0)) n
noncomputable def orB (s case : Nat) (behind : Int) : List Tri := orL behind case ++ if case < s then [(1 + (case : Int), behind + (case : Int), -1)] else []
noncomputable def cbB (R R' : R3) (D : Cd) (case : Nat) : List Tri := lbB R.S 1 D.u D.w ++ lbB R'.S (1 + (R.S.length : Int)) D.u' D.w' ++ spB D ++ orB D.s case (1 + (R.S.length : Int))
noncomputable def hU (U : List Int) (b : Tri) : Bool := decide (U.getD b.1.toNat 0 - U.getD b.2.1.toNat 0 ≤ b.2.2)
noncomputable def okU (U : List Int) (b : Tri) : Prop := 0 ≤ b.1 ∧ b.1 < (U.length : Int) ∧ 0 ≤ b.2.1 ∧ b.2.1 < (U.length : Int)
noncomputable def spOrder54 : Sp := fun vs H Q _ => ∃ (s case : Nat) (behind : Int), vs = [.int (s : Int), .int (case : Int), .int behind] ∧ case ≤ 100 ∧ ∀ (r : Addr) (ys : List V) (H' : Hp), Same H H' → H' r = some (.lst ys) → TrisAt H' ys (orB s case behind) → Q (.ref r) H'
noncomputable def spCaseB54 (CP C : Addr) (c : Cs) : Sp := fun vs H Q _ => ∃ (x dx dl : Addr) (sz : V) (xs : List V) (Rs : List R3) (R R' : R3) (r r' : Str × Addr) (k a l b case : Nat) (o : Int) (D : Cd), vs = [.ref x, .int (k : Int), .int (a : Int), .int (l : Int), .int (b : Int), .int (case : Int)] ∧ H x = some (.ins CP dx [("size", sz), ("deeds", .ref dl)]) ∧ H dl = some (.lst xs) ∧ All2 (D4At c C H) xs Rs ∧ Rs[k]? = some R ∧ Rs[l]? = some R' ∧ RK o R ∧ RK o R' ∧ R.r5.Ok ∧ R'.r5.Ok ∧ R.tch[a]? = some r ∧ R'.tch[b]? = some r' ∧ SptAt H r.2 D.m D.z1 D.n1 ∧ SptAt H r'.2 D.m D.z2 D.n2 ∧ CdOk R R' D ∧ case ≤ D.s ∧ ∀ (q : Addr) (ys : List V) (H' : Hp), Same H H' → H' q = some (.lst ys) → TrisAt H' ys (cbB R R' D case) → Q (.ref q) H'
noncomputable def spCaseL54 : Sp := fun vs H Q _ => ∃ (rl : Addr) (Rs : List R3) (M : Str → Int → Prop) (R R' : R3) (r r' : Str × Addr) (k a l b case : Nat) (o : Int) (D : Cd), vs = [.ref rl, .int (k : Int), .int (a : Int), .int (l : Int), .int (b : Int), .int (case : Int)] ∧ R4sAt M H rl Rs ∧ Rs[k]? = some R ∧ Rs[l]? = some R' ∧ RK o R ∧ RK o R' ∧ R.r5.Ok ∧ R'.r5.Ok ∧ R.tch[a]? = some r ∧ R'.tch[b]? = some r' ∧ SptAt H r.2 D.m D.z1 D.n1 ∧ SptAt H r'.2 D.m D.z2 D.n2 ∧ CdOk R R' D ∧ case ≤ D.s ∧ ∀ (q : Addr) (ys : List V) (H' : Hp), Same H H' → H' q = some (.lst ys) → TrisAt H' ys (cbB R R' D case) → Q (.ref q) H'
noncomputable def spLoopL54 : Sp := fun vs H Q _ => ∃ (v : V) (R : R3) (first : Int) (u w : Nat → Int), vs = [v, .int first] ∧ R3At H v R ∧ R.S.length ≤ 3 ∧ (∀ i < R.S.length, Whose (nmsOf R.S) (lzF R.S i) first (u i)) ∧ (∀ i < R.S.length, Whose (nmsOf R.S) (hzF R.S i) first (w i)) ∧ ∀ (r : Addr) (ys : List V) (H' : Hp), Same H H' → H' r = some (.lst ys) → TrisAt H' ys (lbB R.S first u w) → Q (.ref r) H'
noncomputable def spKept54 : Sp := fun vs H Q _ => ∃ (bl vt : Addr) (ys : List V) (B : List Tri) (U : List Int), vs = [.ref bl, .ref vt] ∧ H bl = some (.lst ys) ∧ TrisAt H ys B ∧ H vt = some (.tup (U.map V.int)) ∧ U.length ≤ 100 ∧ (∀ b ∈ B, okU U b) ∧ Q (.bl (B.all (hU U))) H
theorem lbB_len (S : List Lp) (first : Int) (u w : Nat → Int) : (lbB S first u w).length = 2 * S.length := likeB_len _ _ _
theorem cbB_len {R R' : R3} {D : Cd} {case : Nat} (h : R.S.length ≤ 3) (h' : R'.S.length ≤ 3) (m3 : D.m ≤ 3) (c : case ≤ 3) : (cbB R R' D case).length ≤ 100 := by
  unfold cbB orB
  rw [List.length_append, List.length_append, List.length_append, List.length_append, lbB_len, lbB_len]
  have h1 : (spB D).length = 2 * D.m := likeB_len _ _ _
  have h2 : (orL (1 + (R.S.length : Int)) case).length = 2 * case := likeB_len _ _ _
  have h3 : (if case < D.s then [(1 + (case : Int), 1 + (R.S.length : Int) + (case : Int), (-1 : Int))] else []).length ≤ 1 := by split <;> simp
  omega
theorem kv_eq {U W : List Int} {first x : Int} (f1 : 1 ≤ first) (h0 : U.getD 0 0 = 0) (h : ∀ j : Nat, j < W.length → U.getD (first + (j : Int)).toNat 0 = W.getD j 0) (k : KeyOk first W x) : U.getD x.toNat 0 = kval first W x := by
  unfold kval
  rcases k with rfl | ⟨j, hj, rfl⟩
  · rw [if_pos rfl]
    exact h0
  · rw [if_neg (by omega), h j hj, show (first + (j : Int) - first).toNat = j by omega]
theorem lb_all {S : List Lp} {U W : List Int} {first : Int} {u w : Nat → Int} (f1 : 1 ≤ first) (h0 : U.getD 0 0 = 0) (h : ∀ j : Nat, j < W.length → U.getD (first + (j : Int)).toNat 0 = W.getD j 0) (wl : W.length = S.length) (nd : (nmsOf S).Nodup) (hu : ∀ i < S.length, UB (nmsOf S) (lzF S) first u i) (hw : ∀ i < S.length, UB (nmsOf S) (hzF S) first w i) : (lbB S first u w).all (hU U) = true ↔ ∀ i < S.length, InAt (nmsOf S) (lzF S) (hzF S) (lnF S) (hnF S) W i := by
  rw [← all_in (W := W) (ln := lnF S) (hn := hnF S) nd f1 hu hw]
  unfold lbB
  rw [likeB_all, likeB_all]
  have key : ∀ i < S.length, hU U (F52 first u (lnF S) i) = holdB first W (F52 first u (lnF S) i) ∧ hU U (G52 first w (hnF S) i) = holdB first W (G52 first w (hnF S) i) := fun i hi => by
    have k1 := kv_eq f1 h0 h (ub_key (W := W) (hu i hi) (by omega))
    have k2 := kv_eq f1 h0 h (ub_key (W := W) (hw i hi) (by omega))
    have k3 := kv_eq f1 h0 h (x := first + (i : Int)) (.inr ⟨i, by omega, rfl⟩)
    unfold hU holdB F52 G52
    dsimp only
    rw [k1, k2, k3]
    exact ⟨rfl, rfl⟩
  exact ⟨fun g i hi => by rw [← (key i hi).1, ← (key i hi).2]; exact g i hi, fun g i hi => by rw [(key i hi).1, (key i hi).2]; exact g i hi⟩
theorem or_all {U : List Int} {behind : Int} {n : Nat} : (orL behind n).all (hU U) = true ↔ ∀ e < n, U.getD (1 + (e : Int)).toNat 0 = U.getD (behind + (e : Int)).toNat 0 := by
  unfold orL
  rw [likeB_all]
  unfold hU
  constructor
  · intro h e he
    obtain ⟨a, b⟩ := h e he
    have a := of_decide_eq_true a
    have b := of_decide_eq_true b
    dsimp only at a b
    omega
  · intro h e he
    have := h e he
    exact ⟨decide_eq_true (by dsimp only; omega), decide_eq_true (by dsimp only; omega)⟩
theorem sp_all {U : List Int} {D : Cd} : (spB D).all (hU U) = true ↔ ∀ i < D.m, U.getD (D.x1 i).toNat 0 + D.n1 i = U.getD (D.x2 i).toNat 0 + D.n2 i := by
  unfold spB
  rw [likeB_all]
  unfold hU
  constructor
  · intro h e he
    obtain ⟨a, b⟩ := h e he
    have a := of_decide_eq_true a
    have b := of_decide_eq_true b
    dsimp only at a b
    omega
  · intro h e he
    have := h e he
    exact ⟨decide_eq_true (by dsimp only; omega), decide_eq_true (by dsimp only; omega)⟩
noncomputable def allU (W W' : List Int) : List Int := 0 :: (W ++ W')
theorem allU_1 {W W' : List Int} {j : Nat} (h : j < W.length) : (allU W W').getD (1 + (j : Int)).toNat 0 = W.getD j 0 := by
  rw [show (1 + (j : Int)).toNat = j + 1 by omega]
  show (W ++ W').getD j 0 = _
  rw [List.getD_eq_getElem?_getD, List.getD_eq_getElem?_getD, List.getElem?_append_left h]
theorem allU_2 {W W' : List Int} {j : Nat} : (allU W W').getD (1 + (W.length : Int) + (j : Int)).toNat 0 = W'.getD j 0 := by
  rw [show (1 + (W.length : Int) + (j : Int)).toNat = (W.length + j) + 1 by omega]
  show (W ++ W').getD (W.length + j) 0 = _
  rw [List.getD_eq_getElem?_getD, List.getD_eq_getElem?_getD, List.getElem?_append_right (by omega), show W.length + j - W.length = j by omega]
theorem cb_all {R R' : R3} {D : Cd} {W W' : List Int} {c : Int} {case : Nat} (g : RK c R) (g' : RK c R') (ok : CdOk R R' D) (wl : W.length = R.S.length) (wl' : W'.length = R'.S.length) (cs : case ≤ D.s) : (cbB R R' D case).all (hU (allU W W')) = true ↔ InR R W ∧ InR R' W' ∧ (∀ i < D.m, (allU W W').getD (D.x1 i).toNat 0 + D.n1 i = (allU W W').getD (D.x2 i).toNat 0 + D.n2 i) ∧ (∀ e < case, W.getD e 0 = W'.getD e 0) ∧ (case < D.s → W.getD case 0 < W'.getD case 0) := by
  have h1 := lb_all (U := allU W W') (W := W) (first := 1) (Int.le_refl _) rfl (fun j hj => allU_1 hj) wl (nms_nd g.so) ok.hu ok.hw
  have h2 := lb_all (U := allU W W') (W := W') (first := 1 + (R.S.length : Int)) (by omega) rfl (fun j hj => by rw [← wl]; exact allU_2) wl' (nms_nd g'.so) ok.hu' ok.hw'
  have k1 : D.s ≤ R.S.length := ok.pf.1
  have k2 : D.s ≤ R'.S.length := ok.pf.2.1
  unfold cbB orB
  rw [List.all_append, List.all_append, List.all_append, List.all_append, Bool.and_eq_true, Bool.and_eq_true, Bool.and_eq_true, Bool.and_eq_true, h1, h2, sp_all, or_all]
  have e1 : (∀ e < case, (allU W W').getD (1 + (e : Int)).toNat 0 = (allU W W').getD (1 + (R.S.length : Int) + (e : Int)).toNat 0) ↔ ∀ e < case, W.getD e 0 = W'.getD e 0 := by
    constructor
    · intro h e he
      have := h e he
      rw [allU_1 (by omega), ← wl, allU_2] at this
      exact this
    · intro h e he
      rw [allU_1 (by omega), ← wl, allU_2]
      exact h e he
  have e2 : ((if case < D.s then [(1 + (case : Int), 1 + (R.S.length : Int) + (case : Int), (-1 : Int))] else []).all (hU (allU W W')) = true) ↔ (case < D.s → W.getD case 0 < W'.getD case 0) := by
    by_cases z : case < D.s
    · rw [if_pos z]
      show (decide _ && true) = true ↔ _
      rw [Bool.and_true, decide_eq_true_iff]
      dsimp only
      rw [allU_1 (by omega), ← wl, allU_2]
      exact ⟨fun h _ => by omega, fun h => by have := h z; omega⟩
    · rw [if_neg z]
      exact ⟨fun _ h => absurd h z, fun _ => rfl⟩
  rw [e1, e2]
  unfold InR
  exact ⟨fun ⟨⟨⟨a, b⟩, c⟩, d, e⟩ => ⟨a, b, c, d, e⟩, fun ⟨a, b, c, d, e⟩ => ⟨⟨⟨a, b⟩, c⟩, d, e⟩⟩
theorem wh_ok {zs : List Str} {z : Str} {first x : Int} {n : Nat} (f1 : 1 ≤ first) (h : Whose zs z first x) (l : zs.length ≤ n) : 0 ≤ x ∧ x < first + (n : Int) := by
  rcases h with ⟨_, rfl⟩ | ⟨_, j, hj, _, rfl⟩
  · omega
  · have := (List.getElem?_eq_some_iff.mp hj).1
    omega
theorem like_ok {F G : Nat → Tri} {m : Nat} {U : List Int} (h : ∀ i < m, okU U (F i) ∧ okU U (G i)) : ∀ b ∈ likeB F G m, okU U b := fun b hb => by
  obtain ⟨i, hi, e | e⟩ := likeB_mem hb
  · rw [e]; exact (h i hi).1
  · rw [e]; exact (h i hi).2
theorem cb_ok {R R' : R3} {D : Cd} {W W' : List Int} {c : Int} {case : Nat} (g : RK c R) (g' : RK c R') (ok : CdOk R R' D) (wl : W.length = R.S.length) (wl' : W'.length = R'.S.length) (cs : case ≤ D.s) : ∀ b ∈ cbB R R' D case, okU (allU W W') b := by
  have ul : ((allU W W').length : Int) = 1 + (R.S.length : Int) + (R'.S.length : Int) := by
    show (((W ++ W').length + 1 : Nat) : Int) = _
    rw [List.length_append]
    omega
  have k1 : D.s ≤ R.S.length := ok.pf.1
  have k2 : D.s ≤ R'.S.length := ok.pf.2.1
  have n1 := nms_nd g.so
  have n2 := nms_nd g'.so
  have z1 := nms_ne g.so
  have z2 := nms_ne g'.so
  have l1 := nmsOf_len R.S
  have l2 := nmsOf_len R'.S
  intro b hb
  unfold cbB orB at hb
  rcases List.mem_append.mp hb with hb | hb
  · rcases List.mem_append.mp hb with hb | hb
    · rcases List.mem_append.mp hb with hb | hb
      · refine like_ok (fun i hi => ?_) b hb
        have a1 := wh_ok (n := R.S.length) (Int.le_refl _) (ub_whose n1 z1 (ok.hu i hi)) (by omega)
        have a2 := wh_ok (n := R.S.length) (Int.le_refl _) (ub_whose n1 z1 (ok.hw i hi)) (by omega)
        unfold okU F52 G52
        dsimp only
        omega
      · refine like_ok (fun i hi => ?_) b hb
        have a1 := wh_ok (n := R'.S.length) (by omega) (ub_whose n2 z2 (ok.hu' i hi)) (by omega)
        have a2 := wh_ok (n := R'.S.length) (by omega) (ub_whose n2 z2 (ok.hw' i hi)) (by omega)
        unfold okU F52 G52
        dsimp only
        omega
    · refine like_ok (fun i hi => ?_) b hb
      have a1 := wh_ok (n := R.S.length) (Int.le_refl _) (ok.hx1 i hi) (by omega)
      have a2 := wh_ok (n := R'.S.length) (by omega) (ok.hx2 i hi) (by omega)
      unfold okU
      dsimp only
      omega
  · rcases List.mem_append.mp hb with hb | hb
    · refine like_ok (fun i hi => ?_) b hb
      unfold okU
      dsimp only
      omega
    · split at hb
      · rw [List.mem_singleton.mp hb]
        unfold okU
        dsimp only
        omega
      · cases hb
theorem due_case {s k l : Nat} {W W' : List Int} {case : Nat} (h : case < caN k l s) : CaseAt s k l W W' case ↔ (∀ e < case, W.getD e 0 = W'.getD e 0) ∧ (case < s → W.getD case 0 < W'.getD case 0) := by
  unfold CaseAt
  unfold caN at h
  constructor
  · rintro ⟨a, b⟩
    exact ⟨a, fun z => by omega⟩
  · rintro ⟨a, b⟩
    refine ⟨a, ?_⟩
    by_cases z : case < s
    · exact .inl ⟨z, b z⟩
    · split at h
      · exact .inr ⟨by omega, by assumption⟩
      · omega
theorem stb_w {S : List Lp} {kvs : List (Key × V)} {z : Str} {first x : Int} {U W : List Int} (f1 : 1 ≤ first) (h0 : U.getD 0 0 = 0) (h : ∀ j : Nat, j < W.length → U.getD (first + (j : Int)).toNat 0 = W.getD j 0) (wl : W.length = S.length) (ar : ArIs kvs (nmsOf S) W) (wh : Whose (nmsOf S) z first x) : StB kvs z (U.getD x.toNat 0) := by
  rcases wh with ⟨hz, rfl⟩ | ⟨hz, j, hj, _, rfl⟩
  · exact .inl ⟨hz, h0⟩
  · have l := (List.getElem?_eq_some_iff.mp hj).1
    rw [nmsOf_len] at l
    refine .inr ⟨hz, ?_⟩
    rw [ar j z (by omega) hj, h j (by omega)]
theorem sz_spt {Z : Str → Prop} {n : Nat} {H : Hp} {p : Addr} (h : SzAt Z n H p) : ∃ (z : Nat → Str) (k : Nat → Int), SptAt H p n z k ∧ ∀ i < n, Z (z i) := by
  obtain ⟨xs, a, b, c, d⟩ := h
  have ex : ∀ i : Nat, ∃ y : Str × Int, ∀ x, xs[i]? = some x → (∃ t, x = .ref t ∧ H t = some (.tup [.str y.1, .int y.2])) ∧ Z y.1 := fun i => by
    cases hx : xs[i]? with
    | none => exact ⟨("", 0), fun x h => by cases h⟩
    | some v =>
      obtain ⟨t, z, k, e, ht, hz⟩ := d v (List.mem_of_getElem? hx)
      exact ⟨(z, k), fun x h => by cases h; exact ⟨⟨t, e, ht⟩, hz⟩⟩
  refine ⟨fun i => (ex i).choose.1, fun i => (ex i).choose.2, ⟨xs, a, b, fun i x hx => ((ex i).choose_spec x hx).1⟩, fun i hi => ?_⟩
  exact ((ex i).choose_spec _ (List.getElem?_eq_getElem (by omega))).2
theorem bs_wh {S : List Lp} {c : Int} (so : SOk S c) {m : Nat} {z : Nat → Str} (h : ∀ i < m, Bs S (z i)) (first : Int) : ∃ x : Nat → Int, ∀ i < m, Whose (nmsOf S) (z i) first (x i) := by
  have nd := nms_nd so
  have ne := nms_ne so
  have ex : ∀ i, ∃ x : Int, i < m → Whose (nmsOf S) (z i) first x := fun i => by
    by_cases hi : i < m
    · have : Bs (S.take S.length) (z i) := by rw [List.take_length]; exact h i hi
      rcases bs_at this with e | ⟨j, _, hj⟩
      · exact ⟨0, fun _ => .inl ⟨e, rfl⟩⟩
      · exact ⟨_, fun _ => whose_at nd ne hj first⟩
    · exact ⟨0, fun h => absurd h hi⟩
  exact ⟨fun i => (ex i).choose, fun i hi => (ex i).choose_spec hi⟩
theorem cd_ex {R R' : R3} {c : Int} {M : Str → Int → Prop} (mo : ∀ {z : Str} {m n : Int}, M z m → M z n → m = n) (g : RK c R) (g' : RK c R') {H : Hp} {r r' : Str × Addr} (h : TzAt (Bs R.S) M H r) (h' : TzAt (Bs R'.S) M H r') (e : r.1 = r'.1) : ∃ D : Cd, SptAt H r.2 D.m D.z1 D.n1 ∧ SptAt H r'.2 D.m D.z2 D.n2 ∧ CdOk R R' D ∧ (∀ i < D.m, Bs R.S (D.z1 i)) ∧ ∀ i < D.m, Bs R'.S (D.z2 i) := by
  obtain ⟨n, m1, s1⟩ := h
  obtain ⟨n', m2, s2⟩ := h'
  rw [e] at m1
  have en : n' = n := by have := mo m1 m2; omega
  subst en
  obtain ⟨z1, k1, p1, b1⟩ := sz_spt s1
  obtain ⟨z2, k2, p2, b2⟩ := sz_spt s2
  obtain ⟨x1, hx1⟩ := bs_wh g.so b1 1
  obtain ⟨x2, hx2⟩ := bs_wh g'.so b2 (1 + (R.S.length : Int))
  obtain ⟨q1, q2⟩ := bnds_of g.so
  obtain ⟨q3, q4⟩ := bnds_of g'.so
  obtain ⟨u, hu⟩ := ub_of q1 1
  obtain ⟨w, hw⟩ := ub_of q2 1
  obtain ⟨u', hu'⟩ := ub_of q3 (1 + (R.S.length : Int))
  obtain ⟨w', hw'⟩ := ub_of q4 (1 + (R.S.length : Int))
  obtain ⟨s, pf⟩ := pf_ex R.r5 R'.r5
  obtain ⟨_, _, _, n3, _⟩ := s1
  exact ⟨⟨n', s, u, w, u', w', z1, z2, k1, k2, x1, x2⟩, p1, p2, ⟨n3, hx1, hx2, hu, hw, hu', hw', pf⟩, b1, b2⟩
theorem TrisAt.tk {H H' : Hp} {ys : List V} {B : List Tri} (h : TrisAt H ys B) (e : TK H H') : TrisAt H' ys B := ⟨h.1, fun i y b p q => by obtain ⟨t, x, z⟩ := h.2 i y b p q; exact ⟨t, x, e _ _ z⟩⟩
theorem D4At.tm {c : Cs} {C : Addr} {H : Hp} {v : V} {R : R3} (h : D4At c C H v R) : DeedTm c C H v R.z R.p R.m R.rs := by
  obtain ⟨d, dx, nm, lo, hi, pt, x, ls, hs, a, b, f, g, i, j, k, l, m⟩ := h
  exact ⟨d, dx, _, _, _, x, _, a, b, m⟩
end L2

set_option Elab.async false
set_option linter.all false
set_option maxRecDepth 100000
set_option maxHeartbeats 4000000
namespace L2
open PySem PySem.Spec PyProof.Rows
section
variable {X : Cx} {pins : List (Addr × Obj)} {s : Shared} {σ : St} {H : Hp}
end
end L2

set_option linter.all false
namespace Fo
variable {W : Type}
end Fo

set_option Elab.async false
set_option linter.all false
set_option maxRecDepth 100000
set_option maxHeartbeats 4000000
namespace PySem
open PySem.Spec PyProof.Rows
open AutoSeq1 (wpAny_loadPart')
end PySem
namespace L2
open PySem PySem.Spec PyProof.Rows
end L2
namespace HU
open PySem PySem.Spec
section
variable {prog : Program} {w : World} {A : Around} {E : Value → Shared → Prop} {s : Shared}
end
end HU
namespace L2
open PySem PySem.Spec PyProof.Rows
end L2

set_option Elab.async false
set_option linter.all false
set_option maxRecDepth 100000
set_option maxHeartbeats 4000000

namespace Fw
open PySem L2 Bd


noncomputable def top (i : Nat) : Stmt := PySem.Challenge.pw_furrow_k54_cases_of_turns.main.body.getD i (.Pass ⟨0, 0, 0, 0⟩)
noncomputable abbrev s_Number_init : Stmt := inClass (top 3) 0
noncomputable abbrev s_Value_init : Stmt := inClass (top 4) 0
noncomputable abbrev s_Cell_init : Stmt := inClass (top 5) 0
noncomputable abbrev s_Joined_init : Stmt := inClass (top 6) 0
noncomputable abbrev s_Number_reads : Stmt := inClass (top 3) 2
noncomputable abbrev s_Value_reads : Stmt := inClass (top 4) 2
noncomputable abbrev s_Cell_reads : Stmt := inClass (top 5) 2
noncomputable abbrev s_Joined_reads : Stmt := inClass (top 6) 2
noncomputable abbrev s_Deed_init : Stmt := inClass (top 8) 0
noncomputable abbrev s_Program_init : Stmt := inClass (top 9) 0
noncomputable abbrev s_shared : Stmt := top 10
noncomputable abbrev s_alike_numbers : Stmt := top 11
noncomputable abbrev s_touches : Stmt := top 13
noncomputable abbrev s_loop_bonds : Stmt := top 14
noncomputable abbrev s_like_bonds : Stmt := top 15
noncomputable abbrev s_unknown_of : Stmt := top 16
noncomputable abbrev s_cases : Stmt := top 18
noncomputable abbrev s_case_bonds : Stmt := top 19
noncomputable abbrev s_order_bonds : Stmt := top 20
noncomputable abbrev s_l_cell : Stmt := top 22
noncomputable abbrev s_l_whole : Stmt := top 23
noncomputable abbrev s_l_mixed : Stmt := top 24
noncomputable abbrev s_l_name : Stmt := top 25
noncomputable abbrev s_l_spots : Stmt := top 26
noncomputable abbrev s_l_cell_of : Stmt := top 27
noncomputable abbrev s_l_leaf : Stmt := top 28
noncomputable abbrev s_l_term : Stmt := top 29
noncomputable abbrev s_l_loop : Stmt := top 30
noncomputable abbrev s_l_row : Stmt := top 31
noncomputable abbrev s_l_heads : Stmt := top 32
noncomputable abbrev s_l_rows : Stmt := top 33
noncomputable abbrev s_l_size : Stmt := top 34
noncomputable abbrev s_l_object : Stmt := top 35
noncomputable abbrev s_l_made : Stmt := top 36
noncomputable abbrev s_l_few : Stmt := top 37
noncomputable abbrev s_l_around : Stmt := top 38
noncomputable abbrev s_l_stand : Stmt := top 39
noncomputable abbrev s_l_levels : Stmt := top 40
noncomputable abbrev s_l_reads : Stmt := top 41
noncomputable abbrev s_l_touches : Stmt := top 42
noncomputable abbrev s_l_meets : Stmt := top 43
noncomputable abbrev s_l_shared : Stmt := top 44
noncomputable abbrev s_l_cases : Stmt := top 45
noncomputable abbrev s_l_case_of : Stmt := top 46
noncomputable abbrev s_l_are_bonds : Stmt := top 47
noncomputable abbrev s_l_kept : Stmt := top 48
noncomputable abbrev s_l_unknown : Stmt := top 49
noncomputable abbrev s_l_loop_bonds : Stmt := top 50
noncomputable abbrev s_l_case_bonds : Stmt := top 51
noncomputable abbrev s_l_inside : Stmt := top 52
noncomputable abbrev s_l_first : Stmt := top 53
noncomputable abbrev s_l_other : Stmt := top 54
noncomputable abbrev s_law : Stmt := top 55
theorem scM {N P : List Str} {sc : Scope} (a : sc.kind = .function := by rfl) (b : sc.isCoroutine = false := by rfl) (c : sc.isGenerator = false := by rfl) (d : N.Nodup := by decide +kernel) (e : N.take P.length = P := by rfl) (f : ∀ x ∈ P, sc.names.lookup x = some .local ∨ sc.names.lookup x = some .cell := by decide +kernel) (g : ∀ y ∈ sc.names, y.2 ≠ .free := by decide +kernel) : FnScope N P sc := ⟨a, b, c, d, e, f, g⟩
theorem sc_Number_init : FnScope ["self", "n"] ["self", "n"] (defScope s_Number_init) := scM
theorem sc_Value_init : FnScope ["self", "name"] ["self", "name"] (defScope s_Value_init) := scM
theorem sc_Cell_init : FnScope ["self", "table", "spots"] ["self", "table", "spots"] (defScope s_Cell_init) := scM
theorem sc_Joined_init : FnScope ["self", "sign", "left", "right"] ["self", "sign", "left", "right"] (defScope s_Joined_init) := scM
theorem sc_Number_reads : FnScope ["self"] ["self"] (defScope s_Number_reads) := scM
theorem sc_Value_reads : FnScope ["self"] ["self"] (defScope s_Value_reads) := scM
theorem sc_Cell_reads : FnScope ["self"] ["self"] (defScope s_Cell_reads) := scM
theorem sc_Joined_reads : FnScope ["self"] ["self"] (defScope s_Joined_reads) := scM
theorem sc_Deed_init : FnScope ["self", "names", "lows", "highs", "table", "spots", "term", "path"] ["self", "names", "lows", "highs", "table", "spots", "term", "path"] (defScope s_Deed_init) := scM
theorem sc_Program_init : FnScope ["self", "size", "deeds"] ["self", "size", "deeds"] (defScope s_Program_init) := scM
theorem sc_shared : FnScope ["one", "other"] ["one", "other"] (defScope s_shared) := scM
theorem sc_alike_numbers : FnScope ["path", "other", "most", "e"] ["path", "other", "most"] (defScope s_alike_numbers) := scM
theorem sc_touches : FnScope ["deed", "reads"] ["deed"] (defScope s_touches) := scM
theorem sc_loop_bonds : FnScope ["deed", "first", "bonds", "e", "low", "high"] ["deed", "first"] (defScope s_loop_bonds) := scM
theorem sc_like_bonds : FnScope ["spots", "names", "first", "others", "other_names", "other_first", "bonds", "spot", "other", "u", "w"] ["spots", "names", "first", "others", "other_names", "other_first"] (defScope s_like_bonds) := scM
theorem sc_unknown_of : FnScope ["spot", "names", "first"] ["spot", "names", "first"] (defScope s_unknown_of) := scM
theorem sc_cases : FnScope ["program", "k", "l", "many"] ["program", "k", "l"] (defScope s_cases) := scM
theorem sc_case_bonds : FnScope ["program", "k", "a", "l", "b", "case", "one", "other", "behind", "spots", "others", "bonds"] ["program", "k", "a", "l", "b", "case"] (defScope s_case_bonds) := scM
theorem sc_order_bonds : FnScope ["many", "case", "behind", "bonds", "e"] ["many", "case", "behind"] (defScope s_order_bonds) := scM
theorem sc_l_cell : FnScope ["_law_script", "_law_k", "_law_number"] ["_law_script", "_law_k"] (defScope s_l_cell) := scM
theorem sc_l_whole : FnScope ["_law_found"] ["_law_found"] (defScope s_l_whole) := scM
theorem sc_l_mixed : FnScope ["_law_cell_here", "_law_k", "_law_number"] ["_law_cell_here", "_law_k"] (defScope s_l_mixed) := scM
theorem sc_l_name : FnScope ["_law_cell_here", "_law_e", "_law_some", "_law_number", "_law_word", "_law_k", "_law_at", "_law_name_here"] ["_law_cell_here", "_law_e"] (defScope s_l_name) := scM
theorem sc_l_spots : FnScope ["_law_number", "_law_bases", "_law_many", "_law_off", "_law_spots_here", "_law_k", "_law_part", "_law_base"] ["_law_number", "_law_bases", "_law_many", "_law_off"] (defScope s_l_spots) := scM
theorem sc_l_cell_of : FnScope ["_law_number", "_law_bases", "_law_heads_here", "_law_table", "_law_many", "_law_off"] ["_law_number", "_law_bases", "_law_heads_here"] (defScope s_l_cell_of) := scM
theorem sc_l_leaf : FnScope ["_law_number", "_law_bases", "_law_heads_here", "_law_table", "_law_spots_here"] ["_law_number", "_law_bases", "_law_heads_here"] (defScope s_l_leaf) := scM
theorem sc_l_term : FnScope ["_law_cell_here", "_law_bases", "_law_heads_here", "_law_term_here", "_law_k", "_law_sign", "_law_leaf_here"] ["_law_cell_here", "_law_bases", "_law_heads_here"] (defScope s_l_term) := scM
theorem sc_l_loop : FnScope ["_law_number", "_law_far", "_law_stack", "_law_cell_here", "_law_about", "_law_bases", "_law_low", "_law_high", "_law_more", "_law_low_spot", "_law_turn", "_law_name_here"] ["_law_number", "_law_far", "_law_stack", "_law_cell_here"] (defScope s_l_loop) := scM
theorem sc_l_row : FnScope ["_law_cell_here", "_law_stack", "_law_path", "_law_heads_here", "_law_bases", "_law_names", "_law_lows", "_law_highs", "_law_table", "_law_spots_here"] ["_law_cell_here", "_law_stack", "_law_path", "_law_heads_here"] (defScope s_l_row) := scM
theorem sc_l_heads : FnScope ["_law_script", "_law_cell_here", "_law_number", "_law_off", "_law_heads_here", "_law_t"] ["_law_script"] (defScope s_l_heads) := scM
theorem sc_l_rows : FnScope ["_law_script", "_law_many", "_law_far", "_law_stack", "_law_counts", "_law_path", "_law_rows_here", "_law_k", "_law_cell_here", "_law_number", "_law_closed", "_law_close", "_law_opens", "_law_e", "_law_loop_here"] ["_law_script", "_law_many"] (defScope s_l_rows) := scM
theorem sc_l_size : FnScope ["_law_script", "_law_cell_here"] ["_law_script"] (defScope s_l_size) := scM
theorem sc_l_object : FnScope ["_law_term_here"] ["_law_term_here"] (defScope s_l_object) := scM
theorem sc_l_made : FnScope ["_law_size_here", "_law_rows_here", "_law_deeds"] ["_law_size_here", "_law_rows_here"] (defScope s_l_made) := scM
theorem sc_l_few : FnScope ["_law_script"] ["_law_script"] (defScope s_l_few) := scM
theorem sc_l_around : FnScope ["_law_names", "_law_values", "_law_around_here", "_law_name_here", "_law_value"] ["_law_names", "_law_values"] (defScope s_l_around) := scM
theorem sc_l_stand : FnScope ["_law_spots_here", "_law_around_here", "_law_place", "_law_name_here", "_law_n"] ["_law_spots_here", "_law_around_here"] (defScope s_l_stand) := scM
theorem sc_l_levels : FnScope ["_law_row_here", "_law_levels_here", "_law_e", "_law_level", "_law_values", "_law_low", "_law_high"] ["_law_row_here"] (defScope s_l_levels) := scM
theorem sc_l_reads : FnScope ["_law_term_here"] ["_law_term_here"] (defScope s_l_reads) := scM
theorem sc_l_touches : FnScope ["_law_row_here"] ["_law_row_here"] (defScope s_l_touches) := scM
theorem sc_l_meets : FnScope ["_law_rows_here", "_law_some", "_law_k", "_law_a", "_law_touch", "_law_found", "_law_one", "_law_l", "_law_b", "_law_other_here"] ["_law_rows_here"] (defScope s_l_meets) := scM
theorem sc_l_shared : FnScope ["_law_one", "_law_other_here", "_law_many"] ["_law_one", "_law_other_here"] (defScope s_l_shared) := scM
theorem sc_l_cases : FnScope ["_law_rows_here", "_law_k", "_law_l", "_law_many"] ["_law_rows_here", "_law_k", "_law_l"] (defScope s_l_cases) := scM
theorem sc_l_case_of : FnScope ["_law_rows_here", "_law_one", "_law_other_here", "_law_many", "_law_e"] ["_law_rows_here", "_law_one", "_law_other_here"] (defScope s_l_case_of) := scM
theorem sc_l_are_bonds : FnScope ["_law_found", "_law_bond"] ["_law_found"] (defScope s_l_are_bonds) := scM
theorem sc_l_kept : FnScope ["_law_bonds", "_law_values", "_law_x", "_law_y", "_law_c"] ["_law_bonds", "_law_values"] (defScope s_l_kept) := scM
theorem sc_l_unknown : FnScope ["_law_name_here", "_law_names", "_law_first_here"] ["_law_name_here", "_law_names", "_law_first_here"] (defScope s_l_unknown) := scM
theorem sc_l_loop_bonds : FnScope ["_law_row_here", "_law_first_here", "_law_found", "_law_e", "_law_low", "_law_n", "_law_high", "_law_m"] ["_law_row_here", "_law_first_here"] (defScope s_l_loop_bonds) := scM
theorem sc_l_case_bonds : FnScope ["_law_rows_here", "_law_k", "_law_a", "_law_l", "_law_b", "_law_case", "_law_one", "_law_other_here", "_law_second", "_law_found", "_law_here", "_law_there", "_law_u", "_law_w", "_law_e"] ["_law_rows_here", "_law_k", "_law_a", "_law_l", "_law_b", "_law_case"] (defScope s_l_case_bonds) := scM
theorem sc_l_inside : FnScope ["_law_row_here", "_law_values", "_law_e", "_law_low", "_law_high"] ["_law_row_here", "_law_values"] (defScope s_l_inside) := scM
theorem sc_l_first : FnScope ["_law_row_here", "_law_number", "_law_every", "_law_values", "_law_at"] ["_law_row_here", "_law_number"] (defScope s_l_first) := scM
theorem sc_l_other : FnScope ["_law_row_here", "_law_spots_here", "_law_place", "_law_number", "_law_every", "_law_at", "_law_values"] ["_law_row_here", "_law_spots_here", "_law_place", "_law_number"] (defScope s_l_other) := scM
theorem sc_law : FnScope ["_law_script", "_law_rows_here", "_law_program", "_law_some", "_law_k", "_law_a", "_law_l", "_law_b", "_law_here", "_law_there", "_law_one", "_law_place", "_law_other_here", "_law_due", "_law_told", "_law_values", "_law_case", "_law_bonds"] ["_law_script"] (defScope s_law) := scM
theorem c_l_loop_0 : compB (mkSc [(".0", .local), ("_law_one", .local)]) (defScope s_l_loop) ["_law_number", "_law_far", "_law_stack", "_law_cell_here", "_law_about", "_law_bases", "_law_low", "_law_high", "_law_more", "_law_low_spot", "_law_turn", "_law_name_here"] ["_law_one"] [none] = true := by decide +kernel
theorem c_l_loop_0n : (["_law_one"] : List Str).Nodup := by decide +kernel
theorem c_touches_0 : compB (mkSc [(".0", .local), ("table", .local), ("spots", .local)]) (defScope s_touches) ["deed", "reads"] ["table", "spots"] [none, none] = true := by decide +kernel
theorem c_touches_0n : (["table", "spots"] : List Str).Nodup := by decide +kernel
theorem c_l_row_0 : compB (mkSc [(".0", .local), ("_law_one", .local)]) (defScope s_l_row) ["_law_cell_here", "_law_stack", "_law_path", "_law_heads_here", "_law_bases", "_law_names", "_law_lows", "_law_highs", "_law_table", "_law_spots_here"] ["_law_one"] [none] = true := by decide +kernel
theorem c_l_row_0n : (["_law_one"] : List Str).Nodup := by decide +kernel
theorem c_l_row_1 : compB (mkSc [(".0", .local), ("_law_one", .local)]) (defScope s_l_row) ["_law_cell_here", "_law_stack", "_law_path", "_law_heads_here", "_law_bases", "_law_names", "_law_lows", "_law_highs", "_law_table", "_law_spots_here"] ["_law_one"] [none] = true := by decide +kernel
theorem c_l_row_1n : (["_law_one"] : List Str).Nodup := by decide +kernel
theorem c_l_row_2 : compB (mkSc [(".0", .local), ("_law_one", .local)]) (defScope s_l_row) ["_law_cell_here", "_law_stack", "_law_path", "_law_heads_here", "_law_bases", "_law_names", "_law_lows", "_law_highs", "_law_table", "_law_spots_here"] ["_law_one"] [none] = true := by decide +kernel
theorem c_l_row_2n : (["_law_one"] : List Str).Nodup := by decide +kernel
theorem c_l_row_3 : compB (mkSc [(".0", .local), ("_law_one", .local)]) (defScope s_l_row) ["_law_cell_here", "_law_stack", "_law_path", "_law_heads_here", "_law_bases", "_law_names", "_law_lows", "_law_highs", "_law_table", "_law_spots_here"] ["_law_one"] [none] = true := by decide +kernel
theorem c_l_row_3n : (["_law_one"] : List Str).Nodup := by decide +kernel
theorem c_l_made_0 : compB (mkSc [(".0", .local), ("_law_row_here", .local), ("Deed", .globalImplicit), ("_law_object", .globalImplicit)]) (defScope s_l_made) ["_law_size_here", "_law_rows_here", "_law_deeds"] ["_law_row_here"] [none] = true := by decide +kernel
theorem c_l_made_0n : (["_law_row_here"] : List Str).Nodup := by decide +kernel
theorem c_l_cases_0 : compB (mkSc [(".0", .local), ("_law_e", .local), ("_law_k", .free), ("_law_l", .free), ("_law_many", .free)]) (defScope s_l_cases) ["_law_rows_here", "_law_k", "_law_l", "_law_many"] ["_law_e", "_law_k", "_law_l", "_law_many"] [none, some 1, some 2, some 3] = true := by decide +kernel
theorem c_l_cases_0n : (["_law_e", "_law_k", "_law_l", "_law_many"] : List Str).Nodup := by decide +kernel
theorem c_l_are_bonds_0 : compB (mkSc [(".0", .local), ("_law_n", .local), ("_law_whole", .globalImplicit)]) (defScope s_l_are_bonds) ["_law_found", "_law_bond"] ["_law_n"] [none] = true := by decide +kernel
theorem c_l_are_bonds_0n : (["_law_n"] : List Str).Nodup := by decide +kernel
theorem c_l_first_0 : compB (mkSc [(".0", .local), ("_law_e", .local), ("_law_number", .free)]) (defScope s_l_first) ["_law_row_here", "_law_number", "_law_every", "_law_values", "_law_at"] ["_law_e", "_law_number"] [none, some 1] = true := by decide +kernel
theorem c_l_first_0n : (["_law_e", "_law_number"] : List Str).Nodup := by decide +kernel
structure DnA (K : PySem.W.Frag) (x : Str) (st : Stmt) (f : Addr) (d : FuncData) : Prop where
  a : PySem.W.nsIn K mainGlobals x = some (some (.ref f))
  F : Fun K x x st f d
structure DcA (K : PySem.W.Frag) (C : Addr) (x q : Str) (st : Stmt) (f : Addr) (d : FuncData) : Prop where
  a : PySem.W.findIn K (.ref C) x = some (some (.ref f))
  i : PySem.W.isFn K (.ref f) = true
  F : Fun K x q st f d
structure ClA (K : PySem.W.Frag) (C : Addr) (x : Str) : Prop where
  a : PySem.W.nsIn K mainGlobals x = some (some (.ref C))
  pg : PySem.W.plainGet K C Str.empty = true
  hd : PySem.W.hasDictIn K C = true
  po : PySem.W.plainOver K C = true
  sa : PySem.W.findIn K (.ref C) "__setattr__" = some (some (.builtin "object.__setattr__"))
  mi : PySem.W.makesIn K C = true
  kc : PySem.W.keepIn K (.ref C) = true
noncomputable abbrev BdA (x q : Str) (st : Stmt) (ps : List Str) : Prop := ∀ (kV doc pm : Value) (an : Option Addr) (cdv ct : Value) (us : List Value), us.length = ps.length → bindArgs (PySem.W.fnOf x q (defArgs st) (defBody st) (defScope st) .none kV doc pm an cdv ct) ⟨us, []⟩ = pure (ps.zip us)
set_option genSizeOf false in
set_option genInjectivity false in
structure Ad where
  f_Number_init : Addr
  d_Number_init : FuncData
  f_Value_init : Addr
  d_Value_init : FuncData
  f_Cell_init : Addr
  d_Cell_init : FuncData
  f_Joined_init : Addr
  d_Joined_init : FuncData
  f_Number_reads : Addr
  d_Number_reads : FuncData
  f_Value_reads : Addr
  d_Value_reads : FuncData
  f_Cell_reads : Addr
  d_Cell_reads : FuncData
  f_Joined_reads : Addr
  d_Joined_reads : FuncData
  f_Deed_init : Addr
  d_Deed_init : FuncData
  f_Program_init : Addr
  d_Program_init : FuncData
  f_shared : Addr
  d_shared : FuncData
  f_alike_numbers : Addr
  d_alike_numbers : FuncData
  f_touches : Addr
  d_touches : FuncData
  f_loop_bonds : Addr
  d_loop_bonds : FuncData
  f_like_bonds : Addr
  d_like_bonds : FuncData
  f_unknown_of : Addr
  d_unknown_of : FuncData
  f_cases : Addr
  d_cases : FuncData
  f_case_bonds : Addr
  d_case_bonds : FuncData
  f_order_bonds : Addr
  d_order_bonds : FuncData
  f_l_cell : Addr
  d_l_cell : FuncData
  f_l_whole : Addr
  d_l_whole : FuncData
  f_l_mixed : Addr
  d_l_mixed : FuncData
  f_l_name : Addr
  d_l_name : FuncData
  f_l_spots : Addr
  d_l_spots : FuncData
  f_l_cell_of : Addr
  d_l_cell_of : FuncData
  f_l_leaf : Addr
  d_l_leaf : FuncData
  f_l_term : Addr
  d_l_term : FuncData
  f_l_loop : Addr
  d_l_loop : FuncData
  f_l_row : Addr
  d_l_row : FuncData
  f_l_heads : Addr
  d_l_heads : FuncData
  f_l_rows : Addr
  d_l_rows : FuncData
  f_l_size : Addr
  d_l_size : FuncData
  f_l_object : Addr
  d_l_object : FuncData
  f_l_made : Addr
  d_l_made : FuncData
  f_l_few : Addr
  d_l_few : FuncData
  f_l_around : Addr
  d_l_around : FuncData
  f_l_stand : Addr
  d_l_stand : FuncData
  f_l_levels : Addr
  d_l_levels : FuncData
  f_l_reads : Addr
  d_l_reads : FuncData
  f_l_touches : Addr
  d_l_touches : FuncData
  f_l_meets : Addr
  d_l_meets : FuncData
  f_l_shared : Addr
  d_l_shared : FuncData
  f_l_cases : Addr
  d_l_cases : FuncData
  f_l_case_of : Addr
  d_l_case_of : FuncData
  f_l_are_bonds : Addr
  d_l_are_bonds : FuncData
  f_l_kept : Addr
  d_l_kept : FuncData
  f_l_unknown : Addr
  d_l_unknown : FuncData
  f_l_loop_bonds : Addr
  d_l_loop_bonds : FuncData
  f_l_case_bonds : Addr
  d_l_case_bonds : FuncData
  f_l_inside : Addr
  d_l_inside : FuncData
  f_l_first : Addr
  d_l_first : FuncData
  f_l_other : Addr
  d_l_other : FuncData
  f_law : Addr
  d_law : FuncData
  c_Term : Addr
  c_Number : Addr
  c_Value : Addr
  c_Cell : Addr
  c_Joined : Addr
  c_Deed : Addr
  c_Program : Addr
structure Tx (K : PySem.W.Frag) (mg : Str → Option Value) (a : Ad) : Prop where
  F_Number_init : Fun K "__init__" "Number.__init__" s_Number_init a.f_Number_init a.d_Number_init
  b_Number_init : Binds K a.d_Number_init ["self", "n"] []
  F_Value_init : Fun K "__init__" "Value.__init__" s_Value_init a.f_Value_init a.d_Value_init
  b_Value_init : Binds K a.d_Value_init ["self", "name"] []
  F_Cell_init : Fun K "__init__" "Cell.__init__" s_Cell_init a.f_Cell_init a.d_Cell_init
  b_Cell_init : Binds K a.d_Cell_init ["self", "table", "spots"] []
  F_Joined_init : Fun K "__init__" "Joined.__init__" s_Joined_init a.f_Joined_init a.d_Joined_init
  b_Joined_init : Binds K a.d_Joined_init ["self", "sign", "left", "right"] []
  F_Number_reads : Fun K "reads" "Number.reads" s_Number_reads a.f_Number_reads a.d_Number_reads
  b_Number_reads : Binds K a.d_Number_reads ["self"] []
  F_Value_reads : Fun K "reads" "Value.reads" s_Value_reads a.f_Value_reads a.d_Value_reads
  b_Value_reads : Binds K a.d_Value_reads ["self"] []
  F_Cell_reads : Fun K "reads" "Cell.reads" s_Cell_reads a.f_Cell_reads a.d_Cell_reads
  b_Cell_reads : Binds K a.d_Cell_reads ["self"] []
  F_Joined_reads : Fun K "reads" "Joined.reads" s_Joined_reads a.f_Joined_reads a.d_Joined_reads
  b_Joined_reads : Binds K a.d_Joined_reads ["self"] []
  F_Deed_init : Fun K "__init__" "Deed.__init__" s_Deed_init a.f_Deed_init a.d_Deed_init
  b_Deed_init : Binds K a.d_Deed_init ["self", "names", "lows", "highs", "table", "spots", "term", "path"] []
  F_Program_init : Fun K "__init__" "Program.__init__" s_Program_init a.f_Program_init a.d_Program_init
  b_Program_init : Binds K a.d_Program_init ["self", "size", "deeds"] []
  F_shared : Fun K "shared" "shared" s_shared a.f_shared a.d_shared
  b_shared : Binds K a.d_shared ["one", "other"] []
  m_shared : mg "shared" = some (.ref a.f_shared)
  F_alike_numbers : Fun K "alike_numbers" "alike_numbers" s_alike_numbers a.f_alike_numbers a.d_alike_numbers
  b_alike_numbers : Binds K a.d_alike_numbers ["path", "other", "most"] []
  m_alike_numbers : mg "alike_numbers" = some (.ref a.f_alike_numbers)
  F_touches : Fun K "touches" "touches" s_touches a.f_touches a.d_touches
  b_touches : Binds K a.d_touches ["deed"] []
  m_touches : mg "touches" = some (.ref a.f_touches)
  F_loop_bonds : Fun K "loop_bonds" "loop_bonds" s_loop_bonds a.f_loop_bonds a.d_loop_bonds
  b_loop_bonds : Binds K a.d_loop_bonds ["deed", "first"] []
  m_loop_bonds : mg "loop_bonds" = some (.ref a.f_loop_bonds)
  F_like_bonds : Fun K "like_bonds" "like_bonds" s_like_bonds a.f_like_bonds a.d_like_bonds
  b_like_bonds : Binds K a.d_like_bonds ["spots", "names", "first", "others", "other_names", "other_first"] []
  m_like_bonds : mg "like_bonds" = some (.ref a.f_like_bonds)
  F_unknown_of : Fun K "unknown_of" "unknown_of" s_unknown_of a.f_unknown_of a.d_unknown_of
  b_unknown_of : Binds K a.d_unknown_of ["spot", "names", "first"] []
  m_unknown_of : mg "unknown_of" = some (.ref a.f_unknown_of)
  F_cases : Fun K "cases" "cases" s_cases a.f_cases a.d_cases
  b_cases : Binds K a.d_cases ["program", "k", "l"] []
  m_cases : mg "cases" = some (.ref a.f_cases)
  F_case_bonds : Fun K "case_bonds" "case_bonds" s_case_bonds a.f_case_bonds a.d_case_bonds
  b_case_bonds : Binds K a.d_case_bonds ["program", "k", "a", "l", "b", "case"] []
  m_case_bonds : mg "case_bonds" = some (.ref a.f_case_bonds)
  F_order_bonds : Fun K "order_bonds" "order_bonds" s_order_bonds a.f_order_bonds a.d_order_bonds
  b_order_bonds : Binds K a.d_order_bonds ["many", "case", "behind"] []
  m_order_bonds : mg "order_bonds" = some (.ref a.f_order_bonds)
  F_l_cell : Fun K "_law_cell" "_law_cell" s_l_cell a.f_l_cell a.d_l_cell
  b_l_cell : Binds K a.d_l_cell ["_law_script", "_law_k"] []
  m_l_cell : mg "_law_cell" = some (.ref a.f_l_cell)
  F_l_whole : Fun K "_law_whole" "_law_whole" s_l_whole a.f_l_whole a.d_l_whole
  b_l_whole : Binds K a.d_l_whole ["_law_found"] []
  m_l_whole : mg "_law_whole" = some (.ref a.f_l_whole)
  F_l_mixed : Fun K "_law_mixed" "_law_mixed" s_l_mixed a.f_l_mixed a.d_l_mixed
  b_l_mixed : Binds K a.d_l_mixed ["_law_cell_here", "_law_k"] []
  m_l_mixed : mg "_law_mixed" = some (.ref a.f_l_mixed)
  F_l_name : Fun K "_law_name" "_law_name" s_l_name a.f_l_name a.d_l_name
  b_l_name : Binds K a.d_l_name ["_law_cell_here", "_law_e"] []
  m_l_name : mg "_law_name" = some (.ref a.f_l_name)
  F_l_spots : Fun K "_law_spots" "_law_spots" s_l_spots a.f_l_spots a.d_l_spots
  b_l_spots : Binds K a.d_l_spots ["_law_number", "_law_bases", "_law_many", "_law_off"] []
  m_l_spots : mg "_law_spots" = some (.ref a.f_l_spots)
  F_l_cell_of : Fun K "_law_cell_of" "_law_cell_of" s_l_cell_of a.f_l_cell_of a.d_l_cell_of
  b_l_cell_of : Binds K a.d_l_cell_of ["_law_number", "_law_bases", "_law_heads_here"] []
  m_l_cell_of : mg "_law_cell_of" = some (.ref a.f_l_cell_of)
  F_l_leaf : Fun K "_law_leaf" "_law_leaf" s_l_leaf a.f_l_leaf a.d_l_leaf
  b_l_leaf : Binds K a.d_l_leaf ["_law_number", "_law_bases", "_law_heads_here"] []
  m_l_leaf : mg "_law_leaf" = some (.ref a.f_l_leaf)
  F_l_term : Fun K "_law_term" "_law_term" s_l_term a.f_l_term a.d_l_term
  b_l_term : Binds K a.d_l_term ["_law_cell_here", "_law_bases", "_law_heads_here"] []
  m_l_term : mg "_law_term" = some (.ref a.f_l_term)
  F_l_loop : Fun K "_law_loop" "_law_loop" s_l_loop a.f_l_loop a.d_l_loop
  b_l_loop : Binds K a.d_l_loop ["_law_number", "_law_far", "_law_stack", "_law_cell_here"] []
  m_l_loop : mg "_law_loop" = some (.ref a.f_l_loop)
  F_l_row : Fun K "_law_row" "_law_row" s_l_row a.f_l_row a.d_l_row
  b_l_row : Binds K a.d_l_row ["_law_cell_here", "_law_stack", "_law_path", "_law_heads_here"] []
  m_l_row : mg "_law_row" = some (.ref a.f_l_row)
  F_l_heads : Fun K "_law_heads" "_law_heads" s_l_heads a.f_l_heads a.d_l_heads
  b_l_heads : Binds K a.d_l_heads ["_law_script"] []
  m_l_heads : mg "_law_heads" = some (.ref a.f_l_heads)
  F_l_rows : Fun K "_law_rows" "_law_rows" s_l_rows a.f_l_rows a.d_l_rows
  b_l_rows : Binds K a.d_l_rows ["_law_script", "_law_many"] []
  m_l_rows : mg "_law_rows" = some (.ref a.f_l_rows)
  F_l_size : Fun K "_law_size" "_law_size" s_l_size a.f_l_size a.d_l_size
  b_l_size : Binds K a.d_l_size ["_law_script"] []
  m_l_size : mg "_law_size" = some (.ref a.f_l_size)
  F_l_object : Fun K "_law_object" "_law_object" s_l_object a.f_l_object a.d_l_object
  b_l_object : Binds K a.d_l_object ["_law_term_here"] []
  m_l_object : mg "_law_object" = some (.ref a.f_l_object)
  F_l_made : Fun K "_law_made" "_law_made" s_l_made a.f_l_made a.d_l_made
  b_l_made : Binds K a.d_l_made ["_law_size_here", "_law_rows_here"] []
  m_l_made : mg "_law_made" = some (.ref a.f_l_made)
  F_l_few : Fun K "_law_few" "_law_few" s_l_few a.f_l_few a.d_l_few
  b_l_few : Binds K a.d_l_few ["_law_script"] []
  m_l_few : mg "_law_few" = some (.ref a.f_l_few)
  F_l_around : Fun K "_law_around" "_law_around" s_l_around a.f_l_around a.d_l_around
  b_l_around : Binds K a.d_l_around ["_law_names", "_law_values"] []
  m_l_around : mg "_law_around" = some (.ref a.f_l_around)
  F_l_stand : Fun K "_law_stand" "_law_stand" s_l_stand a.f_l_stand a.d_l_stand
  b_l_stand : Binds K a.d_l_stand ["_law_spots_here", "_law_around_here"] []
  m_l_stand : mg "_law_stand" = some (.ref a.f_l_stand)
  F_l_levels : Fun K "_law_levels" "_law_levels" s_l_levels a.f_l_levels a.d_l_levels
  b_l_levels : Binds K a.d_l_levels ["_law_row_here"] []
  m_l_levels : mg "_law_levels" = some (.ref a.f_l_levels)
  F_l_reads : Fun K "_law_reads" "_law_reads" s_l_reads a.f_l_reads a.d_l_reads
  b_l_reads : Binds K a.d_l_reads ["_law_term_here"] []
  m_l_reads : mg "_law_reads" = some (.ref a.f_l_reads)
  F_l_touches : Fun K "_law_touches" "_law_touches" s_l_touches a.f_l_touches a.d_l_touches
  b_l_touches : Binds K a.d_l_touches ["_law_row_here"] []
  m_l_touches : mg "_law_touches" = some (.ref a.f_l_touches)
  F_l_meets : Fun K "_law_meets" "_law_meets" s_l_meets a.f_l_meets a.d_l_meets
  b_l_meets : Binds K a.d_l_meets ["_law_rows_here"] []
  m_l_meets : mg "_law_meets" = some (.ref a.f_l_meets)
  F_l_shared : Fun K "_law_shared" "_law_shared" s_l_shared a.f_l_shared a.d_l_shared
  b_l_shared : Binds K a.d_l_shared ["_law_one", "_law_other_here"] []
  m_l_shared : mg "_law_shared" = some (.ref a.f_l_shared)
  F_l_cases : Fun K "_law_cases" "_law_cases" s_l_cases a.f_l_cases a.d_l_cases
  b_l_cases : Binds K a.d_l_cases ["_law_rows_here", "_law_k", "_law_l"] []
  m_l_cases : mg "_law_cases" = some (.ref a.f_l_cases)
  F_l_case_of : Fun K "_law_case_of" "_law_case_of" s_l_case_of a.f_l_case_of a.d_l_case_of
  b_l_case_of : Binds K a.d_l_case_of ["_law_rows_here", "_law_one", "_law_other_here"] []
  m_l_case_of : mg "_law_case_of" = some (.ref a.f_l_case_of)
  F_l_are_bonds : Fun K "_law_are_bonds" "_law_are_bonds" s_l_are_bonds a.f_l_are_bonds a.d_l_are_bonds
  b_l_are_bonds : Binds K a.d_l_are_bonds ["_law_found"] []
  m_l_are_bonds : mg "_law_are_bonds" = some (.ref a.f_l_are_bonds)
  F_l_kept : Fun K "_law_kept" "_law_kept" s_l_kept a.f_l_kept a.d_l_kept
  b_l_kept : Binds K a.d_l_kept ["_law_bonds", "_law_values"] []
  m_l_kept : mg "_law_kept" = some (.ref a.f_l_kept)
  F_l_unknown : Fun K "_law_unknown" "_law_unknown" s_l_unknown a.f_l_unknown a.d_l_unknown
  b_l_unknown : Binds K a.d_l_unknown ["_law_name_here", "_law_names", "_law_first_here"] []
  m_l_unknown : mg "_law_unknown" = some (.ref a.f_l_unknown)
  F_l_loop_bonds : Fun K "_law_loop_bonds" "_law_loop_bonds" s_l_loop_bonds a.f_l_loop_bonds a.d_l_loop_bonds
  b_l_loop_bonds : Binds K a.d_l_loop_bonds ["_law_row_here", "_law_first_here"] []
  m_l_loop_bonds : mg "_law_loop_bonds" = some (.ref a.f_l_loop_bonds)
  F_l_case_bonds : Fun K "_law_case_bonds" "_law_case_bonds" s_l_case_bonds a.f_l_case_bonds a.d_l_case_bonds
  b_l_case_bonds : Binds K a.d_l_case_bonds ["_law_rows_here", "_law_k", "_law_a", "_law_l", "_law_b", "_law_case"] []
  m_l_case_bonds : mg "_law_case_bonds" = some (.ref a.f_l_case_bonds)
  F_l_inside : Fun K "_law_inside" "_law_inside" s_l_inside a.f_l_inside a.d_l_inside
  b_l_inside : Binds K a.d_l_inside ["_law_row_here", "_law_values"] []
  m_l_inside : mg "_law_inside" = some (.ref a.f_l_inside)
  F_l_first : Fun K "_law_first" "_law_first" s_l_first a.f_l_first a.d_l_first
  b_l_first : Binds K a.d_l_first ["_law_row_here", "_law_number"] []
  m_l_first : mg "_law_first" = some (.ref a.f_l_first)
  F_l_other : Fun K "_law_other" "_law_other" s_l_other a.f_l_other a.d_l_other
  b_l_other : Binds K a.d_l_other ["_law_row_here", "_law_spots_here", "_law_place", "_law_number"] []
  m_l_other : mg "_law_other" = some (.ref a.f_l_other)
  F_law : Fun K "law" "law" s_law a.f_law a.d_law
  b_law : Binds K a.d_law ["_law_script"] []
  m_law : mg "law" = some (.ref a.f_law)
  cl_Term : Cls K a.c_Term
  mc_Term : mg "Term" = some (.ref a.c_Term)
  cl_Number : Cls K a.c_Number
  mc_Number : mg "Number" = some (.ref a.c_Number)
  mk_Number : Mk K a.c_Number a.f_Number_init
  me_Number_reads : Meth K a.c_Number "reads" a.f_Number_reads
  n_Number_n : NoAttr K a.c_Number "n"
  cl_Value : Cls K a.c_Value
  mc_Value : mg "Value" = some (.ref a.c_Value)
  mk_Value : Mk K a.c_Value a.f_Value_init
  me_Value_reads : Meth K a.c_Value "reads" a.f_Value_reads
  n_Value_name : NoAttr K a.c_Value "name"
  cl_Cell : Cls K a.c_Cell
  mc_Cell : mg "Cell" = some (.ref a.c_Cell)
  mk_Cell : Mk K a.c_Cell a.f_Cell_init
  me_Cell_reads : Meth K a.c_Cell "reads" a.f_Cell_reads
  n_Cell_table : NoAttr K a.c_Cell "table"
  n_Cell_spots : NoAttr K a.c_Cell "spots"
  cl_Joined : Cls K a.c_Joined
  mc_Joined : mg "Joined" = some (.ref a.c_Joined)
  mk_Joined : Mk K a.c_Joined a.f_Joined_init
  me_Joined_reads : Meth K a.c_Joined "reads" a.f_Joined_reads
  n_Joined_sign : NoAttr K a.c_Joined "sign"
  n_Joined_left : NoAttr K a.c_Joined "left"
  n_Joined_right : NoAttr K a.c_Joined "right"
  cl_Deed : Cls K a.c_Deed
  mc_Deed : mg "Deed" = some (.ref a.c_Deed)
  mk_Deed : Mk K a.c_Deed a.f_Deed_init
  n_Deed_names : NoAttr K a.c_Deed "names"
  n_Deed_lows : NoAttr K a.c_Deed "lows"
  n_Deed_highs : NoAttr K a.c_Deed "highs"
  n_Deed_table : NoAttr K a.c_Deed "table"
  n_Deed_spots : NoAttr K a.c_Deed "spots"
  n_Deed_term : NoAttr K a.c_Deed "term"
  n_Deed_path : NoAttr K a.c_Deed "path"
  cl_Program : Cls K a.c_Program
  mc_Program : mg "Program" = some (.ref a.c_Program)
  mk_Program : Mk K a.c_Program a.f_Program_init
  n_Program_size : NoAttr K a.c_Program "size"
  n_Program_deeds : NoAttr K a.c_Program "deeds"
  z_bool : mg "bool" = none
  z_enumerate : mg "enumerate" = none
  z_int : mg "int" = none
  z_isinstance : mg "isinstance" = none
  z_len : mg "len" = none
  z_list : mg "list" = none
  z_min : mg "min" = none
  z_range : mg "range" = none
  z_tuple : mg "tuple" = none
  z_zip : mg "zip" = none
noncomputable def csOf (a : Ad) : Cs := ⟨a.c_Number, a.c_Value, a.c_Cell, a.c_Joined⟩
section
variable {P : Program} {w : World} {K : PySem.W.Frag} {mg : Str → Option Value} {base : Heap} {a : Ad}
theorem ok_whole (T : Tx K mg a) : FnOk P w K mg base CX0 1 a.f_l_whole a.d_l_whole ["_law_found"] spWhole := by
  refine T.F_l_whole.ok sc_l_whole (fun vs H Q E h => ?_) (fun cdv A outer s H vs Q E hr h => ?_)
  · obtain ⟨_, rfl, _⟩ := h; rfl
  obtain ⟨x, rfl, hx, q⟩ := h
  refine ⟨_, (pss_one (ps_ret (pe_and (pe_callB call_isi (by rfl) T.z_isinstance bt_isinstance (pa_cons (pv 0) (pa_cons (pe_bltn (v := .ty "int") (by rfl) T.z_int bt_int rfl) pa_nil))) (pe_one (pe_not (pe_callB call_isi (by rfl) T.z_isinstance bt_isinstance (pa_cons (pv 0) (pa_cons (pe_bltn (v := .ty "bool") (by rfl) T.z_bool bt_bool rfl) pa_nil)))))))), ?_⟩
  cases x with
  | int i => exact ⟨_, rfl, _, _, _, _, _, rfl, rfl, .int i, rfl, _, rfl, _, rfl, _, _, _, _, _, rfl, rfl, .int i, rfl, _, rfl, q⟩
  | bl b => exact ⟨_, rfl, _, _, _, _, _, rfl, rfl, .bl b, rfl, _, rfl, _, rfl, _, _, _, _, _, rfl, rfl, .bl b, rfl, _, rfl, q⟩
  | non => exact ⟨_, rfl, _, _, _, _, _, rfl, rfl, .non, rfl, _, rfl, q⟩
  | str z => exact ⟨_, rfl, _, _, _, _, _, rfl, rfl, .str z, rfl, _, rfl, q⟩
  | _ => cases hx

theorem ok_cell (T : Tx K mg a) : FnOk P w K mg base CX0 1 a.f_l_cell a.d_l_cell ["_law_script", "_law_k"] (spCellA K) := by
  refine T.F_l_cell.ok sc_l_cell (fun vs H Q E h => ?_) (fun cdv A outer s H vs Q E hr h => ?_)
  · obtain ⟨_, _, _, rfl, _⟩ := h; rfl
  obtain ⟨p, ns, k, rfl, hS, h0, h1, q⟩ := h
  refine ⟨_, (pss_cons (ps_if (pt_cmpR op_lt (pv 1) (pe_callB call_len_seq (by rfl) T.z_len bt_len (pa_cons (pv 0) pa_nil)) (nomark _))
    (pss_one (ps_ret (pe_ix ix_list (pv 0) (pv 1) (fun _ _ => rfl))))
    pss_nil)
    (pss_cons (ps_set (i := 2) sc_l_cell.nd rfl (Or.inl rfl) (pe_op op_add (pe_op op_mul (pv 1) pe_int) pe_int))
    (pss_cons (ps_if (pt_cmpR op_gt (pe_callB call_len_seq (by rfl) T.z_len bt_len (pa_cons (pv 0) pa_nil)) pe_int (nomark _))
    (pss_one (ps_set (i := 2) sc_l_cell.nd rfl (Or.inl rfl) (pe_op op_mod (pe_op op_add (pe_op op_mul (pe_ix ix_list (pv 0) (pe_op op_mod (pe_op op_mul (pv 1) pe_int) (pe_callB call_len_seq (by rfl) T.z_len bt_len (pa_cons (pv 0) pa_nil))) (fun _ _ => rfl)) pe_int) (pe_op op_mul (pv 1) pe_int)) pe_int)))
    pss_nil)
    (pss_one (ps_ret (pe_op op_mod (pe_op op_mul (pv 2) (pv 2)) pe_int)))))), ?_⟩
  have hl : (ns.map V.int).length = ns.length := List.length_map _
  have p64 : (2 : Int) ^ 64 = 18446744073709551616 := by decide
  refine ⟨_, rfl, _, rfl, p, _, rfl, .inl hS, _, _, rfl, rfl, _, rfl, ?_⟩
  refine ite2 (fun c => ?_) (fun c => ?_)
  · have c' := dT c
    rw [hl] at c'
    exact ⟨_, rfl, _, rfl, p, _, _, _, rfl, rfl, hS, cell_in h0 c', q _⟩
  refine ⟨_, rfl, _, _, rfl, rfl, .inr ⟨by decide, by decide⟩, _, _, rfl, rfl, ?_⟩
  refine ⟨_, rfl, p, _, rfl, .inl hS, _, _, rfl, rfl, _, rfl, ?_⟩
  refine ite2 (fun c2 => ?_) (fun c2 => ?_)
  · have c2 := dT c2
    have m0 := Int.emod_nonneg (k * 7) (show ((ns.map V.int).length : Int) ≠ 0 by omega)
    have m1 := Int.emod_lt_of_pos (k * 7) c2
    refine ⟨_, rfl, _, rfl, _, _, rfl, rfl, .inr ⟨by decide, by decide⟩, _, rfl, p, _, rfl, .inl hS, _, _, rfl, rfl, c2, ?_⟩
    refine ⟨p, _, _, _, rfl, rfl, hS, cell_in m0 (by rw [hl] at m1 ⊢; exact m1), _, _, rfl, rfl, .inr ⟨by decide, by decide⟩, _, rfl, _, _, rfl, rfl, .inr ⟨by decide, by decide⟩, _, _, rfl, rfl, _, _, rfl, rfl, (by show (0 : Int) < 2147483647; decide), ?_⟩
    have b0 := Int.emod_nonneg (ns.getD (k * 7 % ((ns.map V.int).length : Int)).toNat 0 * 48271 + k * 7919) (show (2147483647 : Int) ≠ 0 by decide)
    have b1 := Int.emod_lt_of_pos (ns.getD (k * 7 % ((ns.map V.int).length : Int)).toNat 0 * 48271 + k * 7919) (show (0 : Int) < 2147483647 by decide)
    exact ⟨_, rfl, _, rfl, _, _, rfl, rfl, .inl ⟨by omega, by omega⟩, _, _, rfl, rfl, (by show (0 : Int) < 2147483629; decide), q _⟩
  · exact ⟨_, rfl, _, rfl, _, _, rfl, rfl, .inl ⟨by omega, by omega⟩, _, _, rfl, rfl, (by show (0 : Int) < 2147483629; decide), q _⟩

theorem ok_cellD (T : Tx K mg a) : FnOk P w K mg base CX0 1 a.f_l_cell a.d_l_cell ["_law_script", "_law_k"] (spCellD K) := by
  refine T.F_l_cell.ok sc_l_cell (fun vs H Q E h => ?_) (fun cdv A outer s H vs Q E hr h => ?_)
  · obtain ⟨_, _, _, rfl, _⟩ := h; rfl
  obtain ⟨p, ns, k, rfl, hS, h0, h1, q⟩ := h
  refine ⟨_, (pss_cons (ps_if (pt_cmpR op_lt (pv 1) (pe_callB call_len_seq (by rfl) T.z_len bt_len (pa_cons (pv 0) pa_nil)) (nomark _))
    (pss_one (ps_ret (pe_ix ix_list (pv 0) (pv 1) (fun _ _ => rfl))))
    pss_nil)
    (pss_cons (ps_set (i := 2) sc_l_cell.nd rfl (Or.inl rfl) (pe_op op_add (pe_op op_mul (pv 1) pe_int) pe_int))
    (pss_cons (ps_if (pt_cmpR op_gt (pe_callB call_len_seq (by rfl) T.z_len bt_len (pa_cons (pv 0) pa_nil)) pe_int (nomark _))
    (pss_one (ps_set (i := 2) sc_l_cell.nd rfl (Or.inl rfl) (pe_op op_mod (pe_op op_add (pe_op op_mul (pe_ix ix_list (pv 0) (pe_op op_mod (pe_op op_mul (pv 1) pe_int) (pe_callB call_len_seq (by rfl) T.z_len bt_len (pa_cons (pv 0) pa_nil))) (fun _ _ => rfl)) pe_int) (pe_op op_mul (pv 1) pe_int)) pe_int)))
    pss_nil)
    (pss_one (ps_ret (pe_op op_mod (pe_op op_mul (pv 2) (pv 2)) pe_int)))))), ?_⟩
  have hl : (ns.map V.int).length = ns.length := List.length_map _
  have p64 : (2 : Int) ^ 64 = 18446744073709551616 := by decide
  refine ⟨_, rfl, _, rfl, p, _, rfl, .inl hS, _, _, rfl, rfl, _, rfl, ?_⟩
  unfold cellD at q
  refine ite2 (fun c => ?_) (fun c => ?_)
  · have c' := dT c
    rw [hl] at c'
    rw [if_pos c'] at q
    exact ⟨_, rfl, _, rfl, p, _, _, _, rfl, rfl, hS, cell_in h0 c', q⟩
  have c' := dF c
  rw [hl] at c'
  rw [if_neg c'] at q
  refine ⟨_, rfl, _, _, rfl, rfl, .inr ⟨by decide, by decide⟩, _, _, rfl, rfl, ?_⟩
  refine ⟨_, rfl, p, _, rfl, .inl hS, _, _, rfl, rfl, _, rfl, ?_⟩
  refine ite2 (fun c2 => ?_) (fun c2 => ?_)
  · have c2 := dT c2
    rw [if_pos (by rw [hl] at c2; omega)] at q
    have m0 := Int.emod_nonneg (k * 7) (show ((ns.map V.int).length : Int) ≠ 0 by omega)
    have m1 := Int.emod_lt_of_pos (k * 7) c2
    refine ⟨_, rfl, _, rfl, _, _, rfl, rfl, .inr ⟨by decide, by decide⟩, _, rfl, p, _, rfl, .inl hS, _, _, rfl, rfl, c2, ?_⟩
    refine ⟨p, _, _, _, rfl, rfl, hS, cell_in m0 (by rw [hl] at m1 ⊢; exact m1), _, _, rfl, rfl, .inr ⟨by decide, by decide⟩, _, rfl, _, _, rfl, rfl, .inr ⟨by decide, by decide⟩, _, _, rfl, rfl, _, _, rfl, rfl, (by show (0 : Int) < 2147483647; decide), ?_⟩
    have b0 := Int.emod_nonneg (ns.getD (k * 7 % ((ns.map V.int).length : Int)).toNat 0 * 48271 + k * 7919) (show (2147483647 : Int) ≠ 0 by decide)
    have b1 := Int.emod_lt_of_pos (ns.getD (k * 7 % ((ns.map V.int).length : Int)).toNat 0 * 48271 + k * 7919) (show (0 : Int) < 2147483647 by decide)
    exact ⟨_, rfl, _, rfl, _, _, rfl, rfl, .inl ⟨by omega, by omega⟩, _, _, rfl, rfl, (by show (0 : Int) < 2147483629; decide), by rw [hl]; exact q⟩
  · have c2 := dF c2
    rw [if_neg (by rw [hl] at c2; omega)] at q
    exact ⟨_, rfl, _, rfl, _, _, rfl, rfl, .inl ⟨by omega, by omega⟩, _, _, rfl, rfl, (by show (0 : Int) < 2147483629; decide), q⟩

theorem ok_mixed (T : Tx K mg a) : FnOk P w K mg base CX0 1 a.f_l_mixed a.d_l_mixed ["_law_cell_here", "_law_k"] spMix2 := by
  refine T.F_l_mixed.ok sc_l_mixed (fun vs H Q E h => ?_) (fun cdv A outer s H vs Q E hr h => ?_)
  · obtain ⟨_, _, rfl, _⟩ := h; rfl
  obtain ⟨c, k, rfl, q⟩ := h
  refine ⟨_, (pss_cons (ps_set (i := 2) sc_l_mixed.nd rfl (Or.inl rfl) (pe_op op_mod (pe_op op_mul (pe_op op_add (pe_op op_add (pv 0) (pe_op op_mul pe_int (pv 1))) pe_int) pe_int) pe_int))
    (pss_one (ps_ret (pe_op op_mod (pe_op op_mul (pv 2) (pv 2)) pe_int)))), ?_⟩
  have p64 : (2 : Int) ^ 64 = 18446744073709551616 := by decide
  have b0 := Int.emod_nonneg ((c + 7919 * k + 1) * 48271) (show (2147483647 : Int) ≠ 0 by decide)
  have b1 := Int.emod_lt_of_pos ((c + 7919 * k + 1) * 48271) (show (0 : Int) < 2147483647 by decide)
  refine ⟨_, rfl, _, rfl, _, _, rfl, rfl, .inl ⟨by decide, by decide⟩, _, _, rfl, rfl, _, _, rfl, rfl, _, _, rfl, rfl, .inr ⟨by decide, by decide⟩, _, _, rfl, rfl, (by show (0 : Int) < 2147483647; decide), ?_⟩
  exact ⟨_, rfl, _, rfl, _, _, rfl, rfl, .inl ⟨by omega, by omega⟩, _, _, rfl, rfl, (by show (0 : Int) < 2147483629; decide), q⟩

theorem ok_name (T : Tx K mg a) : FnOk P w K mg base CX0 2 a.f_l_name a.d_l_name ["_law_cell_here", "_law_e"] spName := by
  have G_l_mixed := ok_mixed (P := P) (w := w) (base := base) T
  refine T.F_l_name.ok sc_l_name (fun vs H Q E h => ?_) (fun cdv A outer s H vs Q E hr h => ?_)
  · obtain ⟨_, _, rfl, _⟩ := h; rfl
  obtain ⟨c, e, rfl, e0, e1, q⟩ := h
  refine ⟨_, (pss_cons (ps_set (i := 2) sc_l_name.nd rfl (Or.inl rfl) pe_str)
    (pss_cons (ps_set (i := 3) sc_l_name.nd rfl (Or.inl rfl) (pe_call G_l_mixed (hr.mono (by omega)) (by rfl) T.m_l_mixed T.F_l_mixed.kp T.b_l_mixed .nil pass0 (pa_cons (pv 0) (pa_cons pe_int pa_nil))))
    (pss_cons (ps_set (i := 4) sc_l_name.nd rfl (Or.inl rfl) pe_str)
    (pss_cons (ps_for PassesOwn.never rfl (pi_range1 (by rfl) T.z_range (pa_cons (pe_op op_mod (pv 3) pe_int) pa_nil)) (pg_name (i := 5) sc_l_name.nd rfl (Or.inl rfl))
    (pss_one (ps_set (i := 4) sc_l_name.nd rfl (Or.inl rfl) (pe_op op_add_str (pv 4) (pe_ix ix_str (pv 2) (pe_op op_mod (pe_op op_fdiv (pv 3) (pe_op op_add (pv 5) pe_int)) pe_int) (fun _ _ => rfl))))))
    (pss_cons (ps_set (i := 6) sc_l_name.nd rfl (Or.inl rfl) (pe_op op_mod (pe_op op_fdiv (pv 3) pe_int) (pe_op op_add (pe_callB call_len_str (by rfl) T.z_len bt_len (pa_cons (pv 4) pa_nil)) pe_int)))
    (pss_cons (ps_set (i := 7) sc_l_name.nd rfl (Or.inl rfl) (pe_op op_add_str (pe_op op_add_str (pe_slice sl_str (pv 4) po_none (po_some (pv 6))) (pe_ix ix_str (pv 2) (pe_op op_mod (pe_op op_add (pe_op op_fdiv (pv 3) pe_int) (pe_op op_mul pe_int (pv 1))) pe_int) (fun _ _ => rfl))) (pe_slice sl_str (pv 4) (po_some (pv 6)) po_none)))
    (pss_cons (ps_if (pt_cmpR op_eq (pe_op op_mod (pe_op op_fdiv (pv 3) pe_int) pe_int) pe_int (nomark _))
    (pss_one (ps_set (i := 7) sc_l_name.nd rfl (Or.inl rfl) (pe_slice sl_str (pe_op op_add_str (pv 4) pe_str) po_none (po_some (pe_op op_add pe_int (pv 1))))))
    pss_nil)
    (pss_cons (ps_if (pt_cmpR op_in_seq (pv 7) (pe_tupq (paq_cons pe_str (paq_cons pe_str (paq_cons pe_str paq_nil star_C) star_C) star_C)) (by with_unfolding_all rfl))
    (pss_one (ps_set (i := 7) sc_l_name.nd rfl (Or.inl rfl) (pe_op op_add_str (pv 7) pe_str)))
    pss_nil)
    (pss_one (ps_ret (pv 7))))))))))), ?_⟩
  refine ⟨_, rfl, c, 11, rfl, ?_⟩
  obtain ⟨m0, m1⟩ := mix_b c 11
  generalize mixF c 11 = m at q m0 m1 ⊢
  have l0 := Int.emod_nonneg m (show (8 : Int) ≠ 0 by decide)
  have l1 := Int.emod_lt_of_pos m (show (0 : Int) < 8 by decide)
  dsimp only [gName]
  refine ⟨_, rfl, _, _, rfl, rfl, (by show (0 : Int) < 8; decide), m % 8, rfl, by omega, by omega, ?_⟩
  have hL := nmL_b m
  refine for_range (lo := 0) (n := nmL m) (fun i σ' H' => H' = H ∧ ∃ o5 o6 o7, σ' = [some (.int c), some (.int e), some (.str abc), some (.int m), some (.str (sOf (nmW m i))), o5, o6, o7]) ⟨rfl, _, _, _, rfl⟩ (fun i σ' H' hi p => ?_) (fun σ' H' p => ?_)
  · obtain ⟨rfl, o5, o6, o7, rfl⟩ := p
    have e0' : (0 : Int) + (i : Int) = (i : Int) := by omega
    rw [e0']
    refine ⟨_, rfl, _, rfl, _, rfl, _, rfl, _, _, rfl, rfl, _, _, rfl, rfl, ⟨(by show (0 : Int) < (i : Int) + 9; omega), (by show (i : Int) + 9 < 1073741824; omega)⟩, _, _, rfl, rfl, (by show (0 : Int) < 26; decide), _, _, _, rfl, rfl, abc_len, abc_at _, _, _, rfl, rfl, ?_, ?_⟩
    · rw [len_sOf, nmW_len]; exact szl (by show i + 1 ≤ 1000000; omega)
    have eW : sOf (nmW m i) ++ (⟨#[letC (m / ((i : Int) + 9))]⟩ : Str) = sOf (nmW m (i + 1)) := cds_ext (by
      rw [cds_app, cds_sOf, cds_sOf]
      unfold nmW
      rw [List.range_succ, List.map_append]
      rfl)
    exact ⟨rfl, _, _, _, congrArg (fun z => [some (V.int c), some (.int e), some (.str abc), some (.int m), some (.str z), some (.int (i : Int)), o6, o7]) eW⟩
  obtain ⟨rfl, o5, o6, o7, rfl⟩ := p
  have wl : (sOf (nmW m (nmL m))).length = nmL m := by rw [len_sOf, nmW_len]
  obtain ⟨a0, a1⟩ := nmAt_b m
  refine ⟨_, rfl, _, _, rfl, rfl, ⟨by decide, by decide⟩, _, rfl, _, rfl, ?_⟩
  rw [wl]
  refine ⟨szl (by omega), _, _, rfl, rfl, _, _, rfl, rfl, (by show (0 : Int) < (nmL m : Int) + 1; omega), ?_⟩
  dsimp only [gName]
  rw [← a1]
  have hc := nmW_len m (nmL m)
  -- the name
  refine ⟨_, rfl, _, rfl, _, rfl, _, rfl, szl (by omega), _, rfl, _, rfl, _, _, rfl, rfl, ⟨by decide, by decide⟩, _, rfl, _, _, rfl, rfl, .inl ⟨by decide, by decide⟩, _, _, rfl, rfl, _, _, rfl, rfl, (by show (0 : Int) < 26; decide), _, _, _, rfl, rfl, abc_len, abc_at _, _, _, rfl, rfl, ?_, ?_⟩
  · rw [len_sOf, cds_sOf, cut_to _ (by omega)]
    exact szl (by rw [List.length_take]; show _ + 1 ≤ 1000000; omega)
  refine ⟨_, rfl, _, rfl, _, rfl, _, rfl, szl (by omega), ?_⟩
  rw [cds_sOf, cut_to _ (by omega), cut_from _ (by omega)]
  have eA : sOf ((nmW m (nmL m)).take ((nmAt m : Nat) : Int).toNat) ++ (⟨#[letC (m / 72 + 5 * e)]⟩ : Str) ++ sOf ((nmW m (nmL m)).drop ((nmAt m : Nat) : Int).toNat) = sOf (nmA m e) := cds_ext (by rw [cds_app, cds_app, cds_sOf, cds_sOf, cds_sOf]; rfl)
  refine ⟨_, _, rfl, rfl, ?_, ?_⟩
  · rw [len_app, len_sOf, len_sOf, List.length_take, List.length_drop]
    exact szl (by show _ + 1 + _ ≤ 1000000; omega)
  rw [eA]
  dsimp only [gName]
  refine seq_any (fun σ2 H2 => H2 = H' ∧ ∃ o5 o6, σ2 = [some (.int c), some (.int e), some (.str abc), some (.int m), some (.str (sOf (nmW m (nmL m)))), o5, o6, some (.str (sOf (nmR m e)))]) (fun σ2 H2 mm => ?_) (fun rest => ?_)
  · obtain ⟨rfl, o5, o6, rfl⟩ := mm
    have rb := nmR_b (m := m) e0 e1
    refine seq_any (fun σ3 H3 => Same H2 H3 ∧ ∃ o5 o6, σ3 = [some (.int c), some (.int e), some (.str abc), some (.int m), some (.str (sOf (nmW m (nmL m)))), o5, o6, some (.str (sOf (nmC m e)))]) (fun σ3 H3 mm => ?_) (fun rest => ?_)
    · obtain ⟨e3, o5, o6, rfl⟩ := mm
      exact ⟨_, rfl, q _ e3⟩
    · refine ⟨_, rfl, szl (by show 3 ≤ 1000000; decide), fun tp htp => ?_⟩
      refine ⟨tp, [.str "for", .str "end", .str "size"], rfl, .inr (SqT.of upd_same), rfl, rfl, _, rfl, ?_⟩
      show if inV (V.str (sOf (nmR m e))) [.str "for", .str "end", .str "size"] = true then _ else _
      rw [in_resv]
      refine ite2 (fun cc => ?_) (fun cc => ?_)
      · refine ⟨_, rfl, _, _, rfl, rfl, ?_, ?_⟩
        · have hz2 : (Str.ofString "s").length = 1 := by decide +kernel
          rw [len_sOf, hz2]
          exact szl (by omega)
        · have ee : sOf (nmR m e) ++ Str.ofString "s" = sOf (nmC m e) := cds_ext (by
            rw [cds_app, cds_sOf, cds_sOf]
            unfold nmC
            rw [if_pos (dT cc)]
            congr 1)
          exact rest _ _ ⟨same_new htp _, o5, o6, congrArg (fun z => [some (V.int c), some (.int e), some (.str abc), some (.int m), some (.str (sOf (nmW m (nmL m)))), o5, o6, some (.str z)]) ee⟩
      · have ee : sOf (nmR m e) = sOf (nmC m e) := by
          unfold nmC
          rw [if_neg (dF cc)]
        exact rest _ _ ⟨same_new htp _, o5, o6, congrArg (fun z => [some (V.int c), some (.int e), some (.str abc), some (.int m), some (.str (sOf (nmW m (nmL m)))), o5, o6, some (.str z)]) ee⟩
  · refine ⟨_, rfl, _, _, rfl, rfl, ⟨by decide, by decide⟩, _, _, rfl, rfl, (by show (0 : Int) < 4; decide), rfl, _, rfl, ?_⟩
    have key : (V.int (m / 5003 % 4) = V.int 1) ↔ m / 5003 % 4 = 1 := ⟨fun e => V.int.inj e, fun e => by rw [e]⟩
    refine ite2 (fun cc => ?_) (fun cc => ?_)
    · have c2 := key.mp (dT cc)
      refine ⟨_, rfl, _, _, rfl, rfl, ?_, ?_⟩
      · have hz : (Str.ofString "qrstuvwx").length = 8 := by decide +kernel
        rw [wl, hz]
        exact szl (by omega)
      refine ⟨_, rfl, _, _, rfl, rfl, _, rfl, _, rfl, ?_, ?_⟩
      · rw [len_app, wl]
        have hz : (Str.ofString "qrstuvwx").length = 8 := by decide +kernel
        rw [hz]
        exact szl (by omega)
      have ee : sOf (cutC (cds (sOf (nmW m (nmL m)) ++ Str.ofString "qrstuvwx")) none (some (5 + e))) = sOf (nmR m e) := by
        rw [cds_app, cds_sOf, cut_to _ (by omega)]
        unfold nmR
        rw [if_pos c2]
        rfl
      exact rest _ _ ⟨rfl, _, _, congrArg (fun z => [some (V.int c), some (.int e), some (.str abc), some (.int m), some (.str (sOf (nmW m (nmL m)))), o5, some (V.int (nmAt m : Int)), some (.str z)]) ee⟩
    · have c2 := fun z => dF cc (key.mpr z)
      have ee : sOf (nmA m e) = sOf (nmR m e) := by
        unfold nmR
        rw [if_neg c2]
      exact rest _ _ ⟨rfl, _, _, congrArg (fun z => [some (V.int c), some (.int e), some (.str abc), some (.int m), some (.str (sOf (nmW m (nmL m)))), o5, some (V.int (nmAt m : Int)), some (.str z)]) ee⟩

theorem ok_spots4 (T : Tx K mg a) : FnOk P w K mg base CX0 1 a.f_l_spots a.d_l_spots ["_law_number", "_law_bases", "_law_many", "_law_off"] spSpots4 := by
  refine T.F_l_spots.ok sc_l_spots (fun vs H Q E h => ?_) (fun cdv A outer s H vs Q E hr h => ?_)
  · obtain ⟨_, _, _, _, _, rfl, _⟩ := h; rfl
  obtain ⟨Z, n, m, off, b, rfl, n0, ⟨bs, hb, hb0, hb1, hbp⟩, m0, m1, q⟩ := h
  refine ⟨_, (pss_cons (ps_set (i := 4) sc_l_spots.nd rfl (Or.inl rfl) (pe_lst pa_nil))
    (pss_cons (ps_for PassesOwn.never rfl (pi_range1 (by rfl) T.z_range (pa_cons (pv 2) pa_nil)) (pg_name (i := 5) sc_l_spots.nd rfl (Or.inl rfl))
    (pss_cons (ps_set (i := 6) sc_l_spots.nd rfl (Or.inl rfl) (pe_op op_fdiv (pv 0) (pe_ix ix_list (pe_lstq (paq_cons pe_int (paq_cons pe_int (paq_cons pe_int paq_nil star_C) star_C) star_C)) (pv 5) (fun _ _ => rfl))))
    (pss_cons (ps_set (i := 7) sc_l_spots.nd rfl (Or.inl rfl) (pe_ix ix_list (pv 1) (pe_op op_mod (pv 6) (pe_callB call_len_seq (by rfl) T.z_len bt_len (pa_cons (pv 1) pa_nil))) (fun _ _ => rfl)))
    (pss_one (ps_expr (pe_bm PySem.F.plainAttrs_list PySem.F.slot_list_append PySem.F.type_list_append mt_append (pv 4) (pa_cons (pe_tup (pa_cons (pe_ix ix_tup (pv 7) pe_int (fun _ _ => rfl)) (pa_cons (pe_op op_sub (pe_op op_add (pv 3) (pe_op op_mod (pe_op op_fdiv (pv 6) pe_int) pe_int)) (pe_ix ix_tup (pv 7) pe_int (fun _ _ => rfl))) pa_nil))) pa_nil)))))))
    (pss_one (ps_ret (pe_callTy call_tuple_of (by rfl) T.z_tuple bt_tuple (pa_cons (pv 4) pa_nil)))))), ?_⟩
  refine ⟨szl (by show 0 ≤ 1000000; decide), fun l hl => ?_⟩
  refine ⟨_, rfl, m, rfl, by omega, by omega, ?_⟩
  have hb2 : (0 : Int) < (bs.length : Int) := by omega
  refine for_range (lo := 0) (n := m.toNat) (fun i σ' H' => Same H H' ∧ (∃ o5 o6 o7, σ' = [some (.int n), some (.ref b), some (.int m), some (.int off), some (.ref l), o5, o6, o7]) ∧ ∃ (xs : List V), H' l = some (.lst xs) ∧ xs.length = i ∧ PzAt Z H' xs) ⟨same_new hl _, ⟨_, _, _, rfl⟩, [], upd_same, rfl, fun v hv => by cases hv⟩ (fun i σ' H' hi p => ?_) (fun σ' H' p => ?_)
  · obtain ⟨e, ⟨o5, o6, o7, rfl⟩, xs, hx, xl, tr⟩ := p
    have hi3 : (i : Int) < 3 := by omega
    obtain ⟨d, hd, ed⟩ := pickN (L := [1, 12, 144]) (i := 0 + (i : Int)) 3 rfl (by omega) (by omega)
    have hd : 0 < d ∧ d < 1073741824 := by
      simp only [List.mem_cons, List.not_mem_nil, or_false] at hd
      omega
    refine ⟨_, rfl, szl (by show 3 ≤ 1000000; decide), fun q1 hq1 => ?_⟩
    have s1 := same_new hq1 (.lst [V.int 1, V.int 12, V.int 144])
    refine ⟨_, rfl, q1, _, _, _, rfl, rfl, SqL.of upd_same, ed, _, _, rfl, rfl, hd, ?_⟩
    dsimp only [gName]
    have hb3 := s1 _ _ (e _ _ hb)
    have hx3 := s1 _ _ hx
    have e3 := e.trans s1
    have tr3 := tr.over s1
    generalize upd H' q1 (.lst [V.int 1, V.int 12, V.int 144]) = H2 at hb3 hx3 e3 tr3 s1
    generalize n / d = pt
    obtain ⟨v, hv, ev⟩ := at_mem (vs := bs) (i := pt % (bs.length : Int)) (Int.emod_nonneg _ (by omega)) (Int.emod_lt_of_pos _ hb2)
    obtain ⟨t, z, k, rfl, ht, hz⟩ := hbp v hv
    have ht3 := e3 _ _ ht
    refine ⟨_, rfl, _, rfl, _, rfl, b, _, rfl, .inl (SqL.of hb3), _, _, rfl, rfl, hb2, b, _, _, _, rfl, rfl, SqL.of hb3, ev, ?_⟩
    dsimp only [gName]
    refine ⟨_, rfl, .inl ⟨rfl, _, SqL.of hx3⟩, _, rfl, t, _, 0, _, rfl, rfl, SqT.of ht3, rfl, _, rfl, _, rfl, _, _, rfl, rfl, ⟨by decide, by decide⟩, _, _, rfl, rfl, (by show (0 : Int) < 3; decide), _, _, rfl, rfl, _, rfl, t, _, 1, _, rfl, rfl, SqT.of ht3, rfl, _, _, rfl, rfl, szl (by show 2 ≤ 1000000; decide), fun t4 ht4 => ?_⟩
    have s4 := same_new ht4 (.tup [V.str z, V.int (off + pt / 4 % 3 - k)])
    have hx4 := s4 _ _ hx3
    have tr4 := tr3.over s4
    have hn4 : t4 ≠ l := fun z => by rw [z, hx3] at ht4; cases ht4
    refine ⟨l, _, _, rfl, rfl, hx4, szlt (by omega), ?_⟩
    refine ⟨fun a o ha => by rw [upd_ne (ne_of_none ha hl)]; exact s4 _ _ (e3 _ _ ha), ⟨_, _, _, rfl⟩, xs ++ [.ref t4], upd_same, by rw [List.length_append, xl]; rfl, fun v hv => ?_⟩
    rcases List.mem_append.mp hv with h | h
    · obtain ⟨t, z, n, rfl, ht, hz⟩ := tr4 v h
      exact ⟨t, z, n, rfl, by rw [upd_ne (ne_of ht hx4 (by intro z; cases z))]; exact ht, hz⟩
    · rw [List.mem_singleton] at h
      exact ⟨t4, z, _, h, by rw [upd_ne hn4]; exact upd_same, hz⟩
  · obtain ⟨e, ⟨o5, o6, o7, rfl⟩, xs, hx, xl, tr⟩ := p
    refine ⟨_, rfl, l, _, rfl, .inl ⟨SqL.of hx, fun t ht => ?_⟩⟩
    exact q t _ (e.trans (same_new ht _)) ⟨xs, upd_same, xl, by omega, tr.over (same_new ht _)⟩

theorem ok_cell_of4 (T : Tx K mg a) : FnOk P w K mg base CX0 2 a.f_l_cell_of a.d_l_cell_of ["_law_number", "_law_bases", "_law_heads_here"] spCellOf4 := by
  have G_l_spots := ok_spots4 (P := P) (w := w) (base := base) T
  refine T.F_l_cell_of.ok sc_l_cell_of (fun vs H Q E h => ?_) (fun cdv A outer s H vs Q E hr h => ?_)
  · obtain ⟨_, _, _, _, _, rfl, _⟩ := h; rfl
  obtain ⟨Z, M, n, b, hd, rfl, n0, hB, ⟨hs, hh, hl, hp⟩, q⟩ := h
  refine ⟨_, (pss_cons (ps_asg (pe_ix ix_list (pv 2) (pe_ix ix_list (pe_lstq (paq_cons pe_int (paq_cons pe_int (paq_cons pe_int (paq_cons pe_int (paq_cons pe_int (paq_cons pe_int paq_nil star_C) star_C) star_C) star_C) star_C) star_C)) (pe_op op_mod (pv 0) pe_int) (fun _ _ => rfl)) (fun _ _ => rfl)) (pg_tup rfl (pgs_cons (pg_name (i := 3) sc_l_cell_of.nd rfl (Or.inl rfl)) (pgs_cons (pg_name (i := 4) sc_l_cell_of.nd rfl (Or.inl rfl)) (pgs_cons (pg_name (i := 5) sc_l_cell_of.nd rfl (Or.inl rfl)) pgs_nil)))))
    (pss_one (ps_ret (pe_tup (pa_cons (pv 3) (pa_cons (pe_call G_l_spots (hr.mono (by omega)) (by rfl) T.m_l_spots T.F_l_spots.kp T.b_l_spots .nil pass0 (pa_cons (pe_op op_fdiv (pv 0) pe_int) (pa_cons (pv 1) (pa_cons (pv 4) (pa_cons (pv 5) pa_nil))))) pa_nil)))))), ?_⟩
  have f0 := Int.emod_nonneg n (show (6 : Int) ≠ 0 by decide)
  have f1 := Int.emod_lt_of_pos n (show (0 : Int) < 6 by decide)
  obtain ⟨d, hd2, ed⟩ := pickN (L := [0, 0, 0, 1, 1, 2]) (i := n % 6) 6 rfl f0 (by omega)
  have hd2 : 0 ≤ d ∧ d < 3 := by
    simp only [List.mem_cons, List.not_mem_nil, or_false] at hd2
    omega
  obtain ⟨v, hv, ev⟩ := at_mem (vs := hs) (i := d) hd2.1 (by omega)
  obtain ⟨t, z, m, k, rfl, ht, m0, m1, hM⟩ := hp v hv
  refine ⟨_, rfl, szl (by show 6 ≤ 1000000; decide), fun q1 hq1 => ?_⟩
  have s1 := same_new hq1 (.lst [V.int 0, V.int 0, V.int 0, V.int 1, V.int 1, V.int 2])
  refine ⟨_, rfl, _, _, rfl, rfl, (by show (0 : Int) < 6; decide), q1, _, _, _, rfl, rfl, SqL.of upd_same, ed, hd, _, _, _, rfl, rfl, SqL.of (s1 _ _ hh), ev, ?_⟩
  refine ⟨t, _, rfl, SqT.of (s1 _ _ ht), rfl, _, _, rfl, _, _, rfl, _, _, rfl, rfl, ?_⟩
  dsimp only [gName]
  refine ⟨_, rfl, _, rfl, _, _, rfl, rfl, ⟨by decide, by decide⟩, _, rfl, _, rfl, _, rfl, Z, n / 6, m, k, b, rfl, Int.ediv_nonneg n0 (by decide), hB.over s1, m0, m1, fun r H2 e2 hsp => ⟨szl (by show 2 ≤ 1000000; decide), fun t2 ht2 => ?_⟩⟩
  have s3 := same_new ht2 (.tup [V.str z, V.ref r])
  exact q t2 _ z r (s1.trans (e2.trans s3)) upd_same ⟨m.toNat, by rw [Int.toNat_of_nonneg (by omega)]; exact hM, hsp.tk (Same.tk s3)⟩

theorem ok_leaf4 (T : Tx K mg a) : FnOk P w K mg base CX0 3 a.f_l_leaf a.d_l_leaf ["_law_number", "_law_bases", "_law_heads_here"] spLeaf4 := by
  have G_l_cell_of := ok_cell_of4 (P := P) (w := w) (base := base) T
  refine T.F_l_leaf.ok sc_l_leaf (fun vs H Q E h => ?_) (fun cdv A outer s H vs Q E hr h => ?_)
  · obtain ⟨_, _, _, _, _, rfl, _⟩ := h; rfl
  obtain ⟨Z, M, n, b, hd, rfl, n0, n1, hB, hH, q⟩ := h
  refine ⟨_, (@pss_cons _ _ _ _ _ (@ps_if _ _ _ _ _ _ _ _ (@pt_cmpR _ _ _ _ _ _ _ _ op_gt (@pe_op _ _ _ _ _ _ _ _ op_mod (pv 0) pe_int) pe_int (@nomark _ _ (by decide) (by decide))) (@pss_cons _ _ _ _ _ (@ps_asg _ _ _ _ _ _ (@pe_call _ _ _ _ _ _ _ _ _ _ _ _ _ _ _ _ G_l_cell_of (hr.mono (by omega)) (by rfl) T.m_l_cell_of T.F_l_cell_of.kp T.b_l_cell_of .nil pass0 (@pa_cons _ _ _ _ _ (@pe_op _ _ _ _ _ _ _ _ op_fdiv (pv 0) pe_int) (@pa_cons _ _ _ _ _ (pv 1) (@pa_cons _ _ _ _ _ (pv 2) pa_nil (by rfl)) (by rfl)) (by rfl)) (by decide) (by rfl) (by rfl)) (pg_tup rfl (pgs_cons (pg_name (i := 3) sc_l_leaf.nd rfl (Or.inl rfl)) (pgs_cons (pg_name (i := 4) sc_l_leaf.nd rfl (Or.inl rfl)) pgs_nil))) (by rfl) (by rfl) (by rfl)) (@pss_one _ _ _ (@ps_ret _ _ _ _ (@pe_tupq _ _ _ _ _ (@paq_cons _ _ _ _ _ pe_str (@paq_cons _ _ _ _ _ (pv 3) (@paq_cons _ _ _ _ _ (pv 4) paq_nil star_N) star_N) star_C))))) pss_nil) (@pss_cons _ _ _ _ _ (@ps_if _ _ _ _ _ _ _ _ ((@pw_and _ _ _ _ _ _ _ (@pt_cmpR _ _ _ _ _ _ _ _ op_eq (@pe_op _ _ _ _ _ _ _ _ op_mod (pv 0) pe_int) pe_int (@nomark _ _ (by decide) (by decide))) (@pw_and1 _ _ _ _ (@pt_cmpR _ _ _ _ _ _ _ _ op_gt (@pe_callB _ _ _ _ _ _ _ _ _ call_len_seq (by rfl) T.z_len bt_len (@pa_cons _ _ _ _ _ (pv 1) pa_nil (by rfl)) (by decide) (by decide) (by rfl) (by rfl)) pe_int (@nomark _ _ (by decide) (by decide)))))).pt (@pss_one _ _ _ (@ps_ret _ _ _ _ (@pe_tup _ _ _ _ _ (@pa_cons _ _ _ _ _ pe_str (@pa_cons _ _ _ _ _ (@pe_ix _ _ _ _ _ _ _ ix_tup (@pe_ix _ _ _ _ _ _ _ ix_list (pv 1) (@pe_op _ _ _ _ _ _ _ _ op_add pe_int (@pe_op _ _ _ _ _ _ _ _ op_mod (@pe_op _ _ _ _ _ _ _ _ op_fdiv (pv 0) pe_int) (@pe_op _ _ _ _ _ _ _ _ op_sub (@pe_callB _ _ _ _ _ _ _ _ _ call_len_seq (by rfl) T.z_len bt_len (@pa_cons _ _ _ _ _ (pv 1) pa_nil (by rfl)) (by decide) (by decide) (by rfl) (by rfl)) pe_int))) (fun _ _ => rfl)) pe_int (fun _ _ => rfl)) pa_nil (by rfl)) (by rfl))))) pss_nil) (@pss_one _ _ _ (@ps_ret _ _ _ _ (@pe_tup _ _ _ _ _ (@pa_cons _ _ _ _ _ pe_str (@pa_cons _ _ _ _ _ (@pe_ix _ _ _ _ _ _ _ ix_list (@pe_lst _ _ _ _ (@pa_cons _ _ _ _ _ (@pe_op _ _ _ _ _ _ _ _ op_mod (@pe_op _ _ _ _ _ _ _ _ op_fdiv (pv 0) pe_int) pe_int) (@pa_cons _ _ _ _ _ (@pe_op _ _ _ _ _ _ _ _ op_mod (@pe_op _ _ _ _ _ _ _ _ op_mul (pv 0) (pv 0)) (@pe_op _ _ _ _ _ _ _ _ op_pow pe_int pe_int)) pa_nil (by rfl)) (by rfl))) (@pe_op _ _ _ _ _ _ _ _ op_mod (@pe_op _ _ _ _ _ _ _ _ op_fdiv (pv 0) pe_int) pe_int) (fun _ _ => rfl)) pa_nil (by rfl)) (by rfl))))))), ?_⟩
  have p64 : (2 : Int) ^ 64 = 18446744073709551616 := by decide
  have d4 : 0 ≤ n / 4 := Int.ediv_nonneg n0 (by decide)
  refine ⟨_, rfl, _, _, rfl, rfl, (by show (0 : Int) < 4; decide), _, _, rfl, rfl, _, rfl, ?_⟩
  refine ite2 (fun c => ?_) (fun c => ?_)
  · refine ⟨_, rfl, _, _, rfl, rfl, ⟨by decide, by decide⟩, _, rfl, _, rfl, Z, M, n / 4, b, hd, rfl, d4, hB, hH, fun r H1 z p e1 hr1 hC => ?_⟩
    have hC1 := hC
    obtain ⟨nn, hM, hsz⟩ := hC1
    refine ⟨r, _, rfl, SqT.of hr1, rfl, _, _, rfl, _, _, rfl, rfl, ?_⟩
    dsimp only [gName]
    refine ⟨_, rfl, _, rfl, szl (by show 3 ≤ 1000000; decide), fun t2 ht2 => ?_⟩
    have s2 := same_new ht2 (.tup [V.str "c", V.str z, V.ref p])
    exact q _ _ _ (e1.trans s2) (.c z upd_same (hsz.tk (Same.tk s2)).sp) (fun r hr => by rw [List.mem_singleton] at hr; subst hr; exact hC.over s2)
  · dsimp only [tNext]
    refine seq_any (fun σ' H' => H' = H ∧ σ' = [some (.int n), some (.ref b), some (.ref hd), none, none]) (fun σ' H' pp => ?_) (fun nx => ?_)
    · obtain ⟨rfl, rfl⟩ := pp
      obtain ⟨i, hi, ei⟩ := pickN (L := [n / 4 % 10, n * n % 10 ^ (18 : Int).toNat]) (i := n / 64 % 2) 2 rfl (Int.emod_nonneg _ (by decide)) (Int.emod_lt_of_pos _ (by decide))
      refine ⟨_, rfl, _, _, rfl, rfl, ⟨by decide, by decide⟩, _, _, rfl, rfl, (by show (0 : Int) < 10; decide), _, rfl, _, rfl, _, _, rfl, rfl, .inl ⟨by omega, by omega⟩, _, _, rfl, rfl, ⟨by decide, by decide, by decide⟩, _, _, rfl, rfl, (by show (0 : Int) < 10 ^ (18 : Int).toNat; decide), szl (by show 2 ≤ 1000000; decide), fun q1 hq1 => ?_⟩
      have s1 := same_new hq1 (.lst [V.int (n / 4 % 10), V.int (n * n % 10 ^ (18 : Int).toNat)])
      refine ⟨_, rfl, _, _, rfl, rfl, ⟨by decide, by decide⟩, _, _, rfl, rfl, (by show (0 : Int) < 2; decide), q1, _, _, _, rfl, rfl, SqL.of upd_same, ei, szl (by show 2 ≤ 1000000; decide), fun t2 ht2 => ?_⟩
      exact q _ _ _ (s1.trans (same_new ht2 _)) (.n i upd_same) (fun r hr => by cases hr)
    · obtain ⟨bs, hb, hb0, hb1, hbp⟩ := hB
      refine ⟨_, rfl, _, _, rfl, rfl, (by show (0 : Int) < 4; decide), rfl, _, rfl, ?_⟩
      refine ite2 (fun c2 => ?_) (fun c2 => iteF (nx _ _ ⟨rfl, rfl⟩))
      refine ⟨_, rfl, b, _, rfl, .inl (SqL.of hb), _, _, rfl, rfl, _, rfl, ?_⟩
      refine ite2 (fun c3 => ?_) (fun c3 => nx _ _ ⟨rfl, rfl⟩)
      have c3 := dT c3
      have hb2 : (0 : Int) < (bs.length : Int) - 1 := by omega
      have e0 := Int.emod_nonneg (n / 4) (show ((bs.length : Int) - 1) ≠ 0 by omega)
      have e1 := Int.emod_lt_of_pos (n / 4) hb2
      obtain ⟨v, hv, ev⟩ := at_mem (vs := bs) (i := 1 + n / 4 % ((bs.length : Int) - 1)) (by omega) (by omega)
      obtain ⟨t, z, k, rfl, ht, _⟩ := hbp v hv
      refine ⟨_, rfl, _, rfl, _, _, rfl, rfl, ⟨by decide, by decide⟩, _, rfl, b, _, rfl, .inl (SqL.of hb), _, _, rfl, rfl, _, _, rfl, rfl, hb2, _, _, rfl, rfl, b, _, _, _, rfl, rfl, SqL.of hb, ev, t, _, 0, _, rfl, rfl, SqT.of ht, rfl, szl (by show 2 ≤ 1000000; decide), fun t2 ht2 => ?_⟩
      exact q _ _ _ (same_new ht2 _) (.v z upd_same) (fun r hr => by cases hr)

theorem ok_term4 (T : Tx K mg a) : FnOk P w K mg base CX0 4 a.f_l_term a.d_l_term ["_law_cell_here", "_law_bases", "_law_heads_here"] spTerm4 := by
  have G_l_mixed := ok_mixed (P := P) (w := w) (base := base) T
  have G_l_leaf := ok_leaf4 (P := P) (w := w) (base := base) T
  refine T.F_l_term.ok sc_l_term (fun vs H Q E h => ?_) (fun cdv A outer s H vs Q E hr h => ?_)
  · obtain ⟨_, _, _, _, _, rfl, _⟩ := h; rfl
  obtain ⟨Z, M, c, b, hd, rfl, hB, hH, q⟩ := h
  refine ⟨_, (pss_cons (ps_set (i := 3) sc_l_term.nd rfl (Or.inl rfl) (pe_call G_l_leaf (hr.mono (by omega)) (by rfl) T.m_l_leaf T.F_l_leaf.kp T.b_l_leaf .nil pass0 (pa_cons (pe_call G_l_mixed (hr.mono (by omega)) (by rfl) T.m_l_mixed T.F_l_mixed.kp T.b_l_mixed .nil pass0 (pa_cons (pv 0) (pa_cons pe_int pa_nil))) (pa_cons (pv 1) (pa_cons (pv 2) pa_nil)))))
    (pss_cons (ps_for PassesOwn.never rfl (pi_range1 (by rfl) T.z_range (pa_cons (pe_op op_mod (pe_call G_l_mixed (hr.mono (by omega)) (by rfl) T.m_l_mixed T.F_l_mixed.kp T.b_l_mixed .nil pass0 (pa_cons (pv 0) (pa_cons pe_int pa_nil))) pe_int) pa_nil)) (pg_name (i := 4) sc_l_term.nd rfl (Or.inl rfl))
    (pss_cons (ps_set (i := 5) sc_l_term.nd rfl (Or.inl rfl) (pe_ix ix_list (pe_lstq (paq_cons pe_str (paq_cons pe_str (paq_cons pe_str paq_nil star_C) star_C) star_C)) (pe_op op_mod (pe_op op_fdiv (pe_call G_l_mixed (hr.mono (by omega)) (by rfl) T.m_l_mixed T.F_l_mixed.kp T.b_l_mixed .nil pass0 (pa_cons (pv 0) (pa_cons pe_int pa_nil))) (pe_op op_add pe_int (pv 4))) pe_int) (fun _ _ => rfl)))
    (pss_cons (ps_set (i := 6) sc_l_term.nd rfl (Or.inl rfl) (pe_call G_l_leaf (hr.mono (by omega)) (by rfl) T.m_l_leaf T.F_l_leaf.kp T.b_l_leaf .nil pass0 (pa_cons (pe_call G_l_mixed (hr.mono (by omega)) (by rfl) T.m_l_mixed T.F_l_mixed.kp T.b_l_mixed .nil pass0 (pa_cons (pv 0) (pa_cons (pe_op op_add pe_int (pv 4)) pa_nil))) (pa_cons (pv 1) (pa_cons (pv 2) pa_nil)))))
    (pss_one (ps_if (pt_cmpR op_eq (pe_op op_mod (pe_op op_fdiv (pe_call G_l_mixed (hr.mono (by omega)) (by rfl) T.m_l_mixed T.F_l_mixed.kp T.b_l_mixed .nil pass0 (pa_cons (pv 0) (pa_cons pe_int pa_nil))) (pe_op op_add pe_int (pv 4))) pe_int) pe_int (nomark _))
    (pss_one (ps_set (i := 3) sc_l_term.nd rfl (Or.inl rfl) (pe_tupq (paq_cons (pv 5) (paq_cons (pv 6) (paq_cons (pv 3) paq_nil star_N) star_N) star_N))))
    (pss_one (ps_set (i := 3) sc_l_term.nd rfl (Or.inl rfl) (pe_tupq (paq_cons (pv 5) (paq_cons (pv 3) (paq_cons (pv 6) paq_nil star_N) star_N) star_N)))))))))
    (pss_one (ps_ret (pv 3))))), ?_⟩
  obtain ⟨a0, a1⟩ := mix_b c 5
  refine ⟨_, rfl, c, 5, rfl, _, rfl, _, rfl, Z, M, mixF c 5, b, hd, rfl, a0, by omega, hB, hH, fun x0 H1 rs0 e1 tm0 tz0 => ?_⟩
  dsimp only [gName]
  have f0 := Int.emod_nonneg (mixF c 6) (show (3 : Int) ≠ 0 by decide)
  have f1 := Int.emod_lt_of_pos (mixF c 6) (show (0 : Int) < 3 by decide)
  obtain ⟨g0, g1⟩ := mix_b c 7
  refine ⟨_, rfl, c, 6, rfl, _, _, rfl, rfl, (by show (0 : Int) < 3; decide), _, rfl, by omega, by omega, ?_⟩
  refine for_range (lo := 0) (n := (mixF c 6 % 3).toNat) (fun i σ' H' => Same H H' ∧ ∃ (x : V) (m : Nat) (rs : Reads) (o4 o5 o6 : Option V), σ' = [some (.int c), some (.ref b), some (.ref hd), some x, o4, o5, o6] ∧ m = i + 1 ∧ TmT H' m x rs ∧ ∀ r ∈ rs, TzAt Z M H' r) ⟨e1, x0, 1, rs0, _, _, _, rfl, rfl, tm0, tz0⟩ (fun i σ' H' hi p => ?_) (fun σ' H' p => ?_)
  · obtain ⟨e, x, m, rs, o4, o5, o6, rfl, hm, tm, tz⟩ := p
    have e0' : (0 : Int) + (i : Int) = (i : Int) := by omega
    rw [e0']
    refine ⟨szl (by show 3 ≤ 1000000; decide), fun q1 hq1 => ?_⟩
    have s1 := same_new hq1 (.lst [V.str "+", V.str "-", V.str "*"])
    have k0 := Int.emod_nonneg (mixF c 7 / (1 + (i : Int))) (show (3 : Int) ≠ 0 by decide)
    have k1 := Int.emod_lt_of_pos (mixF c 7 / (1 + (i : Int))) (show (0 : Int) < 3 by decide)
    obtain ⟨v, hv, ev⟩ := at_mem (vs := [V.str "+", V.str "-", V.str "*"]) (i := mixF c 7 / (1 + (i : Int)) % 3) k0 (by show _ < (3 : Int); omega)
    obtain ⟨z, hz, rfl⟩ : ∃ z ∈ [Str.ofString "+", Str.ofString "-", Str.ofString "*"], v = .str z := by
      simp only [List.mem_cons, List.not_mem_nil, or_false] at hv
      rcases hv with rfl | rfl | rfl
      · exact ⟨_, List.mem_cons_self, rfl⟩
      · exact ⟨_, List.mem_cons_of_mem _ List.mem_cons_self, rfl⟩
      · exact ⟨_, List.mem_cons_of_mem _ (List.mem_cons_of_mem _ List.mem_cons_self), rfl⟩
    refine ⟨_, rfl, c, 7, rfl, _, rfl, _, _, rfl, rfl, _, _, rfl, rfl, ⟨(by show (0 : Int) < 1 + (i : Int); omega), (by show 1 + (i : Int) < 1073741824; omega)⟩, _, _, rfl, rfl, (by show (0 : Int) < 3; decide), q1, _, _, _, rfl, rfl, SqL.of upd_same, ev, ?_⟩
    dsimp only [gName]
    have e2 := e.trans s1
    have tm2 := tm.over s1
    have tz2 : ∀ r ∈ rs, TzAt Z M _ r := fun r hr => (tz r hr).over s1
    generalize upd H' q1 (.lst [V.str "+", V.str "-", V.str "*"]) = H2 at e2 tm2 tz2
    obtain ⟨b0, b1⟩ := mix_b c (8 + (i : Int))
    refine ⟨_, rfl, _, rfl, _, _, rfl, rfl, c, 8 + (i : Int), rfl, _, rfl, _, rfl, Z, M, mixF c (8 + (i : Int)), b, hd, rfl, b0, by omega, hB.over e2, hH.over e2, fun x3 H3 rs3 e3 tm3 tz3 => ?_⟩
    dsimp only [gName]
    have tm2' := tm2.over e3
    have e23 := e2.trans e3
    refine ⟨_, rfl, c, 7, rfl, _, rfl, _, _, rfl, rfl, _, _, rfl, rfl, ⟨(by show (0 : Int) < 5 + (i : Int); omega), (by show 5 + (i : Int) < 1073741824; omega)⟩, _, _, rfl, rfl, (by show (0 : Int) < 2; decide), rfl, _, rfl, ?_⟩
    refine ite2 (fun cc => ?_) (fun cc => ?_)
    · refine ⟨_, rfl, _, rfl, _, rfl, szl (by show 3 ≤ 1000000; decide), fun t4 ht4 => ?_⟩
      have s4 := same_new ht4 (.tup [V.str z, x3, x])
      exact ⟨e23.trans s4, _, 1 + m, _, _, _, _, rfl, by omega, .j z hz upd_same (tm3.over s4) (tm2'.over s4), fun r hr => (List.mem_append.mp hr).elim (fun h => (tz3 r h).over s4) fun h => (tz2 r h).over (e3.trans s4)⟩
    · refine ⟨_, rfl, _, rfl, _, rfl, szl (by show 3 ≤ 1000000; decide), fun t4 ht4 => ?_⟩
      have s4 := same_new ht4 (.tup [V.str z, x, x3])
      exact ⟨e23.trans s4, _, m + 1, _, _, _, _, rfl, by omega, .j z hz upd_same (tm2'.over s4) (tm3.over s4), fun r hr => (List.mem_append.mp hr).elim (fun h => (tz2 r h).over (e3.trans s4)) fun h => (tz3 r h).over s4⟩
  · obtain ⟨e, x, m, rs, o4, o5, o6, rfl, hm, tm, tz⟩ := p
    exact ⟨_, rfl, q _ _ m rs e (by omega) tm tz⟩

theorem ok_loop31 (T : Tx K mg a) : FnOk P w K mg base CX0 3 a.f_l_loop a.d_l_loop ["_law_number", "_law_far", "_law_stack", "_law_cell_here"] spLoop31 := by
  have G_l_name := ok_name (P := P) (w := w) (base := base) T
  refine T.F_l_loop.ok sc_l_loop (fun vs H Q E h => ?_) (fun cdv A outer s H vs Q E hr h => ?_)
  · obtain ⟨_, _, _, _, _, rfl, _⟩ := h; rfl
  obtain ⟨n, far, c, st, S, rfl, n0, ⟨vs, hv, hall⟩, k10, htn, far0, far1, q⟩ := h
  refine ⟨_, (@pss_cons _ _ _ _ _ (@ps_set _ _ (4) _ _ _ _ sc_l_loop.nd rfl (Or.inl rfl) (@pe_ix _ _ _ _ _ _ _ ix_list (@pe_lstq _ _ _ _ (@paq_cons _ _ _ _ _ pe_int (@paq_cons _ _ _ _ _ pe_int (@paq_cons _ _ _ _ _ (pv 1) paq_nil star_N) star_C) star_C)) (@pe_op _ _ _ _ _ _ _ _ op_mod (pv 0) pe_int) (fun _ _ => rfl)) (by rfl) (by first | exact .inl rfl | exact .inr rfl | assumption)) (@pss_cons _ _ _ _ _ (@ps_set _ _ (5) _ _ _ _ sc_l_loop.nd rfl (Or.inl rfl) (@pe_op _ _ _ _ _ _ _ _ op_cat (@pe_lst _ _ _ _ (@pa_cons _ _ _ _ _ (@pe_tup _ _ _ _ _ (@pa_cons _ _ _ _ _ pe_str (@pa_cons _ _ _ _ _ pe_int pa_nil (by rfl)) (by rfl))) pa_nil (by rfl))) (@pe_compB _ _ _ _ _ _ _ ["_law_one"] [none] _ _ _ _ (by rfl) (@pi_list _ _ _ _ (pv 2)) c_l_loop_0 (fun _ _ _ _ _ _ => ⟨(pg_name (i := 0) c_l_loop_0n rfl (Or.inl rfl)), @pts_nil _, (@pe_tup _ _ _ _ _ (@pa_cons _ _ _ _ _ (@pe_ix _ _ _ _ _ _ _ (show IxR _ (rIxT K) from ix_tup) (pv 0) pe_int (fun _ _ => rfl)) (@pa_cons _ _ _ _ _ (@pe_ix _ _ _ _ _ _ _ (show IxR _ (rIxT K) from ix_tup) (pv 0) pe_int (fun _ _ => rfl)) pa_nil (by rfl)) (by rfl)))⟩) (by intro _ ; rfl))) (by rfl) (by first | exact .inl rfl | exact .inr rfl | assumption)) (@pss_cons _ _ _ _ _ (@ps_set _ _ (6) _ _ _ _ sc_l_loop.nd rfl (Or.inl rfl) (@pe_ix _ _ _ _ _ _ _ ix_list (pv 5) (@pe_op _ _ _ _ _ _ _ _ op_mod (@pe_op _ _ _ _ _ _ _ _ op_fdiv (pv 0) pe_int) (@pe_callB _ _ _ _ _ _ _ _ _ call_len_seq (by rfl) T.z_len bt_len (@pa_cons _ _ _ _ _ (pv 5) pa_nil (by rfl)) (by decide) (by decide) (by rfl) (by rfl))) (fun _ _ => rfl)) (by rfl) (by first | exact .inl rfl | exact .inr rfl | assumption)) (@pss_cons _ _ _ _ _ (@ps_set _ _ (7) _ _ _ _ sc_l_loop.nd rfl (Or.inl rfl) (@pe_ix _ _ _ _ _ _ _ ix_list (pv 5) (@pe_op _ _ _ _ _ _ _ _ op_mod (@pe_op _ _ _ _ _ _ _ _ op_fdiv (pv 0) pe_int) (@pe_callB _ _ _ _ _ _ _ _ _ call_len_seq (by rfl) T.z_len bt_len (@pa_cons _ _ _ _ _ (pv 5) pa_nil (by rfl)) (by decide) (by decide) (by rfl) (by rfl))) (fun _ _ => rfl)) (by rfl) (by first | exact .inl rfl | exact .inr rfl | assumption)) (@pss_cons _ _ _ _ _ (@ps_set _ _ (8) _ _ _ _ sc_l_loop.nd rfl (Or.inl rfl) (@pe_ix _ _ _ _ _ _ _ ix_list (@pe_lstq _ _ _ _ (@paq_cons _ _ _ _ _ pe_int (@paq_cons _ _ _ _ _ pe_int (@paq_cons _ _ _ _ _ pe_int (@paq_cons _ _ _ _ _ pe_int (@paq_cons _ _ _ _ _ pe_int (@paq_cons _ _ _ _ _ pe_int (@paq_cons _ _ _ _ _ (@pe_un _ _ _ _ _ _ un_neg pe_int) (@paq_cons _ _ _ _ _ pe_int paq_nil star_C) star_U) star_C) star_C) star_C) star_C) star_C) star_C)) (@pe_op _ _ _ _ _ _ _ _ op_mod (@pe_op _ _ _ _ _ _ _ _ op_fdiv (pv 0) pe_int) pe_int) (fun _ _ => rfl)) (by rfl) (by first | exact .inl rfl | exact .inr rfl | assumption)) (@pss_cons _ _ _ _ _ (@ps_set _ _ (9) _ _ _ _ sc_l_loop.nd rfl (Or.inl rfl) (@pe_tup _ _ _ _ _ (@pa_cons _ _ _ _ _ (@pe_ix _ _ _ _ _ _ _ ix_tup (pv 6) pe_int (fun _ _ => rfl)) (@pa_cons _ _ _ _ _ (@pe_op _ _ _ _ _ _ _ _ op_add (@pe_op _ _ _ _ _ _ _ _ op_sub (pv 4) (@pe_ix _ _ _ _ _ _ _ ix_tup (pv 6) pe_int (fun _ _ => rfl))) (@pe_op _ _ _ _ _ _ _ _ op_mod (@pe_op _ _ _ _ _ _ _ _ op_fdiv (pv 0) pe_int) pe_int)) pa_nil (by rfl)) (by rfl))) (by rfl) (by first | exact .inl rfl | exact .inr rfl | assumption)) (@pss_cons _ _ _ _ _ (@ps_set _ _ (10) _ _ _ _ sc_l_loop.nd rfl (Or.inl rfl) (@pe_op _ _ _ _ _ _ _ _ op_mod (@pe_op _ _ _ _ _ _ _ _ op_fdiv (pv 0) pe_int) pe_int) (by rfl) (by first | exact .inl rfl | exact .inr rfl | assumption)) (@pss_cons _ _ _ _ _ (@ps_if _ _ _ _ _ _ _ _ (@pt_cmpR _ _ _ _ _ _ _ _ (@op_neS _ (@hu64 _ _ hr)) (pv 2) (@pe_lst _ _ _ _ pa_nil) (@nomark _ _ (by decide) (by decide))) (@pss_one _ _ _ (@ps_set _ _ (10) _ _ _ _ sc_l_loop.nd rfl (Or.inl rfl) (@pe_ix _ _ _ _ _ _ _ ix_tup (@pe_ix _ _ _ _ _ _ _ ix_list (pv 2) pe_int (fun _ _ => rfl)) pe_int (fun _ _ => rfl)) (by rfl) (by first | exact .inl rfl | exact .inr rfl | assumption))) pss_nil) (@pss_cons _ _ _ _ _ (@ps_set _ _ (11) _ _ _ _ sc_l_loop.nd rfl (Or.inl rfl) (@pe_call _ _ _ _ _ _ _ _ _ _ _ _ _ _ _ _ G_l_name (hr.mono (by omega)) (by rfl) T.m_l_name T.F_l_name.kp T.b_l_name .nil pass0 (@pa_cons _ _ _ _ _ (pv 3) (@pa_cons _ _ _ _ _ (@pe_op _ _ _ _ _ _ _ _ op_mod (@pe_op _ _ _ _ _ _ _ _ op_add (@pe_callB _ _ _ _ _ _ _ _ _ call_len_seq (by rfl) T.z_len bt_len (@pa_cons _ _ _ _ _ (pv 2) pa_nil (by rfl)) (by decide) (by decide) (by rfl) (by rfl)) (pv 10)) pe_int) pa_nil (by rfl)) (by rfl)) (by decide) (by rfl) (by rfl)) (by rfl) (by first | exact .inl rfl | exact .inr rfl | assumption)) (@pss_one _ _ _ (@ps_ret _ _ _ _ (@pe_tupq _ _ _ _ _ (@paq_cons _ _ _ _ _ (pv 11) (@paq_cons _ _ _ _ _ (pv 9) (@paq_cons _ _ _ _ _ (@pe_tup _ _ _ _ _ (@pa_cons _ _ _ _ _ (@pe_ix _ _ _ _ _ _ _ ix_tup (pv 7) pe_int (fun _ _ => rfl)) (@pa_cons _ _ _ _ _ (@pe_op _ _ _ _ _ _ _ _ op_add (@pe_op _ _ _ _ _ _ _ _ op_sub (pv 4) (@pe_ix _ _ _ _ _ _ _ ix_tup (pv 7) pe_int (fun _ _ => rfl))) (pv 8)) pa_nil (by rfl)) (by rfl))) (@paq_cons _ _ _ _ _ (pv 4) (@paq_cons _ _ _ _ _ (pv 10) paq_nil star_N) star_N) star_T) star_N) star_N))))))))))))), ?_⟩
  have hk := hall.1
  -- about
  obtain ⟨ab, hab, eab⟩ := pickN (L := [0, 0, far]) (i := n % 3) 3 rfl (Int.emod_nonneg _ (by decide)) (Int.emod_lt_of_pos _ (by decide))
  refine ⟨_, rfl, szl (by show 3 ≤ 1000000; decide), fun q1 hq1 => ⟨_, rfl, _, _, rfl, rfl, (by show (0 : Int) < 3; decide), q1, _, _, _, rfl, rfl, SqL.of upd_same, eab, ?_⟩⟩
  have e1 := same_new hq1 (.lst [V.int 0, V.int 0, V.int far])
  dsimp only [gName]
  generalize upd H q1 (.lst [V.int 0, V.int 0, V.int far]) = H1 at e1
  have abb : -(10 ^ 17) ≤ ab ∧ ab ≤ 10 ^ 17 := by
    simp only [List.mem_cons, List.not_mem_nil, or_false] at hab
    omega
  -- bases
  refine ⟨szl (by show 2 ≤ 1000000; decide), fun t0 ht0 => ⟨szl (by show 1 ≤ 1000000; decide), fun l0 hl0 => ?_⟩⟩
  have e2 := e1.trans ((same_new ht0 (.tup [V.str "", V.int 0])).trans (same_new hl0 (.lst [V.ref t0])))
  have ht02 : (upd (upd H1 t0 (.tup [V.str "", V.int 0])) l0 (.lst [V.ref t0])) t0 = some (.tup [V.str "", V.int 0]) := same_new hl0 _ _ _ upd_same
  have hl02 : (upd (upd H1 t0 (.tup [V.str "", V.int 0])) l0 (.lst [V.ref t0])) l0 = some (.lst [V.ref t0]) := upd_same
  generalize upd (upd H1 t0 (.tup [V.str "", V.int 0])) l0 (.lst [V.ref t0]) = H2 at e2 ht02 hl02
  refine ⟨_, rfl, st, rfl, ⟨_, SqL.of (e2 _ _ hv)⟩, ?_⟩
  refine comp_list (xs := vs) (fun i ys H' => Same H2 H' ∧ ys.length = i ∧ BqAt H' S ys) ⟨Same.refl _, rfl, fun v hv => by cases hv⟩ (szl (by omega)) (fun i ys H' hi p => ⟨SqL.of (p.1 _ _ (e2 _ _ hv)), by omega⟩) (fun i x ys H' hx p => ?_) (fun ys H' p r hr' => ?_)
  · obtain ⟨e3, yl, yp⟩ := p
    obtain ⟨qq, hqq, hlq⟩ := hall.get' hx
    obtain ⟨p0, p1, p2, rfl, h0, _⟩ := hlq.over (e2.trans e3)
    refine ⟨_, rfl, p0, _, 0, _, rfl, rfl, SqT.of h0, rfl, _, rfl, p0, _, 3, _, rfl, rfl, SqT.of h0, rfl, szl (by show 2 ≤ 1000000; decide), fun t4 ht4 => ?_⟩
    have s4 := same_new ht4 (.tup [V.str qq.nm, V.int qq.ab])
    refine ⟨e3.trans s4, by rw [List.length_append, yl]; rfl, fun v hv' => ?_⟩
    rcases List.mem_append.mp hv' with h | h
    · exact (yp.over s4) v h
    · rw [List.mem_singleton] at h
      exact ⟨t4, qq.nm, qq.ab, h, upd_same, .inr ⟨qq, List.mem_of_getElem? hqq, rfl, rfl⟩⟩
  obtain ⟨e3, yl, yp⟩ := p
  have s4 := same_new hr' (.lst ys)
  refine ⟨l0, r, _, _, rfl, rfl, s4 _ _ (e3 _ _ hl02), upd_same, szl (by simp only [List.length_singleton]; omega), fun bl hbl => ?_⟩
  have s5 := same_new hbl (.lst ([V.ref t0] ++ ys))
  have e5 := (e2.trans e3).trans (s4.trans s5)
  have hB : ∃ bs, (upd (upd H' r (.lst ys)) bl (.lst ([V.ref t0] ++ ys))) bl = some (.lst bs) ∧ 0 < bs.length ∧ bs.length ≤ 100 ∧ BqAt (upd (upd H' r (.lst ys)) bl (.lst ([V.ref t0] ++ ys))) S bs := by
    refine ⟨_, upd_same, by rw [List.length_append]; show 0 < 1 + ys.length; omega, by rw [List.length_append]; show 1 + ys.length ≤ 100; omega, fun v hv' => ?_⟩
    rcases List.mem_append.mp hv' with h | h
    · rw [List.mem_singleton] at h
      exact ⟨t0, _, _, h, s5 _ _ (s4 _ _ (e3 _ _ ht02)), .inl ⟨rfl, rfl⟩⟩
    · exact (yp.over (s4.trans s5)) v h
  dsimp only [gName]
  generalize upd (upd H' r (.lst ys)) bl (.lst ([V.ref t0] ++ ys)) = H5 at e5 hB
  clear s4 s5 e3 yp hl02 ht02
  obtain ⟨bs, hb, hb0, hb1, hbp⟩ := hB
  have hb2 : (0 : Int) < (bs.length : Int) := by omega
  -- low, high
  obtain ⟨v1, hv1, ev1⟩ := at_mem (vs := bs) (i := n / 3 % (bs.length : Int)) (Int.emod_nonneg _ (by omega)) (Int.emod_lt_of_pos _ hb2)
  obtain ⟨t1, z1, k1, rfl, ht1, bz1⟩ := hbp v1 hv1
  obtain ⟨v2, hv2, ev2⟩ := at_mem (vs := bs) (i := n / 13 % (bs.length : Int)) (Int.emod_nonneg _ (by omega)) (Int.emod_lt_of_pos _ hb2)
  obtain ⟨t2, z2, k2, rfl, ht2, bz2⟩ := hbp v2 hv2
  refine ⟨_, rfl, _, rfl, _, _, rfl, rfl, ⟨by decide, by decide⟩, _, rfl, bl, _, rfl, .inl (SqL.of hb), _, _, rfl, rfl, hb2, bl, _, _, _, rfl, rfl, SqL.of hb, ev1, ?_⟩
  refine ⟨_, rfl, _, rfl, _, _, rfl, rfl, ⟨by decide, by decide⟩, _, rfl, bl, _, rfl, .inl (SqL.of hb), _, _, rfl, rfl, hb2, bl, _, _, _, rfl, rfl, SqL.of hb, ev2, ?_⟩
  dsimp only [gName]
  -- more
  obtain ⟨mo, hmo, emo⟩ := pickN (L := [2, 1, 3, 0, 1, 2, -1, 1]) (i := n / 53 % 8) 8 rfl (Int.emod_nonneg _ (by decide)) (Int.emod_lt_of_pos _ (by decide))
  refine ⟨_, rfl, szl (by show 8 ≤ 1000000; decide), fun q2 hq2 => ⟨_, rfl, _, _, rfl, rfl, ⟨by decide, by decide⟩, _, _, rfl, rfl, (by show (0 : Int) < 8; decide), q2, _, _, _, rfl, rfl, SqL.of upd_same, emo, ?_⟩⟩
  have mob : -1 ≤ mo ∧ mo ≤ 3 := by
    simp only [List.mem_cons, List.not_mem_nil, or_false] at hmo
    omega
  have s6 := same_new hq2 (.lst [V.int 2, V.int 1, V.int 3, V.int 0, V.int 1, V.int 2, V.int (-1), V.int 1])
  dsimp only [gName]
  generalize upd H5 q2 (.lst [V.int 2, V.int 1, V.int 3, V.int 0, V.int 1, V.int 2, V.int (-1), V.int 1]) = H6 at s6
  have ht16 := s6 _ _ ht1
  have ht26 := s6 _ _ ht2
  have e6 := e5.trans s6
  -- low spot
  refine ⟨_, rfl, t1, _, 0, _, rfl, rfl, SqT.of ht16, rfl, _, rfl, _, rfl, t1, _, 1, _, rfl, rfl, SqT.of ht16, rfl, _, _, rfl, rfl, _, rfl, _, _, rfl, rfl, ⟨by decide, by decide⟩, _, _, rfl, rfl, (by show (0 : Int) < 2; decide), _, _, rfl, rfl, szl (by show 2 ≤ 1000000; decide), fun ls hls => ?_⟩
  have s7 := same_new hls (.tup [V.str z1, V.int (ab - k1 + n / 500 % 2)])
  have hls7 : (upd H6 ls (.tup [V.str z1, V.int (ab - k1 + n / 500 % 2)])) ls = some (.tup [V.str z1, V.int (ab - k1 + n / 500 % 2)]) := upd_same
  dsimp only [gName]
  generalize upd H6 ls (.tup [V.str z1, V.int (ab - k1 + n / 500 % 2)]) = H7 at s7 hls7
  have ht27 := s7 _ _ ht26
  have e7 := e6.trans s7
  refine ⟨_, rfl, _, _, rfl, rfl, ⟨by decide, by decide⟩, _, _, rfl, rfl, (by show (0 : Int) < 3; decide), ?_⟩
  have u0 := Int.emod_nonneg (n / 4000) (show (3 : Int) ≠ 0 by decide)
  have u1 := Int.emod_lt_of_pos (n / 4000) (show (0 : Int) < 3 by decide)
  dsimp only [gName]
  generalize n / 4000 % 3 = u at u0 u1 ⊢
  have hv7 := e7 _ _ hv
  obtain ⟨ts, tr, td, tl⟩ := lp_tr (K := K) (H := H7) (vs := vs) fun v hv' => by
    obtain ⟨j, hj⟩ := List.mem_iff_getElem?.mp hv'
    obtain ⟨qq, hqq, hlq⟩ := hall.get' hj
    obtain ⟨p0, p1, p2, rfl, h0, h1, h2⟩ := hlq.over e7
    have := htn qq (List.mem_of_getElem? hqq)
    exact ⟨p0, p1, p2, qq.nm, qq.lz, qq.hz, qq.ln, qq.hn, qq.ab, qq.tn, rfl, h0, h1, h2, this.1, this.2⟩
  refine seq_any (fun σ' H' => Same H7 H' ∧ ∃ u : Int, 0 ≤ u ∧ u ≤ 2 ∧ (∀ r, S.head? = some r → u = r.tn) ∧ σ' = [some (.int n), some (.int far), some (.ref st), some (.int c), some (.int ab), some (.ref bl), some (.ref t1), some (.ref t2), some (.int mo), some (.ref ls), some (.int u), none]) (fun σ' H8 pp => ?_) (fun nx => ?_)
  · obtain ⟨e8, u, u0, u1, hu, rfl⟩ := pp
    have f0 := Int.emod_nonneg ((vs.length : Int) + u) (show (3 : Int) ≠ 0 by decide)
    have f1 := Int.emod_lt_of_pos ((vs.length : Int) + u) (show (0 : Int) < 3 by decide)
    refine ⟨_, rfl, _, rfl, st, _, rfl, .inl (SqL.of (e8 _ _ hv7)), _, rfl, _, _, rfl, rfl, _, _, rfl, rfl, (by show (0 : Int) < 3; decide), c, _, rfl, f0, by omega, fun H9 e9 => ?_⟩
    dsimp only [gName]
    have e89 := e8.trans e9
    have ht29 := e89 _ _ ht27
    refine ⟨_, rfl, _, rfl, _, rfl, t2, _, 0, _, rfl, rfl, SqT.of ht29, rfl, _, rfl, _, rfl, t2, _, 1, _, rfl, rfl, SqT.of ht29, rfl, _, _, rfl, rfl, _, rfl, _, _, rfl, rfl, szl (by show 2 ≤ 1000000; decide), fun hs hhs => ⟨_, rfl, _, rfl, szl (by show 5 ≤ 1000000; decide), fun rr hrr => ?_⟩⟩
    have sA := same_new hhs (.tup [V.str z2, V.int (ab - k2 + mo)])
    have sB := same_new hrr (.tup [V.str (sOf (nmC (mixF c 11) (((vs.length : Int) + u) % 3))), V.ref ls, V.ref hs, V.int ab, V.int u])
    exact q _ _ ⟨nmF c (((vs.length : Int) + u) % 3), z1, ab - k1 + n / 500 % 2, z2, ab - k2 + mo, ab, u⟩ (e7.trans (e89.trans (sA.trans sB))) ⟨rr, ls, hs, rfl, upd_same, sB _ _ (sA _ _ (e89 _ _ hls7)), sB _ _ upd_same⟩ ⟨⟨by rw [hk], u0, u1, hu, bz1.bs, bz2.bs⟩, abb, ⟨k1, _, bz1, rfl, Int.emod_nonneg _ (by decide), by have := Int.emod_lt_of_pos (n / 500) (show (0 : Int) < 2 by decide); omega⟩, ⟨k2, mo, bz2, rfl, mob⟩⟩
  · refine ⟨_, rfl, szl (by show 0 ≤ 1000000; decide), fun z hz => ?_⟩
    have s8 := same_new hz (.lst [])
    refine ⟨_, _, .lst (SqL.of (s8 _ _ hv7)) (tr.over s8), .lst (SqL.of upd_same) .nil, ⟨_, rfl⟩, ⟨_, rfl⟩, (by rw [simT]; cases ts <;> rfl), (by rw [depT]; omega), _, rfl, ?_⟩
    cases ts with
    | nil =>
      refine iteE (v := false) rfl (iteF (nx _ _ ⟨s8, u, u0, by omega, fun r hr => ?_, rfl⟩))
      have : S = [] := List.eq_nil_of_length_eq_zero (by rw [← hk, ← tl]; rfl)
      rw [this] at hr
      cases hr
    | cons t0' ts' =>
      refine iteE (v := true) rfl (iteT ?_)
      have hpos : 0 < vs.length := by rw [← tl]; exact Nat.succ_pos _
      have h0 : vs[0]? = some vs[0] := List.getElem?_eq_getElem hpos
      have hS0 : S[0]? = some S[0] := List.getElem?_eq_getElem (by omega)
      obtain ⟨p0, p1, p2, ev0, g0, _⟩ := (hall.2 0 _ _ h0 hS0).over (e7.trans s8)
      have at0 : atI vs (0 : Int) = some (.ref p0) := by rw [← ev0]; exact atI_nat (j := 0) h0
      have hr0 := htn S[0] (List.getElem_mem _)
      refine ⟨_, rfl, st, _, 0, _, rfl, rfl, SqL.of (s8 _ _ hv7), at0, p0, _, 4, _, rfl, rfl, SqT.of g0, rfl, ?_⟩
      refine nx _ _ ⟨s8, _, hr0.1, hr0.2, fun r hr => ?_, rfl⟩
      rw [List.head?_eq_getElem?, hS0] at hr
      cases hr
      rfl

theorem ok_inin (T : Tx K mg a) : FnOk P w K mg base CX0 1 a.f_Number_init a.d_Number_init ["self", "n"] (spIni a.c_Number ["n"]) := by
  refine T.F_Number_init.ok sc_Number_init (fun vs H Q E h => ?_) (fun cdv A outer s H vs Q E hr h => ?_)
  · obtain ⟨_, _, vs, rfl, hl, _⟩ := h; rw [List.length_cons, hl]; rfl
  obtain ⟨x, dx, vs, rfl, hl, hx, q⟩ := h
  obtain ⟨n, rfl⟩ : ∃ n, vs = [n] := by match vs, hl with | [n], _ => exact ⟨n, rfl⟩
  refine ⟨_, (pss_one (ps_fld (pv 0) (pv 1) rfl)), ?_⟩
  exact ⟨_, rfl, _, rfl, x, _, dx, _, rfl, hx, T.cl_Number, T.n_Number_n, (by show 0 < 1000; decide), q _ (fun b o e hb => by rw [upd_ne hb]; exact e) ⟨dx, upd_same⟩⟩
theorem ok_iniv (T : Tx K mg a) : FnOk P w K mg base CX0 1 a.f_Value_init a.d_Value_init ["self", "name"] (spIni a.c_Value ["name"]) := by
  refine T.F_Value_init.ok sc_Value_init (fun vs H Q E h => ?_) (fun cdv A outer s H vs Q E hr h => ?_)
  · obtain ⟨_, _, vs, rfl, hl, _⟩ := h; rw [List.length_cons, hl]; rfl
  obtain ⟨x, dx, vs, rfl, hl, hx, q⟩ := h
  obtain ⟨n, rfl⟩ : ∃ n, vs = [n] := by match vs, hl with | [n], _ => exact ⟨n, rfl⟩
  refine ⟨_, (pss_one (ps_fld (pv 0) (pv 1) rfl)), ?_⟩
  exact ⟨_, rfl, _, rfl, x, _, dx, _, rfl, hx, T.cl_Value, T.n_Value_name, (by show 0 < 1000; decide), q _ (fun b o e hb => by rw [upd_ne hb]; exact e) ⟨dx, upd_same⟩⟩
theorem ok_inic (T : Tx K mg a) : FnOk P w K mg base CX0 1 a.f_Cell_init a.d_Cell_init ["self", "table", "spots"] (spIni a.c_Cell ["table", "spots"]) := by
  refine T.F_Cell_init.ok sc_Cell_init (fun vs H Q E h => ?_) (fun cdv A outer s H vs Q E hr h => ?_)
  · obtain ⟨_, _, vs, rfl, hl, _⟩ := h; rw [List.length_cons, hl]; rfl
  obtain ⟨x, dx, vs, rfl, hl, hx, q⟩ := h
  obtain ⟨n, m, rfl⟩ : ∃ n m, vs = [n, m] := by match vs, hl with | [n, m], _ => exact ⟨n, m, rfl⟩
  refine ⟨_, (pss_cons (ps_fld (pv 0) (pv 1) rfl)
    (pss_one (ps_fld (pv 0) (pv 2) rfl))), ?_⟩
  refine ⟨_, rfl, _, rfl, x, _, dx, _, rfl, hx, T.cl_Cell, T.n_Cell_table, (by show 0 < 1000; decide), ?_⟩
  refine ⟨_, rfl, _, rfl, x, _, dx, _, rfl, upd_same, T.cl_Cell, T.n_Cell_spots, (by show 1 < 1000; decide), ?_⟩
  exact q _ (fun b o e hb => by repeat rw [upd_ne hb]
                                exact e) ⟨dx, upd_same⟩
theorem ok_inij (T : Tx K mg a) : FnOk P w K mg base CX0 1 a.f_Joined_init a.d_Joined_init ["self", "sign", "left", "right"] (spIni a.c_Joined ["sign", "left", "right"]) := by
  refine T.F_Joined_init.ok sc_Joined_init (fun vs H Q E h => ?_) (fun cdv A outer s H vs Q E hr h => ?_)
  · obtain ⟨_, _, vs, rfl, hl, _⟩ := h; rw [List.length_cons, hl]; rfl
  obtain ⟨x, dx, vs, rfl, hl, hx, q⟩ := h
  obtain ⟨n, m, o, rfl⟩ : ∃ n m o, vs = [n, m, o] := by match vs, hl with | [n, m, o], _ => exact ⟨n, m, o, rfl⟩
  refine ⟨_, (pss_cons (ps_fld (pv 0) (pv 1) rfl)
    (pss_cons (ps_fld (pv 0) (pv 2) rfl)
    (pss_one (ps_fld (pv 0) (pv 3) rfl)))), ?_⟩
  refine ⟨_, rfl, _, rfl, x, _, dx, _, rfl, hx, T.cl_Joined, T.n_Joined_sign, (by show 0 < 1000; decide), ?_⟩
  refine ⟨_, rfl, _, rfl, x, _, dx, _, rfl, upd_same, T.cl_Joined, T.n_Joined_left, (by show 1 < 1000; decide), ?_⟩
  refine ⟨_, rfl, _, rfl, x, _, dx, _, rfl, upd_same, T.cl_Joined, T.n_Joined_right, (by show 2 < 1000; decide), ?_⟩
  exact q _ (fun b o e hb => by repeat rw [upd_ne hb]
                                exact e) ⟨dx, upd_same⟩

theorem ok_nreads (T : Tx K mg a) : FnOk P w K mg base CX0 1 a.f_Number_reads a.d_Number_reads ["self"] spNone := by
  refine T.F_Number_reads.ok sc_Number_reads (fun vs H Q E h => ?_) (fun cdv A outer s H vs Q E hr h => ?_)
  · obtain ⟨_, rfl, _⟩ := h; rfl
  obtain ⟨x, rfl, q⟩ := h
  refine ⟨_, (pss_one (ps_ret (pe_lst pa_nil))), ?_⟩
  exact ⟨szl (by show 0 ≤ 1000000; decide), fun r hr => q r _ (same_new hr _) upd_same⟩
theorem ok_vreads (T : Tx K mg a) : FnOk P w K mg base CX0 1 a.f_Value_reads a.d_Value_reads ["self"] spNone := by
  refine T.F_Value_reads.ok sc_Value_reads (fun vs H Q E h => ?_) (fun cdv A outer s H vs Q E hr h => ?_)
  · obtain ⟨_, rfl, _⟩ := h; rfl
  obtain ⟨x, rfl, q⟩ := h
  refine ⟨_, (pss_one (ps_ret (pe_lst pa_nil))), ?_⟩
  exact ⟨szl (by show 0 ≤ 1000000; decide), fun r hr => q r _ (same_new hr _) upd_same⟩
theorem ok_creads (T : Tx K mg a) : FnOk P w K mg base CX0 1 a.f_Cell_reads a.d_Cell_reads ["self"] (spReadC a.c_Cell) := by
  refine T.F_Cell_reads.ok sc_Cell_reads (fun vs H Q E h => ?_) (fun cdv A outer s H vs Q E hr h => ?_)
  · obtain ⟨_, _, _, _, rfl, _⟩ := h; rfl
  obtain ⟨x, dx, z, v, rfl, hx, q⟩ := h
  refine ⟨_, (pss_one (ps_ret (pe_lst (pa_cons (pe_tup (pa_cons (pe_fld (pv 0) rfl) (pa_cons (pe_fld (pv 0) rfl) pa_nil))) pa_nil)))), ?_⟩
  refine ⟨_, rfl, x, _, dx, _, _, rfl, hx, T.cl_Cell, T.n_Cell_table, rfl, _, rfl, x, _, dx, _, _, rfl, hx, T.cl_Cell, T.n_Cell_spots, rfl, szl (by show 2 ≤ 1000000; decide), fun t ht => ⟨szl (by show 1 ≤ 1000000; decide), fun r hr => ?_⟩⟩
  exact q t r _ ((same_new ht _).trans (same_new hr _)) (same_new hr _ _ _ upd_same) upd_same
theorem ok_jreads (T : Tx K mg a) : ∀ n : Nat, FnOk P w K mg base CX0 (n + 1) a.f_Joined_reads a.d_Joined_reads ["self"] (spReadJ2 (csOf a) n)
  | 0 => by
    have no : ∀ vs H Q E, ¬ spReadJ2 (csOf a) 0 vs H Q E := fun vs H Q E h => by
      obtain ⟨_, _, _, _, _, m, k, _, _, _, _, h1, h2, hn, _⟩ := h
      have := h1.pos; have := h2.pos
      omega
    exact ⟨fun vs H Q E h => absurd h (no vs H Q E), fun A outer s H args us vs Q E _ _ _ _ h => absurd h (no vs H Q E)⟩
  | n + 1 => by
    have G_Number_reads := ok_nreads (P := P) (w := w) (base := base) T
    have G_Value_reads := ok_vreads (P := P) (w := w) (base := base) T
    have G_Cell_reads := ok_creads (P := P) (w := w) (base := base) T
    have G_Joined_reads := ok_jreads T n
    refine T.F_Joined_reads.ok sc_Joined_reads (fun vs H Q E h => ?_) (fun cdv A outer s H vs Q E hr h => ?_)
    · obtain ⟨_, _, _, _, _, _, _, _, _, rfl, _⟩ := h; rfl
    obtain ⟨x, dx, z, l, r, m, k, ts, us, rfl, hx, h1, h2, hn, hb, q⟩ := h
    refine ⟨_, (pss_one (ps_ret (pe_op op_cat (pe_alt (pe_meth0 (pe_fld (pv 0) rfl) T.cl_Number T.me_Number_reads G_Number_reads (hr.mono (by omega)) T.b_Number_reads .nil pass0) (pe_alt (pe_meth0 (pe_fld (pv 0) rfl) T.cl_Value T.me_Value_reads G_Value_reads (hr.mono (by omega)) T.b_Value_reads .nil pass0) (pe_alt (pe_meth0 (pe_fld (pv 0) rfl) T.cl_Cell T.me_Cell_reads G_Cell_reads (hr.mono (by omega)) T.b_Cell_reads .nil pass0) (pe_meth0 (pe_fld (pv 0) rfl) T.cl_Joined T.me_Joined_reads G_Joined_reads (hr.mono (by omega)) T.b_Joined_reads .nil pass0)))) (pe_alt (pe_meth0 (pe_fld (pv 0) rfl) T.cl_Number T.me_Number_reads G_Number_reads (hr.mono (by omega)) T.b_Number_reads .nil pass0) (pe_alt (pe_meth0 (pe_fld (pv 0) rfl) T.cl_Value T.me_Value_reads G_Value_reads (hr.mono (by omega)) T.b_Value_reads .nil pass0) (pe_alt (pe_meth0 (pe_fld (pv 0) rfl) T.cl_Cell T.me_Cell_reads G_Cell_reads (hr.mono (by omega)) T.b_Cell_reads .nil pass0) (pe_meth0 (pe_fld (pv 0) rfl) T.cl_Joined T.me_Joined_reads G_Joined_reads (hr.mono (by omega)) T.b_Joined_reads .nil pass0))))))), ?_⟩
    have p1 := h1.pos
    have p2 := h2.pos
    refine reads_any2 (c := csOf a) (n := n) (v := l) (fun R hR => ⟨_, rfl, x, _, dx, _, _, rfl, hx, T.cl_Joined, T.n_Joined_left, rfl, hR⟩) h1 (by omega) (by omega) (fun a1 ys1 H1 e1 g1 t1 => ?_)
    refine reads_any2 (c := csOf a) (n := n) (v := r) (fun R hR => ⟨_, rfl, x, _, dx, _, _, rfl, e1 _ _ hx, T.cl_Joined, T.n_Joined_right, rfl, hR⟩) (h2.over e1) (by omega) (by omega) (fun a2 ys2 H2 e2 g2 t2 => ?_)
    have l1 := t1.1
    have l2 := t2.1
    refine ⟨a1, a2, ys1, ys2, rfl, rfl, e2 _ _ g1, g2, szl (by omega), fun p hp => ?_⟩
    exact q p _ _ ((e1.trans e2).trans (same_new hp _)) upd_same (((t1.over e2).app t2).over (same_new hp _))

theorem ok_dinit (T : Tx K mg a) : FnOk P w K mg base CX0 1 a.f_Deed_init a.d_Deed_init ["self", "names", "lows", "highs", "table", "spots", "term", "path"] (spDInit a.c_Deed) := by
  refine T.F_Deed_init.ok sc_Deed_init (fun vs H Q E h => ?_) (fun cdv A outer s H vs Q E hr h => ?_)
  · obtain ⟨_, _, _, _, _, _, _, _, _, rfl, _⟩ := h; rfl
  obtain ⟨x, dx, v1, v2, v3, v4, v5, v6, v7, rfl, hx, q⟩ := h
  refine ⟨_, (pss_cons (ps_fld (pv 0) (pv 1) rfl)
    (pss_cons (ps_fld (pv 0) (pv 2) rfl)
    (pss_cons (ps_fld (pv 0) (pv 3) rfl)
    (pss_cons (ps_fld (pv 0) (pv 4) rfl)
    (pss_cons (ps_fld (pv 0) (pv 5) rfl)
    (pss_cons (ps_fld (pv 0) (pv 6) rfl)
    (pss_one (ps_fld (pv 0) (pv 7) rfl)))))))), ?_⟩
  refine ⟨_, rfl, _, rfl, x, _, dx, _, rfl, hx, T.cl_Deed, T.n_Deed_names, (by show 0 < 1000; decide), ?_⟩
  refine ⟨_, rfl, _, rfl, x, _, dx, _, rfl, upd_same, T.cl_Deed, T.n_Deed_lows, (by show 1 < 1000; decide), ?_⟩
  refine ⟨_, rfl, _, rfl, x, _, dx, _, rfl, upd_same, T.cl_Deed, T.n_Deed_highs, (by show 2 < 1000; decide), ?_⟩
  refine ⟨_, rfl, _, rfl, x, _, dx, _, rfl, upd_same, T.cl_Deed, T.n_Deed_table, (by show 3 < 1000; decide), ?_⟩
  refine ⟨_, rfl, _, rfl, x, _, dx, _, rfl, upd_same, T.cl_Deed, T.n_Deed_spots, (by show 4 < 1000; decide), ?_⟩
  refine ⟨_, rfl, _, rfl, x, _, dx, _, rfl, upd_same, T.cl_Deed, T.n_Deed_term, (by show 5 < 1000; decide), ?_⟩
  refine ⟨_, rfl, _, rfl, x, _, dx, _, rfl, upd_same, T.cl_Deed, T.n_Deed_path, (by show 6 < 1000; decide), ?_⟩
  exact q _ (fun b o e hb => by repeat rw [upd_ne hb]
                                exact e) ⟨dx, upd_same⟩

theorem ok_pini (T : Tx K mg a) : FnOk P w K mg base CX0 1 a.f_Program_init a.d_Program_init ["self", "size", "deeds"] (spPIni K a.c_Program) := by
  refine T.F_Program_init.ok sc_Program_init (fun vs H Q E h => ?_) (fun cdv A outer s H vs Q E hr h => ?_)
  · obtain ⟨_, _, _, _, _, rfl, _⟩ := h; rfl
  obtain ⟨x, dx, sz, p, ys, rfl, hx, hp, q⟩ := h
  refine ⟨_, (pss_cons (ps_fld (pv 0) (pv 1) rfl)
    (pss_one (ps_fld (pv 0) (pe_callTy call_list_of (by rfl) T.z_list bt_list (pa_cons (pv 2) pa_nil)) rfl))), ?_⟩
  refine ⟨_, rfl, _, rfl, x, _, dx, _, rfl, hx, T.cl_Program, T.n_Program_size, (by show 0 < 1000; decide), ?_⟩
  refine ⟨_, rfl, p, ys, rfl, .inl (SqL.updI hp hx), fun l hl => ?_⟩
  have nxl : x ≠ l := fun e => by rw [e, upd_same] at hl; cases hl
  have hlH : H l = none := by rw [upd_ne (Ne.symm nxl)] at hl; exact hl
  refine ⟨_, rfl, x, _, dx, _, rfl, (by rw [upd_ne nxl]; exact upd_same), T.cl_Program, T.n_Program_deeds, (by show 1 < 1000; decide), ?_⟩
  refine q l _ hlH (fun b o e hb => ?_) ?_ ⟨dx, upd_same⟩
  · rw [upd_ne hb, upd_ne (ne_of_none e hlH), upd_ne hb]
    exact e
  · rw [upd_ne (Ne.symm nxl)]
    exact upd_same

theorem ok_object (T : Tx K mg a) : ∀ n : Nat, FnOk P w K mg base CX0 (n + 2) a.f_l_object a.d_l_object ["_law_term_here"] (spObj (csOf a) n)
  | 0 => by
    have no : ∀ vs H Q E, ¬ spObj (csOf a) 0 vs H Q E := fun vs H Q E h => by
      obtain ⟨x, m, rs, _, hm, tm, _⟩ := h
      have := tm.pos
      omega
    exact ⟨fun vs H Q E h => absurd h (no vs H Q E), fun A outer s H args us vs Q E _ _ _ _ h => absurd h (no vs H Q E)⟩
  | n + 1 => by
    have G_Number_init := ok_inin (P := P) (w := w) (base := base) T
    have G_Value_init := ok_iniv (P := P) (w := w) (base := base) T
    have G_Cell_init := ok_inic (P := P) (w := w) (base := base) T
    have G_Joined_init := ok_inij (P := P) (w := w) (base := base) T
    have G_l_object := ok_object T n
    refine T.F_l_object.ok sc_l_object (fun vs H Q E h => ?_) (fun cdv A outer s H vs Q E hr h => ?_)
    · obtain ⟨_, _, _, rfl, _⟩ := h; rfl
    obtain ⟨x, m, rs, rfl, hm, tm, q⟩ := h
    refine ⟨_, (pss_cons (ps_if (pt_cmpR op_eq (pe_ix ix_tup (pv 0) pe_int (fun _ _ => rfl)) pe_str (nomark _))
    (pss_one (ps_ret (pe_make T.mk_Number G_Number_init (hr.mono (by omega)) (by rfl) T.mc_Number T.b_Number_init .nil pass0 (pa_cons (pe_ix ix_tup (pv 0) pe_int (fun _ _ => rfl)) pa_nil))))
    pss_nil)
    (pss_cons (ps_if (pt_cmpR op_eq (pe_ix ix_tup (pv 0) pe_int (fun _ _ => rfl)) pe_str (nomark _))
    (pss_one (ps_ret (pe_make T.mk_Value G_Value_init (hr.mono (by omega)) (by rfl) T.mc_Value T.b_Value_init .nil pass0 (pa_cons (pe_ix ix_tup (pv 0) pe_int (fun _ _ => rfl)) pa_nil))))
    pss_nil)
    (pss_cons (ps_if (pt_cmpR op_eq (pe_ix ix_tup (pv 0) pe_int (fun _ _ => rfl)) pe_str (nomark _))
    (pss_one (ps_ret (pe_make T.mk_Cell G_Cell_init (hr.mono (by omega)) (by rfl) T.mc_Cell T.b_Cell_init .nil pass0 (pa_cons (pe_ix ix_tup (pv 0) pe_int (fun _ _ => rfl)) (pa_cons (pe_ix ix_tup (pv 0) pe_int (fun _ _ => rfl)) pa_nil)))))
    pss_nil)
    (pss_one (ps_ret (pe_make T.mk_Joined G_Joined_init (hr.mono (by omega)) (by rfl) T.mc_Joined T.b_Joined_init .nil pass0 (pa_cons (pe_ix ix_tup (pv 0) pe_int (fun _ _ => rfl)) (pa_cons (pe_call G_l_object (hr.mono (by omega)) (by rfl) T.m_l_object T.F_l_object.kp T.b_l_object .nil pass0 (pa_cons (pe_ix ix_tup (pv 0) pe_int (fun _ _ => rfl)) pa_nil)) (pa_cons (pe_call G_l_object (hr.mono (by omega)) (by rfl) T.m_l_object T.F_l_object.kp T.b_l_object .nil pass0 (pa_cons (pe_ix ix_tup (pv 0) pe_int (fun _ _ => rfl)) pa_nil)) pa_nil))))))))), ?_⟩
    cases tm with
    | @n t i h =>
      refine ⟨_, rfl, t, _, 0, _, rfl, rfl, SqT.of h, rfl, rfl, _, rfl, iteE (v := true) (decide_eq_true rfl) (iteT ?_)⟩
      refine ⟨_, rfl, t, _, 1, _, rfl, rfl, SqT.of h, rfl, fun x dx nx ndx ne => ⟨x, dx, [_], rfl, rfl, upd_same, fun H2 k2 hx2 => ⟨rfl, ?_⟩⟩⟩
      obtain ⟨dx2, hx2⟩ := hx2
      exact q _ _ (made_same nx ndx k2) (.num i hx2)
    | @v t z h =>
      refine ⟨_, rfl, t, _, 0, _, rfl, rfl, SqT.of h, rfl, rfl, _, rfl, iteE (v := false) (dS (by decide +kernel)) (iteF ?_)⟩
      refine ⟨_, rfl, t, _, 0, _, rfl, rfl, SqT.of h, rfl, rfl, _, rfl, iteE (v := true) (decide_eq_true rfl) (iteT ?_)⟩
      refine ⟨_, rfl, t, _, 1, _, rfl, rfl, SqT.of h, rfl, fun x dx nx ndx ne => ⟨x, dx, [_], rfl, rfl, upd_same, fun H2 k2 hx2 => ⟨rfl, ?_⟩⟩⟩
      obtain ⟨dx2, hx2⟩ := hx2
      exact q _ _ (made_same nx ndx k2) (.val z hx2)
    | @c t p z h hsp =>
      refine ⟨_, rfl, t, _, 0, _, rfl, rfl, SqT.of h, rfl, rfl, _, rfl, iteE (v := false) (dS (by decide +kernel)) (iteF ?_)⟩
      refine ⟨_, rfl, t, _, 0, _, rfl, rfl, SqT.of h, rfl, rfl, _, rfl, iteE (v := false) (dS (by decide +kernel)) (iteF ?_)⟩
      refine ⟨_, rfl, t, _, 0, _, rfl, rfl, SqT.of h, rfl, rfl, _, rfl, iteE (v := true) (decide_eq_true rfl) (iteT ?_)⟩
      refine ⟨_, rfl, t, _, 1, _, rfl, rfl, SqT.of h, rfl, _, rfl, t, _, 2, _, rfl, rfl, SqT.of h, rfl, fun x dx nx ndx ne => ⟨x, dx, [_, _], rfl, rfl, upd_same, fun H2 k2 hx2 => ⟨rfl, ?_⟩⟩⟩
      obtain ⟨dx2, hx2⟩ := hx2
      exact q _ _ (made_same nx ndx k2) (.cel z hx2)
    | @j t l r m1 m2 rs us z hz h tl tr =>
      obtain ⟨z1, z2, z3⟩ := sign_ne hz
      have := tl.pos
      have := tr.pos
      refine ⟨_, rfl, t, _, 0, _, rfl, rfl, SqT.of h, rfl, rfl, _, rfl, iteE (v := false) (dS z1) (iteF ?_)⟩
      refine ⟨_, rfl, t, _, 0, _, rfl, rfl, SqT.of h, rfl, rfl, _, rfl, iteE (v := false) (dS z2) (iteF ?_)⟩
      refine ⟨_, rfl, t, _, 0, _, rfl, rfl, SqT.of h, rfl, rfl, _, rfl, iteE (v := false) (dS z3) (iteF ?_)⟩
      refine ⟨_, rfl, t, _, 0, _, rfl, rfl, SqT.of h, rfl, _, rfl, t, _, 1, _, rfl, rfl, SqT.of h, rfl, l, m1, rs, rfl, by omega, tl, fun y1 H1 e1 o1 => ?_⟩
      refine ⟨_, rfl, t, _, 2, _, rfl, rfl, SqT.of (e1 _ _ h), rfl, r, m2, us, rfl, by omega, tr.over e1, fun y2 H2 e2 o2 => ?_⟩
      refine fun x dx nx ndx ne => ⟨x, dx, [_, _, _], rfl, rfl, upd_same, fun H3 k3 hx3 => ⟨rfl, ?_⟩⟩
      obtain ⟨dx3, hx3⟩ := hx3
      have e3 := made_same nx ndx k3
      refine q _ _ (e1.trans (e2.trans e3)) ?_
      exact .joi z hx3 ((o1.over e2).over e3) (o2.over e3)

theorem ok_rds (T : Tx K mg a) : ∀ n : Nat, FnOk P w K mg base CX0 (n + 1) a.f_l_reads a.d_l_reads ["_law_term_here"] (spRds n)
  | 0 => by
    have no : ∀ vs H Q E, ¬ spRds 0 vs H Q E := fun vs H Q E h => by
      obtain ⟨x, m, rs, _, hm, _, tm, _⟩ := h
      have := tm.pos
      omega
    exact ⟨fun vs H Q E h => absurd h (no vs H Q E), fun A outer s H args us vs Q E _ _ _ _ h => absurd h (no vs H Q E)⟩
  | n + 1 => by
    have G_l_reads := ok_rds T n
    refine T.F_l_reads.ok sc_l_reads (fun vs H Q E h => ?_) (fun cdv A outer s H vs Q E hr h => ?_)
    · obtain ⟨_, _, _, rfl, _⟩ := h; rfl
    obtain ⟨x, m, rs, rfl, hm, hk, tm, q⟩ := h
    refine ⟨_, (pss_cons (ps_if (pt_cmpR op_eq (pe_ix ix_tup (pv 0) pe_int (fun _ _ => rfl)) pe_str (nomark _))
    (pss_one (ps_ret (pe_lst (pa_cons (pe_tupq (paq_cons pe_bl (paq_cons (pe_ix ix_tup (pv 0) pe_int (fun _ _ => rfl)) (paq_cons (pe_ix ix_tup (pv 0) pe_int (fun _ _ => rfl)) paq_nil star_S) star_S) star_C)) pa_nil))))
    pss_nil)
    (pss_cons (ps_if ((pw_or (pt_cmpR op_eq (pe_ix ix_tup (pv 0) pe_int (fun _ _ => rfl)) pe_str (nomark _)) (pw_or1 (pt_cmpR op_eq (pe_ix ix_tup (pv 0) pe_int (fun _ _ => rfl)) pe_str (nomark _))))).pt
    (pss_one (ps_ret (pe_lst pa_nil)))
    pss_nil)
    (pss_one (ps_ret (pe_op op_cat (pe_call G_l_reads (hr.mono (by omega)) (by rfl) T.m_l_reads T.F_l_reads.kp T.b_l_reads .nil pass0 (pa_cons (pe_ix ix_tup (pv 0) pe_int (fun _ _ => rfl)) pa_nil)) (pe_call G_l_reads (hr.mono (by omega)) (by rfl) T.m_l_reads T.F_l_reads.kp T.b_l_reads .nil pass0 (pa_cons (pe_ix ix_tup (pv 0) pe_int (fun _ _ => rfl)) pa_nil))))))), ?_⟩
    cases tm with
    | @n t i h =>
      refine ⟨_, rfl, t, _, 0, _, rfl, rfl, SqT.of h, rfl, rfl, _, rfl, iteE (v := false) (dS (by decide +kernel)) (iteF ?_)⟩
      refine ⟨_, rfl, t, _, 0, _, rfl, rfl, SqT.of h, rfl, rfl, _, rfl, iteE (v := true) (decide_eq_true rfl) (iteT (iteT ?_))⟩
      exact ⟨szl (by show 0 ≤ 1000000; decide), fun l hl => q l _ [] (same_new hl _) upd_same .nil⟩
    | @v t z h =>
      refine ⟨_, rfl, t, _, 0, _, rfl, rfl, SqT.of h, rfl, rfl, _, rfl, iteE (v := false) (dS (by decide +kernel)) (iteF ?_)⟩
      refine ⟨_, rfl, t, _, 0, _, rfl, rfl, SqT.of h, rfl, rfl, _, rfl, iteE (v := false) (dS (by decide +kernel)) (iteF ?_)⟩
      refine ⟨_, rfl, t, _, 0, _, rfl, rfl, SqT.of h, rfl, rfl, _, rfl, iteE (v := true) (decide_eq_true rfl) (iteT ?_)⟩
      exact ⟨szl (by show 0 ≤ 1000000; decide), fun l hl => q l _ [] (same_new hl _) upd_same .nil⟩
    | @c t p z h hsp =>
      refine ⟨_, rfl, t, _, 0, _, rfl, rfl, SqT.of h, rfl, rfl, _, rfl, iteE (v := true) (decide_eq_true rfl) (iteT ?_)⟩
      refine ⟨_, rfl, t, _, 1, _, rfl, rfl, SqT.of h, rfl, _, rfl, t, _, 2, _, rfl, rfl, SqT.of h, rfl, szl (by show 3 ≤ 1000000; decide), fun t2 ht2 => ⟨szl (by show 1 ≤ 1000000; decide), fun l hl => ?_⟩⟩
      have s1 := same_new ht2 (.tup [V.bl false, V.str z, V.ref p])
      have s2 := same_new hl (.lst [V.ref t2])
      exact q l _ [.ref t2] (s1.trans s2) upd_same (.one (r := (z, p)) (s2 _ _ upd_same))
    | @j t l r m1 m2 rs us z hz h tl tr =>
      obtain ⟨z1, z2, z3⟩ := sign_ne hz
      have := tl.pos
      have := tr.pos
      refine ⟨_, rfl, t, _, 0, _, rfl, rfl, SqT.of h, rfl, rfl, _, rfl, iteE (v := false) (dS z3) (iteF ?_)⟩
      refine ⟨_, rfl, t, _, 0, _, rfl, rfl, SqT.of h, rfl, rfl, _, rfl, iteE (v := false) (dS z1) (iteF ?_)⟩
      refine ⟨_, rfl, t, _, 0, _, rfl, rfl, SqT.of h, rfl, rfl, _, rfl, iteE (v := false) (dS z2) (iteF ?_)⟩
      refine ⟨_, rfl, t, _, 1, _, rfl, rfl, SqT.of h, rfl, l, m1, rs, rfl, by omega, by omega, tl, fun l1 H1 xs1 e1 g1 o1 => ?_⟩
      refine ⟨_, rfl, t, _, 2, _, rfl, rfl, SqT.of (e1 _ _ h), rfl, r, m2, us, rfl, by omega, by omega, tr.over e1, fun l2 H2 xs2 e2 g2 o2 => ?_⟩
      have k1 := o1.1
      have k2 := o2.1
      refine ⟨l1, l2, _, _, rfl, rfl, e2 _ _ g1, g2, szl (by omega), fun p hp => ?_⟩
      have s3 := same_new hp (.lst (xs1 ++ xs2))
      exact q p _ _ (e1.trans (e2.trans s3)) upd_same (((o1.over e2).app o2).over s3)

theorem ok_heads4 (T : Tx K mg a) : FnOk P w K mg base CX0 3 a.f_l_heads a.d_l_heads ["_law_script"] (spHeads4 K) := by
  have G_l_cell := ok_cellD (P := P) (w := w) (base := base) T
  have G_l_mixed := ok_mixed (P := P) (w := w) (base := base) T
  have G_l_name := ok_name (P := P) (w := w) (base := base) T
  refine T.F_l_heads.ok sc_l_heads (fun vs H Q E h => ?_) (fun cdv A outer s H vs Q E hr h => ?_)
  · obtain ⟨_, _, rfl, _⟩ := h; rfl
  obtain ⟨p, ns, rfl, hp, q⟩ := h
  refine ⟨_, (pss_cons (ps_set (i := 1) sc_l_heads.nd rfl (Or.inl rfl) (pe_call G_l_cell (hr.mono (by omega)) (by rfl) T.m_l_cell T.F_l_cell.kp T.b_l_cell .nil pass0 (pa_cons (pv 0) (pa_cons pe_int pa_nil))))
    (pss_cons (ps_set (i := 2) sc_l_heads.nd rfl (Or.inl rfl) (pe_call G_l_mixed (hr.mono (by omega)) (by rfl) T.m_l_mixed T.F_l_mixed.kp T.b_l_mixed .nil pass0 (pa_cons (pv 1) (pa_cons pe_int pa_nil))))
    (pss_cons (ps_set (i := 3) sc_l_heads.nd rfl (Or.inl rfl) (pe_ix ix_list (pe_lstq (paq_cons pe_int (paq_cons pe_int (paq_cons (pe_op op_sub (pe_op op_mod (pv 1) (pe_op op_add (pe_op op_mul pe_int (pe_op op_pow pe_int pe_int)) pe_int)) (pe_op op_pow pe_int pe_int)) paq_nil star_B) star_C) star_C)) (pe_op op_mod (pv 2) pe_int) (fun _ _ => rfl)))
    (pss_cons (ps_set (i := 4) sc_l_heads.nd rfl (Or.inl rfl) (pe_lst pa_nil))
    (pss_cons (ps_for PassesOwn.never rfl (pi_range1 (by rfl) T.z_range (pa_cons pe_int pa_nil)) (pg_name (i := 5) sc_l_heads.nd rfl (Or.inl rfl))
    (pss_one (ps_expr (pe_bm PySem.F.plainAttrs_list PySem.F.slot_list_append PySem.F.type_list_append mt_append (pv 4) (pa_cons (pe_tupq (paq_cons (pe_call G_l_name (hr.mono (by omega)) (by rfl) T.m_l_name T.F_l_name.kp T.b_l_name .nil pass0 (pa_cons (pe_op op_fdiv (pv 2) pe_int) (pa_cons (pv 5) pa_nil))) (paq_cons (pe_ix ix_list (pe_lstq (paq_cons pe_int (paq_cons pe_int (paq_cons pe_int (paq_cons pe_int (paq_cons pe_int (paq_cons pe_int paq_nil star_C) star_C) star_C) star_C) star_C) star_C)) (pe_op op_mod (pe_op op_add (pe_op op_fdiv (pv 2) pe_int) (pv 5)) pe_int) (fun _ _ => rfl)) (paq_cons (pv 3) paq_nil star_N) star_S) star_K)) pa_nil)))))
    (pss_one (ps_ret (pv 4)))))))), ?_⟩
  refine ⟨_, rfl, p, ns, 0, rfl, hp, by decide, by decide, ?_⟩
  dsimp only [gName]
  generalize cellD ns 0 = c at q
  refine ⟨_, rfl, c, 0, rfl, ?_⟩
  obtain ⟨m0, m1⟩ := mix_b c 0
  have hM : ∀ (i : Nat) (k : Int), i < 3 → atI ([1, 2, 1, 3, 1, 2].map V.int) ((mixF c 0 / 7 + (i : Int)) % 6) = some (.int k) → MtF c (nmF (mixF c 0 / 3) (i : Int)) k := fun i k h1 h2 => ⟨i, h1, rfl, h2⟩
  generalize MtF c = M at q hM
  generalize mixF c 0 = m at m0 m1 hM ⊢
  dsimp only [gName]
  obtain ⟨of', _, eof⟩ := pickN (L := [0, 0, c % (2 * 10 ^ (17 : Int).toNat + 1) - 10 ^ (17 : Int).toNat]) (i := m % 3) 3 rfl (Int.emod_nonneg _ (by decide)) (Int.emod_lt_of_pos _ (by decide))
  refine ⟨_, rfl, _, _, rfl, rfl, ⟨by decide, by decide, by decide⟩, _, _, rfl, rfl, .inl ⟨by decide, by decide⟩, _, _, rfl, rfl, _, _, rfl, rfl, (by show (0 : Int) < 2 * 10 ^ (17 : Int).toNat + 1; decide), _, _, rfl, rfl, ⟨by decide, by decide, by decide⟩, _, _, rfl, rfl, szl (by show 3 ≤ 1000000; decide), fun q1 hq1 => ?_⟩
  have s1 := same_new hq1 (.lst [V.int 0, V.int 0, V.int (c % (2 * 10 ^ (17 : Int).toNat + 1) - 10 ^ (17 : Int).toNat)])
  refine ⟨_, rfl, _, _, rfl, rfl, (by show (0 : Int) < 3; decide), q1, _, _, _, rfl, rfl, SqL.of upd_same, eof, ?_⟩
  dsimp only [gName]
  generalize upd H q1 (.lst [V.int 0, V.int 0, V.int (c % (2 * 10 ^ (17 : Int).toNat + 1) - 10 ^ (17 : Int).toNat)]) = H1 at s1
  refine ⟨szl (by show 0 ≤ 1000000; decide), fun l hl => ?_⟩
  have hl0 : H l = none := s1.free hl
  dsimp only [gName]
  refine ⟨3, rfl, by decide, by decide, ?_⟩
  refine for_range (lo := 0) (n := 3) (fun i σ' H' => Same H1 H' ∧ (∃ o5, σ' = [some (.ref p), some (.int c), some (.int m), some (.int of'), some (.ref l), o5]) ∧ ∃ xs : List V, H' l = some (.lst xs) ∧ xs.length = i ∧ ∀ v ∈ xs, ∃ (t : Addr) (z : Str) (m n : Int), v = .ref t ∧ H' t = some (.tup [.str z, .int m, .int n]) ∧ 1 ≤ m ∧ m ≤ 3 ∧ M z m) ⟨same_new hl _, ⟨_, rfl⟩, [], upd_same, rfl, fun v hv => by cases hv⟩ (fun i σ' H' hi pp => ?_) (fun σ' H' pp => ?_)
  · obtain ⟨e, ⟨o5, rfl⟩, xs, hx, xl, hxs⟩ := pp
    have e0' : (0 : Int) + (i : Int) = (i : Int) := by omega
    rw [e0']
    refine ⟨_, rfl, .inl ⟨rfl, _, SqL.of hx⟩, _, rfl, _, _, rfl, rfl, ⟨by decide, by decide⟩, _, rfl, m / 3, (i : Int), rfl, by omega, by omega, fun H2 e2 => ⟨szl (by show 6 ≤ 1000000; decide), fun q2 hq2 => ?_⟩⟩
    obtain ⟨k, hk, ek⟩ := pickN (L := [1, 2, 1, 3, 1, 2]) (i := (m / 7 + (i : Int)) % 6) 6 rfl (Int.emod_nonneg _ (by decide)) (Int.emod_lt_of_pos _ (by decide))
    have hk : 1 ≤ k ∧ k ≤ 3 := by
      simp only [List.mem_cons, List.not_mem_nil, or_false] at hk
      omega
    have s3 := same_new hq2 (.lst [V.int 1, V.int 2, V.int 1, V.int 3, V.int 1, V.int 2])
    refine ⟨_, rfl, _, _, rfl, rfl, ⟨by decide, by decide⟩, _, rfl, _, _, rfl, rfl, _, _, rfl, rfl, (by show (0 : Int) < 6; decide), q2, _, _, _, rfl, rfl, SqL.of upd_same, ek, _, rfl, szl (by show 3 ≤ 1000000; decide), fun t4 ht4 => ?_⟩
    have s4 := same_new ht4 (.tup [V.str (sOf (nmC (mixF (m / 3) 11) (i : Int))), V.int k, V.int of'])
    have e4 := e2.trans (s3.trans s4)
    have hx4 := e4 _ _ hx
    have ne4 : t4 ≠ l := fun z => by rw [z, s3 _ _ (e2 _ _ hx)] at ht4; cases ht4
    refine ⟨l, _, _, rfl, rfl, hx4, szlt (by omega), ?_⟩
    refine ⟨fun a o ha => by rw [upd_ne (ne_of_none ha hl)]; exact e4 _ _ (e _ _ ha), ⟨_, rfl⟩, _, upd_same, by rw [List.length_append, xl]; rfl, fun v hv => ?_⟩
    rcases List.mem_append.mp hv with hv | hv
    · obtain ⟨t, z, m', n', rfl, ht, h1, h2, h3⟩ := hxs v hv
      exact ⟨t, z, m', n', rfl, by rw [upd_ne (ne_of ht hx (by intro z; cases z))]; exact e4 _ _ ht, h1, h2, h3⟩
    · rw [List.mem_singleton] at hv
      exact ⟨t4, _, k, of', hv, by rw [upd_ne ne4]; exact upd_same, hk.1, hk.2, hM i k hi ek⟩
  · obtain ⟨e, ⟨o5, rfl⟩, xs, hx, xl, hxs⟩ := pp
    exact ⟨_, rfl, q l _ (s1.trans e) ⟨xs, hx, xl, hxs⟩⟩

theorem ok_touches (T : Tx K mg a) : FnOk P w K mg base CX0 102 a.f_touches a.d_touches ["deed"] (spTouches (csOf a) a.c_Deed) := by
  have G_Number_reads := ok_nreads (P := P) (w := w) (base := base) T
  have G_Value_reads := ok_vreads (P := P) (w := w) (base := base) T
  have G_Cell_reads := ok_creads (P := P) (w := w) (base := base) T
  have G_Joined_reads := ok_jreads (P := P) (w := w) (base := base) T 100
  refine T.F_touches.ok sc_touches (fun vs H Q E h => ?_) (fun cdv A outer s H vs Q E hr h => ?_)
  · obtain ⟨_, _, _, _, _, rfl, _⟩ := h; rfl
  obtain ⟨v, z, p, m, rs, rfl, ⟨d, dx, v1, v2, v3, x, v7, rfl, hd, hto⟩, hm, q⟩ := h
  refine ⟨_, (pss_cons (ps_setcompB (i := 1) ["table", "spots"] [none, none] sc_touches.nd rfl (Or.inl rfl) (by rfl) (pi_list (pe_alt (pe_meth0 (pe_fld (pv 0) rfl) T.cl_Number T.me_Number_reads G_Number_reads (hr.mono (by omega)) T.b_Number_reads .nil pass0) (pe_alt (pe_meth0 (pe_fld (pv 0) rfl) T.cl_Value T.me_Value_reads G_Value_reads (hr.mono (by omega)) T.b_Value_reads .nil pass0) (pe_alt (pe_meth0 (pe_fld (pv 0) rfl) T.cl_Cell T.me_Cell_reads G_Cell_reads (hr.mono (by omega)) T.b_Cell_reads .nil pass0) (pe_meth0 (pe_fld (pv 0) rfl) T.cl_Joined T.me_Joined_reads G_Joined_reads (hr.mono (by omega)) T.b_Joined_reads .nil pass0))))) c_touches_0 (fun _ _ _ _ _ _ => ⟨(show PG _ _ (gTup K 2 _) from (pg_tup rfl (pgs_cons (pg_name (i := 0) c_touches_0n rfl (Or.inl rfl)) (pgs_cons (pg_name (i := 1) c_touches_0n rfl (Or.inl rfl)) pgs_nil)))), pts_nil, (pe_tupq (paq_cons pe_bl (paq_cons (pv 0) (paq_cons (pv 1) paq_nil star_N) star_N) star_C))⟩))
    (pss_one (ps_ret (pe_op op_cat (pe_lst (pa_cons (pe_tupq (paq_cons pe_bl (paq_cons (pe_fld (pv 0) rfl) (paq_cons (pe_fld (pv 0) rfl) paq_nil star_A) star_A) star_C)) pa_nil)) (pv 1))))), ?_⟩
  refine reads_any2 (c := csOf a) (n := 100) (v := x) (fun R hR => ⟨_, rfl, d, _, dx, _, _, rfl, hd, T.cl_Deed, T.n_Deed_term, rfl, hR⟩) hto (by omega) (by omega) (fun a1 ys1 H1 e1 g1 t1 => ?_)
  refine ⟨a1, rfl, ⟨_, SqL.of g1⟩, ?_⟩
  have l1 := t1.1
  have hp := hto.pos
  refine comp_listG (xs := ys1) (fun i ys H' => Same H1 H' ∧ RdsAt H' (tchF false) ys (rs.take i)) ⟨Same.refl _, .nil⟩ (szl (by omega)) (fun i ys H' hi pp => ⟨SqL.of (pp.1 _ _ g1), by rw [pp.2.1, List.length_take]; omega⟩) (fun i y ys H' hy pp => ?_) (fun ys H' pp r hr' => ?_)
  · obtain ⟨e2, hR⟩ := pp
    have hi : i < rs.length := by have := (List.getElem?_eq_some_iff.mp hy).1; omega
    have er : rs[i]? = some rs[i] := List.getElem?_eq_getElem hi
    obtain ⟨t, rfl, ht⟩ := t1.2 i y _ hy er
    refine ⟨t, _, rfl, SqT.of (e2 _ _ ht), rfl, _, _, rfl, _, _, rfl, rfl, outs2 (ρ := []) _ _, ?_⟩
    refine ⟨_, rfl, _, rfl, szl (by show 3 ≤ 1000000; decide), fun t2 ht2 => ?_⟩
    have s3 := same_new ht2 (.tup [V.bl false, .str rs[i].1, .ref rs[i].2])
    refine ⟨e2.trans s3, ?_⟩
    rw [take_snoc er]
    exact (hR.over s3).app (.one upd_same)
  obtain ⟨e2, hR⟩ := pp
  rw [l1, List.take_length] at hR
  have s3 := same_new hr' (.lst ys)
  have e3 := e1.trans (e2.trans s3)
  have hd3 := e3 _ _ hd
  have hl3 := hR.1
  dsimp only [gName]
  refine ⟨_, rfl, d, _, dx, _, _, rfl, hd3, T.cl_Deed, T.n_Deed_table, rfl, _, rfl, d, _, dx, _, _, rfl, hd3, T.cl_Deed, T.n_Deed_spots, rfl, szl (by show 3 ≤ 1000000; decide), fun t5 ht5 => ⟨szl (by show 1 ≤ 1000000; decide), fun l5 hl5 => ?_⟩⟩
  have s5 := same_new ht5 (.tup [V.bl true, .str z, .ref p])
  have s6 := same_new hl5 (.lst [V.ref t5])
  refine ⟨_, rfl, l5, r, _, _, rfl, rfl, upd_same, s6 _ _ (s5 _ _ upd_same), szl (by simp only [List.length_singleton]; omega), fun l7 hl7 => ?_⟩
  have s7 := same_new hl7 (.lst ([V.ref t5] ++ ys))
  have e57 := s5.trans (s6.trans s7)
  refine q l7 _ (e3.trans e57) ((e3.trans (s5.trans s6)).free hl7) ⟨t5, ys, upd_same, s7 _ _ (s6 _ _ upd_same), hR.over (s3.trans e57)⟩

theorem ok_row54 (T : Tx K mg a) : FnOk P w K mg base CX0 5 a.f_l_row a.d_l_row ["_law_cell_here", "_law_stack", "_law_path", "_law_heads_here"] spRow54 := by
  have G_l_mixed := ok_mixed (P := P) (w := w) (base := base) T
  have G_l_cell_of := ok_cell_of4 (P := P) (w := w) (base := base) T
  have G_l_term := ok_term4 (P := P) (w := w) (base := base) T
  refine T.F_l_row.ok sc_l_row (fun vs H Q E h => ?_) (fun cdv A outer s H vs Q E hr h => ?_)
  · obtain ⟨_, _, _, _, _, _, _, rfl, _⟩ := h; rfl
  obtain ⟨M, c, st, pt, hd, S, ps, rfl, ⟨vs, hv, hall⟩, k10, hpt, hH, q⟩ := h
  refine ⟨_, (pss_cons (ps_set (i := 4) sc_l_row.nd rfl (Or.inl rfl) (pe_op op_cat (pe_lst (pa_cons (pe_tup (pa_cons pe_str (pa_cons pe_int pa_nil))) pa_nil)) (pe_compB ["_law_one"] [none] (by rfl) (pi_list (pv 1)) c_l_row_0 (fun _ _ _ _ _ _ => ⟨(pg_name (i := 0) c_l_row_0n rfl (Or.inl rfl)), pts_nil, (pe_tup (pa_cons (pe_ix (show IxR _ (rIxT K) from ix_tup) (pv 0) pe_int (fun _ _ => rfl)) (pa_cons (pe_ix (show IxR _ (rIxT K) from ix_tup) (pv 0) pe_int (fun _ _ => rfl)) pa_nil)))⟩))))
    (pss_cons (ps_set (i := 5) sc_l_row.nd rfl (Or.inl rfl) (pe_callTy call_tuple_of (by rfl) T.z_tuple bt_tuple (pa_cons (pe_compB ["_law_one"] [none] (by rfl) (pi_list (pv 1)) c_l_row_1 (fun _ _ _ _ _ _ => ⟨(pg_name (i := 0) c_l_row_1n rfl (Or.inl rfl)), pts_nil, (pe_ix (show IxR _ (rIxT K) from ix_tup) (pv 0) pe_int (fun _ _ => rfl))⟩)) pa_nil)))
    (pss_cons (ps_set (i := 6) sc_l_row.nd rfl (Or.inl rfl) (pe_callTy call_tuple_of (by rfl) T.z_tuple bt_tuple (pa_cons (pe_compB ["_law_one"] [none] (by rfl) (pi_list (pv 1)) c_l_row_2 (fun _ _ _ _ _ _ => ⟨(pg_name (i := 0) c_l_row_2n rfl (Or.inl rfl)), pts_nil, (pe_ix (show IxR _ (rIxT K) from ix_tup) (pv 0) pe_int (fun _ _ => rfl))⟩)) pa_nil)))
    (pss_cons (ps_set (i := 7) sc_l_row.nd rfl (Or.inl rfl) (pe_callTy call_tuple_of (by rfl) T.z_tuple bt_tuple (pa_cons (pe_compB ["_law_one"] [none] (by rfl) (pi_list (pv 1)) c_l_row_3 (fun _ _ _ _ _ _ => ⟨(pg_name (i := 0) c_l_row_3n rfl (Or.inl rfl)), pts_nil, (pe_ix (show IxR _ (rIxT K) from ix_tup) (pv 0) pe_int (fun _ _ => rfl))⟩)) pa_nil)))
    (pss_cons (ps_asg (pe_call G_l_cell_of (hr.mono (by omega)) (by rfl) T.m_l_cell_of T.F_l_cell_of.kp T.b_l_cell_of .nil pass0 (pa_cons (pe_call G_l_mixed (hr.mono (by omega)) (by rfl) T.m_l_mixed T.F_l_mixed.kp T.b_l_mixed .nil pass0 (pa_cons (pv 0) (pa_cons pe_int pa_nil))) (pa_cons (pv 4) (pa_cons (pv 3) pa_nil)))) (pg_tup rfl (pgs_cons (pg_name (i := 8) sc_l_row.nd rfl (Or.inl rfl)) (pgs_cons (pg_name (i := 9) sc_l_row.nd rfl (Or.inl rfl)) pgs_nil))))
    (pss_one (ps_ret (pe_tupq (paq_cons (pv 5) (paq_cons (pv 6) (paq_cons (pv 7) (paq_cons (pv 8) (paq_cons (pv 9) (paq_cons (pe_call G_l_term (hr.mono (by omega)) (by rfl) T.m_l_term T.F_l_term.kp T.b_l_term .nil pass0 (pa_cons (pv 0) (pa_cons (pv 4) (pa_cons (pv 3) pa_nil)))) (paq_cons (pe_callTy call_tuple_of (by rfl) T.z_tuple bt_tuple (pa_cons (pv 2) pa_nil)) paq_nil star_K) star_K) star_N) star_N) star_N) star_N) star_N))))))))), ?_⟩
  have hk : vs.length = S.length := hall.1
  -- bases
  refine ⟨szl (by show 2 ≤ 1000000; decide), fun t0 ht0 => ⟨szl (by show 1 ≤ 1000000; decide), fun l0 hl0 => ?_⟩⟩
  have e2 := (same_new ht0 (.tup [V.str "", V.int 0])).trans (same_new hl0 (.lst [V.ref t0]))
  have ht02 : (upd (upd H t0 (.tup [V.str "", V.int 0])) l0 (.lst [V.ref t0])) t0 = some (.tup [V.str "", V.int 0]) := same_new hl0 _ _ _ upd_same
  have hl02 : (upd (upd H t0 (.tup [V.str "", V.int 0])) l0 (.lst [V.ref t0])) l0 = some (.lst [V.ref t0]) := upd_same
  generalize upd (upd H t0 (.tup [V.str "", V.int 0])) l0 (.lst [V.ref t0]) = H2 at e2 ht02 hl02
  refine ⟨_, rfl, st, rfl, ⟨_, SqL.of (e2 _ _ hv)⟩, ?_⟩
  refine comp_list (xs := vs) (fun i ys H' => Same H2 H' ∧ ys.length = i ∧ PzAt (Bs S) H' ys) ⟨Same.refl _, rfl, fun v hv => by cases hv⟩ (szl (by omega)) (fun i ys H' hi p => ⟨SqL.of (p.1 _ _ (e2 _ _ hv)), by omega⟩) (fun i x ys H' hx p => ?_) (fun ys H' p r hr' => ?_)
  · obtain ⟨e3, yl, yp⟩ := p
    obtain ⟨qq, hqq, hlq⟩ := hall.get' hx
    obtain ⟨p0, p1, p2, rfl, h0, _⟩ := hlq.over (e2.trans e3)
    refine ⟨_, rfl, p0, _, 0, _, rfl, rfl, SqT.of h0, rfl, _, rfl, p0, _, 3, _, rfl, rfl, SqT.of h0, rfl, szl (by show 2 ≤ 1000000; decide), fun t4 ht4 => ?_⟩
    have s4 := same_new ht4 (.tup [V.str qq.nm, V.int qq.ab])
    refine ⟨e3.trans s4, by rw [List.length_append, yl]; rfl, fun v hv' => ?_⟩
    rcases List.mem_append.mp hv' with h | h
    · exact (yp.over s4) v h
    · rw [List.mem_singleton] at h
      exact ⟨t4, qq.nm, qq.ab, h, upd_same, .inr ⟨qq, List.mem_of_getElem? hqq, rfl⟩⟩
  obtain ⟨e3, yl, yp⟩ := p
  have s4 := same_new hr' (.lst ys)
  refine ⟨l0, r, _, _, rfl, rfl, s4 _ _ (e3 _ _ hl02), upd_same, szl (by simp only [List.length_singleton]; omega), fun bl hbl => ?_⟩
  have s5 := same_new hbl (.lst ([V.ref t0] ++ ys))
  have e5 := (e2.trans e3).trans (s4.trans s5)
  have hB : BzAt (Bs S) (upd (upd H' r (.lst ys)) bl (.lst ([V.ref t0] ++ ys))) bl := by
    refine ⟨_, upd_same, by rw [List.length_append]; show 0 < 1 + ys.length; omega, by rw [List.length_append]; show 1 + ys.length ≤ 100; omega, fun v hv' => ?_⟩
    rcases List.mem_append.mp hv' with h | h
    · rw [List.mem_singleton] at h
      exact ⟨t0, _, _, h, s5 _ _ (s4 _ _ (e3 _ _ ht02)), .inl rfl⟩
    · exact (yp.over (s4.trans s5)) v h
  dsimp only [gName]
  generalize upd (upd H' r (.lst ys)) bl (.lst ([V.ref t0] ++ ys)) = H5 at e5 hB
  clear s4 s5 e3 yp hl02 ht02 yl hr' hbl e2 hl0 ht0
  -- the names
  refine ⟨_, rfl, st, rfl, ⟨_, SqL.of (e5 _ _ hv)⟩, ?_⟩
  refine comp_list (xs := vs) (fun i ys H' => H' = H5 ∧ ys = (nmsOf (S.take i)).map V.str) ⟨rfl, rfl⟩ (szl (by omega)) (fun i ys H' hi p => by obtain ⟨rfl, rfl⟩ := p; exact ⟨SqL.of (e5 _ _ hv), by unfold nmsOf; rw [List.length_map, List.length_map, List.length_take]; omega⟩) (fun i x ys H' hx p => ?_) (fun y1 H6 p r1 hr1 => ?_)
  · obtain ⟨rfl, rfl⟩ := p
    obtain ⟨qq, hqq, hlq⟩ := hall.get' hx
    obtain ⟨p0, p1, p2, rfl, h0, _⟩ := hlq.over e5
    refine ⟨_, rfl, p0, _, 0, _, rfl, rfl, SqT.of h0, rfl, rfl, ?_⟩
    unfold nmsOf
    rw [take_snoc hqq, List.map_append, List.map_append]
    rfl
  obtain ⟨rfl, ey1⟩ := p
  rw [List.take_of_length_le (by omega)] at ey1
  refine ⟨r1, _, rfl, .inl ⟨SqL.of upd_same, fun u1 hu1 => ?_⟩⟩
  have s6 := (same_new hr1 (.lst y1)).trans (same_new hu1 (.tup y1))
  have hu7 : (upd (upd H6 r1 (.lst y1)) u1 (.tup y1)) u1 = some (.tup y1) := upd_same
  dsimp only [gName]
  generalize upd (upd H6 r1 (.lst y1)) u1 (.tup y1) = H7 at s6 hu7
  have e7 := e5.trans s6
  -- the lows
  refine ⟨_, rfl, st, rfl, ⟨_, SqL.of (e7 _ _ hv)⟩, ?_⟩
  refine comp_list (xs := vs) (fun i ys H' => H' = H7 ∧ All2 (fun v q => SpoAt H7 v (q.lz, q.ln)) ys (S.take i)) ⟨rfl, .nil⟩ (szl (by omega)) (fun i ys H' hi p => by obtain ⟨rfl, p⟩ := p; exact ⟨SqL.of (e7 _ _ hv), by rw [p.1, List.length_take]; omega⟩) (fun i x ys H' hx p => ?_) (fun y2 H8 p r2 hr2 => ?_)
  · obtain ⟨rfl, yl⟩ := p
    obtain ⟨qq, hqq, hlq⟩ := hall.get' hx
    obtain ⟨p0, p1, p2, rfl, h0, h1, h2⟩ := hlq.over e7
    refine ⟨_, rfl, p0, _, 1, _, rfl, rfl, SqT.of h0, rfl, rfl, ?_⟩
    rw [take_snoc hqq]
    exact yl.snoc ⟨p1, rfl, h1⟩
  obtain ⟨rfl, ay2⟩ := p
  rw [List.take_of_length_le (by omega)] at ay2
  refine ⟨r2, _, rfl, .inl ⟨SqL.of upd_same, fun u2 hu2 => ?_⟩⟩
  have s8 := (same_new hr2 (.lst y2)).trans (same_new hu2 (.tup y2))
  have hu2' : (upd (upd H8 r2 (.lst y2)) u2 (.tup y2)) u2 = some (.tup y2) := upd_same
  dsimp only [gName]
  generalize upd (upd H8 r2 (.lst y2)) u2 (.tup y2) = H9 at s8 hu2'
  have e9 := e7.trans s8
  -- the highs
  refine ⟨_, rfl, st, rfl, ⟨_, SqL.of (e9 _ _ hv)⟩, ?_⟩
  refine comp_list (xs := vs) (fun i ys H' => H' = H9 ∧ All2 (fun v q => SpoAt H9 v (q.hz, q.hn)) ys (S.take i)) ⟨rfl, .nil⟩ (szl (by omega)) (fun i ys H' hi p => by obtain ⟨rfl, p⟩ := p; exact ⟨SqL.of (e9 _ _ hv), by rw [p.1, List.length_take]; omega⟩) (fun i x ys H' hx p => ?_) (fun y3 HA p r3 hr3 => ?_)
  · obtain ⟨rfl, yl⟩ := p
    obtain ⟨qq, hqq, hlq⟩ := hall.get' hx
    obtain ⟨p0, p1, p2, rfl, h0, h1, h2⟩ := hlq.over e9
    refine ⟨_, rfl, p0, _, 2, _, rfl, rfl, SqT.of h0, rfl, rfl, ?_⟩
    rw [take_snoc hqq]
    exact yl.snoc ⟨p2, rfl, h2⟩
  obtain ⟨rfl, ay3⟩ := p
  rw [List.take_of_length_le (by omega)] at ay3
  refine ⟨r3, _, rfl, .inl ⟨SqL.of upd_same, fun u3 hu3 => ?_⟩⟩
  have sA := (same_new hr3 (.lst y3)).trans (same_new hu3 (.tup y3))
  have hu3' : (upd (upd HA r3 (.lst y3)) u3 (.tup y3)) u3 = some (.tup y3) := upd_same
  dsimp only [gName]
  generalize upd (upd HA r3 (.lst y3)) u3 (.tup y3) = HB at sA hu3'
  have eB := e9.trans sA
  have hB2 := hB.over (s6.trans (s8.trans sA))
  -- the cell, the term
  refine ⟨_, rfl, c, 4, rfl, _, rfl, _, rfl, Bs S, M, mixF c 4, bl, hd, rfl, (mix_b c 4).1, hB2, hH.over eB, fun rc HC z p eC hrc hC => ?_⟩
  refine ⟨rc, _, rfl, SqT.of hrc, rfl, _, _, rfl, _, _, rfl, rfl, ?_⟩
  dsimp only [gName]
  have eBC := eB.trans eC
  refine ⟨_, rfl, _, rfl, _, rfl, _, rfl, _, rfl, _, rfl, _, rfl, _, rfl, Bs S, M, c, bl, hd, rfl, hB2.over eC, hH.over eBC, fun x HD m rs eD m3 tm tz => ?_⟩
  have eD' := eBC.trans eD
  refine ⟨_, rfl, pt, _, rfl, .inl ⟨SqL.of (eD' _ _ hpt), fun u4 hu4 => ⟨szl (by show 7 ≤ 1000000; decide), fun rr hrr => ?_⟩⟩⟩
  have sE := (same_new hu4 (.tup (ps.map V.int))).trans (same_new hrr (.tup [V.ref u1, V.ref u2, V.ref u3, V.str z, V.ref p, x, V.ref u4]))
  have eE := eC.trans (eD.trans sE)
  refine q rr _ z p m rs (eD'.trans sE) ⟨⟨rr, u1, u2, u3, u4, x, y2, y3, rfl, upd_same, ?_, (sA.trans eE) _ _ hu2', ay2.mono fun _ _ w => w.tk (Same.tk (s8.trans (sA.trans eE))), eE _ _ hu3', ay3.mono fun _ _ w => w.tk (Same.tk (sA.trans eE)), same_new hrr _ _ _ upd_same, tm.over sE⟩, fun r hr => (List.mem_cons.mp hr).elim (fun e => by rw [e]; exact hC.over (eD.trans sE)) fun h => (tz r h).over sE⟩ m3
  rw [← ey1]
  exact ((s8.trans sA).trans eE) _ _ hu7

theorem ok_rows54 (T : Tx K mg a) : FnOk P w K mg base CX0 6 a.f_l_rows a.d_l_rows ["_law_script", "_law_many"] (spRows54 K) := by
  have G_l_cell := ok_cellD (P := P) (w := w) (base := base) T
  have G_l_mixed := ok_mixed (P := P) (w := w) (base := base) T
  have G_l_loop := ok_loop31 (P := P) (w := w) (base := base) T
  have G_l_row := ok_row54 (P := P) (w := w) (base := base) T
  have G_l_heads := ok_heads4 (P := P) (w := w) (base := base) T
  refine T.F_l_rows.ok sc_l_rows (fun vs H Q E h => ?_) (fun cdv A outer s H vs Q E hr h => ?_)
  · obtain ⟨_, _, _, rfl, _⟩ := h; rfl
  obtain ⟨p, ns, n, rfl, hp, h63, n6, q⟩ := h
  refine ⟨_, (@pss_cons _ _ _ _ _ (@ps_set _ _ (2) _ _ _ _ sc_l_rows.nd rfl (Or.inl rfl) (@pe_op _ _ _ _ _ _ _ _ op_sub (@pe_op _ _ _ _ _ _ _ _ op_mod (@pe_call _ _ _ _ _ _ _ _ _ _ _ _ _ _ _ _ G_l_cell (hr.mono (by omega)) (by rfl) T.m_l_cell T.F_l_cell.kp T.b_l_cell .nil pass0 (@pa_cons _ _ _ _ _ (pv 0) (@pa_cons _ _ _ _ _ pe_int pa_nil (by rfl)) (by rfl)) (by decide) (by rfl) (by rfl)) (@pe_op _ _ _ _ _ _ _ _ op_add (@pe_op _ _ _ _ _ _ _ _ op_mul pe_int (@pe_op _ _ _ _ _ _ _ _ op_pow pe_int pe_int)) pe_int)) (@pe_op _ _ _ _ _ _ _ _ op_pow pe_int pe_int)) (by rfl) (by first | exact .inl rfl | exact .inr rfl | assumption)) (@pss_cons _ _ _ _ _ (@ps_set _ _ (3) _ _ _ _ sc_l_rows.nd rfl (Or.inl rfl) (@pe_lst _ _ _ _ pa_nil) (by rfl) (by first | exact .inl rfl | exact .inr rfl | assumption)) (@pss_cons _ _ _ _ _ (@ps_set _ _ (4) _ _ _ _ sc_l_rows.nd rfl (Or.inl rfl) (@pe_lst _ _ _ _ (@pa_cons _ _ _ _ _ pe_int pa_nil (by rfl))) (by rfl) (by first | exact .inl rfl | exact .inr rfl | assumption)) (@pss_cons _ _ _ _ _ (@ps_set _ _ (5) _ _ _ _ sc_l_rows.nd rfl (Or.inl rfl) (@pe_lst _ _ _ _ pa_nil) (by rfl) (by first | exact .inl rfl | exact .inr rfl | assumption)) (@pss_cons _ _ _ _ _ (@ps_set _ _ (6) _ _ _ _ sc_l_rows.nd rfl (Or.inl rfl) (@pe_lst _ _ _ _ pa_nil) (by rfl) (by first | exact .inl rfl | exact .inr rfl | assumption)) (@pss_cons _ _ _ _ _ (@ps_for _ _ _ _ _ _ _ _ PassesOwn.never rfl (@pi_range1 _ _ _ _ _ _ (by rfl) T.z_range (@pa_cons _ _ _ _ _ (pv 1) pa_nil (by rfl)) (by rfl)) (pg_name (i := 7) sc_l_rows.nd rfl (Or.inl rfl)) (@pss_cons _ _ _ _ _ (@ps_set _ _ (8) _ _ _ _ sc_l_rows.nd rfl (Or.inl rfl) (@pe_call _ _ _ _ _ _ _ _ _ _ _ _ _ _ _ _ G_l_cell (hr.mono (by omega)) (by rfl) T.m_l_cell T.F_l_cell.kp T.b_l_cell .nil pass0 (@pa_cons _ _ _ _ _ (pv 0) (@pa_cons _ _ _ _ _ (@pe_op _ _ _ _ _ _ _ _ op_add pe_int (pv 7)) pa_nil (by rfl)) (by rfl)) (by decide) (by rfl) (by rfl)) (by rfl) (by first | exact .inl rfl | exact .inr rfl | assumption)) (@pss_cons _ _ _ _ _ (@ps_set _ _ (9) _ _ _ _ sc_l_rows.nd rfl (Or.inl rfl) (@pe_call _ _ _ _ _ _ _ _ _ _ _ _ _ _ _ _ G_l_mixed (hr.mono (by omega)) (by rfl) T.m_l_mixed T.F_l_mixed.kp T.b_l_mixed .nil pass0 (@pa_cons _ _ _ _ _ (pv 8) (@pa_cons _ _ _ _ _ pe_int pa_nil (by rfl)) (by rfl)) (by decide) (by rfl) (by rfl)) (by rfl) (by first | exact .inl rfl | exact .inr rfl | assumption)) (@pss_cons _ _ _ _ _ (@ps_set _ _ (10) _ _ _ _ sc_l_rows.nd rfl (Or.inl rfl) pe_non (by rfl) (by first | exact .inl rfl | exact .inr rfl | assumption)) (@pss_cons _ _ _ _ _ (@ps_for _ _ _ _ _ _ _ _ PassesOwn.never rfl (@pi_range1 _ _ _ _ _ _ (by rfl) T.z_range (@pa_cons _ _ _ _ _ (@pe_op _ _ _ _ _ _ _ _ op_mod (pv 9) (@pe_op _ _ _ _ _ _ _ _ op_add (@pe_callB _ _ _ _ _ _ _ _ _ call_len_seq (by rfl) T.z_len bt_len (@pa_cons _ _ _ _ _ (pv 3) pa_nil (by rfl)) (by decide) (by decide) (by rfl) (by rfl)) pe_int)) pa_nil (by rfl)) (by rfl)) (pg_name (i := 11) sc_l_rows.nd rfl (Or.inl rfl)) (@pss_cons _ _ _ _ _ (@ps_set _ _ (10) _ _ _ _ sc_l_rows.nd rfl (Or.inl rfl) (@pe_ix _ _ _ _ _ _ _ ix_list (pv 3) (@pe_un _ _ _ _ _ _ un_neg pe_int) (fun _ _ => rfl)) (by rfl) (by first | exact .inl rfl | exact .inr rfl | assumption)) (@pss_cons _ _ _ _ _ (@ps_set _ _ (3) _ _ _ _ sc_l_rows.nd rfl (Or.inl rfl) (@pe_slice _ _ _ _ _ _ _ _ _ _ sl_list (pv 3) po_none (@po_some _ _ _ (@pe_un _ _ _ _ _ _ un_neg pe_int))) (by rfl) (by first | exact .inl rfl | exact .inr rfl | assumption)) (@pss_cons _ _ _ _ _ (@ps_set _ _ (4) _ _ _ _ sc_l_rows.nd rfl (Or.inl rfl) (@pe_slice _ _ _ _ _ _ _ _ _ _ sl_list (pv 4) po_none (@po_some _ _ _ (@pe_un _ _ _ _ _ _ un_neg pe_int))) (by rfl) (by first | exact .inl rfl | exact .inr rfl | assumption)) (@pss_one _ _ _ (@ps_set _ _ (5) _ _ _ _ sc_l_rows.nd rfl (Or.inl rfl) (@pe_slice _ _ _ _ _ _ _ _ _ _ sl_list (pv 5) po_none (@po_some _ _ _ (@pe_un _ _ _ _ _ _ un_neg pe_int))) (by rfl) (by first | exact .inl rfl | exact .inr rfl | assumption)))))) (by intro _ ; rfl)) (@pss_cons _ _ _ _ _ (@ps_set _ _ (12) _ _ _ _ sc_l_rows.nd rfl (Or.inl rfl) (@pe_ix _ _ _ _ _ _ _ ix_list (@pe_lstq _ _ _ _ (@paq_cons _ _ _ _ _ pe_int (@paq_cons _ _ _ _ _ pe_int (@paq_cons _ _ _ _ _ pe_int (@paq_cons _ _ _ _ _ pe_int (@paq_cons _ _ _ _ _ pe_int (@paq_cons _ _ _ _ _ pe_int (@paq_cons _ _ _ _ _ pe_int (@paq_cons _ _ _ _ _ pe_int paq_nil star_C) star_C) star_C) star_C) star_C) star_C) star_C) star_C)) (@pe_op _ _ _ _ _ _ _ _ op_mod (@pe_op _ _ _ _ _ _ _ _ op_fdiv (pv 9) pe_int) pe_int) (fun _ _ => rfl)) (by rfl) (by first | exact .inl rfl | exact .inr rfl | assumption)) (@pss_cons _ _ _ _ _ (@ps_if _ _ _ _ _ _ _ _ (@pt_cmpR _ _ _ _ _ _ _ _ op_gt (pv 7) pe_int (@nomark _ _ (by decide) (by decide))) (@pss_one _ _ _ (@ps_set _ _ (12) _ _ _ _ sc_l_rows.nd rfl (Or.inl rfl) (@pe_ix _ _ _ _ _ _ _ ix_list (@pe_lstq _ _ _ _ (@paq_cons _ _ _ _ _ pe_int (@paq_cons _ _ _ _ _ pe_int (@paq_cons _ _ _ _ _ pe_int (@paq_cons _ _ _ _ _ pe_int (@paq_cons _ _ _ _ _ pe_int (@paq_cons _ _ _ _ _ pe_int (@paq_cons _ _ _ _ _ pe_int (@paq_cons _ _ _ _ _ pe_int paq_nil star_C) star_C) star_C) star_C) star_C) star_C) star_C) star_C)) (@pe_op _ _ _ _ _ _ _ _ op_mod (@pe_op _ _ _ _ _ _ _ _ op_fdiv (pv 9) pe_int) pe_int) (fun _ _ => rfl)) (by rfl) (by first | exact .inl rfl | exact .inr rfl | assumption))) pss_nil) (@pss_cons _ _ _ _ _ (@ps_for _ _ _ _ _ _ _ _ PassesOwn.never rfl (@pi_range1 _ _ _ _ _ _ (by rfl) T.z_range (@pa_cons _ _ _ _ _ (@pe_callB _ _ _ _ _ _ _ _ _ (@call_min2 _ rfl) (by rfl) T.z_min bt_min (@pa_cons _ _ _ _ _ (pv 12) (@pa_cons _ _ _ _ _ (@pe_op _ _ _ _ _ _ _ _ op_sub pe_int (@pe_callB _ _ _ _ _ _ _ _ _ call_len_seq (by rfl) T.z_len bt_len (@pa_cons _ _ _ _ _ (pv 3) pa_nil (by rfl)) (by decide) (by decide) (by rfl) (by rfl))) pa_nil (by rfl)) (by rfl)) (by decide) (by decide) (by rfl) (by rfl)) pa_nil (by rfl)) (by rfl)) (pg_name (i := 13) sc_l_rows.nd rfl (Or.inl rfl)) (@pss_cons _ _ _ _ _ (@ps_set _ _ (14) _ _ _ _ sc_l_rows.nd rfl (Or.inl rfl) (@pe_call _ _ _ _ _ _ _ _ _ _ _ _ _ _ _ _ G_l_loop (hr.mono (by omega)) (by rfl) T.m_l_loop T.F_l_loop.kp T.b_l_loop .nil pass0 (@pa_cons _ _ _ _ _ (@pe_call _ _ _ _ _ _ _ _ _ _ _ _ _ _ _ _ G_l_mixed (hr.mono (by omega)) (by rfl) T.m_l_mixed T.F_l_mixed.kp T.b_l_mixed .nil pass0 (@pa_cons _ _ _ _ _ (pv 8) (@pa_cons _ _ _ _ _ (@pe_op _ _ _ _ _ _ _ _ op_add pe_int (pv 13)) pa_nil (by rfl)) (by rfl)) (by decide) (by rfl) (by rfl)) (@pa_cons _ _ _ _ _ (pv 2) (@pa_cons _ _ _ _ _ (pv 3) (@pa_cons _ _ _ _ _ (@pe_call _ _ _ _ _ _ _ _ _ _ _ _ _ _ _ _ G_l_cell (hr.mono (by omega)) (by rfl) T.m_l_cell T.F_l_cell.kp T.b_l_cell .nil pass0 (@pa_cons _ _ _ _ _ (pv 0) (@pa_cons _ _ _ _ _ pe_int pa_nil (by rfl)) (by rfl)) (by decide) (by rfl) (by rfl)) pa_nil (by rfl)) (by rfl)) (by rfl)) (by rfl)) (by decide) (by rfl) (by rfl)) (by rfl) (by first | exact .inl rfl | exact .inr rfl | assumption)) (@pss_cons _ _ _ _ _ (@ps_if _ _ _ _ _ _ _ _ ((@pw_and _ _ _ _ _ _ _ (@pt_cmpR _ _ _ _ _ _ _ _ op_eq (pv 13) pe_int (@nomark _ _ (by decide) (by decide))) (@pw_and _ _ _ _ _ _ _ (@pt_cmpR _ _ _ _ _ _ _ _ op_notN (pv 10) pe_non (@nomark _ _ (by decide) (by decide))) (@pw_and1 _ _ _ _ (@pt_cmpR _ _ _ _ _ _ _ _ op_eq (@pe_op _ _ _ _ _ _ _ _ op_mod (@pe_op _ _ _ _ _ _ _ _ op_fdiv (pv 9) pe_int) pe_int) pe_int (@nomark _ _ (by decide) (by decide))))))).pt (@pss_one _ _ _ (@ps_set _ _ (14) _ _ _ _ sc_l_rows.nd rfl (Or.inl rfl) (pv 10) (by rfl) (by first | exact .inl rfl | exact .inr rfl | assumption))) pss_nil) (@pss_cons _ _ _ _ _ (@ps_set _ _ (3) _ _ _ _ sc_l_rows.nd rfl (Or.inl rfl) (@pe_op _ _ _ _ _ _ _ _ op_cat (pv 3) (@pe_lst _ _ _ _ (@pa_cons _ _ _ _ _ (pv 14) pa_nil (by rfl)))) (by rfl) (by first | exact .inl rfl | exact .inr rfl | assumption)) (@pss_cons _ _ _ _ _ (@ps_set _ _ (5) _ _ _ _ sc_l_rows.nd rfl (Or.inl rfl) (@pe_op _ _ _ _ _ _ _ _ op_cat (pv 5) (@pe_lst _ _ _ _ (@pa_cons _ _ _ _ _ (@pe_ix _ _ _ _ _ _ _ ix_list (pv 4) (@pe_un _ _ _ _ _ _ un_neg pe_int) (fun _ _ => rfl)) pa_nil (by rfl)))) (by rfl) (by first | exact .inl rfl | exact .inr rfl | assumption)) (@pss_one _ _ _ (@ps_set _ _ (4) _ _ _ _ sc_l_rows.nd rfl (Or.inl rfl) (@pe_op _ _ _ _ _ _ _ _ op_cat (@pe_slice _ _ _ _ _ _ _ _ _ _ sl_list (pv 4) po_none (@po_some _ _ _ (@pe_un _ _ _ _ _ _ un_neg pe_int))) (@pe_lst _ _ _ _ (@pa_cons _ _ _ _ _ (@pe_op _ _ _ _ _ _ _ _ op_add (@pe_ix _ _ _ _ _ _ _ ix_list (pv 4) (@pe_un _ _ _ _ _ _ un_neg pe_int) (fun _ _ => rfl)) pe_int) (@pa_cons _ _ _ _ _ pe_int pa_nil (by rfl)) (by rfl)))) (by rfl) (by first | exact .inl rfl | exact .inr rfl | assumption))))))) (by intro _ ; rfl)) (@pss_cons _ _ _ _ _ (@ps_expr _ _ _ _ (@pe_bm _ _ _ _ _ _ _ _ _ _ _ _ PySem.F.plainAttrs_list PySem.F.slot_list_append PySem.F.type_list_append mt_append (pv 6) (@pa_cons _ _ _ _ _ (@pe_call _ _ _ _ _ _ _ _ _ _ _ _ _ _ _ _ G_l_row (hr.mono (by omega)) (by rfl) T.m_l_row T.F_l_row.kp T.b_l_row .nil pass0 (@pa_cons _ _ _ _ _ (pv 8) (@pa_cons _ _ _ _ _ (pv 3) (@pa_cons _ _ _ _ _ (@pe_op _ _ _ _ _ _ _ _ op_cat (pv 5) (@pe_lst _ _ _ _ (@pa_cons _ _ _ _ _ (@pe_ix _ _ _ _ _ _ _ ix_list (pv 4) (@pe_un _ _ _ _ _ _ un_neg pe_int) (fun _ _ => rfl)) pa_nil (by rfl)))) (@pa_cons _ _ _ _ _ (@pe_call _ _ _ _ _ _ _ _ _ _ _ _ _ _ _ _ G_l_heads (hr.mono (by omega)) (by rfl) T.m_l_heads T.F_l_heads.kp T.b_l_heads .nil pass0 (@pa_cons _ _ _ _ _ (pv 0) pa_nil (by rfl)) (by decide) (by rfl) (by rfl)) pa_nil (by rfl)) (by rfl)) (by rfl)) (by rfl)) (by decide) (by rfl) (by rfl)) pa_nil (by rfl)) (by rfl) (by rfl) (by rfl) (by rfl) (by rfl)) (by rfl)) (@pss_one _ _ _ (@ps_set _ _ (4) _ _ _ _ sc_l_rows.nd rfl (Or.inl rfl) (@pe_op _ _ _ _ _ _ _ _ op_cat (@pe_slice _ _ _ _ _ _ _ _ _ _ sl_list (pv 4) po_none (@po_some _ _ _ (@pe_un _ _ _ _ _ _ un_neg pe_int))) (@pe_lst _ _ _ _ (@pa_cons _ _ _ _ _ (@pe_op _ _ _ _ _ _ _ _ op_add (@pe_ix _ _ _ _ _ _ _ ix_list (pv 4) (@pe_un _ _ _ _ _ _ un_neg pe_int) (fun _ _ => rfl)) pe_int) pa_nil (by rfl)))) (by rfl) (by first | exact .inl rfl | exact .inr rfl | assumption))))))))))) (by intro _ ; rfl)) (@pss_one _ _ _ (@ps_ret _ _ _ _ (pv 6))))))))), ?_⟩
  refine ⟨_, rfl, p, ns, 2, rfl, hp, by decide, by decide, _, _, rfl, rfl, ⟨by decide, by decide, by decide⟩, _, _, rfl, rfl, .inl ⟨by decide, by decide⟩, _, _, rfl, rfl, _, _, rfl, rfl, (by show (0 : Int) < 2 * 10 ^ (17 : Int).toNat + 1; decide), _, _, rfl, rfl, ⟨by decide, by decide, by decide⟩, _, _, rfl, rfl, ?_⟩
  dsimp only [gName]
  have fb : -(10 ^ 17) ≤ cellD ns 2 % (2 * 10 ^ (17 : Int).toNat + 1) - 10 ^ (17 : Int).toNat ∧ cellD ns 2 % (2 * 10 ^ (17 : Int).toNat + 1) - 10 ^ (17 : Int).toNat ≤ 10 ^ 17 := by
    have g0 := Int.emod_nonneg (cellD ns 2) (show (2 * 10 ^ (17 : Int).toNat + 1 : Int) ≠ 0 by decide)
    have g1 := Int.emod_lt_of_pos (cellD ns 2) (show (0 : Int) < 2 * 10 ^ (17 : Int).toNat + 1 by decide)
    have g2 : (10 : Int) ^ (17 : Int).toNat = 10 ^ 17 := rfl
    rw [g2] at g0 g1 ⊢
    omega
  generalize cellD ns 2 % (2 * 10 ^ (17 : Int).toNat + 1) - 10 ^ (17 : Int).toNat = far at fb
  refine ⟨szl (by show 0 ≤ 1000000; decide), fun st0 hst0 => ?_⟩
  have s1 := same_new hst0 (.lst [])
  have h1a : (upd H st0 (.lst [])) st0 = some (.lst []) := upd_same
  dsimp only [gName]
  generalize upd H st0 (.lst []) = H1 at s1 h1a
  refine ⟨szl (by show 1 ≤ 1000000; decide), fun co0 hco0 => ?_⟩
  have s2 := same_new hco0 (.lst [V.int 0])
  have h2b : (upd H1 co0 (.lst [V.int 0])) co0 = some (.lst [V.int 0]) := upd_same
  have h2a := s2 _ _ h1a
  dsimp only [gName]
  generalize upd H1 co0 (.lst [V.int 0]) = H2 at s2 h2a h2b
  refine ⟨szl (by show 0 ≤ 1000000; decide), fun pa0 hpa0 => ?_⟩
  have s3 := same_new hpa0 (.lst [])
  have h3c : (upd H2 pa0 (.lst [])) pa0 = some (.lst []) := upd_same
  have h3a := s3 _ _ h2a
  have h3b := s3 _ _ h2b
  dsimp only [gName]
  generalize upd H2 pa0 (.lst []) = H3 at s3 h3a h3b h3c
  refine ⟨szl (by show 0 ≤ 1000000; decide), fun ro hro => ?_⟩
  have s4 := same_new hro (.lst [])
  have h4d : (upd H3 ro (.lst [])) ro = some (.lst []) := upd_same
  have h4a := s4 _ _ h3a
  have h4b := s4 _ _ h3b
  have h4c := s4 _ _ h3c
  have e4 := s1.trans (s2.trans (s3.trans s4))
  have ro0 : H ro = none := (s1.trans (s2.trans s3)).free hro
  have na : st0 ≠ ro := ne_of_none h3a hro
  have nb : co0 ≠ ro := ne_of_none h3b hro
  have nc : pa0 ≠ ro := ne_of_none h3c hro
  dsimp only [gName]
  generalize upd H3 ro (.lst []) = H4 at s4 h4a h4b h4c h4d e4
  refine ⟨_, rfl, (n : Int), rfl, by omega, by omega, ?_⟩
  rw [Int.toNat_natCast]
  -- the state between two rows
  refine for_range (lo := 0) (n := n) (fun i σ' H' => ∃ (st co pa : Addr) (k : Nat) (vs : List V) (C Pp : List Int) (xs : List V) (Rs : List R3) (o7 o8 o9 o10 o11 o12 o13 o14 : Option V), σ' = [some (.ref p), some (.int (n : Int)), some (.int far), some (.ref st), some (.ref co), some (.ref pa), some (.ref ro), o7, o8, o9, o10, o11, o12, o13, o14] ∧ Same H H' ∧ H' st = some (.lst vs) ∧ vs.length = k ∧ (∃ S, All2 (LpIs H') vs S ∧ Dr3 Rs S C Pp (cellD ns 1)) ∧ k ≤ 3 ∧ H' co = some (.lst (C.map V.int)) ∧ C.length = k + 1 ∧ H' pa = some (.lst (Pp.map V.int)) ∧ Pp.length = k ∧ st ≠ ro ∧ co ≠ ro ∧ pa ≠ ro ∧ H' ro = some (.lst xs) ∧ All2 (R4At (MtF (cellD ns 0)) H') xs Rs ∧ Rs.length = i ∧ ((∀ R ∈ Rs, ROk (cellD ns 1) R) ∧ Rs.Pairwise Par)) ⟨st0, co0, pa0, 0, [], [0], [], [], [], _, _, _, _, _, _, _, _, rfl, e4, h4a, rfl, ⟨[], .nil, Dr3.nil _⟩, by decide, h4b, rfl, h4c, rfl, na, nb, nc, h4d, .nil, rfl, ⟨fun R hR => (by cases hR), .nil⟩⟩ (fun i σ' H' hi pp => ?_) (fun σ' H' pp => ?_)
  rotate_left
  · obtain ⟨st, co, pa, k, vs, C, Pp, xs, Rs, _, _, _, _, _, _, _, _, rfl, e, _, _, _, _, _, _, _, _, _, _, _, hxs, axs, Rl, Rok⟩ := pp
    exact ⟨_, rfl, q ro _ Rs e ⟨xs, hxs, axs⟩ Rl Rok.1⟩
  obtain ⟨st, co, pa, k, vs, C, Pp, xs, Rs, o7, o8, o9, o10, o11, o12, o13, o14, rfl, e, hst, vl, vlp, k3, hco, Cl, hpa, Pl, nst, nco, npa, hxs, axs, Rl, Rok⟩ := pp
  have xl := axs.1
  obtain ⟨S0, aS, dr⟩ := vlp
  refine ⟨_, rfl, _, rfl, _, _, rfl, rfl, p, ns, _, rfl, e.seq hp, by omega, by omega, ?_⟩
  dsimp only [gName]
  generalize cellD ns (3 + (0 + (i : Int))) = ci
  refine ⟨_, rfl, ci, 0, rfl, ?_⟩
  obtain ⟨a0, a1⟩ := mix_b ci 0
  dsimp only [gName]
  generalize mixF ci 0 = nn at a0 a1
  refine seq_asgC ?_
  -- closing
  have f0 := Int.emod_nonneg nn (show ((vs.length : Int) + 1) ≠ 0 by omega)
  have f1 := Int.emod_lt_of_pos nn (show (0 : Int) < (vs.length : Int) + 1 by omega)
  refine seq_any (fun σ' H2 => ∃ (st co pa : Addr) (k : Nat) (vs : List V) (C Pp : List Int) (cl : V) (o10 : Option V), σ' = [some (.ref p), some (.int (n : Int)), some (.int far), some (.ref st), some (.ref co), some (.ref pa), some (.ref ro), some (.int (0 + (i : Int))), some (.int ci), some (.int nn), some cl, o10, o12, o13, o14] ∧ Same H' H2 ∧ H2 st = some (.lst vs) ∧ vs.length = k ∧ (∃ S, All2 (LpIs H2) vs S ∧ Dr3 Rs S C Pp (cellD ns 1) ∧ (cl = .non ∨ ∃ q, LpIs H2 cl q ∧ NewL S (cellD ns 1) q)) ∧ k ≤ 3 ∧ H2 co = some (.lst (C.map V.int)) ∧ C.length = k + 1 ∧ H2 pa = some (.lst (Pp.map V.int)) ∧ Pp.length = k ∧ st ≠ ro ∧ co ≠ ro ∧ pa ≠ ro ∧ True) (fun σ' H2 pp => ?_) (fun nx => ?_)
  rotate_left
  · refine ⟨_, rfl, _, rfl, st, _, rfl, .inl (SqL.of hst), _, _, rfl, rfl, _, _, rfl, rfl, (by show (0 : Int) < (vs.length : Int) + 1; omega), _, rfl, by omega, by omega, ?_⟩
    refine for_range (lo := 0) (n := (nn % ((vs.length : Int) + 1)).toNat) (fun j σ' H2 => ∃ (st co pa : Addr) (k2 : Nat) (vs2 : List V) (C Pp : List Int) (cl : V) (o10 : Option V), σ' = [some (.ref p), some (.int (n : Int)), some (.int far), some (.ref st), some (.ref co), some (.ref pa), some (.ref ro), some (.int (0 + (i : Int))), some (.int ci), some (.int nn), some cl, o10, o12, o13, o14] ∧ Same H' H2 ∧ H2 st = some (.lst vs2) ∧ vs2.length = k2 ∧ (∃ S, All2 (LpIs H2) vs2 S ∧ Dr3 Rs S C Pp (cellD ns 1) ∧ (cl = .non ∨ ∃ q, LpIs H2 cl q ∧ NewL S (cellD ns 1) q)) ∧ k2 + j = vs.length ∧ H2 co = some (.lst (C.map V.int)) ∧ C.length = k2 + 1 ∧ H2 pa = some (.lst (Pp.map V.int)) ∧ Pp.length = k2 ∧ st ≠ ro ∧ co ≠ ro ∧ pa ≠ ro ∧ True) ⟨st, co, pa, k, vs, C, Pp, .non, _, rfl, Same.refl _, hst, vl, ⟨S0, aS, dr, .inl rfl⟩, by omega, hco, Cl, hpa, Pl, nst, nco, npa, True.intro⟩ (fun j σ' H2 hj pp => ?_) (fun σ' H2 pp => ?_)
    rotate_left
    · obtain ⟨st, co, pa, k2, vs2, C, Pp, cl, o10, rfl, e2, g1, g2, g3, g4, g5, g6, g7, g8, g9, g10, g11, g12⟩ := pp
      exact nx _ _ ⟨st, co, pa, k2, vs2, C, Pp, cl, _, rfl, e2, g1, g2, g3, by omega, g5, g6, g7, g8, g9, g10, g11, g12⟩
    obtain ⟨st, co, pa, k2, vs2, C, Pp, cl, o10, rfl, e2, g1, g2, g3, g4, g5, g6, g7, g8, g9, g10, g11, g12⟩ := pp
    have kp : 0 < k2 := by omega
    obtain ⟨vs3, v0, rfl, v3l⟩ := snoc_of (l := vs2) (n := k2 - 1) (by omega)
    obtain ⟨C3, c0, rfl, C3l⟩ := snoc_of (l := C) (n := k2) (by omega)
    obtain ⟨P3, p0, rfl, P3l⟩ := snoc_of (l := Pp) (n := k2 - 1) (by omega)
    obtain ⟨S2, aS2, dr2, _⟩ := g3
    obtain ⟨S3, q0, rfl, S3l⟩ := snoc_of (l := S2) (n := k2 - 1) (by have := aS2.1; rw [List.length_append, List.length_singleton] at this; omega)
    obtain ⟨aS3, lv0⟩ := all2_snoc aS2
    obtain ⟨dr3, nw0⟩ := dr2.pop
    have at0 : atI (vs3 ++ [v0]) (-1) = some v0 := atI_last vs3 v0
    refine ⟨_, rfl, _, rfl, st, _, _, _, rfl, rfl, SqL.of g1, at0, ?_⟩
    dsimp only [gName]
    refine ⟨_, rfl, _, rfl, _, rfl, st, _, rfl, SqL.of g1, fun n1 hn1 => ?_⟩
    rw [show cutV (vs3 ++ [v0]) none (some (-1)) = vs3 from cutV_neg vs3 [v0] (Nat.succ_pos _) rfl]
    have t1 := same_new hn1 (.lst vs3)
    have k1 : (upd H2 n1 (.lst vs3)) n1 = some (.lst vs3) := upd_same
    have m1 : n1 ≠ ro := fun z => by rw [z, e2 _ _ hxs] at hn1; cases hn1
    dsimp only [gName]
    generalize upd H2 n1 (.lst vs3) = HA at t1 k1
    refine ⟨_, rfl, _, rfl, _, rfl, co, _, rfl, SqL.of (t1 _ _ g5), fun n2 hn2 => ?_⟩
    rw [List.map_append, show cutV (C3.map V.int ++ [c0].map V.int) none (some (-1)) = C3.map V.int from cutV_neg (C3.map V.int) [V.int c0] (Nat.succ_pos _) rfl]
    have t2 := same_new hn2 (.lst (C3.map V.int))
    have k2' : (upd HA n2 (.lst (C3.map V.int))) n2 = some (.lst (C3.map V.int)) := upd_same
    have m2 : n2 ≠ ro := fun z => by rw [z, t1 _ _ (e2 _ _ hxs)] at hn2; cases hn2
    dsimp only [gName]
    generalize upd HA n2 (.lst (C3.map V.int)) = HB at t2 k2'
    refine ⟨_, rfl, _, rfl, _, rfl, pa, _, rfl, SqL.of (t2 _ _ (t1 _ _ g7)), fun n3 hn3 => ?_⟩
    rw [List.map_append, show cutV (P3.map V.int ++ [p0].map V.int) none (some (-1)) = P3.map V.int from cutV_neg (P3.map V.int) [V.int p0] (Nat.succ_pos _) rfl]
    have t3 := same_new hn3 (.lst (P3.map V.int))
    have m3 : n3 ≠ ro := fun z => by rw [z, t2 _ _ (t1 _ _ (e2 _ _ hxs))] at hn3; cases hn3
    have tt := t1.trans (t2.trans t3)
    refine ⟨n1, n2, n3, k2 - 1, vs3, C3, P3, v0, _, rfl, e2.trans tt, (t2.trans t3) _ _ k1, v3l, ⟨S3, aS3.mono fun _ _ z => z.over tt, dr3, .inr ⟨q0, lv0.over tt, nw0⟩⟩, by omega, t3 _ _ k2', by omega, upd_same, by omega, m1, m2, m3, True.intro⟩
  obtain ⟨st, co, pa, k, vs, C, Pp, cl, o10', rfl, e2, hst, vl, vlp, k3, hco, Cl, hpa, Pl, nst, nco, npa, _⟩ := pp
  obtain ⟨S1, aS1, dr1, hcl'⟩ := vlp
  -- how many are opened
  have e02 := e.trans e2
  have hxs2 := e2 _ _ hxs
  have axs2 := axs.mono fun _ _ z => z.over e2
  have opl : ∀ {v : List Int}, v.length = 8 → (∀ x ∈ v, 0 ≤ x ∧ x ≤ 3) → ∃ d, atI (v.map V.int) (nn / 4 % 8) = some (.int d) ∧ 0 ≤ d ∧ d ≤ 3 := fun {v} hv ha => by
    obtain ⟨d, hd, ed⟩ := pickN (L := v) (i := nn / 4 % 8) 8 hv (Int.emod_nonneg _ (by decide)) (Int.emod_lt_of_pos _ (by decide))
    exact ⟨d, ed, ha d hd⟩
  obtain ⟨d1, ed1, b1⟩ := opl (v := [1, 2, 2, 3, 1, 2, 0, 1]) rfl (by decide)
  obtain ⟨d2, ed2, b2⟩ := opl (v := [0, 1, 0, 1, 2, 0, 1, 0]) rfl (by decide)
  refine ⟨szl (by show 8 ≤ 1000000; decide), fun q1 hq1 => ⟨_, rfl, _, _, rfl, rfl, ⟨by decide, by decide⟩, _, _, rfl, rfl, (by show (0 : Int) < 8; decide), q1, _, _, _, rfl, rfl, SqL.of upd_same, ed1, ?_⟩⟩
  have t1 := same_new hq1 (.lst [V.int 1, V.int 2, V.int 2, V.int 3, V.int 1, V.int 2, V.int 0, V.int 1])
  dsimp only [gName]
  generalize upd H2 q1 (.lst [V.int 1, V.int 2, V.int 2, V.int 3, V.int 1, V.int 2, V.int 0, V.int 1]) = HA at t1
  refine seq_any (fun σ' H5 => ∃ op : Int, σ' = [some (.ref p), some (.int (n : Int)), some (.int far), some (.ref st), some (.ref co), some (.ref pa), some (.ref ro), some (.int (0 + (i : Int))), some (.int ci), some (.int nn), some cl, o10', some (.int op), o13, o14] ∧ Same H2 H5 ∧ 0 ≤ op ∧ op ≤ 3) (fun σ' H5 pp => ?_) (fun nx => ?_)
  rotate_left
  · refine ⟨_, rfl, _, _, rfl, rfl, _, rfl, ite2 (fun _ => ?_) (fun _ => ?_)⟩
    · refine ⟨szl (by show 8 ≤ 1000000; decide), fun q2 hq2 => ⟨_, rfl, _, _, rfl, rfl, ⟨by decide, by decide⟩, _, _, rfl, rfl, (by show (0 : Int) < 8; decide), q2, _, _, _, rfl, rfl, SqL.of upd_same, ed2, ?_⟩⟩
      exact nx _ _ ⟨_, rfl, t1.trans (same_new hq2 _), b2⟩
    · exact nx _ _ ⟨_, rfl, t1, b1⟩
  obtain ⟨op, rfl, t2, op0, op3⟩ := pp
  have hst5 := t2 _ _ hst
  -- opening
  refine seq_any (fun σ' H6 => ∃ (st co pa : Addr) (k : Nat) (vs : List V) (C Pp : List Int) (o13 o14 : Option V), σ' = [some (.ref p), some (.int (n : Int)), some (.int far), some (.ref st), some (.ref co), some (.ref pa), some (.ref ro), some (.int (0 + (i : Int))), some (.int ci), some (.int nn), some cl, o10', some (.int op), o13, o14] ∧ Same H2 H6 ∧ H6 st = some (.lst vs) ∧ vs.length = k ∧ (∃ S, All2 (LpIs H6) vs S ∧ Dr3 Rs S C Pp (cellD ns 1)) ∧ k ≤ 3 ∧ H6 co = some (.lst (C.map V.int)) ∧ C.length = k + 1 ∧ H6 pa = some (.lst (Pp.map V.int)) ∧ Pp.length = k ∧ st ≠ ro ∧ co ≠ ro ∧ pa ≠ ro) (fun σ' H6 pp => ?_) (fun nx => ?_)
  rotate_left
  · refine ⟨_, rfl, _, rfl, st, _, rfl, .inl (SqL.of hst5), _, _, rfl, rfl, _, _, rfl, _, rfl, ?_, ?_, ?_⟩
    · split <;> omega
    · split <;> omega
    obtain ⟨m0, em0, m0l⟩ : ∃ m0 : Nat, (if 3 - (vs.length : Int) < op then 3 - (vs.length : Int) else op) = (m0 : Int) ∧ vs.length + m0 ≤ 3 := by
      split
      · exact ⟨(3 - (vs.length : Int)).toNat, by omega, by omega⟩
      · exact ⟨op.toNat, by omega, by omega⟩
    rw [em0, Int.toNat_natCast]
    refine for_range (lo := 0) (n := m0) (fun j σ' H6 => ∃ (st co pa : Addr) (k2 : Nat) (vs2 : List V) (C Pp : List Int) (o13 o14 : Option V), σ' = [some (.ref p), some (.int (n : Int)), some (.int far), some (.ref st), some (.ref co), some (.ref pa), some (.ref ro), some (.int (0 + (i : Int))), some (.int ci), some (.int nn), some cl, o10', some (.int op), o13, o14] ∧ Same H2 H6 ∧ H6 st = some (.lst vs2) ∧ vs2.length = k2 ∧ (∃ S, All2 (LpIs H6) vs2 S ∧ Dr3 Rs S C Pp (cellD ns 1) ∧ (j = 0 → cl = .non ∨ ∃ q, LpIs H6 cl q ∧ NewL S (cellD ns 1) q)) ∧ k2 = vs.length + j ∧ H6 co = some (.lst (C.map V.int)) ∧ C.length = k2 + 1 ∧ H6 pa = some (.lst (Pp.map V.int)) ∧ Pp.length = k2 ∧ st ≠ ro ∧ co ≠ ro ∧ pa ≠ ro) ⟨st, co, pa, k, vs, C, Pp, _, _, rfl, t2, hst5, vl, ⟨S1, aS1.mono fun _ _ z => z.over t2, dr1, fun _ => hcl'.imp id fun ⟨q, h1, h2⟩ => ⟨q, h1.over t2, h2⟩⟩, by omega, t2 _ _ hco, Cl, t2 _ _ hpa, Pl, nst, nco, npa⟩ (fun j σ' H6 hj pp => ?_) (fun σ' H6 pp => ?_)
    rotate_left
    · obtain ⟨st, co, pa, k2, vs2, C, Pp, o13, o14, rfl, e3, g1, g2, g3, g4, g5, g6, g7, g8, g9, g10, g11⟩ := pp
      exact nx _ _ ⟨st, co, pa, k2, vs2, C, Pp, _, _, rfl, e3, g1, g2, (let ⟨S, x, y, _⟩ := g3; ⟨S, x, y⟩), by omega, g5, g6, g7, g8, g9, g10, g11⟩
    obtain ⟨st, co, pa, k2, vs2, C, Pp, o13, o14, rfl, e3, g1, g2, g3, g4, g5, g6, g7, g8, g9, g10, g11⟩ := pp
    obtain ⟨S, aS', dr', hc0⟩ := g3
    obtain ⟨z0, z1⟩ := mix_b ci (1 + (0 + (j : Int)))
    refine ⟨_, rfl, _, rfl, _, _, rfl, rfl, ci, _, rfl, _, rfl, _, rfl, _, rfl, p, ns, 1, rfl, (e02.trans e3).seq hp, by decide, by decide, _, far, _, st, S, rfl, z0, ⟨vs2, g1, aS'⟩, by have := aS'.1; omega, dr'.so.tn, fb.1, fb.2, fun x H7 qn e7 lx nwq => ?_⟩
    dsimp only [gName]
    refine seq_any (fun σ' H8 => H8 = H7 ∧ ∃ y, (∃ q, LpIs H7 y q ∧ NewL S (cellD ns 1) q) ∧ σ' = [some (.ref p), some (.int (n : Int)), some (.int far), some (.ref st), some (.ref co), some (.ref pa), some (.ref ro), some (.int (0 + (i : Int))), some (.int ci), some (.int nn), some cl, o10', some (.int op), some (.int (0 + (j : Int))), some y]) (fun σ' H8 pp => ?_) (fun nx2 => ?_)
    rotate_left
    · refine ⟨_, rfl, rfl, _, rfl, ite2 (fun c00 => ?_) (fun _ => nx2 _ _ ⟨rfl, x, ⟨qn, lx, nwq⟩, rfl⟩)⟩
      refine ⟨_, rfl, rfl, _, rfl, ite2 (fun cc => ?_) (fun _ => nx2 _ _ ⟨rfl, x, ⟨qn, lx, nwq⟩, rfl⟩)⟩
      refine ⟨_, rfl, _, _, rfl, rfl, ⟨by decide, by decide⟩, _, _, rfl, rfl, (by show (0 : Int) < 3; decide), rfl, _, rfl, ite2 (fun _ => ?_) (fun _ => nx2 _ _ ⟨rfl, x, ⟨qn, lx, nwq⟩, rfl⟩)⟩
      have j0 : j = 0 := by have := V.int.inj (of_decide_eq_true c00); omega
      rcases hc0 j0 with rfl | ⟨q', l1, l2⟩
      · exact absurd cc (by decide)
      · exact ⟨_, rfl, nx2 _ _ ⟨rfl, cl, ⟨q', l1.over e7, l2⟩, rfl⟩⟩
    obtain ⟨rfl, y, ⟨qy, ly, nwy⟩, rfl⟩ := pp
    -- the stack, the path, the counts
    have g1' := e7 _ _ g1
    have g5' := e7 _ _ g5
    have g7' := e7 _ _ g7
    have hx7 := e7 _ _ (e3 _ _ hxs2)
    obtain ⟨C3, c0, rfl, C3l⟩ := snoc_of (l := C) (n := k2) (by omega)
    have atc : atI ((C3 ++ [c0]).map V.int) (-1) = some (.int c0) := by rw [List.map_append]; exact atI_last _ _
    refine ⟨_, rfl, _, rfl, szl (by show 1 ≤ 1000000; decide), fun u1 hu1 => ?_⟩
    have w1 := same_new hu1 (.lst [y])
    refine ⟨st, u1, _, _, rfl, rfl, w1 _ _ g1', upd_same, szl (by rw [List.length_singleton]; omega), fun n1 hn1 => ?_⟩
    have w2 := w1.trans (same_new hn1 (.lst (vs2 ++ [y])))
    have f1 : (upd (upd H8 u1 (.lst [y])) n1 (.lst (vs2 ++ [y]))) n1 = some (.lst (vs2 ++ [y])) := upd_same
    have m1 : n1 ≠ ro := fun z => by rw [z, w1 _ _ hx7] at hn1; cases hn1
    dsimp only [gName]
    generalize upd (upd H8 u1 (.lst [y])) n1 (.lst (vs2 ++ [y])) = HB at w2 f1
    refine ⟨_, rfl, _, rfl, _, rfl, co, _, _, _, rfl, rfl, SqL.of (w2 _ _ g5'), atc, szl (by show 1 ≤ 1000000; decide), fun u2 hu2 => ?_⟩
    have w3 := same_new hu2 (.lst [V.int c0])
    refine ⟨pa, u2, _, _, rfl, rfl, w3 _ _ (w2 _ _ g7'), upd_same, szl (by rw [List.length_map, List.length_singleton]; omega), fun n2 hn2 => ?_⟩
    have w4 := w3.trans (same_new hn2 (.lst (Pp.map V.int ++ [V.int c0])))
    have f2 : (upd (upd HB u2 (.lst [V.int c0])) n2 (.lst (Pp.map V.int ++ [V.int c0]))) n2 = some (.lst (Pp.map V.int ++ [V.int c0])) := upd_same
    have m2 : n2 ≠ ro := fun z => by rw [z, w3 _ _ (w2 _ _ hx7)] at hn2; cases hn2
    dsimp only [gName]
    generalize upd (upd HB u2 (.lst [V.int c0])) n2 (.lst (Pp.map V.int ++ [V.int c0])) = HC at w4 f2
    have w24 := w2.trans w4
    refine ⟨_, rfl, _, rfl, _, rfl, co, _, rfl, SqL.of (w24 _ _ g5'), fun u3 hu3 => ?_⟩
    rw [List.map_append, show cutV (C3.map V.int ++ [c0].map V.int) none (some (-1)) = C3.map V.int from cutV_neg (C3.map V.int) [V.int c0] (Nat.succ_pos _) rfl]
    have w5 := same_new hu3 (.lst (C3.map V.int))
    rw [List.map_append] at atc g5'
    refine ⟨_, rfl, _, rfl, co, _, _, _, rfl, rfl, SqL.of (w5 _ _ (w24 _ _ g5')), atc, _, _, rfl, rfl, szl (by show 2 ≤ 1000000; decide), fun u4 hu4 => ?_⟩
    have w6 := same_new hu4 (.lst [V.int (c0 + 1), V.int 0])
    refine ⟨u3, u4, _, _, rfl, rfl, w6 _ _ upd_same, upd_same, szl (by rw [List.length_map]; show C3.length + 2 ≤ _; omega), fun n3 hn3 => ?_⟩
    have w7 := w5.trans (w6.trans (same_new hn3 (.lst (C3.map V.int ++ [V.int (c0 + 1), V.int 0]))))
    have m3 : n3 ≠ ro := fun z => by rw [z, (w5.trans w6) _ _ (w24 _ _ hx7)] at hn3; cases hn3
    have wA := w24.trans w7
    refine ⟨n1, n3, n2, k2 + 1, vs2 ++ [y], C3 ++ [c0 + 1, 0], Pp ++ [c0], _, _, rfl, e3.trans (e7.trans wA), (w4.trans w7) _ _ f1, by rw [List.length_append, List.length_singleton]; omega, ⟨S ++ [qy], (aS'.mono fun _ _ z => z.over (e7.trans wA)).snoc (ly.over wA), dr'.push (by have := aS'.1; omega) nwy, fun z => by omega⟩, by omega, ?_, by rw [List.length_append]; show C3.length + 2 = _; omega, ?_, by rw [List.length_append, List.length_singleton]; omega, m1, m3, m2⟩
    · rw [upd_same, List.map_append]; rfl
    · rw [List.map_append]; exact w7 _ _ f2
  obtain ⟨st, co, pa, k, vs, C, Pp, o13', o14', rfl, e3, hst, vl, vlp, k3, hco, Cl, hpa, Pl, nst, nco, npa⟩ := pp
  obtain ⟨S, aSS, drr⟩ := vlp
  have e03 := e02.trans e3
  have hx3 := e3 _ _ hxs2
  have axs3 := axs2.mono fun _ _ z => z.over e3
  obtain ⟨C3, c0, rfl, C3l⟩ := snoc_of (l := C) (n := k) (by omega)
  have atc : atI ((C3 ++ [c0]).map V.int) (-1) = some (.int c0) := by rw [List.map_append]; exact atI_last _ _
  refine ⟨_, rfl, .inl ⟨rfl, _, SqL.of hx3⟩, _, rfl, _, rfl, _, rfl, _, rfl, _, rfl, co, _, _, _, rfl, rfl, SqL.of hco, atc, szl (by show 1 ≤ 1000000; decide), fun u2 hu2 => ?_⟩
  have w3 := same_new hu2 (.lst [V.int c0])
  refine ⟨pa, u2, _, _, rfl, rfl, w3 _ _ hpa, upd_same, szl (by rw [List.length_map, List.length_singleton]; omega), fun n2 hn2 => ?_⟩
  have w4 := w3.trans (same_new hn2 (.lst (Pp.map V.int ++ [V.int c0])))
  have f2 : (upd (upd H6 u2 (.lst [V.int c0])) n2 (.lst (Pp.map V.int ++ [V.int c0]))) n2 = some (.lst (Pp.map V.int ++ [V.int c0])) := upd_same
  generalize upd (upd H6 u2 (.lst [V.int c0])) n2 (.lst (Pp.map V.int ++ [V.int c0])) = HC at w4 f2
  refine ⟨_, rfl, p, ns, rfl, (e03.trans w4).seq hp, fun hd HD eD hH => ?_⟩
  have wD := w4.trans eD
  refine ⟨MtF (cellD ns 0), ci, st, n2, hd, S, Pp ++ [c0], rfl, ⟨vs, wD _ _ hst, aSS.mono fun _ _ z => z.over wD⟩, by have := aSS.1; omega, by rw [List.map_append]; exact eD _ _ f2, hH, fun r HE z pz m rs eE r5 m3 => ?_⟩
  have wE := wD.trans eE
  have hxE := wE _ _ hx3
  refine ⟨ro, _, _, rfl, rfl, hxE, szlt (by omega), ?_⟩
  have tkF := TK.upd (o := .lst (xs ++ [V.ref r])) hxE
  have nlF : NL HE (upd HE ro (.lst (xs ++ [V.ref r]))) := NL.upd hxE
  have keep : ∀ b o, b ≠ ro → HE b = some o → (upd HE ro (.lst (xs ++ [V.ref r]))) b = some o := fun b o hb h => by rw [upd_ne hb]; exact h
  have fr : (upd HE ro (.lst (xs ++ [V.ref r]))) ro = some (.lst (xs ++ [V.ref r])) := upd_same
  have axF : All2 (R4At (MtF (cellD ns 0)) (upd HE ro (.lst (xs ++ [V.ref r])))) (xs ++ [V.ref r]) (Rs ++ [⟨S, Pp ++ [c0], z, pz, m, rs⟩]) := (axs3.mono fun _ _ q => (q.over wE).tk tkF).snoc (r5.tk tkF)
  have same : Same H (upd HE ro (.lst (xs ++ [V.ref r]))) := fun b o hb => keep b o (ne_of_none hb ro0) (wE _ _ (e03 _ _ hb))
  have vlF : All2 (LpIs (upd HE ro (.lst (xs ++ [V.ref r])))) vs S := aSS.mono fun _ _ z => (z.over wE).tk tkF
  have drR := Dr3.row (R := ⟨S, Pp ++ [c0], z, pz, m, rs⟩) drr rfl
  have hstF := keep _ _ nst (wE _ _ hst)
  have hcoF := keep _ _ nco (wE _ _ hco)
  have hpaF := keep _ _ npa (wE _ _ hpa)
  have rlen := r5
  generalize upd HE ro (.lst (xs ++ [V.ref r])) = HF at fr axF same vlF hstF hcoF hpaF
  refine ⟨_, rfl, _, rfl, _, rfl, co, _, rfl, SqL.of hcoF, fun u3 hu3 => ?_⟩
  rw [List.map_append, show cutV (C3.map V.int ++ [c0].map V.int) none (some (-1)) = C3.map V.int from cutV_neg (C3.map V.int) [V.int c0] (Nat.succ_pos _) rfl]
  have w5 := same_new hu3 (.lst (C3.map V.int))
  rw [List.map_append] at atc hcoF
  refine ⟨_, rfl, _, rfl, co, _, _, _, rfl, rfl, SqL.of (w5 _ _ hcoF), atc, _, _, rfl, rfl, szl (by show 1 ≤ 1000000; decide), fun u4 hu4 => ?_⟩
  have w6 := same_new hu4 (.lst [V.int (c0 + 1)])
  refine ⟨u3, u4, _, _, rfl, rfl, w6 _ _ upd_same, upd_same, szl (by rw [List.length_map, List.length_singleton]; omega), fun n3 hn3 => ?_⟩
  have w7 := w5.trans (w6.trans (same_new hn3 (.lst (C3.map V.int ++ [V.int (c0 + 1)]))))
  have m3' : n3 ≠ ro := fun q => by rw [q, (w5.trans w6) _ _ fr] at hn3; cases hn3
  refine ⟨st, n3, pa, k, vs, C3 ++ [c0 + 1], Pp, _, _, _, _, _, _, _, _, _, _, rfl, same.trans w7, w7 _ _ hstF, vl, ⟨S, vlF.mono fun _ _ z => z.over w7, drR.1⟩, k3, ?_, by rw [List.length_append, List.length_singleton]; omega, w7 _ _ hpaF, Pl, nst, m3', npa, w7 _ _ fr, axF.mono fun _ _ q => q.over w7, by rw [List.length_append, List.length_singleton]; omega, ⟨fun R hR => ?_, List.pairwise_append.mpr ⟨Rok.2, List.pairwise_singleton _ _, fun R' h1 R h2 => by rw [List.mem_singleton.mp h2]; exact drR.2 R' h1⟩⟩⟩
  · rw [upd_same, List.map_append]; rfl
  · rcases List.mem_append.mp hR with q | q
    · exact Rok.1 R q
    · rw [List.mem_singleton.mp q]
      exact ⟨drr.so, by show (Pp ++ [c0]).length = S.length + 1; rw [List.length_append, List.length_singleton, drr.pl], m3⟩

theorem ok_few (T : Tx K mg a) : FnOk P w K mg base CX0 2 a.f_l_few a.d_l_few ["_law_script"] (spFew54 K) := by
  have G_l_cell := ok_cell (P := P) (w := w) (base := base) T
  have G_l_mixed := ok_mixed (P := P) (w := w) (base := base) T
  refine T.F_l_few.ok sc_l_few (fun vs H Q E h => ?_) (fun cdv A outer s H vs Q E hr h => ?_)
  · obtain ⟨_, _, rfl, _⟩ := h; rfl
  obtain ⟨p, ns, rfl, hp, h63, q⟩ := h
  refine ⟨_, (pss_one (ps_ret (pe_ix ix_list (pe_lstq (paq_cons pe_int (paq_cons pe_int (paq_cons pe_int (paq_cons pe_int (paq_cons pe_int (paq_cons pe_int (paq_cons pe_int (paq_cons pe_int paq_nil star_C) star_C) star_C) star_C) star_C) star_C) star_C) star_C)) (pe_op op_mod (pe_call G_l_mixed (hr.mono (by omega)) (by rfl) T.m_l_mixed T.F_l_mixed.kp T.b_l_mixed .nil pass0 (pa_cons (pe_call G_l_cell (hr.mono (by omega)) (by rfl) T.m_l_cell T.F_l_cell.kp T.b_l_cell .nil pass0 (pa_cons (pv 0) (pa_cons pe_int pa_nil))) (pa_cons pe_int pa_nil))) pe_int) (fun _ _ => rfl)))), ?_⟩
  refine ⟨szl (by show 8 ≤ 1000000; decide), fun l hl => ?_⟩
  have s1 := same_new hl (.lst [V.int 1, V.int 2, V.int 2, V.int 1, V.int 2, V.int 3, V.int 2, V.int 1])
  refine ⟨_, rfl, p, ns, 0, rfl, s1.seq hp, by decide, by decide, fun c => ⟨c, 1, rfl, _, _, rfl, rfl, (by show (0 : Int) < 8; decide), ?_⟩⟩
  obtain ⟨d, hd, ed⟩ := pickN (L := [1, 2, 2, 1, 2, 3, 2, 1]) (i := mixF c 1 % 8) 8 rfl (Int.emod_nonneg _ (by decide)) (Int.emod_lt_of_pos _ (by decide))
  have hd : 1 ≤ d ∧ d ≤ 3 := by
    simp only [List.mem_cons, List.not_mem_nil, or_false] at hd
    omega
  obtain ⟨n, rfl⟩ : ∃ n : Nat, d = (n : Int) := ⟨d.toNat, by omega⟩
  exact ⟨l, _, _, _, rfl, rfl, SqL.of upd_same, ed, q _ n s1 (by omega) (by omega)⟩

theorem ok_size (T : Tx K mg a) : FnOk P w K mg base CX0 2 a.f_l_size a.d_l_size ["_law_script"] (spSize55 K) := by
  have G_l_cell := ok_cell (P := P) (w := w) (base := base) T
  have G_l_mixed := ok_mixed (P := P) (w := w) (base := base) T
  refine T.F_l_size.ok sc_l_size (fun vs H Q E h => ?_) (fun cdv A outer s H vs Q E hr h => ?_)
  · obtain ⟨_, _, rfl, _⟩ := h; rfl
  obtain ⟨p, ns, rfl, hp, h63, q⟩ := h
  refine ⟨_, (pss_cons (ps_set (i := 1) sc_l_size.nd rfl (Or.inl rfl) (pe_call G_l_cell (hr.mono (by omega)) (by rfl) T.m_l_cell T.F_l_cell.kp T.b_l_cell .nil pass0 (pa_cons (pv 0) (pa_cons pe_int pa_nil))))
    (pss_one (ps_ret (pe_ix ix_list (pe_lst (pa_cons (pe_op op_add pe_int (pe_op op_mod (pv 1) pe_int)) (pa_cons (pe_op op_add pe_int (pe_op op_mod (pv 1) (pe_op op_sub (pe_op op_pow pe_int pe_int) pe_int))) pa_nil))) (pe_op op_mod (pe_call G_l_mixed (hr.mono (by omega)) (by rfl) T.m_l_mixed T.F_l_mixed.kp T.b_l_mixed .nil pass0 (pa_cons (pv 1) (pa_cons pe_int pa_nil))) pe_int) (fun _ _ => rfl))))), ?_⟩
  refine ⟨_, rfl, p, ns, 1, rfl, hp, by decide, by decide, fun c => ?_⟩
  dsimp only [gName]
  refine ⟨_, rfl, _, _, rfl, rfl, (by show (0 : Int) < 9; decide), _, _, rfl, rfl, _, rfl, _, _, rfl, rfl, ⟨by decide, by decide, by decide⟩, _, _, rfl, rfl, _, _, rfl, rfl, (by show (0 : Int) < 10 ^ (18 : Int).toNat - 2; decide), _, _, rfl, rfl, szl (by show 2 ≤ 1000000; decide), fun l hl => ?_⟩
  have s1 := same_new hl (.lst [V.int (2 + c % 9), V.int (2 + c % (10 ^ (18 : Int).toNat - 2))])
  refine ⟨_, rfl, c, 0, rfl, _, _, rfl, rfl, (by show (0 : Int) < 2; decide), ?_⟩
  obtain ⟨d, hd, ed⟩ := pickN (L := [2 + c % 9, 2 + c % (10 ^ (18 : Int).toNat - 2)]) (i := mixF c 0 % 2) 2 rfl (Int.emod_nonneg _ (by decide)) (Int.emod_lt_of_pos _ (by decide))
  exact ⟨l, _, _, _, rfl, rfl, SqL.of upd_same, ed, q _ d s1⟩

theorem ok_made54 (T : Tx K mg a) : FnOk P w K mg base CX0 103 a.f_l_made a.d_l_made ["_law_size_here", "_law_rows_here"] (spMade54 a.c_Program a.c_Deed (csOf a)) := by
  have G_Deed_init := ok_dinit (P := P) (w := w) (base := base) T
  have G_Program_init := ok_pini (P := P) (w := w) (base := base) T
  have G_l_object := ok_object (P := P) (w := w) (base := base) T 100
  refine T.F_l_made.ok sc_l_made (fun vs H Q E h => ?_) (fun cdv A outer s H vs Q E hr h => ?_)
  · obtain ⟨_, _, _, _, rfl, _⟩ := h; rfl
  obtain ⟨n, l, Rs, M, rfl, ⟨xs, hl, ax⟩, n6, ok, q⟩ := h
  refine ⟨_, (pss_cons (ps_setcompB (i := 2) ["_law_row_here"] [none] sc_l_made.nd rfl (Or.inl rfl) (by rfl) (pi_list (pv 1)) c_l_made_0 (fun _ _ _ _ _ _ => ⟨(pg_name (i := 0) c_l_made_0n rfl (Or.inl rfl)), pts_nil, (pe_make T.mk_Deed G_Deed_init (hr.mono (by omega)) (by rfl) T.mc_Deed T.b_Deed_init .nil pass0 (pa_cons (pe_ix (show IxR _ (rIxT K) from ix_tup) (pv 0) pe_int (fun _ _ => rfl)) (pa_cons (pe_ix (show IxR _ (rIxT K) from ix_tup) (pv 0) pe_int (fun _ _ => rfl)) (pa_cons (pe_ix (show IxR _ (rIxT K) from ix_tup) (pv 0) pe_int (fun _ _ => rfl)) (pa_cons (pe_ix (show IxR _ (rIxT K) from ix_tup) (pv 0) pe_int (fun _ _ => rfl)) (pa_cons (pe_ix (show IxR _ (rIxT K) from ix_tup) (pv 0) pe_int (fun _ _ => rfl)) (pa_cons (pe_call G_l_object (hr.mono (by omega)) (by rfl) T.m_l_object T.F_l_object.kp T.b_l_object .nil pass0 (pa_cons (pe_ix (show IxR _ (rIxT K) from ix_tup) (pv 0) pe_int (fun _ _ => rfl)) pa_nil)) (pa_cons (pe_ix (show IxR _ (rIxT K) from ix_tup) (pv 0) pe_int (fun _ _ => rfl)) pa_nil))))))))⟩))
    (pss_one (ps_ret (pe_make T.mk_Program G_Program_init (hr.mono (by omega)) (by rfl) T.mc_Program T.b_Program_init .nil pass0 (pa_cons (pv 0) (pa_cons (pv 2) pa_nil)))))), ?_⟩
  have xl := ax.1
  refine ⟨_, rfl, l, rfl, ⟨_, SqL.of hl⟩, ?_⟩
  refine comp_list (xs := xs) (fun i ys H' => Same H H' ∧ All2 (D4At (csOf a) a.c_Deed H') ys (Rs.take i)) ⟨Same.refl _, .nil⟩ (szl (by omega)) (fun i ys H' hi pp => ⟨SqL.of (pp.1 _ _ hl), by rw [pp.2.1, List.length_take]; omega⟩) (fun i x ys H' hx pp => ?_) (fun ys H' pp dl hdl => ?_)
  · obtain ⟨e, ay⟩ := pp
    obtain ⟨R, hR, ⟨r, u1, u2, u3, u4, x, ls, hs, rfl, hr1, hu1, hu2, als, hu3, ahs, hu4, tm⟩, _⟩ := ax.get' hx
    have rok := ok R (List.mem_of_getElem? hR)
    have hr1' := e _ _ hr1
    refine ⟨_, rfl, r, _, 0, _, rfl, rfl, SqT.of hr1', rfl, _, rfl, r, _, 1, _, rfl, rfl, SqT.of hr1', rfl, _, rfl, r, _, 2, _, rfl, rfl, SqT.of hr1', rfl, _, rfl, r, _, 3, _, rfl, rfl, SqT.of hr1', rfl, _, rfl, r, _, 4, _, rfl, rfl, SqT.of hr1', rfl, _, rfl, r, _, 5, _, rfl, rfl, SqT.of hr1', rfl, ?_⟩
    refine ⟨x, R.m, R.rs, rfl, by omega, tm.over e, fun y H2 e2 to => ?_⟩
    refine ⟨_, rfl, r, _, 6, _, rfl, rfl, SqT.of (e2 _ _ hr1'), rfl, ?_⟩
    intro d dd hd hdd hne2
    refine ⟨d, dd, _, _, _, _, _, _, _, rfl, upd_same, fun HB kB hdB => ⟨rfl, ?_⟩⟩
    obtain ⟨dxB, hdB⟩ := hdB
    have eAB := made_same hd hdd kB
    have eB := e2.trans eAB
    refine ⟨e.trans eB, ?_⟩
    rw [take_snoc hR]
    exact (ay.mono fun _ _ z => z.over eB).snoc ⟨d, dxB, u1, u2, u3, u4, y, ls, hs, rfl, hdB, eB _ _ (e _ _ hu1), eB _ _ (e _ _ hu2), als.mono fun _ _ z => z.tk (Same.tk (e.trans eB)), eB _ _ (e _ _ hu3), ahs.mono fun _ _ z => z.tk (Same.tk (e.trans eB)), eB _ _ (e _ _ hu4), to.over eAB⟩
  obtain ⟨e, ay⟩ := pp
  rw [List.take_of_length_le (by omega)] at ay
  have s1 := same_new hdl (.lst ys)
  have hdl1 : (upd H' dl (.lst ys)) dl = some (.lst ys) := upd_same
  have dl0 := e.free hdl
  dsimp only [gName]
  generalize upd H' dl (.lst ys) = H1 at s1 hdl1
  refine ⟨_, rfl, _, rfl, ?_⟩
  intro x dx hx hdx hxd
  have ntx : dl ≠ x := ne_of_none hdl1 hx
  have ntd : dl ≠ dx := ne_of_none hdl1 hdx
  refine ⟨x, dx, _, dl, ys, rfl, upd_same, SqL.of (by rw [upd_ne ntx, upd_ne ntd]; exact hdl1), fun d5 H6 hd5 k6 hd6 hx6 => ⟨rfl, ?_⟩⟩
  obtain ⟨dx6, hx6⟩ := hx6
  have e6 := made_same hx hdx k6
  exact q x dx6 d5 ys H6 (e.trans (s1.trans e6)) hx6 hd6 (ay.mono fun _ _ z => z.over (s1.trans e6))

theorem ok_touchl (T : Tx K mg a) : FnOk P w K mg base CX0 103 a.f_l_touches a.d_l_touches ["_law_row_here"] spTouchL54 := by
  have G_l_reads := ok_rds (P := P) (w := w) (base := base) T 100
  refine T.F_l_touches.ok sc_l_touches (fun vs H Q E h => ?_) (fun cdv A outer s H vs Q E hr h => ?_)
  · obtain ⟨_, _, rfl, _⟩ := h; rfl
  obtain ⟨v, R, rfl, ⟨r, u1, u4, v1, v2, x, ys, rfl, hr1, hu1, yl, _, hu4, tm⟩, hm, q⟩ := h
  refine ⟨_, (pss_one (ps_ret (pe_op op_cat (pe_lst (pa_cons (pe_tupq (paq_cons pe_bl (paq_cons (pe_ix ix_tup (pv 0) pe_int (fun _ _ => rfl)) (paq_cons (pe_ix ix_tup (pv 0) pe_int (fun _ _ => rfl)) paq_nil star_S) star_S) star_C)) pa_nil)) (pe_call G_l_reads (hr.mono (by omega)) (by rfl) T.m_l_reads T.F_l_reads.kp T.b_l_reads .nil pass0 (pa_cons (pe_ix ix_tup (pv 0) pe_int (fun _ _ => rfl)) pa_nil))))), ?_⟩
  refine ⟨_, rfl, r, _, 3, _, rfl, rfl, SqT.of hr1, rfl, _, rfl, r, _, 4, _, rfl, rfl, SqT.of hr1, rfl, szl (by show 3 ≤ 1000000; decide), fun t ht => ⟨szl (by show 1 ≤ 1000000; decide), fun l hl => ?_⟩⟩
  have s1 := same_new ht (.tup [V.bl true, .str R.z, .ref R.p])
  have s2 := same_new hl (.lst [V.ref t])
  have e2 := s1.trans s2
  refine ⟨_, rfl, r, _, 5, _, rfl, rfl, SqT.of (e2 _ _ hr1), rfl, x, R.m, R.rs, rfl, hm, by omega, tm.over e2, fun l2 H3 zs e3 hl2 rd => ?_⟩
  have zl := rd.1
  have rl := tm.pos.2.1
  refine ⟨l, l2, _, _, rfl, rfl, e3 _ _ upd_same, hl2, szl (by simp only [List.length_singleton]; omega), fun l4 hl4 => ?_⟩
  have s4 := same_new hl4 (.lst ([V.ref t] ++ zs))
  have ht4 := (s2.trans (e3.trans s4)) _ _ (show (upd H t (.tup [V.bl true, .str R.z, .ref R.p])) t = _ from upd_same)
  exact q l4 _ (e2.trans (e3.trans s4)) ((e2.trans e3).free hl4) ⟨t, zs, upd_same, ht4, rd.over s4⟩

theorem ok_lmeets (T : Tx K mg a) : FnOk P w K mg base CX0 104 a.f_l_meets a.d_l_meets ["_law_rows_here"] spMeetsL55 := by
  have G_l_touches := ok_touchl (P := P) (w := w) (base := base) T
  refine T.F_l_meets.ok sc_l_meets (fun vs H Q E h => ?_) (fun cdv A outer s H vs Q E hr h => ?_)
  · obtain ⟨_, _, rfl, _⟩ := h; rfl
  obtain ⟨l, Rs, rfl, ⟨xs, hl, ax⟩, ok, n6, q⟩ := h
  refine ⟨_, (pss_cons (ps_set (i := 1) sc_l_meets.nd rfl (Or.inl rfl) (pe_lst pa_nil))
    (pss_cons (ps_for PassesOwn.never rfl (pi_range1 (by rfl) T.z_range (pa_cons (pe_callB call_len_seq (by rfl) T.z_len bt_len (pa_cons (pv 0) pa_nil)) pa_nil)) (pg_name (i := 2) sc_l_meets.nd rfl (Or.inl rfl))
    (pss_one (ps_for PassesOwn.never rfl (pi_enum (by rfl) T.z_enumerate (pa_cons (pe_call G_l_touches (hr.mono (by omega)) (by rfl) T.m_l_touches T.F_l_touches.kp T.b_l_touches .nil pass0 (pa_cons (pe_ix ix_list (pv 0) (pv 2) (fun _ _ => rfl)) pa_nil)) pa_nil)) (pg_tup rfl (pgs_cons (pg_name (i := 3) sc_l_meets.nd rfl (Or.inl rfl)) (pgs_cons (pg_name (i := 4) sc_l_meets.nd rfl (Or.inl rfl)) pgs_nil)))
    (pss_one (ps_expr (pe_bm PySem.F.plainAttrs_list PySem.F.slot_list_append PySem.F.type_list_append mt_append (pv 1) (pa_cons (pe_tupq (paq_cons (pv 2) (paq_cons (pv 3) (paq_cons (pv 4) paq_nil star_N) star_N) star_N)) pa_nil)))))))
    (pss_cons (ps_set (i := 5) sc_l_meets.nd rfl (Or.inl rfl) (pe_lst pa_nil))
    (pss_cons (ps_for PassesOwn.never rfl (pi_list (pv 1)) (pg_tup rfl (pgs_cons (pg_name (i := 2) sc_l_meets.nd rfl (Or.inl rfl)) (pgs_cons (pg_name (i := 3) sc_l_meets.nd rfl (Or.inl rfl)) (pgs_cons (pg_name (i := 6) sc_l_meets.nd rfl (Or.inl rfl)) pgs_nil))))
    (pss_one (ps_for PassesOwn.never rfl (pi_list (pv 1)) (pg_tup rfl (pgs_cons (pg_name (i := 7) sc_l_meets.nd rfl (Or.inl rfl)) (pgs_cons (pg_name (i := 8) sc_l_meets.nd rfl (Or.inl rfl)) (pgs_cons (pg_name (i := 9) sc_l_meets.nd rfl (Or.inl rfl)) pgs_nil))))
    (pss_one (ps_if ((pw_and (pt_cmpR op_eq (pe_ix ix_tup (pv 6) pe_int (fun _ _ => rfl)) (pe_ix ix_tup (pv 9) pe_int (fun _ _ => rfl)) (nomark _)) (pw_and1 ((pw_or (pt_val (pe_ix ix_tup (pv 6) pe_int (fun _ _ => rfl))) (pw_or1 (pt_val (pe_ix ix_tup (pv 9) pe_int (fun _ _ => rfl)))))).pt))).pt
    (pss_one (ps_expr (pe_bm PySem.F.plainAttrs_list PySem.F.slot_list_append PySem.F.type_list_append mt_append (pv 5) (pa_cons (pe_tupq (paq_cons (pv 2) (paq_cons (pv 3) (paq_cons (pv 7) (paq_cons (pv 8) paq_nil star_N) star_N) star_N) star_N)) pa_nil))))
    pss_nil)))))
    (pss_one (ps_ret (pv 5))))))), ?_⟩
  have xl := ax.1
  refine ⟨szl (by show 0 ≤ 1000000; decide), fun to hto0 => ?_⟩
  have e1 := same_new hto0 (.lst [])
  have hto1 : (upd H to (.lst [])) to = some (.lst []) := upd_same
  dsimp only [gName]
  generalize upd H to (.lst []) = H0 at e1 hto1
  refine seq_any (fun σ' H' => ∃ (ys : List V) (o2 o3 o4 : Option V), σ' = [some (.ref l), some (.ref to), o2, o3, o4, none, none, none, none, none] ∧ Same H H' ∧ H' to = some (.lst ys) ∧ All2 (T3At H') ys (al5 Rs)) (fun σ' H1 pp => ?_) (fun nx => ?_)
  rotate_left
  · refine ⟨_, rfl, l, _, rfl, .inl (SqL.of (e1 _ _ hl)), _, rfl, by omega, by omega, ?_⟩
    rw [Int.toNat_natCast]
    refine for_range (lo := 0) (n := xs.length) (fun i σ' H' => ∃ (ys : List V) (o2 o3 o4 : Option V), σ' = [some (.ref l), some (.ref to), o2, o3, o4, none, none, none, none, none] ∧ Same H H' ∧ H' to = some (.lst ys) ∧ All2 (T3At H') ys (al5 (Rs.take i))) ⟨[], _, _, _, rfl, e1, hto1, .nil⟩ (fun i σ' H' hi pp => ?_) (fun σ' H' pp => ?_)
    rotate_left
    · obtain ⟨ys, o2, o3, o4, rfl, e, hy, ay⟩ := pp
      rw [List.take_of_length_le (by omega)] at ay
      exact nx _ _ ⟨ys, _, _, _, rfl, e, hy, ay⟩
    obtain ⟨ys, o2, o3, o4, rfl, e, hys, ay⟩ := pp
    have hR : Rs[i]? = some (Rs[i]'(by omega)) := List.getElem?_eq_getElem (by omega)
    generalize Rs[i]'(by omega) = R at hR
    obtain ⟨y, hy, r5⟩ := ax.get hR
    have rok := ok R (List.mem_of_getElem? hR)
    have il : i < Rs.length := (List.getElem?_eq_some_iff.mp hR).1
    rw [Int.zero_add]
    refine ⟨_, rfl, _, rfl, l, _, _, _, rfl, rfl, SqL.of (e _ _ hl), atI_nat hy, y, R, rfl, r5.over e, by have := rok.ms; omega, fun tr H3 e3 htr0 tch => ?_⟩
    obtain ⟨ts, hts, ath⟩ := tch_th tch
    have tsl := ath.1
    have tll := tl5_len rok
    have hys3 := e3 _ _ hys
    have ay3 := ay.mono fun _ _ z => z.over e3
    have pl := al5_len (Rs := Rs.take i) (fun R hR => ok R (List.mem_of_mem_take hR)) (by rw [List.length_take]; omega)
    have nlf : tr ≠ to := fun z => by rw [z, hys] at htr0; cases htr0
    refine ⟨tr, rfl, ⟨_, SqL.of hts⟩, ?_⟩
    refine for_enum (xs := ts) (fun j σ' H4 => ∃ (zs : List V) (o3 o4 : Option V), σ' = [some (.ref l), some (.ref to), some (.int (i : Int)), o3, o4, none, none, none, none, none] ∧ (∀ b o, b ≠ to → H3 b = some o → H4 b = some o) ∧ H4 to = some (.lst zs) ∧ All2 (T3At H4) zs (al5 (Rs.take i) ++ Pm.tk3 i 0 ((tl5 R).take j))) ⟨ys, _, _, rfl, fun _ _ _ h => h, hys3, by show All2 _ _ (_ ++ []); rw [List.append_nil]; exact ay3⟩ (fun j σ' H4 _ pp => by obtain ⟨_, _, _, _, k4, _⟩ := pp; exact SqL.of (k4 _ _ nlf hts)) (fun j y2 Tt2 σ' H4 hy2 pp hT2 => ?_) (fun σ' H4 pp => ?_)
    · obtain ⟨zs, o4, o5, rfl, k4, hzs, az⟩ := pp
      obtain ⟨tb, htb, u, p, rfl, hu⟩ := ath.get' hy2
      have jl : j < (tl5 R).length := (List.getElem?_eq_some_iff.mp htb).1
      have nu : u ≠ to := fun z => by rw [z, hys3] at hu; cases hu
      have hu4 := k4 _ _ nu hu
      have sT2 := same_new hT2 (.tup [V.int (j : Int), V.ref u])
      refine ⟨Tt2, _, rfl, SqT.of upd_same, rfl, _, _, rfl, _, _, rfl, rfl, ?_⟩
      refine ⟨_, rfl, .inl ⟨rfl, _, SqL.of (sT2 _ _ hzs)⟩, _, rfl, _, rfl, _, rfl, szl (by show 3 ≤ 1000000; decide), fun r hr => ?_⟩
      have s6 := same_new hr (.tup [V.int (i : Int), V.int (j : Int), V.ref u])
      have e6 := sT2.trans s6
      have hz6 := e6 _ _ hzs
      have zl := az.1
      rw [List.length_append, Pm.tk3_len, List.length_take] at zl
      refine ⟨to, _, _, rfl, rfl, hz6, szlt (by omega), ?_⟩
      have tk := TK.upd (o := .lst (zs ++ [V.ref r])) hz6
      refine ⟨zs ++ [.ref r], _, _, rfl, fun b o hb h => by rw [upd_ne hb]; exact e6 _ _ (k4 b o hb h), upd_same, ?_⟩
      rw [take_snoc htb, Pm.tk3_snoc, ← List.append_assoc]
      refine (az.mono fun _ _ z => (z.over e6).tk tk).snoc ⟨r, u, p, rfl, ?_, tk _ _ (e6 _ _ hu4)⟩
      rw [List.length_take, Nat.min_eq_left (Nat.le_of_lt jl), Nat.zero_add]
      exact tk _ _ upd_same
    · obtain ⟨zs, o4, o5, rfl, k4, hzs, az⟩ := pp
      rw [tsl, List.take_length] at az
      refine ⟨zs, _, _, _, rfl, fun b o hb => k4 _ _ (ne_of_none hb hto0) (e3 _ _ (e _ _ hb)), hzs, ?_⟩
      show All2 _ _ (Pm.all3 0 ((Rs.take (i + 1)).map tl5))
      rw [take_snoc hR, List.map_append]
      show All2 _ _ (Pm.all3 0 ((Rs.take i).map tl5 ++ [tl5 R]))
      rw [Pm.all3_snoc, List.length_map, List.length_take, Nat.min_eq_left (Nat.le_of_lt il), Nat.zero_add]
      exact az
  obtain ⟨ys, o2, o3, o4, rfl, e1', hto, at1⟩ := pp
  refine ⟨szl (by show 0 ≤ 1000000; decide), fun fo hfo => ?_⟩
  have e2 := same_new hfo (.lst [])
  have hfo2 : (upd H1 fo (.lst [])) fo = some (.lst []) := upd_same
  dsimp only [gName]
  generalize upd H1 fo (.lst []) = H2 at e2 hfo2
  have tl := al5_len ok n6
  have ysl := at1.1
  have nyf : to ≠ fo := ne_of_none hto hfo
  refine ⟨_, rfl, to, rfl, ⟨_, SqL.of (e2 _ _ hto)⟩, ?_⟩
  refine for_list (xs := ys) (fun i σ' H' => ∃ (zs : List V) (q2 q3 q4 q6 q7 q8 q9 : Option V), σ' = [some (.ref l), some (.ref to), q2, q3, q4, some (.ref fo), q6, q7, q8, q9] ∧ Same H1 H' ∧ H' fo = some (.lst zs) ∧ All2 (Q4At H') zs (Pm.mtF ((al5 Rs).take i) (al5 Rs))) ⟨[], _, _, _, _, _, _, _, rfl, e2, hfo2, .nil⟩ (fun i σ' H' _ pp => by obtain ⟨_, _, _, _, _, _, _, _, _, e, _⟩ := pp; exact SqL.of (e _ _ hto)) (fun i y σ' H' hy pp => ?_) (fun σ' H' pp => ?_)
  rotate_left
  · obtain ⟨zs, q2, q3, q4, q6, q7, q8, q9, rfl, e, hzs, az⟩ := pp
    rw [List.take_of_length_le (by omega)] at az
    exact ⟨_, rfl, q fo _ (e1'.trans e) ⟨zs, hzs, az⟩⟩
  obtain ⟨zs, q2, q3, q4, q6, q7, q8, q9, rfl, e, hzs, az⟩ := pp
  obtain ⟨X, hX, t, u, p1, rfl, ht, hu⟩ := (at1.mono fun _ _ z => z.over e).get' hy
  have il : i < (al5 Rs).length := (List.getElem?_eq_some_iff.mp hX).1
  refine ⟨t, _, rfl, SqT.of ht, rfl, _, _, rfl, _, _, rfl, _, _, rfl, rfl, ?_⟩
  have mlen := Pm.mtF_len (al5 Rs) ((al5 Rs).take i)
  rw [List.length_take, Nat.min_eq_left (Nat.le_of_lt il)] at mlen
  have ml2 : i * (al5 Rs).length ≤ 186 * 186 := Nat.mul_le_mul (by omega) tl
  refine ⟨_, rfl, to, rfl, ⟨_, SqL.of (e _ _ hto)⟩, ?_⟩
  refine for_list (xs := ys) (fun j σ' H4 => ∃ (ws : List V) (q7 q8 q9 : Option V), σ' = [some (.ref l), some (.ref to), some (.int (X.k : Int)), some (.int (X.a : Int)), q4, some (.ref fo), some (.ref u), q7, q8, q9] ∧ (∀ b o, b ≠ fo → H' b = some o → H4 b = some o) ∧ H4 fo = some (.lst ws) ∧ All2 (Q4At H4) ws (Pm.mtF ((al5 Rs).take i) (al5 Rs) ++ Pm.in1 X ((al5 Rs).take j))) ⟨zs, _, _, _, rfl, fun _ _ _ h => h, hzs, by show All2 _ _ (_ ++ []); rw [List.append_nil]; exact az⟩ (fun j σ' H4 _ pp => by obtain ⟨_, _, _, _, _, k4, _⟩ := pp; exact SqL.of (k4 _ _ nyf (e _ _ hto))) (fun j y2 σ' H4 hy2 pp => ?_) (fun σ' H4 pp => ?_)
  rotate_left
  · obtain ⟨ws, q7, q8, q9, rfl, k4, hws, aw⟩ := pp
    rw [ysl, List.take_length, ← Pm.mtF_snoc, ← take_snoc hX] at aw
    exact ⟨ws, _, _, _, _, _, _, _, rfl, fun b o hb => k4 _ _ (ne_of_none hb hfo) (e _ _ hb), hws, aw⟩
  obtain ⟨ws, q7, q8, q9, rfl, k4, hws, aw⟩ := pp
  have tk4 : TK H' H4 := fun b o hb => k4 _ _ (ne_of hb hzs (by intro z; cases z)) hb
  obtain ⟨Y, hY, t2, u2, p2, rfl, ht2, hu2⟩ := (at1.mono fun _ _ z => (z.over e).tk tk4).get' hy2
  have hu4 := tk4 _ _ hu
  refine ⟨t2, _, rfl, SqT.of ht2, rfl, _, _, rfl, _, _, rfl, _, _, rfl, rfl, ?_⟩
  have wl := aw.1
  have il2 := Pm.in1_len X ((al5 Rs).take j)
  rw [List.length_append] at wl
  rw [List.length_take] at il2
  refine if_thn (fun H'' => H'' = H4 ∧ Pm.ok X Y = true) (fun H'' hh => ?_) (fun go => ?_)
  · obtain ⟨rfl, h⟩ := hh
    refine ⟨_, rfl, .inl ⟨rfl, _, SqL.of hws⟩, _, rfl, _, rfl, _, rfl, _, rfl, szl (by show 4 ≤ 1000000; decide), fun r hr => ?_⟩
    have s6 := same_new hr (.tup [V.int (X.k : Int), V.int (X.a : Int), V.int (Y.k : Int), V.int (Y.a : Int)])
    have hw6 := s6 _ _ hws
    refine ⟨fo, _, _, rfl, rfl, hw6, szlt (by omega), ?_⟩
    have tk := TK.upd (o := .lst (ws ++ [V.ref r])) hw6
    refine ⟨ws ++ [.ref r], _, _, _, rfl, fun b o hb h => by rw [upd_ne hb]; exact s6 _ _ (k4 b o hb h), upd_same, ?_⟩
    rw [take_snoc hY, Pm.in1_snoc, h, if_pos rfl, ← List.append_assoc]
    exact (aw.mono fun _ _ z => (z.over s6).tk tk).snoc ⟨r, rfl, tk _ _ upd_same⟩
  have no : Pm.ok X Y = false → All2 (Q4At H4) ws (Pm.mtF ((al5 Rs).take i) (al5 Rs) ++ Pm.in1 X ((al5 Rs).take (j + 1))) := fun h => by
    rw [take_snoc hY, Pm.in1_snoc, h, if_neg (by decide), List.append_nil]
    exact aw
  refine ⟨_, rfl, u, _, 1, _, rfl, rfl, SqT.of hu4, rfl, _, rfl, u2, _, 1, _, rfl, rfl, SqT.of hu2, rfl, rfl, _, rfl, ?_⟩
  by_cases cz : X.z = Y.z
  · refine iteE (v := true) (decide_eq_true (congrArg V.str cz)) (iteT ?_)
    refine ⟨_, rfl, u, _, 0, _, rfl, rfl, SqT.of hu4, rfl, _, rfl, ?_⟩
    cases cb : X.b with
    | true => exact iteT (go _ ⟨rfl, by unfold Pm.ok; rw [decide_eq_true cz, cb]; rfl⟩)
    | false =>
      refine iteF ?_
      refine ⟨_, rfl, u2, _, 0, _, rfl, rfl, SqT.of hu2, rfl, _, rfl, ?_⟩
      cases cd : Y.b with
      | true => exact iteT (go _ ⟨rfl, by unfold Pm.ok; rw [decide_eq_true cz, cb, cd]; rfl⟩)
      | false => exact iteF ⟨ws, _, _, _, rfl, k4, hws, no (by unfold Pm.ok; rw [cb, cd, Bool.or_self, Bool.and_false])⟩
  · refine iteE (v := false) (decide_eq_false fun z => cz (V.str.inj z)) (iteF ?_)
    exact ⟨ws, _, _, _, rfl, k4, hws, no (by unfold Pm.ok; rw [decide_eq_false cz]; rfl)⟩

theorem ok_alike_numbers (T : Tx K mg a) : FnOk P w K mg base CX0 1 a.f_alike_numbers a.d_alike_numbers ["path", "other", "most"] spAlikeN := by
  refine T.F_alike_numbers.ok sc_alike_numbers (fun vs H Q E h => ?_) (fun cdv A outer s H vs Q E hr h => ?_)
  · obtain ⟨_, _, _, _, _, _, rfl, _⟩ := h; rfl
  obtain ⟨p1, p2, xs, ys, m, k, rfl, hp1, hp2, hm1, hm2, hm3, hkm, ke, kn, q⟩ := h
  refine ⟨_, (pss_cons (ps_for PassesOwn.never rfl (pi_range1 (by rfl) T.z_range (pa_cons (pv 2) pa_nil)) (pg_name (i := 3) sc_alike_numbers.nd rfl (Or.inl rfl))
    (pss_one (ps_if (pt_cmpR op_ne (pe_ix ix_tup (pv 0) (pv 3) (fun _ _ => rfl)) (pe_ix ix_tup (pv 1) (pv 3) (fun _ _ => rfl)) (nomark _))
    (pss_one (ps_ret (pv 3)))
    pss_nil)))
    (pss_one (ps_ret (pv 2)))), ?_⟩
  refine ⟨_, rfl, _, rfl, by omega, by omega, ?_⟩
  refine for_range (lo := 0) (n := m) (fun i σ' H' => H' = H ∧ (∃ o, σ' = [some (.ref p1), some (.ref p2), some (.int (m : Int)), o]) ∧ i ≤ k) ⟨rfl, ⟨_, rfl⟩, Nat.zero_le _⟩ (fun i σ' H' hi p => ?_) (fun σ' H' p => ?_)
  · obtain ⟨rfl, ⟨o, rfl⟩, hik⟩ := p
    have a1 : atI (xs.map V.int) (0 + (i : Int)) = some (.int (xs.getD i 0)) := by
      have := cell_in (ns := xs) (k := 0 + (i : Int)) (by omega) (by omega)
      rwa [show (0 + (i : Int)).toNat = i by rw [Int.zero_add]; rfl] at this
    have a2 : atI (ys.map V.int) (0 + (i : Int)) = some (.int (ys.getD i 0)) := by
      have := cell_in (ns := ys) (k := 0 + (i : Int)) (by omega) (by omega)
      rwa [show (0 + (i : Int)).toNat = i by rw [Int.zero_add]; rfl] at this
    refine ⟨_, rfl, _, rfl, p1, _, _, _, rfl, rfl, SqT.of hp1, a1, ?_⟩
    refine ⟨_, rfl, _, rfl, p2, _, _, _, rfl, rfl, SqT.of hp2, a2, rfl, _, rfl, ?_⟩
    by_cases hk : i < k
    · refine iteE (ndF (congrArg V.int (ke i hk))) (iteF ?_)
      exact ⟨rfl, ⟨_, rfl⟩, hk⟩
    · have e : i = k := by omega
      subst e
      refine iteE (ndT (fun z => kn hi (V.int.inj z))) (iteT ?_)
      exact ⟨_, rfl, by rw [Int.zero_add]; exact q⟩
  · obtain ⟨rfl, ⟨o, rfl⟩, hik⟩ := p
    have e : m = k := by omega
    subst e
    exact ⟨_, rfl, q⟩

theorem ok_shared (T : Tx K mg a) : FnOk P w K mg base CX0 2 a.f_shared a.d_shared ["one", "other"] (spShared55 a.c_Deed (csOf a)) := by
  have G_alike_numbers := ok_alike_numbers (P := P) (w := w) (base := base) T
  refine T.F_shared.ok sc_shared (fun vs H Q E h => ?_) (fun cdv A outer s H vs Q E hr h => ?_)
  · obtain ⟨_, _, _, _, _, rfl, _⟩ := h; rfl
  obtain ⟨x, y, R, S, k, rfl, hx, hy, oR, oS, ⟨k1, k2, ke, kn⟩, q⟩ := h
  refine ⟨_, (pss_one (ps_ret (pe_call G_alike_numbers (hr.mono (by omega)) (by rfl) T.m_alike_numbers T.F_alike_numbers.kp T.b_alike_numbers .nil pass0 (pa_cons (pe_fld (pv 0) rfl) (pa_cons (pe_fld (pv 1) rfl) (pa_cons (pe_callB (call_min2 rfl) (by rfl) T.z_min bt_min (pa_cons (pe_callB call_len_seq (by rfl) T.z_len bt_len (pa_cons (pe_fld (pv 0) rfl) pa_nil)) (pa_cons (pe_callB call_len_seq (by rfl) T.z_len bt_len (pa_cons (pe_fld (pv 1) rfl) pa_nil)) pa_nil))) pa_nil)))))), ?_⟩
  obtain ⟨d1, dx1, nm1, pt1, _, _, _, xs1, rfl, hd1, hn1, l1, hp1, _⟩ := hx
  obtain ⟨d2, dx2, nm2, pt2, _, _, _, xs2, rfl, hd2, hn2, l2, hp2, _⟩ := hy
  have p1 := oR.pl
  have p2 := oS.pl
  have q1 := oR.n3
  have q2 := oS.n3
  have hm : (if ((xs2.length : Nat) : Int) < ((xs1.length : Nat) : Int) then ((xs2.length : Nat) : Int) else ((xs1.length : Nat) : Int)) = ((min R.n S.n : Nat) : Int) := by split <;> omega
  refine ⟨_, rfl, d1, _, dx1, _, _, rfl, hd1, T.cl_Deed, T.n_Deed_path, rfl, _, rfl, d2, _, dx2, _, _, rfl, hd2, T.cl_Deed, T.n_Deed_path, rfl, ?_⟩
  refine ⟨_, rfl, d1, _, dx1, _, _, rfl, hd1, T.cl_Deed, T.n_Deed_names, rfl, nm1, _, rfl, .inr (SqT.of hn1), ?_⟩
  refine ⟨_, rfl, d2, _, dx2, _, _, rfl, hd2, T.cl_Deed, T.n_Deed_names, rfl, nm2, _, rfl, .inr (SqT.of hn2), ?_⟩
  refine ⟨_, _, rfl, ?_⟩
  rw [hm]
  exact ⟨pt1, pt2, R.path, S.path, min R.n S.n, k, rfl, hp1, hp2, by omega, by omega, by omega, by omega, ke, kn, q⟩

theorem ok_cases (T : Tx K mg a) : FnOk P w K mg base CX0 3 a.f_cases a.d_cases ["program", "k", "l"] (spCases55 a.c_Program a.c_Deed (csOf a)) := by
  have G_shared := ok_shared (P := P) (w := w) (base := base) T
  refine T.F_cases.ok sc_cases (fun vs H Q E h => ?_) (fun cdv A outer s H vs Q E hr h => ?_)
  · obtain ⟨_, _, _, _, _, _, _, rfl, _⟩ := h; rfl
  obtain ⟨v, Rs, k, l, n, R, S, rfl, ⟨x, dx, dl, sz, xs, rfl, hx, hdl, ax⟩, ok, hR, hS, pf, q⟩ := h
  refine ⟨_, (pss_cons (ps_set (i := 3) sc_cases.nd rfl (Or.inl rfl) (pe_call G_shared (hr.mono (by omega)) (by rfl) T.m_shared T.F_shared.kp T.b_shared .nil pass0 (pa_cons (pe_ix ix_list (pe_fld (pv 0) rfl) (pv 1) (fun _ _ => rfl)) (pa_cons (pe_ix ix_list (pe_fld (pv 0) rfl) (pv 2) (fun _ _ => rfl)) pa_nil))))
    (pss_cons (ps_if (pt_cmpR op_lt (pv 1) (pv 2) (nomark _))
    (pss_one (ps_aug (i := 3) sc_cases.nd rfl (Or.inl rfl) pe_int ip_add))
    pss_nil)
    (pss_one (ps_ret (pe_lrange rfl (by rfl) T.z_list (by rfl) T.z_range (pa_cons (pv 3) pa_nil)))))), ?_⟩
  obtain ⟨y1, hy1, d1⟩ := ax.get hR
  obtain ⟨y2, hy2, d2⟩ := ax.get hS
  have oR := ok R (List.mem_of_getElem? hR)
  have k1 := pf.1
  have k3 := oR.n3
  refine ⟨_, rfl, x, _, dx, _, _, rfl, hx, T.cl_Program, T.n_Program_deeds, rfl, _, rfl, dl, _, _, _, rfl, rfl, SqL.of hdl, atI_nat hy1, _, rfl, x, _, dx, _, _, rfl, hx, T.cl_Program, T.n_Program_deeds, rfl, _, rfl, dl, _, _, _, rfl, rfl, SqL.of hdl, atI_nat hy2, y1, y2, R, S, n, rfl, d1, d2, oR, ok S (List.mem_of_getElem? hS), pf, ?_⟩
  dsimp only [gName]
  refine seq_any (fun σ' H' => H' = H ∧ σ' = [some (.ref x), some (.int (k : Int)), some (.int (l : Int)), some (.int ((caN k l n : Nat) : Int))]) (fun σ' H' pp => ?_) (fun nx => ?_)
  · obtain ⟨rfl, rfl⟩ := pp
    have c4 : caN k l n ≤ 4 := by unfold caN; split <;> omega
    exact ⟨_, rfl, caN k l n, rfl, by omega, fun r hr => q r _ (same_new hr _) hr upd_same⟩
  refine ⟨_, rfl, _, rfl, _, _, rfl, rfl, _, rfl, ite2 (fun c => ?_) (fun c => ?_)⟩
  · have c := dT c
    have : caN k l n = n + 1 := if_pos (by omega)
    exact ⟨_, rfl, _, _, rfl, rfl, nx _ _ ⟨rfl, by rw [this]; rfl⟩⟩
  · have c := dF c
    have : caN k l n = n := if_neg (by omega)
    exact nx _ _ ⟨rfl, by rw [this]; rfl⟩

theorem ok_lshared (T : Tx K mg a) : FnOk P w K mg base CX0 1 a.f_l_shared a.d_l_shared ["_law_one", "_law_other_here"] spSharedL55 := by
  refine T.F_l_shared.ok sc_l_shared (fun vs H Q E h => ?_) (fun cdv A outer s H vs Q E hr h => ?_)
  · obtain ⟨_, _, _, _, _, rfl, _⟩ := h; rfl
  obtain ⟨x, y, R, S, k, rfl, hx, hy, oR, oS, ⟨k1, k2, ke, kn⟩, q⟩ := h
  refine ⟨_, (pss_cons (ps_set (i := 2) sc_l_shared.nd rfl (Or.inl rfl) pe_int)
    (pss_cons (ps_while PassesOwn.never ((pw_and (pt_cmpR op_lt (pv 2) (pe_callB call_len_seq (by rfl) T.z_len bt_len (pa_cons (pe_ix ix_tup (pv 0) pe_int (fun _ _ => rfl)) pa_nil)) (nomark _)) (pw_and (pt_cmpR op_lt (pv 2) (pe_callB call_len_seq (by rfl) T.z_len bt_len (pa_cons (pe_ix ix_tup (pv 1) pe_int (fun _ _ => rfl)) pa_nil)) (nomark _)) (pw_and1 (pt_cmpR op_eq (pe_ix ix_tup (pe_ix ix_tup (pv 0) pe_int (fun _ _ => rfl)) (pv 2) (fun _ _ => rfl)) (pe_ix ix_tup (pe_ix ix_tup (pv 1) pe_int (fun _ _ => rfl)) (pv 2) (fun _ _ => rfl)) (nomark _)))))).pt
    (pss_one (ps_set (i := 2) sc_l_shared.nd rfl (Or.inl rfl) (pe_op op_add (pv 2) pe_int))))
    (pss_one (ps_ret (pv 2))))), ?_⟩
  obtain ⟨r1, u1, w1, _, _, _, xs1, rfl, hr1, hu1, l1, _, hw1, _⟩ := hx
  obtain ⟨r2, u2, w2, _, _, _, xs2, rfl, hr2, hu2, l2, _, hw2, _⟩ := hy
  have p1 := oR.pl
  have p2 := oS.pl
  have q1 := oR.n3
  refine seq_asgC ?_
  refine seq_any (fun σ' H' => H' = H ∧ σ' = [some (.ref r1), some (.ref r2), some (.int (k : Int))]) (fun σ' H' pp => ?_) (fun nx => ?_)
  · obtain ⟨rfl, rfl⟩ := pp
    exact ⟨_, rfl, q⟩
  refine while_ix k (fun i σ' H' => H' = H ∧ σ' = [some (.ref r1), some (.ref r2), some (.int (i : Int))] ∧ i ≤ k) ⟨rfl, rfl, Nat.zero_le _⟩ (fun i σ' H' hi pp => ?_) (MT.and (MT.test (ME.op (MR.i0 _) (ME.var _) (ME.cb MB.len (MA.cons (ME.op (MR.ixT _) (ME.var _) (ME.c _)) MA.nil)))) (MT.and (MT.test (ME.op (MR.i0 _) (ME.var _) (ME.cb MB.len (MA.cons (ME.op (MR.ixT _) (ME.var _) (ME.c _)) MA.nil)))) (MT.test (ME.op MR.eq (ME.op (MR.ixT _) (ME.op (MR.ixT _) (ME.var _) (ME.c _)) (ME.var _)) (ME.op (MR.ixT _) (ME.op (MR.ixT _) (ME.var _) (ME.c _)) (ME.var _))))))
  · obtain ⟨rfl, rfl, ik⟩ := pp
    refine ⟨_, rfl, _, rfl, r1, _, 0, _, rfl, rfl, SqT.of hr1, rfl, u1, _, rfl, .inr (SqT.of hu1), _, _, rfl, rfl, _, rfl, ite2 (fun c => ?_) (fun c => ?_)⟩
    rotate_left
    · have c := dF c
      have e : i = k := by omega
      subst e
      exact nx _ _ ⟨rfl, rfl⟩
    have c := dT c
    refine ⟨_, rfl, _, rfl, r2, _, 0, _, rfl, rfl, SqT.of hr2, rfl, u2, _, rfl, .inr (SqT.of hu2), _, _, rfl, rfl, _, rfl, ite2 (fun c2 => ?_) (fun c2 => ?_)⟩
    rotate_left
    · have c2 := dF c2
      have e : i = k := by omega
      subst e
      exact nx _ _ ⟨rfl, rfl⟩
    have c2 := dT c2
    have at1 : atI (R.path.map V.int) (i : Int) = some (.int (R.path.getD i 0)) := cell_in (ns := R.path) (k := (i : Int)) (Int.natCast_nonneg _) (by omega)
    have at2 : atI (S.path.map V.int) (i : Int) = some (.int (S.path.getD i 0)) := cell_in (ns := S.path) (k := (i : Int)) (Int.natCast_nonneg _) (by omega)
    refine ⟨_, rfl, r1, _, 6, _, rfl, rfl, SqT.of hr1, rfl, _, rfl, w1, _, _, _, rfl, rfl, SqT.of hw1, at1, _, rfl, r2, _, 6, _, rfl, rfl, SqT.of hr2, rfl, _, rfl, w2, _, _, _, rfl, rfl, SqT.of hw2, at2, rfl, _, rfl, ?_⟩
    by_cases hk : i < k
    · refine iteE (v := true) (decide_eq_true (congrArg V.int (ke i hk))) (iteT ?_)
      exact ⟨hk, _, rfl, _, _, rfl, rfl, rfl, rfl, hk⟩
    · have e : i = k := by omega
      subst e
      refine iteE (v := false) (decide_eq_false fun z => kn (by omega) (V.int.inj z)) (iteF ?_)
      exact nx _ _ ⟨rfl, rfl⟩

theorem ok_lcases (T : Tx K mg a) : FnOk P w K mg base CX0 2 a.f_l_cases a.d_l_cases ["_law_rows_here", "_law_k", "_law_l"] spCasesL55 := by
  have G_l_shared := ok_lshared (P := P) (w := w) (base := base) T
  refine T.F_l_cases.ok sc_l_cases (fun vs H Q E h => ?_) (fun cdv A outer s H vs Q E hr h => ?_)
  · obtain ⟨_, _, _, _, _, _, _, rfl, _⟩ := h; rfl
  obtain ⟨l0, Rs, k, l, n, R, S, rfl, ⟨xs, hl0, ax⟩, ok, hR, hS, pf, q⟩ := h
  refine ⟨_, (pss_cons (ps_set (i := 3) sc_l_cases.nd rfl (Or.inr rfl) (pe_call G_l_shared (hr.mono (by omega)) (by rfl) T.m_l_shared T.F_l_shared.kp T.b_l_shared .nil pass0 (pa_cons (pe_ix ix_list (pv 0) (pv 1) (fun _ _ => rfl)) (pa_cons (pe_ix ix_list (pv 0) (pv 2) (fun _ _ => rfl)) pa_nil))))
    (pss_one (ps_ret (pe_compB ["_law_e", "_law_k", "_law_l", "_law_many"] [none, some 1, some 2, some 3] (by rfl) (pi_range1 (by rfl) T.z_range (pa_cons (pe_op op_add (pv 3) pe_int) pa_nil)) c_l_cases_0 (fun _ _ _ _ _ _ => ⟨(pg_name (i := 0) c_l_cases_0n rfl (Or.inl rfl)), (pts_one ((pw_or (pt_cmpR op_lt (pv 0) (pv 3) (nomark _)) (pw_or1 (pt_cmpR op_lt (pv 1) (pv 2) (nomark _))))).pt), (pv 0)⟩))))), ?_⟩
  obtain ⟨y1, hy1, d1⟩ := ax.get hR
  obtain ⟨y2, hy2, d2⟩ := ax.get hS
  have oR := ok R (List.mem_of_getElem? hR)
  have k1 := pf.1
  have k3 := oR.n3
  refine ⟨_, rfl, _, rfl, l0, _, _, _, rfl, rfl, SqL.of hl0, atI_nat hy1, _, rfl, _, rfl, l0, _, _, _, rfl, rfl, SqL.of hl0, atI_nat hy2, y1, y2, R, S, n, rfl, d1, d2, oR, ok S (List.mem_of_getElem? hS), pf, ?_⟩
  dsimp only [gName]
  refine ⟨_, rfl, _, _, rfl, rfl, _, rfl, by omega, by omega, ?_⟩
  refine comp_range (n := n + 1) (fun m ys H' => H' = H ∧ ys = (List.range (if k < l then m else min m n)).map (fun i : Nat => V.int (i : Int))) ⟨rfl, by split <;> simp⟩ (szl (by omega)) (fun m ys H' hm pp => by rw [pp.2, List.length_map, List.length_range]; split <;> omega) (fun m ys H' hm pp => ?_) (fun ys H' pp r hr => ?_)
  · obtain ⟨rfl, rfl⟩ := pp
    have grow : (k < l ∨ m < n) → (List.range (if k < l then m else min m n)).map (fun i : Nat => V.int (i : Int)) ++ [V.int (0 + (m : Int))] = (List.range (if k < l then m + 1 else min (m + 1) n)).map (fun i : Nat => V.int (i : Int)) := fun h => by
      have e1 : (if k < l then m else min m n) = m := by split <;> omega
      have e2 : (if k < l then m + 1 else min (m + 1) n) = m + 1 := by split <;> omega
      rw [e1, e2, List.range_succ, List.map_append, Int.zero_add]
      rfl
    refine ⟨_, rfl, _, rfl, _, _, rfl, rfl, _, rfl, ite2 (fun c => ?_) (fun c => ?_)⟩
    · have c := dT c
      exact iteT ⟨_, rfl, rfl, grow (.inr (by omega))⟩
    have c := dF c
    refine ⟨_, rfl, _, rfl, _, _, rfl, rfl, _, rfl, ?_⟩
    by_cases c2 : (k : Int) < (l : Int)
    · refine iteE (v := true) (decide_eq_true c2) (iteT ⟨_, rfl, rfl, grow (.inl (by omega))⟩)
    · refine iteE (v := false) (decide_eq_false c2) (iteF ⟨rfl, ?_⟩)
      rw [if_neg (by omega), if_neg (by omega), Nat.min_eq_right (by omega), Nat.min_eq_right (by omega)]
  obtain ⟨rfl, rfl⟩ := pp
  refine q r _ (same_new hr _) ?_
  rw [upd_same]
  have : (if k < l then n + 1 else min (n + 1) n) = caN k l n := by unfold caN; split <;> omega
  rw [this]

theorem ok_around (T : Tx K mg a) : FnOk P w K mg base CX0 1 a.f_l_around a.d_l_around ["_law_names", "_law_values"] spAround := by
  refine T.F_l_around.ok sc_l_around (fun vs H Q E h => ?_) (fun cdv A outer s H vs Q E hr h => ?_)
  · obtain ⟨_, _, _, _, rfl, _⟩ := h; rfl
  obtain ⟨nm, vt, zs, W, rfl, hn, hv, hle, hl, nd, q⟩ := h
  refine ⟨_, (pss_cons (ps_set (i := 2) sc_l_around.nd rfl (Or.inl rfl) pe_dnewK)
    (pss_cons (ps_for PassesOwn.never rfl (pi_zipT (by rfl) T.z_zip (pa_cons (pv 0) (pa_cons (pv 1) pa_nil))) (pg_tup rfl (pgs_cons (pg_name (i := 3) sc_l_around.nd rfl (Or.inl rfl)) (pgs_cons (pg_name (i := 4) sc_l_around.nd rfl (Or.inl rfl)) pgs_nil)))
    (pss_one (ps_dput (hu_of hr) (pv 2) (pv 3) (pv 4) rfl)))
    (pss_one (ps_ret (pv 2))))), ?_⟩
  intro d hd
  have e1 := same_new hd (.dK [])
  have hd1 : (upd H d (.dK [])) d = some (.dK []) := upd_same
  dsimp only [gName]
  generalize upd H d (.dK []) = H1 at e1 hd1
  refine ⟨_, rfl, _, rfl, nm, vt, rfl, ⟨_, SqT.of (e1 _ _ hn)⟩, ⟨_, SqT.of (e1 _ _ hv)⟩, ?_⟩
  refine for_zipU (xs := zs.map V.str) (ys := W.map V.int) (by rw [List.length_map, List.length_map]; exact hle) (fun i σ' H' => Same H H' ∧ (∃ o3 o4, σ' = [some (.ref nm), some (.ref vt), some (.ref d), o3, o4]) ∧ ∃ kvs : List (Key × V), H' d = some (.dK kvs) ∧ kvs.length ≤ i ∧ ∀ (j : Nat) (z : Str), j < i → zs[j]? = some z → valV kvs (Sum.inr z : Key) = some (.int (W.getD j 0))) ⟨e1, ⟨_, _, rfl⟩, [], hd1, Nat.le_refl _, fun j z hj => by omega⟩ (fun i σ' H' _ pp => ⟨SqT.of (pp.1 _ _ hn), SqT.of (pp.1 _ _ hv)⟩) (fun i x y Tt σ' H' hx hy pp hT => ?_) (fun σ' H' pp => ?_)
  · obtain ⟨e, ⟨o3, o4, rfl⟩, kvs, hk, kl, kv⟩ := pp
    rw [List.getElem?_map] at hx hy
    obtain ⟨z, hz, rfl⟩ := Option.map_eq_some_iff.mp hx
    obtain ⟨n, hn', rfl⟩ := Option.map_eq_some_iff.mp hy
    have sT := same_new hT (.tup [V.str z, V.int n])
    have hk2 := sT _ _ hk
    have hi := (List.getElem?_eq_some_iff.mp hn').1
    refine ⟨Tt, _, rfl, SqT.of upd_same, rfl, _, _, rfl, _, _, rfl, rfl, ?_⟩
    refine ⟨_, rfl, _, rfl, _, rfl, d, _, rfl, DPut.k (k := Sum.inr z) hk2 (szlt (by omega)), ?_⟩
    refine ⟨fun a o ha => by rw [upd_ne (ne_of_none ha hd)]; exact sT _ _ (e _ _ ha), ⟨_, _, rfl⟩, _, upd_same, Nat.le_trans len_put (by omega), fun j z' hj hz' => ?_⟩
    by_cases c : j = i
    · subst c
      rw [hz] at hz'
      cases hz'
      rw [valV_put, if_pos rfl, List.getD_eq_getElem?_getD, hn']
      rfl
    · rw [valV_put, if_neg (fun w => ?_)]
      · exact kv j z' (by omega) hz'
      · have w := Sum.inr.inj w
        subst w
        obtain ⟨l1, a1⟩ := List.getElem?_eq_some_iff.mp hz'
        obtain ⟨l2, a2⟩ := List.getElem?_eq_some_iff.mp hz
        exact List.pairwise_iff_getElem.mp nd j i l1 l2 (by omega) (by rw [a1, a2])
  · obtain ⟨e, ⟨o3, o4, rfl⟩, kvs, hk, kl, kv⟩ := pp
    rw [List.length_map] at kv
    exact ⟨_, rfl, q d kvs _ e hk kv⟩

theorem ok_stand54 (T : Tx K mg a) : FnOk P w K mg base CX0 1 a.f_l_stand a.d_l_stand ["_law_spots_here", "_law_around_here"] spStand54 := by
  refine T.F_l_stand.ok sc_l_stand (fun vs H Q E h => ?_) (fun cdv A outer s H vs Q E hr h => ?_)
  · obtain ⟨_, _, _, _, _, _, _, rfl, _⟩ := h; rfl
  obtain ⟨sp, d, m, z, n, b, kvs, rfl, ⟨xs, hs, xl, hxs⟩, m1, hd, hb, q⟩ := h
  refine ⟨_, (pss_cons (ps_set (i := 2) sc_l_stand.nd rfl (Or.inl rfl) (pe_lst pa_nil))
    (pss_cons (ps_for PassesOwn.never rfl (pi_tup (pv 0)) (pg_tup rfl (pgs_cons (pg_name (i := 3) sc_l_stand.nd rfl (Or.inl rfl)) (pgs_cons (pg_name (i := 4) sc_l_stand.nd rfl (Or.inl rfl)) pgs_nil)))
    (pss_one (ps_if (pt_cmpR op_eq (pv 3) pe_str (nomark _))
    (pss_one (ps_expr (pe_bm PySem.F.plainAttrs_list PySem.F.slot_list_append PySem.F.type_list_append mt_append (pv 2) (pa_cons (pv 4) pa_nil))))
    (pss_one (ps_expr (pe_bm PySem.F.plainAttrs_list PySem.F.slot_list_append PySem.F.type_list_append mt_append (pv 2) (pa_cons (pe_op op_add (pe_dget (hu_of hr) (pv 1) (pv 3) (fun _ _ => rfl)) (pv 4)) pa_nil)))))))
    (pss_one (ps_ret (pe_callTy call_tuple_of (by rfl) T.z_tuple bt_tuple (pa_cons (pv 2) pa_nil)))))), ?_⟩
  refine ⟨szl (by show 0 ≤ 1000000; decide), fun l hl => ?_⟩
  have e1 := same_new hl (.lst [])
  have hl1 : (upd H l (.lst [])) l = some (.lst []) := upd_same
  dsimp only [gName]
  generalize upd H l (.lst []) = H1 at e1 hl1
  refine ⟨_, rfl, sp, rfl, ⟨_, SqT.of (e1 _ _ hs)⟩, ?_⟩
  refine for_tup (xs := xs) (fun i σ' H' => Same H H' ∧ (∃ o3 o4, σ' = [some (.ref sp), some (.ref d), some (.ref l), o3, o4]) ∧ H' l = some (.lst ((vsL i fun i => b i + n i).map V.int))) ⟨e1, ⟨_, _, rfl⟩, hl1⟩ (fun i σ' H' _ pp => SqT.of (pp.1 _ _ hs)) (fun i x σ' H' hx pp => ?_) (fun σ' H' pp => ?_)
  · obtain ⟨e, ⟨o3, o4, rfl⟩, hl'⟩ := pp
    obtain ⟨t, rfl, ht⟩ := hxs i x hx
    have hi := (List.getElem?_eq_some_iff.mp hx).1
    have ln : ((vsL i fun i => b i + n i).map V.int).length ≤ 100 := by rw [List.length_map, vsL_len]; omega
    have nx : (vsL (i + 1) fun i => b i + n i).map V.int = (vsL i fun i => b i + n i).map V.int ++ [V.int (b i + n i)] := by rw [vsL_s, List.map_append]; rfl
    rw [nx]
    generalize (vsL i fun i => b i + n i).map V.int = ys at hl' ln
    have hbi := hb i (by omega)
    refine ⟨t, _, rfl, SqT.of (e _ _ ht), rfl, _, _, rfl, _, _, rfl, rfl, ?_⟩
    refine ⟨_, rfl, rfl, _, rfl, ?_⟩
    rcases hbi with ⟨hz, hb0⟩ | ⟨hz, hv⟩
    · refine iteE (v := true) (decide_eq_true (by rw [hz])) (iteT ?_)
      refine ⟨_, rfl, .inl ⟨rfl, _, SqL.of hl'⟩, _, rfl, l, _, _, rfl, rfl, hl', szlt (by omega), ?_⟩
      rw [hb0, Int.zero_add]
      exact ⟨fun a o ha => by rw [upd_ne (ne_of_none ha hl)]; exact e _ _ ha, ⟨_, _, rfl⟩, upd_same⟩
    · refine iteE (v := false) (dS hz) (iteF ?_)
      refine ⟨_, rfl, .inl ⟨rfl, _, SqL.of hl'⟩, _, rfl, _, rfl, d, _, rfl, (show DGet H' d (kV (Sum.inr (z i))) _ from hv ▸ DGet.k (e _ _ hd)), _, rfl, _, _, rfl, rfl, l, _, _, rfl, rfl, hl', szlt (by omega), ?_⟩
      exact ⟨fun a o ha => by rw [upd_ne (ne_of_none ha hl)]; exact e _ _ ha, ⟨_, _, rfl⟩, upd_same⟩
  · obtain ⟨e, ⟨o3, o4, rfl⟩, hl'⟩ := pp
    rw [xl] at hl'
    refine ⟨_, rfl, l, _, rfl, .inl ⟨SqL.of hl', fun t ht => ?_⟩⟩
    exact q t _ (e.trans (same_new ht _)) upd_same

theorem ok_levels54 (T : Tx K mg a) : FnOk P w K mg base CX0 3 a.f_l_levels a.d_l_levels ["_law_row_here"] (spLevels54) := by
  have G_l_around := ok_around (P := P) (w := w) (base := base) T
  have G_l_stand := ok_stand54 (P := P) (w := w) (base := base) T
  refine T.F_l_levels.ok sc_l_levels (fun vs H Q E h => ?_) (fun cdv A outer s H vs Q E hr h => ?_)
  · obtain ⟨_, _, rfl, _⟩ := h; rfl
  obtain ⟨v, R, rfl, hv, rg, lb, q⟩ := h
  refine ⟨_, (pss_cons (ps_set (i := 1) sc_l_levels.nd rfl (Or.inl rfl) (pe_lst (pa_cons (pe_lst (pa_cons (pe_tup pa_nil) pa_nil)) pa_nil)))
    (pss_cons (ps_for PassesOwn.never rfl (pi_range1 (by rfl) T.z_range (pa_cons (pe_callB call_len_seq (by rfl) T.z_len bt_len (pa_cons (pe_ix ix_tup (pv 0) pe_int (fun _ _ => rfl)) pa_nil)) pa_nil)) (pg_name (i := 2) sc_l_levels.nd rfl (Or.inl rfl))
    (pss_cons (ps_set (i := 3) sc_l_levels.nd rfl (Or.inl rfl) (pe_lst pa_nil))
    (pss_cons (ps_for PassesOwn.never rfl (pi_list (pe_ix ix_list (pv 1) (pe_un un_neg pe_int) (fun _ _ => rfl))) (pg_name (i := 4) sc_l_levels.nd rfl (Or.inl rfl))
    (pss_cons (ps_asg (pe_call G_l_stand (hr.mono (by omega)) (by rfl) T.m_l_stand T.F_l_stand.kp T.b_l_stand .nil pass0 (pa_cons (pe_tup (pa_cons (pe_ix ix_tup (pe_ix ix_tup (pv 0) pe_int (fun _ _ => rfl)) (pv 2) (fun _ _ => rfl)) (pa_cons (pe_ix ix_tup (pe_ix ix_tup (pv 0) pe_int (fun _ _ => rfl)) (pv 2) (fun _ _ => rfl)) pa_nil))) (pa_cons (pe_call G_l_around (hr.mono (by omega)) (by rfl) T.m_l_around T.F_l_around.kp T.b_l_around .nil pass0 (pa_cons (pe_ix ix_tup (pv 0) pe_int (fun _ _ => rfl)) (pa_cons (pv 4) pa_nil))) pa_nil))) (pg_tup rfl (pgs_cons (pg_name (i := 5) sc_l_levels.nd rfl (Or.inl rfl)) (pgs_cons (pg_name (i := 6) sc_l_levels.nd rfl (Or.inl rfl)) pgs_nil))))
    (pss_one (ps_while PassesOwn.never (pt_cmpR op_le (pv 5) (pv 6) (nomark _))
    (pss_cons (ps_expr (pe_bm PySem.F.plainAttrs_list PySem.F.slot_list_append PySem.F.type_list_append mt_append (pv 3) (pa_cons (pe_op op_catH (pv 4) (pe_tup (pa_cons (pv 5) pa_nil))) pa_nil)))
    (pss_one (ps_set (i := 5) sc_l_levels.nd rfl (Or.inl rfl) (pe_op op_add (pv 5) pe_int))))))))
    (pss_one (ps_expr (pe_bm PySem.F.plainAttrs_list PySem.F.slot_list_append PySem.F.type_list_append mt_append (pv 1) (pa_cons (pv 3) pa_nil)))))))
    (pss_one (ps_ret (pv 1))))), ?_⟩
  obtain ⟨r, u1, u2, u3, u4, x, ls, hs, rfl, hr1, hu1, hu2, als, hu3, ahs, hu4, tm⟩ := hv
  have ll := rg.ll
  have nl : ((nmsOf R.S).map V.str).length = R.S.length := by unfold nmsOf; rw [List.length_map, List.length_map]
  have nml : (nmsOf R.S).length = R.S.length := by unfold nmsOf; rw [List.length_map]
  refine ⟨szl (by show 0 ≤ 1000000; decide), fun t0 ht0 => ⟨szl (by show 1 ≤ 1000000; decide), fun l0 hl0 => ⟨szl (by show 1 ≤ 1000000; decide), fun lv hlv => ?_⟩⟩⟩
  have s0 := (same_new ht0 (.tup [])).trans ((same_new hl0 (.lst [V.ref t0])).trans (same_new hlv (.lst [V.ref l0])))
  have k2 : (upd (upd (upd H t0 (.tup [])) l0 (.lst [V.ref t0])) lv (.lst [V.ref l0])) l0 = some (.lst [V.ref t0]) := same_new hlv _ _ _ upd_same
  have k1 : (upd (upd (upd H t0 (.tup [])) l0 (.lst [V.ref t0])) lv (.lst [V.ref l0])) t0 = some (.tup []) := same_new hlv _ _ _ (same_new hl0 _ _ _ upd_same)
  have k3 : (upd (upd (upd H t0 (.tup [])) l0 (.lst [V.ref t0])) lv (.lst [V.ref l0])) lv = some (.lst [V.ref l0]) := upd_same
  have lv0 : H lv = none := ((same_new ht0 (.tup [])).trans (same_new hl0 (.lst [V.ref t0]))).free hlv
  have n0 : l0 ≠ lv := ne_of_none upd_same hlv
  dsimp only [gName]
  generalize upd (upd (upd H t0 (.tup [])) l0 (.lst [V.ref t0])) lv (.lst [V.ref l0]) = H0 at s0 k1 k2 k3
  refine ⟨_, rfl, r, _, 0, _, rfl, rfl, SqT.of (s0 _ _ hr1), rfl, u1, _, rfl, .inr (SqT.of (s0 _ _ hu1)), _, rfl, by rw [nl]; omega, by rw [nl]; omega, ?_⟩
  rw [nl, Int.toNat_natCast]
  refine for_range (lo := 0) (n := R.S.length) (fun i σ' H' => ∃ (l : Addr) (xs ys : List V) (o2 o3 o4 o5 o6 : Option V), σ' = [some (.ref r), some (.ref lv), o2, o3, o4, o5, o6] ∧ Same H H' ∧ H' lv = some (.lst (xs ++ [.ref l])) ∧ l ≠ lv ∧ H' l = some (.lst ys) ∧ All2 (PiAt H') ys (Tn.lv (bD R.dw) i) ∧ xs.length = i) ⟨l0, [], [.ref t0], _, _, _, _, _, rfl, s0, k3, n0, k2, .one ⟨t0, rfl, k1⟩, rfl⟩ (fun i σ' H' hi pp => ?_) (fun σ' H' pp => ?_)
  rotate_left
  · obtain ⟨l, xs, ys, o2, o3, o4, o5, o6, rfl, e, hlv1, nl1, hl1, ay, xsl⟩ := pp
    exact ⟨_, rfl, q lv l xs ys _ e hlv1 hl1 ay⟩
  obtain ⟨l, xs, ys, o2, o3, o4, o5, o6, rfl, e, hlv1, nl1, hl1, ay, xsl⟩ := pp
  have hq : R.S[i]? = some R.S[i] := List.getElem?_eq_getElem hi
  generalize R.S[i] = qq at hq
  obtain ⟨v1, hv1, t1, rfl, ht1⟩ := als.get hq
  obtain ⟨v2, hv2, t2, rfl, ht2⟩ := ahs.get hq
  have i0 : (0 : Int) + (i : Int) = (i : Int) := Int.zero_add _
  have lbi := lb (i + 1) hi
  have eL : Tn.lv (bD R.dw) (i + 1) = (Tn.lv (bD R.dw) i).flatMap fun vs => (Tn.rng (bD R.dw vs).1 (bD R.dw vs).2).map fun v => vs ++ [v] := rfl
  rw [eL] at lbi
  dsimp only [gName]
  refine ⟨szl (by show 0 ≤ 1000000; decide), fun g hg => ?_⟩
  have s1 := same_new hg (.lst [])
  have hg1 : (upd H' g (.lst [])) g = some (.lst []) := upd_same
  have ng1 : lv ≠ g := ne_of_none hlv1 hg
  have ng2 : l ≠ g := ne_of_none hl1 hg
  have g0 : H g = none := e.free hg
  dsimp only [gName]
  generalize upd H' g (.lst []) = H1 at s1 hg1
  have e1 := e.trans s1
  have yl := ay.1
  refine ⟨_, rfl, _, rfl, lv, _, _, _, rfl, rfl, SqL.of (s1 _ _ hlv1), atI_last xs (.ref l), l, rfl, ⟨_, SqL.of (s1 _ _ hl1)⟩, ?_⟩
  refine for_list (xs := ys) (fun j σ' H2 => ∃ (zs : List V) (o4 o5 o6 : Option V), σ' = [some (.ref r), some (.ref lv), some (.int (0 + (i : Int))), some (.ref g), o4, o5, o6] ∧ Bt g H1 H2 ∧ H2 g = some (.lst zs) ∧ All2 (PiAt H2) zs (((Tn.lv (bD R.dw) i).take j).flatMap fun vs => (Tn.rng (bD R.dw vs).1 (bD R.dw vs).2).map fun v => vs ++ [v])) ⟨[], _, _, _, rfl, fun _ _ _ h => h, hg1, .nil⟩ (fun j σ' H2 _ pp => by obtain ⟨_, _, _, _, _, b, _⟩ := pp; exact SqL.of (b _ _ ng2 (s1 _ _ hl1))) (fun j y σ' H2 hy pp => ?_) (fun σ' H2 pp => ?_)
  rotate_left
  · obtain ⟨zs, o4, o5, o6, rfl, b, hg2, az⟩ := pp
    rw [yl, List.take_length, ← eL] at az
    have hlv2 := b _ _ ng1 (s1 _ _ hlv1)
    refine ⟨_, rfl, .inl ⟨rfl, _, SqL.of hlv2⟩, _, rfl, lv, _, _, rfl, rfl, hlv2, szlt (by rw [List.length_append, List.length_singleton]; omega), ?_⟩
    have tk : TK H2 (upd H2 lv (.lst (xs ++ [.ref l] ++ [.ref g]))) := TK.upd hlv2
    refine ⟨g, xs ++ [.ref l], zs, _, _, _, _, _, rfl, fun c o hc => ?_, upd_same, Ne.symm ng1, by rw [upd_ne (Ne.symm ng1)]; exact hg2, az.mono fun _ _ z => z.tk tk, by rw [List.length_append, xsl]; rfl⟩
    rw [upd_ne (ne_of_none hc lv0)]
    exact b _ _ (ne_of_none hc g0) (e1 _ _ hc)
  obtain ⟨zs, o4, o5, o6, rfl, b, hg2, az⟩ := pp
  obtain ⟨us, hus, t, rfl, ht⟩ := ay.get' hy
  obtain ⟨ul, up⟩ := Tn.mem_lv.mp (List.mem_of_getElem? hus)
  have tk12 := b.tk hg1
  have bH : ∀ {c : Addr} {o : HO}, H c = some o → H2 c = some o := fun {c o} hc => b _ _ (ne_of_none hc g0) (e1 _ _ hc)
  have eH2 : Same H H2 := fun c o hc => bH hc
  have ht2' : H2 t = some (.tup (us.map V.int)) := tk12 _ _ (s1 _ _ ht)
  rw [take_snoc hus, List.flatMap_append]
  have fl := Tn.flat_len (f := fun vs => (Tn.rng (bD R.dw vs).1 (bD R.dw vs).2).map fun v => vs ++ [v]) hus
  have azl := az.1
  generalize ((Tn.lv (bD R.dw) i).take j).flatMap (fun vs => (Tn.rng (bD R.dw vs).1 (bD R.dw vs).2).map fun v => vs ++ [v]) = done at az fl azl
  rw [List.length_map, Tn.rng_len] at fl
  dsimp only [gName]
  have g1 := bH hr1
  refine ⟨_, rfl, r, _, 1, _, rfl, rfl, SqT.of g1, rfl, _, rfl, u2, _, _, _, rfl, rfl, SqT.of (bH hu2), by rw [i0]; exact atI_nat hv1, _, rfl, r, _, 2, _, rfl, rfl, SqT.of g1, rfl, _, rfl, u3, _, _, _, rfl, rfl, SqT.of (bH hu3), by rw [i0]; exact atI_nat hv2, szl (by show 2 ≤ 1000000; decide), fun sp hsp => ?_⟩
  have s3 := same_new hsp (.tup [V.ref t1, V.ref t2])
  have hsp3 : (upd H2 sp (.tup [V.ref t1, V.ref t2])) sp = some (.tup [V.ref t1, V.ref t2]) := upd_same
  generalize upd H2 sp (.tup [V.ref t1, V.ref t2]) = H3 at s3 hsp3
  have e3 := eH2.trans s3
  refine ⟨_, rfl, r, _, 0, _, rfl, rfl, SqT.of (e3 _ _ hr1), rfl, _, rfl, u1, t, nmsOf R.S, us, rfl, e3 _ _ hu1, s3 _ _ ht2', by omega, by omega, rg.nd, fun d kvs H4 e4 hd4 ar => ?_⟩
  have e34 := e3.trans e4
  obtain ⟨sb1, sb2⟩ := bd_stand rg (us := us) (q := qq) (by rw [ul]; exact hq) ar
  refine ⟨sp, d, 2, _, _, _, kvs, rfl, spt_two (e4 _ _ hsp3) (e34 _ _ ht1) (e34 _ _ ht2), by decide, hd4, stb_two sb1 sb2, fun p H5 e5 hp => ?_⟩
  have hp : H5 p = some (.tup [V.int ((bD R.dw us).1 - qq.ln + qq.ln), V.int ((bD R.dw us).2 - qq.hn + qq.hn)]) := hp
  have e25 := s3.trans (e4.trans e5)
  have eF : ([us].flatMap fun vs => (Tn.rng (bD R.dw vs).1 (bD R.dw vs).2).map fun v => vs ++ [v]) = (Tn.rng (bD R.dw us).1 (bD R.dw us).2).map fun v => us ++ [v] := List.append_nil _
  rw [eF]
  rw [Int.sub_add_cancel, Int.sub_add_cancel] at hp
  generalize hlo : (bD R.dw us).1 = lo at hp fl
  generalize hhi : (bD R.dw us).2 = hi2 at hp fl
  refine ⟨p, _, rfl, SqT.of hp, rfl, _, _, rfl, _, _, rfl, rfl, ?_⟩
  have b5 : Bt g H1 H5 := b.trans (Bt.same e25)
  have hg5 := e25 _ _ hg2
  refine while_ix (hi2 + 1 - lo).toNat (fun m σ' H6 => ∃ zs2 : List V, σ' = [some (.ref r), some (.ref lv), some (.int (0 + (i : Int))), some (.ref g), some (.ref t), some (.int (lo + (m : Int))), some (.int hi2)] ∧ Bt g H1 H6 ∧ H6 g = some (.lst zs2) ∧ All2 (PiAt H6) zs2 (done ++ ((Tn.rng lo hi2).take m).map fun v => us ++ [v])) ⟨zs, by rw [show lo + ((0 : Nat) : Int) = lo by omega]; rfl, b5, hg5, by rw [List.take_zero, List.map_nil, List.append_nil]; exact az.mono fun _ _ z => z.over e25⟩ (fun m σ' H6 hm pp => ?_) (MT.test (ME.op (MR.i0 _) (ME.var _) (ME.var _)))
  obtain ⟨zs2, rfl, b6, hg6, az6⟩ := pp
  have az6l := az6.1
  rw [List.length_append, List.length_map, List.length_take, Tn.rng_len] at az6l
  refine ⟨_, rfl, _, rfl, _, _, rfl, rfl, _, rfl, ?_⟩
  by_cases c : lo + (m : Int) ≤ hi2
  · refine iteE (v := true) (decide_eq_true c) (iteT ⟨by omega, ?_⟩)
    have ht6 := b6.tk hg1 _ _ (s1 _ _ ht)
    refine ⟨_, rfl, .inl ⟨rfl, _, SqL.of hg6⟩, _, rfl, _, rfl, szl (by show 1 ≤ 1000000; decide), fun w1 hw1 => ?_⟩
    have s7 := same_new hw1 (.tup [V.int (lo + (m : Int))])
    refine ⟨t, w1, _, _, rfl, rfl, s7 _ _ ht6, upd_same, szl (by rw [List.length_map, List.length_singleton]; omega), fun p2 H7 e7 hp2 => ?_⟩
    have e67 := s7.trans e7
    have hg7 := e67 _ _ hg6
    refine ⟨g, _, _, rfl, rfl, hg7, szlt (by omega), ?_⟩
    have tk8 : TK H7 (upd H7 g (.lst (zs2 ++ [.ref p2]))) := TK.upd hg7
    refine ⟨_, rfl, _, _, rfl, rfl, ?_⟩
    refine ⟨zs2 ++ [.ref p2], by rw [show lo + ((m + 1 : Nat) : Int) = lo + (m : Int) + 1 by omega]; rfl, (b6.trans (Bt.same e67)).trans Bt.put, upd_same, ?_⟩
    rw [take_snoc (Tn.rng_get (by omega)), List.map_append, ← List.append_assoc]
    refine (az6.mono fun _ _ z => (z.over e67).tk tk8).snoc ⟨p2, rfl, tk8 _ _ ?_⟩
    rw [hp2, List.map_append]
    rfl
  · refine iteE (v := false) (decide_eq_false c) (iteF ?_)
    refine ⟨zs2, _, _, _, rfl, b6, hg6, ?_⟩
    rw [List.take_of_length_le (by rw [Tn.rng_len]; omega)] at az6
    exact az6

theorem ok_unknown (T : Tx K mg a) : FnOk P w K mg base CX0 1 a.f_unknown_of a.d_unknown_of ["spot", "names", "first"] spUnknown := by
  refine T.F_unknown_of.ok sc_unknown_of (fun vs H Q E h => ?_) (fun cdv A outer s H vs Q E hr h => ?_)
  · obtain ⟨_, _, _, _, _, _, _, rfl, _⟩ := h; rfl
  obtain ⟨t, nm, z, n, first, zs, u, rfl, ht, hn, hw, q⟩ := h
  refine ⟨_, (pss_cons (ps_if (pt_cmpR op_eq (pe_ix ix_tup (pv 0) pe_int (fun _ _ => rfl)) pe_str (nomark _))
    (pss_one (ps_ret pe_int))
    pss_nil)
    (pss_one (ps_ret (pe_op op_add (pv 2) (pe_bmT PySem.F.slot_tuple_index PySem.F.type_tuple_index mt_tindex (pv 1) (pa_cons (pe_ix ix_tup (pv 0) pe_int (fun _ _ => rfl)) pa_nil)))))), ?_⟩
  refine ⟨_, rfl, t, _, 0, _, rfl, rfl, SqT.of ht, rfl, rfl, _, rfl, ?_⟩
  rcases hw with ⟨rfl, rfl⟩ | ⟨hz, j, hj, hno, rfl⟩
  · exact iteE (v := true) (decide_eq_true rfl) (iteT q)
  · refine iteE (v := false) (dS hz) (iteF ?_)
    exact ⟨_, rfl, _, rfl, ⟨nm, _, rfl, hn⟩, _, rfl, t, _, 0, _, rfl, rfl, SqT.of ht, rfl, nm, zs, z, j, rfl, rfl, SqT.of hn, hj, hno, _, _, rfl, rfl, q⟩

theorem ok_lbonds (T : Tx K mg a) : FnOk P w K mg base CX0 2 a.f_loop_bonds a.d_loop_bonds ["deed", "first"] (spLoopBonds a.c_Deed) := by
  have G_unknown_of := ok_unknown (P := P) (w := w) (base := base) T
  refine T.F_loop_bonds.ok sc_loop_bonds (fun vs H Q E h => ?_) (fun cdv A outer s H vs Q E hr h => ?_)
  · obtain ⟨_, _, _, _, _, _, _, _, _, _, _, _, _, _, _, _, _, rfl, _⟩ := h; rfl
  obtain ⟨d, dx, nm, lo, hh, v4, v5, v6, v7, f, zs, lz, hz, ln, hn, u, w2, rfl, hd, hnm, hlo, hhi, zl, hu, hw, q⟩ := h
  refine ⟨_, (pss_cons (ps_set (i := 2) sc_loop_bonds.nd rfl (Or.inl rfl) (pe_lst pa_nil))
    (pss_cons (ps_for PassesOwn.never rfl (pi_range1 (by rfl) T.z_range (pa_cons (pe_callB call_len_seq (by rfl) T.z_len bt_len (pa_cons (pe_fld (pv 0) rfl) pa_nil)) pa_nil)) (pg_name (i := 3) sc_loop_bonds.nd rfl (Or.inl rfl))
    (pss_cons (ps_set (i := 4) sc_loop_bonds.nd rfl (Or.inl rfl) (pe_ix ix_tup (pe_fld (pv 0) rfl) (pv 3) (fun _ _ => rfl)))
    (pss_cons (ps_set (i := 5) sc_loop_bonds.nd rfl (Or.inl rfl) (pe_ix ix_tup (pe_fld (pv 0) rfl) (pv 3) (fun _ _ => rfl)))
    (pss_cons (ps_expr (pe_bm PySem.F.plainAttrs_list PySem.F.slot_list_append PySem.F.type_list_append mt_append (pv 2) (pa_cons (pe_tupq (paq_cons (pe_call G_unknown_of (hr.mono (by omega)) (by rfl) T.m_unknown_of T.F_unknown_of.kp T.b_unknown_of .nil pass0 (pa_cons (pv 4) (pa_cons (pe_fld (pv 0) rfl) (pa_cons (pv 1) pa_nil)))) (paq_cons (pe_op op_add (pv 1) (pv 3)) (paq_cons (pe_un un_neg (pe_ix ix_tup (pv 4) pe_int (fun _ _ => rfl))) paq_nil star_U) star_B) star_K)) pa_nil)))
    (pss_one (ps_expr (pe_bm PySem.F.plainAttrs_list PySem.F.slot_list_append PySem.F.type_list_append mt_append (pv 2) (pa_cons (pe_tupq (paq_cons (pe_op op_add (pv 1) (pv 3)) (paq_cons (pe_call G_unknown_of (hr.mono (by omega)) (by rfl) T.m_unknown_of T.F_unknown_of.kp T.b_unknown_of .nil pass0 (pa_cons (pv 5) (pa_cons (pe_fld (pv 0) rfl) (pa_cons (pv 1) pa_nil)))) (paq_cons (pe_ix ix_tup (pv 5) pe_int (fun _ _ => rfl)) paq_nil star_S) star_K) star_B)) pa_nil))))))))
    (pss_one (ps_ret (pv 2))))), ?_⟩
  obtain ⟨xs, hx, xl, hxs⟩ := hlo
  obtain ⟨os, ho, ol, hos⟩ := hhi
  refine ⟨szl (by show 0 ≤ 1000000; decide), fun l hl => ?_⟩
  have e1 := same_new hl (.lst [])
  have hl1 : (upd H l (.lst [])) l = some (.lst []) := upd_same
  dsimp only [gName]
  generalize upd H l (.lst []) = H1 at e1 hl1
  refine ⟨_, rfl, d, _, dx, _, _, rfl, e1 _ _ hd, T.cl_Deed, T.n_Deed_names, rfl, nm, _, rfl, .inr (SqT.of (e1 _ _ hnm)), _, rfl, by rw [List.length_map]; omega, by rw [List.length_map]; omega, ?_⟩
  rw [List.length_map]
  refine for_range (lo := 0) (n := zs.length) (fun i σ' H' => Same H H' ∧ (∃ o3 o4 o5, σ' = [some (.ref d), some (.int f), some (.ref l), o3, o4, o5]) ∧ ∃ ys : List V, H' l = some (.lst ys) ∧ TrisAt H' ys (likeB (F52 f u ln) (G52 f w2 hn) i)) ⟨e1, ⟨_, _, _, rfl⟩, [], hl1, .nil⟩ (fun i σ' H' hi pp => ?_) (fun σ' H' pp => ?_)
  · obtain ⟨e, ⟨o3, o4, o5, rfl⟩, ys, hy, tr⟩ := pp
    have z0 : (0 + (i : Int)) = (i : Int) := Int.zero_add _
    have x1 : xs[i]? = some xs[i] := List.getElem?_eq_getElem (by omega)
    have x2 : os[i]? = some os[i] := List.getElem?_eq_getElem (by omega)
    obtain ⟨t1, et1, ht1⟩ := hxs i _ x1
    obtain ⟨t2, et2, ht2⟩ := hos i _ x2
    have at1 : atI xs (0 + (i : Int)) = some (.ref t1) := by rw [z0]; exact (atI_nat x1).trans (congrArg some et1)
    have at2 : atI os (0 + (i : Int)) = some (.ref t2) := by rw [z0]; exact (atI_nat x2).trans (congrArg some et2)
    have yl : ys.length = 2 * i := by rw [tr.1, likeB_len]
    have g1 := e _ _ ht1
    have g2 := e _ _ ht2
    refine ⟨_, rfl, d, _, dx, _, _, rfl, e _ _ hd, T.cl_Deed, T.n_Deed_lows, rfl, _, rfl, lo, _, _, _, rfl, rfl, SqT.of (e _ _ hx), at1, ?_⟩
    dsimp only [gName]
    refine ⟨_, rfl, d, _, dx, _, _, rfl, e _ _ hd, T.cl_Deed, T.n_Deed_highs, rfl, _, rfl, hh, _, _, _, rfl, rfl, SqT.of (e _ _ ho), at2, ?_⟩
    dsimp only [gName]
    refine ⟨_, rfl, .inl ⟨rfl, _, SqL.of hy⟩, _, rfl, _, rfl, d, _, dx, _, _, rfl, e _ _ hd, T.cl_Deed, T.n_Deed_names, rfl, _, rfl, t1, nm, lz i, ln i, f, zs, u i, rfl, g1, e _ _ hnm, hu i hi, _, rfl, _, rfl, _, _, rfl, rfl, _, rfl, t1, _, 1, _, rfl, rfl, SqT.of g1, rfl, _, rfl, szl (by show 3 ≤ 1000000; decide), fun b1 hb1 => ?_⟩
    rw [z0]
    have s3 := same_new hb1 (.tup [V.int (u i), V.int (f + (i : Int)), V.int (-(ln i))])
    have nb1 : b1 ≠ l := fun z => by rw [z, hy] at hb1; cases hb1
    refine ⟨l, _, _, rfl, rfl, s3 _ _ hy, szlt (by omega), ?_⟩
    have tr3 := ((tr.over s3).upd (xs := ys ++ [V.ref b1]) (s3 _ _ hy)).snoc (t := b1) (b := F52 f u ln i) (by rw [upd_ne nb1]; exact upd_same)
    have hy3 : (upd (upd H' b1 (.tup [V.int (u i), V.int (f + (i : Int)), V.int (-(ln i))])) l (.lst (ys ++ [V.ref b1]))) l = some (.lst (ys ++ [V.ref b1])) := upd_same
    have e3 : Same H (upd (upd H' b1 (.tup [V.int (u i), V.int (f + (i : Int)), V.int (-(ln i))])) l (.lst (ys ++ [V.ref b1]))) := fun a o ha => by rw [upd_ne (ne_of_none ha hl)]; exact s3 _ _ (e _ _ ha)
    generalize upd (upd H' b1 (.tup [V.int (u i), V.int (f + (i : Int)), V.int (-(ln i))])) l (.lst (ys ++ [V.ref b1])) = H3 at tr3 hy3 e3
    have g2 := e3 _ _ ht2
    refine ⟨_, rfl, .inl ⟨rfl, _, SqL.of hy3⟩, _, rfl, _, rfl, _, _, rfl, rfl, _, rfl, _, rfl, d, _, dx, _, _, rfl, e3 _ _ hd, T.cl_Deed, T.n_Deed_names, rfl, _, rfl, t2, nm, hz i, hn i, f, zs, w2 i, rfl, g2, e3 _ _ hnm, hw i hi, _, rfl, t2, _, 1, _, rfl, rfl, SqT.of g2, rfl, szl (by show 3 ≤ 1000000; decide), fun b2 hb2 => ?_⟩
    have s4 := same_new hb2 (.tup [V.int (f + (i : Int)), V.int (w2 i), V.int (hn i)])
    have nb2 : b2 ≠ l := fun z => by rw [z, hy3] at hb2; cases hb2
    refine ⟨l, _, _, rfl, rfl, s4 _ _ hy3, szlt (by rw [List.length_append, List.length_singleton]; omega), ?_⟩
    have tr4 := ((tr3.over s4).upd (xs := ys ++ [V.ref b1] ++ [V.ref b2]) (s4 _ _ hy3)).snoc (t := b2) (b := G52 f w2 hn i) (by rw [upd_ne nb2]; exact upd_same)
    exact ⟨fun a o ha => by rw [upd_ne (ne_of_none ha hl)]; exact s4 _ _ (e3 _ _ ha), ⟨_, _, _, rfl⟩, _, upd_same, tr4⟩
  · obtain ⟨e, ⟨o3, o4, o5, rfl⟩, ys, hy, tr⟩ := pp
    exact ⟨_, rfl, q l ys _ e hy tr⟩

theorem ok_like (T : Tx K mg a) : FnOk P w K mg base CX0 2 a.f_like_bonds a.d_like_bonds ["spots", "names", "first", "others", "other_names", "other_first"] spLikeB := by
  have G_unknown_of := ok_unknown (P := P) (w := w) (base := base) T
  refine T.F_like_bonds.ok sc_like_bonds (fun vs H Q E h => ?_) (fun cdv A outer s H vs Q E hr h => ?_)
  · obtain ⟨_, _, _, _, _, _, _, _, _, _, _, _, _, _, _, rfl, _⟩ := h; rfl
  obtain ⟨sp, nm, ot, nm2, f, s2, m, z1, z2, n1, n2, u, w2, zs, zs2, rfl, hm, hS, hO, hn, hn2, hu, hw, q⟩ := h
  refine ⟨_, (pss_cons (ps_set (i := 6) sc_like_bonds.nd rfl (Or.inl rfl) (pe_lst pa_nil))
    (pss_cons (ps_for PassesOwn.never rfl (pi_zipT (by rfl) T.z_zip (pa_cons (pv 0) (pa_cons (pv 3) pa_nil))) (pg_tup rfl (pgs_cons (pg_name (i := 7) sc_like_bonds.nd rfl (Or.inl rfl)) (pgs_cons (pg_name (i := 8) sc_like_bonds.nd rfl (Or.inl rfl)) pgs_nil)))
    (pss_cons (ps_set (i := 9) sc_like_bonds.nd rfl (Or.inl rfl) (pe_call G_unknown_of (hr.mono (by omega)) (by rfl) T.m_unknown_of T.F_unknown_of.kp T.b_unknown_of .nil pass0 (pa_cons (pv 7) (pa_cons (pv 1) (pa_cons (pv 2) pa_nil)))))
    (pss_cons (ps_set (i := 10) sc_like_bonds.nd rfl (Or.inl rfl) (pe_call G_unknown_of (hr.mono (by omega)) (by rfl) T.m_unknown_of T.F_unknown_of.kp T.b_unknown_of .nil pass0 (pa_cons (pv 8) (pa_cons (pv 4) (pa_cons (pv 5) pa_nil)))))
    (pss_cons (ps_expr (pe_bm PySem.F.plainAttrs_list PySem.F.slot_list_append PySem.F.type_list_append mt_append (pv 6) (pa_cons (pe_tupq (paq_cons (pv 9) (paq_cons (pv 10) (paq_cons (pe_op op_sub (pe_ix ix_tup (pv 8) pe_int (fun _ _ => rfl)) (pe_ix ix_tup (pv 7) pe_int (fun _ _ => rfl))) paq_nil star_B) star_N) star_N)) pa_nil)))
    (pss_one (ps_expr (pe_bm PySem.F.plainAttrs_list PySem.F.slot_list_append PySem.F.type_list_append mt_append (pv 6) (pa_cons (pe_tupq (paq_cons (pv 10) (paq_cons (pv 9) (paq_cons (pe_op op_sub (pe_ix ix_tup (pv 7) pe_int (fun _ _ => rfl)) (pe_ix ix_tup (pv 8) pe_int (fun _ _ => rfl))) paq_nil star_B) star_N) star_N)) pa_nil))))))))
    (pss_one (ps_ret (pv 6))))), ?_⟩
  obtain ⟨xs, hx, xl, hxs⟩ := hS
  obtain ⟨os, ho, ol, hos⟩ := hO
  refine ⟨szl (by show 0 ≤ 1000000; decide), fun l hl => ?_⟩
  have e1 := same_new hl (.lst [])
  refine ⟨_, rfl, _, rfl, sp, ot, rfl, ⟨_, SqT.of (e1 _ _ hx)⟩, ⟨_, SqT.of (e1 _ _ ho)⟩, ?_⟩
  refine for_zipT (xs := xs) (ys := os) (by omega) (fun i σ' H' => Same H H' ∧ (∃ o7 o8 o9 o10, σ' = [some (.ref sp), some (.ref nm), some (.int f), some (.ref ot), some (.ref nm2), some (.int s2), some (.ref l), o7, o8, o9, o10]) ∧ ∃ ys : List V, H' l = some (.lst ys) ∧ TrisAt H' ys (likeB (fun i => (u i, w2 i, n2 i - n1 i)) (fun i => (w2 i, u i, n1 i - n2 i)) i)) ⟨e1, ⟨_, _, _, _, rfl⟩, [], upd_same, .nil⟩ (fun i σ' H' _ pp => ⟨SqT.of (pp.1 _ _ hx), SqT.of (pp.1 _ _ ho)⟩) (fun i x y Tt σ' H' hxi hyi pp hT => ?_) (fun σ' H' pp => ?_)
  · obtain ⟨e, ⟨o7, o8, o9, o10, rfl⟩, ys, hy, tr⟩ := pp
    obtain ⟨t, rfl, ht⟩ := hxs i x hxi
    obtain ⟨t2, rfl, ht2⟩ := hos i y hyi
    have hi : i < m := by have := (List.getElem?_eq_some_iff.mp hxi).1; omega
    have sT := same_new hT (.tup [V.ref t, V.ref t2])
    have e2 := e.trans sT
    have hy2 := sT _ _ hy
    have tr2 := tr.over sT
    refine ⟨Tt, _, rfl, SqT.of upd_same, rfl, _, _, rfl, _, _, rfl, rfl, ?_⟩
    generalize upd H' Tt (.tup [V.ref t, V.ref t2]) = H2 at e2 hy2 tr2
    have g1 := e2 _ _ ht
    have g2 := e2 _ _ ht2
    have yl : ys.length = 2 * i := by rw [tr2.1, likeB_len]
    refine ⟨_, rfl, _, rfl, _, rfl, t, nm, z1 i, n1 i, f, zs, u i, rfl, g1, e2 _ _ hn, hu i hi, ?_⟩
    dsimp only [gName]
    refine ⟨_, rfl, _, rfl, _, rfl, t2, nm2, z2 i, n2 i, s2, zs2, w2 i, rfl, g2, e2 _ _ hn2, hw i hi, ?_⟩
    dsimp only [gName]
    refine ⟨_, rfl, .inl ⟨rfl, _, SqL.of hy2⟩, _, rfl, _, rfl, _, rfl, t2, _, 1, _, rfl, rfl, SqT.of g2, rfl, _, rfl, t, _, 1, _, rfl, rfl, SqT.of g1, rfl, _, _, rfl, rfl, szl (by show 3 ≤ 1000000; decide), fun b1 hb1 => ?_⟩
    have s3 := same_new hb1 (.tup [V.int (u i), V.int (w2 i), V.int (n2 i - n1 i)])
    have nb1 : b1 ≠ l := fun z => by rw [z, hy2] at hb1; cases hb1
    refine ⟨l, _, _, rfl, rfl, s3 _ _ hy2, szlt (by omega), ?_⟩
    have tr3 := ((tr2.over s3).upd (xs := ys ++ [V.ref b1]) (s3 _ _ hy2)).snoc (t := b1) (b := (u i, w2 i, n2 i - n1 i)) (by rw [upd_ne nb1]; exact upd_same)
    have hy3 : (upd (upd H2 b1 (.tup [V.int (u i), V.int (w2 i), V.int (n2 i - n1 i)])) l (.lst (ys ++ [V.ref b1]))) l = some (.lst (ys ++ [V.ref b1])) := upd_same
    have e3 : Same H (upd (upd H2 b1 (.tup [V.int (u i), V.int (w2 i), V.int (n2 i - n1 i)])) l (.lst (ys ++ [V.ref b1]))) := fun a o ha => by rw [upd_ne (ne_of_none ha hl)]; exact s3 _ _ (e2 _ _ ha)
    generalize upd (upd H2 b1 (.tup [V.int (u i), V.int (w2 i), V.int (n2 i - n1 i)])) l (.lst (ys ++ [V.ref b1])) = H3 at tr3 hy3 e3
    have g1 := e3 _ _ ht
    have g2 := e3 _ _ ht2
    refine ⟨_, rfl, .inl ⟨rfl, _, SqL.of hy3⟩, _, rfl, _, rfl, _, rfl, t, _, 1, _, rfl, rfl, SqT.of g1, rfl, _, rfl, t2, _, 1, _, rfl, rfl, SqT.of g2, rfl, _, _, rfl, rfl, szl (by show 3 ≤ 1000000; decide), fun b2 hb2 => ?_⟩
    have s4 := same_new hb2 (.tup [V.int (w2 i), V.int (u i), V.int (n1 i - n2 i)])
    have nb2 : b2 ≠ l := fun z => by rw [z, hy3] at hb2; cases hb2
    refine ⟨l, _, _, rfl, rfl, s4 _ _ hy3, szlt (by rw [List.length_append, List.length_singleton]; omega), ?_⟩
    have tr4 := ((tr3.over s4).upd (xs := ys ++ [V.ref b1] ++ [V.ref b2]) (s4 _ _ hy3)).snoc (t := b2) (b := (w2 i, u i, n1 i - n2 i)) (by rw [upd_ne nb2]; exact upd_same)
    exact ⟨fun a o ha => by rw [upd_ne (ne_of_none ha hl)]; exact s4 _ _ (e3 _ _ ha), ⟨_, _, _, _, rfl⟩, _, upd_same, tr4⟩
  · obtain ⟨e, ⟨o7, o8, o9, o10, rfl⟩, ys, hy, tr⟩ := pp
    rw [xl] at tr
    exact ⟨_, rfl, q l ys _ e hy tr⟩

theorem ok_order (T : Tx K mg a) : FnOk P w K mg base CX0 1 a.f_order_bonds a.d_order_bonds ["many", "case", "behind"] spOrder54 := by
  refine T.F_order_bonds.ok sc_order_bonds (fun vs H Q E h => ?_) (fun cdv A outer s H vs Q E hr h => ?_)
  · obtain ⟨_, _, _, rfl, _⟩ := h; rfl
  obtain ⟨sn, cs, bh, rfl, c1, q⟩ := h
  refine ⟨_, (pss_cons (ps_set (i := 3) sc_order_bonds.nd rfl (Or.inl rfl) (pe_lst pa_nil))
    (pss_cons (ps_for PassesOwn.never rfl (pi_range1 (by rfl) T.z_range (pa_cons (pv 1) pa_nil)) (pg_name (i := 4) sc_order_bonds.nd rfl (Or.inl rfl))
    (pss_cons (ps_expr (pe_bm PySem.F.plainAttrs_list PySem.F.slot_list_append PySem.F.type_list_append mt_append (pv 3) (pa_cons (pe_tupq (paq_cons (pe_op op_add pe_int (pv 4)) (paq_cons (pe_op op_add (pv 2) (pv 4)) (paq_cons pe_int paq_nil star_C) star_B) star_B)) pa_nil)))
    (pss_one (ps_expr (pe_bm PySem.F.plainAttrs_list PySem.F.slot_list_append PySem.F.type_list_append mt_append (pv 3) (pa_cons (pe_tupq (paq_cons (pe_op op_add (pv 2) (pv 4)) (paq_cons (pe_op op_add pe_int (pv 4)) (paq_cons pe_int paq_nil star_C) star_B) star_B)) pa_nil))))))
    (pss_cons (ps_if (pt_cmpR op_lt (pv 1) (pv 0) (nomark _))
    (pss_one (ps_expr (pe_bm PySem.F.plainAttrs_list PySem.F.slot_list_append PySem.F.type_list_append mt_append (pv 3) (pa_cons (pe_tupq (paq_cons (pe_op op_add pe_int (pv 1)) (paq_cons (pe_op op_add (pv 2) (pv 1)) (paq_cons (pe_un un_neg pe_int) paq_nil star_U) star_B) star_B)) pa_nil))))
    pss_nil)
    (pss_one (ps_ret (pv 3)))))), ?_⟩
  refine ⟨szl (by show 0 ≤ 1000000; decide), fun l hl => ?_⟩
  have e1 := same_new hl (.lst [])
  have hl1 : (upd H l (.lst [])) l = some (.lst []) := upd_same
  dsimp only [gName]
  generalize upd H l (.lst []) = H1 at e1 hl1
  refine ⟨_, rfl, _, rfl, by omega, by omega, ?_⟩
  rw [Int.toNat_natCast]
  refine for_range (lo := 0) (n := cs) (fun i σ' H' => Same H H' ∧ (∃ o4, σ' = [some (.int (sn : Int)), some (.int (cs : Int)), some (.int bh), some (.ref l), o4]) ∧ ∃ ys : List V, H' l = some (.lst ys) ∧ TrisAt H' ys (orL bh i)) ⟨e1, ⟨_, rfl⟩, [], hl1, .nil⟩ (fun i σ' H' hi pp => ?_) (fun σ' H' pp => ?_)
  · obtain ⟨e, ⟨o4, rfl⟩, ys, hy, tr⟩ := pp
    have z0 : (0 + (i : Int)) = (i : Int) := Int.zero_add _
    have yl : ys.length = 2 * i := by rw [tr.1]; exact likeB_len _ _ _
    refine ⟨_, rfl, .inl ⟨rfl, _, SqL.of hy⟩, _, rfl, _, _, rfl, rfl, _, rfl, _, rfl, _, _, rfl, rfl, szl (by show 3 ≤ 1000000; decide), fun b1 hb1 => ?_⟩
    rw [z0]
    have s3 := same_new hb1 (.tup [V.int (1 + (i : Int)), V.int (bh + (i : Int)), V.int 0])
    have nb1 : b1 ≠ l := fun z => by rw [z, hy] at hb1; cases hb1
    refine ⟨l, _, _, rfl, rfl, s3 _ _ hy, szlt (by omega), ?_⟩
    have tr3 := ((tr.over s3).upd (xs := ys ++ [V.ref b1]) (s3 _ _ hy)).snoc (t := b1) (b := (1 + (i : Int), bh + (i : Int), 0)) (by rw [upd_ne nb1]; exact upd_same)
    have hy3 : (upd (upd H' b1 (.tup [V.int (1 + (i : Int)), V.int (bh + (i : Int)), V.int 0])) l (.lst (ys ++ [V.ref b1]))) l = some (.lst (ys ++ [V.ref b1])) := upd_same
    have e3 : Same H (upd (upd H' b1 (.tup [V.int (1 + (i : Int)), V.int (bh + (i : Int)), V.int 0])) l (.lst (ys ++ [V.ref b1]))) := fun a o ha => by rw [upd_ne (ne_of_none ha hl)]; exact s3 _ _ (e _ _ ha)
    generalize upd (upd H' b1 (.tup [V.int (1 + (i : Int)), V.int (bh + (i : Int)), V.int 0])) l (.lst (ys ++ [V.ref b1])) = H3 at tr3 hy3 e3
    refine ⟨_, rfl, .inl ⟨rfl, _, SqL.of hy3⟩, _, rfl, _, rfl, _, _, rfl, rfl, _, rfl, _, _, rfl, rfl, szl (by show 3 ≤ 1000000; decide), fun b2 hb2 => ?_⟩
    have s4 := same_new hb2 (.tup [V.int (bh + (i : Int)), V.int (1 + (i : Int)), V.int 0])
    have nb2 : b2 ≠ l := fun z => by rw [z, hy3] at hb2; cases hb2
    refine ⟨l, _, _, rfl, rfl, s4 _ _ hy3, szlt (by rw [List.length_append, List.length_singleton]; omega), ?_⟩
    have tr4 := ((tr3.over s4).upd (xs := ys ++ [V.ref b1] ++ [V.ref b2]) (s4 _ _ hy3)).snoc (t := b2) (b := (bh + (i : Int), 1 + (i : Int), 0)) (by rw [upd_ne nb2]; exact upd_same)
    exact ⟨fun a o ha => by rw [upd_ne (ne_of_none ha hl)]; exact s4 _ _ (e3 _ _ ha), ⟨_, rfl⟩, _, upd_same, tr4⟩
  obtain ⟨e, ⟨o4, rfl⟩, ys, hy, tr⟩ := pp
  have yl : ys.length = 2 * cs := by rw [tr.1]; exact likeB_len _ _ _
  refine ⟨_, rfl, _, rfl, _, _, rfl, rfl, _, rfl, ite2 (fun c => ?_) (fun c => ?_)⟩
  · have c := dT c
    refine ⟨_, rfl, .inl ⟨rfl, _, SqL.of hy⟩, _, rfl, _, _, rfl, rfl, _, rfl, _, rfl, _, _, rfl, rfl, _, rfl, szl (by show 3 ≤ 1000000; decide), fun b1 hb1 => ?_⟩
    have s3 := same_new hb1 (.tup [V.int (1 + (cs : Int)), V.int (bh + (cs : Int)), V.int (-1)])
    have nb1 : b1 ≠ l := fun z => by rw [z, hy] at hb1; cases hb1
    refine ⟨l, _, _, rfl, rfl, s3 _ _ hy, szlt (by omega), ?_⟩
    have tr3 := ((tr.over s3).upd (xs := ys ++ [V.ref b1]) (s3 _ _ hy)).snoc (t := b1) (b := (1 + (cs : Int), bh + (cs : Int), -1)) (by rw [upd_ne nb1]; exact upd_same)
    refine ⟨_, rfl, q l _ _ (fun a o ha => by rw [upd_ne (ne_of_none ha hl)]; exact s3 _ _ (e _ _ ha)) upd_same ?_⟩
    unfold orB
    rw [if_pos (by omega)]
    exact tr3
  · have c := dF c
    refine ⟨_, rfl, q l _ _ e hy ?_⟩
    unfold orB
    rw [if_neg (by omega), List.append_nil]
    exact tr

theorem ok_caseb (T : Tx K mg a) : FnOk P w K mg base CX0 104 a.f_case_bonds a.d_case_bonds ["program", "k", "a", "l", "b", "case"] (spCaseB54 a.c_Program a.c_Deed (csOf a)) := by
  have G_touches := ok_touches (P := P) (w := w) (base := base) T
  have G_loop_bonds := ok_lbonds (P := P) (w := w) (base := base) T
  have G_like_bonds := ok_like (P := P) (w := w) (base := base) T
  have G_order_bonds := ok_order (P := P) (w := w) (base := base) T
  have G_shared := ok_shared (P := P) (w := w) (base := base) T
  refine T.F_case_bonds.ok sc_case_bonds (fun vs H Q E h => ?_) (fun cdv A outer s H vs Q E hr h => ?_)
  · obtain ⟨_, _, _, _, _, _, _, _, _, _, _, _, _, _, _, _, _, rfl, _⟩ := h; rfl
  obtain ⟨x, dx, dl, sz, xs, Rs, R, R', r, r', k, ta, l, tb, cs, o, D, rfl, hx, hdl, ax, hR, hR', g, g', ok, ok', hta, htb, hS, hS', cd, c1, q⟩ := h
  refine ⟨_, (pss_cons (ps_set (i := 6) sc_case_bonds.nd rfl (Or.inl rfl) (pe_ix ix_list (pe_fld (pv 0) rfl) (pv 1) (fun _ _ => rfl)))
    (pss_cons (ps_set (i := 7) sc_case_bonds.nd rfl (Or.inl rfl) (pe_ix ix_list (pe_fld (pv 0) rfl) (pv 3) (fun _ _ => rfl)))
    (pss_cons (ps_set (i := 8) sc_case_bonds.nd rfl (Or.inl rfl) (pe_op op_add pe_int (pe_callB call_len_seq (by rfl) T.z_len bt_len (pa_cons (pe_fld (pv 6) rfl) pa_nil))))
    (pss_cons (ps_set (i := 9) sc_case_bonds.nd rfl (Or.inl rfl) (pe_ix ix_tup (pe_ix ix_list (pe_call G_touches (hr.mono (by omega)) (by rfl) T.m_touches T.F_touches.kp T.b_touches .nil pass0 (pa_cons (pv 6) pa_nil)) (pv 2) (fun _ _ => rfl)) pe_int (fun _ _ => rfl)))
    (pss_cons (ps_set (i := 10) sc_case_bonds.nd rfl (Or.inl rfl) (pe_ix ix_tup (pe_ix ix_list (pe_call G_touches (hr.mono (by omega)) (by rfl) T.m_touches T.F_touches.kp T.b_touches .nil pass0 (pa_cons (pv 7) pa_nil)) (pv 4) (fun _ _ => rfl)) pe_int (fun _ _ => rfl)))
    (pss_cons (ps_set (i := 11) sc_case_bonds.nd rfl (Or.inl rfl) (pe_op op_cat (pe_call G_loop_bonds (hr.mono (by omega)) (by rfl) T.m_loop_bonds T.F_loop_bonds.kp T.b_loop_bonds .nil pass0 (pa_cons (pv 6) (pa_cons pe_int pa_nil))) (pe_call G_loop_bonds (hr.mono (by omega)) (by rfl) T.m_loop_bonds T.F_loop_bonds.kp T.b_loop_bonds .nil pass0 (pa_cons (pv 7) (pa_cons (pv 8) pa_nil)))))
    (pss_cons (ps_expr (pe_bm PySem.F.plainAttrs_list PySem.F.slot_list_extend PySem.F.type_list_extend mt_extend (pv 11) (pa_cons (pe_call G_like_bonds (hr.mono (by omega)) (by rfl) T.m_like_bonds T.F_like_bonds.kp T.b_like_bonds .nil pass0 (pa_cons (pv 9) (pa_cons (pe_fld (pv 6) rfl) (pa_cons pe_int (pa_cons (pv 10) (pa_cons (pe_fld (pv 7) rfl) (pa_cons (pv 8) pa_nil))))))) pa_nil)))
    (pss_cons (ps_expr (pe_bm PySem.F.plainAttrs_list PySem.F.slot_list_extend PySem.F.type_list_extend mt_extend (pv 11) (pa_cons (pe_call G_order_bonds (hr.mono (by omega)) (by rfl) T.m_order_bonds T.F_order_bonds.kp T.b_order_bonds .nil pass0 (pa_cons (pe_call G_shared (hr.mono (by omega)) (by rfl) T.m_shared T.F_shared.kp T.b_shared .nil pass0 (pa_cons (pv 6) (pa_cons (pv 7) pa_nil))) (pa_cons (pv 5) (pa_cons (pv 8) pa_nil)))) pa_nil)))
    (pss_one (ps_ret (pv 11))))))))))), ?_⟩
  obtain ⟨y1, hy1, d4⟩ := ax.get hR
  obtain ⟨y2, hy2, d4'⟩ := ax.get hR'
  have d5 := d4.d5
  have d5' := d4'.d5
  have dt := d4.tm
  have dt' := d4'.tm
  obtain ⟨d1, dx1, nm1, lo1, hi1, pt1, v1, ls1, hs1, rfl, hd1, hn1, hlo1, al1, hhi1, ah1, hp1, to1⟩ := d4
  obtain ⟨d2, dx2, nm2, lo2, hi2, pt2, v2, ls2, hs2, rfl, hd2, hn2, hlo2, al2, hhi2, ah2, hp2, to2⟩ := d4'
  have k1 : D.s ≤ R.S.length := cd.pf.1
  have k3 := g.ok.so.1
  have k4 := g'.ok.so.1
  have m3 := cd.m3
  have nl : ((nmsOf R.S).map V.str).length = R.S.length := by unfold nmsOf; rw [List.length_map, List.length_map]
  have n1 := nms_nd g.so
  have n2 := nms_nd g'.so
  have z1 := nms_ne g.so
  have z2 := nms_ne g'.so
  have nm1l := nmsOf_len R.S
  have nm2l := nmsOf_len R'.S
  refine ⟨_, rfl, x, _, dx, _, _, rfl, hx, T.cl_Program, T.n_Program_deeds, rfl, _, rfl, dl, _, _, _, rfl, rfl, SqL.of hdl, atI_nat hy1, ?_⟩
  dsimp only [gName]
  refine ⟨_, rfl, x, _, dx, _, _, rfl, hx, T.cl_Program, T.n_Program_deeds, rfl, _, rfl, dl, _, _, _, rfl, rfl, SqL.of hdl, atI_nat hy2, ?_⟩
  dsimp only [gName]
  refine ⟨_, rfl, d1, _, dx1, _, _, rfl, hd1, T.cl_Deed, T.n_Deed_names, rfl, nm1, _, rfl, .inr (SqT.of hn1), _, _, rfl, rfl, ?_⟩
  rw [nl]
  dsimp only [gName]
  generalize hbh : 1 + (R.S.length : Int) = bh
  refine ⟨_, rfl, .ref d1, R.z, R.p, R.m, R.rs, rfl, dt, by have := g.ok.m3; omega, fun q1 H1 e1 q10 tc1 => ?_⟩
  obtain ⟨as1, tp1, fl1, hq1, at1, htp1⟩ := tch_get tc1 hta
  refine ⟨_, rfl, q1, _, _, _, rfl, rfl, SqL.of hq1, at1, tp1, _, 2, _, rfl, rfl, SqT.of htp1, rfl, ?_⟩
  dsimp only [gName]
  refine ⟨_, rfl, .ref d2, R'.z, R'.p, R'.m, R'.rs, rfl, dt'.over e1, by have := g'.ok.m3; omega, fun q2 H2 e2 q20 tc2 => ?_⟩
  obtain ⟨as2, tp2, fl2, hq2, at2, htp2⟩ := tch_get tc2 htb
  refine ⟨_, rfl, q2, _, _, _, rfl, rfl, SqL.of hq2, at2, tp2, _, 2, _, rfl, rfl, SqT.of htp2, rfl, ?_⟩
  have e02 := e1.trans e2
  have tk02 := Same.tk e02
  dsimp only [gName]
  refine ⟨_, rfl, d1, dx1, nm1, lo1, hi1, _, _, _, _, 1, nmsOf R.S, lzF R.S, hzF R.S, lnF R.S, hnF R.S, D.u, D.w, rfl, e02 _ _ hd1, e02 _ _ hn1, by rw [nm1l]; exact spt_lo (e02 _ _ hlo1) (al1.mono fun _ _ z => z.tk tk02), by rw [nm1l]; exact spt_hi (e02 _ _ hhi1) (ah1.mono fun _ _ z => z.tk tk02), by omega, fun i hi => ub_whose n1 z1 (cd.hu i (by omega)), fun i hi => ub_whose n1 z1 (cd.hw i (by omega)), fun f1 ys1 H3 e3 hf1 tr1 => ?_⟩
  rw [nm1l] at tr1
  have tr1 : TrisAt H3 ys1 (lbB R.S 1 D.u D.w) := tr1
  have e03 := e02.trans e3
  have tk03 := Same.tk e03
  refine ⟨_, rfl, _, rfl, d2, dx2, nm2, lo2, hi2, _, _, _, _, bh, nmsOf R'.S, lzF R'.S, hzF R'.S, lnF R'.S, hnF R'.S, D.u', D.w', rfl, e03 _ _ hd2, e03 _ _ hn2, by rw [nm2l]; exact spt_lo (e03 _ _ hlo2) (al2.mono fun _ _ z => z.tk tk03), by rw [nm2l]; exact spt_hi (e03 _ _ hhi2) (ah2.mono fun _ _ z => z.tk tk03), by omega, fun i hi => by rw [← hbh]; exact ub_whose n2 z2 (cd.hu' i (by omega)), fun i hi => by rw [← hbh]; exact ub_whose n2 z2 (cd.hw' i (by omega)), fun f2 ys2 H4 e4 hf2 tr2 => ?_⟩
  rw [nm2l] at tr2
  have tr2 : TrisAt H4 ys2 (lbB R'.S bh D.u' D.w') := tr2
  have y1l : ys1.length = 2 * R.S.length := by rw [tr1.1, lbB_len]
  have y2l : ys2.length = 2 * R'.S.length := by rw [tr2.1, lbB_len]
  refine ⟨f1, f2, _, _, rfl, rfl, e4 _ _ hf1, hf2, szl (by omega), fun bo hbo => ?_⟩
  have s5 := same_new hbo (.lst (ys1 ++ ys2))
  have hbo5 : (upd H4 bo (.lst (ys1 ++ ys2))) bo = some (.lst (ys1 ++ ys2)) := upd_same
  have tr5 := ((tr1.over e4).app tr2).over s5
  dsimp only [gName]
  generalize upd H4 bo (.lst (ys1 ++ ys2)) = H5 at s5 hbo5 tr5
  have e04 := e03.trans e4
  have bo0 : H bo = none := e04.free hbo
  have e05 := e04.trans s5
  refine ⟨_, rfl, .inl ⟨rfl, _, SqL.of hbo5⟩, _, rfl, _, rfl, d1, _, dx1, _, _, rfl, e05 _ _ hd1, T.cl_Deed, T.n_Deed_names, rfl, _, rfl, _, rfl, d2, _, dx2, _, _, rfl, e05 _ _ hd2, T.cl_Deed, T.n_Deed_names, rfl, _, rfl, r.2, nm1, r'.2, nm2, 1, bh, D.m, D.z1, D.z2, D.n1, D.n2, D.x1, D.x2, nmsOf R.S, nmsOf R'.S, rfl, by omega, hS.over e05, hS'.over e05, e05 _ _ hn1, e05 _ _ hn2, cd.hx1, by rw [← hbh]; exact cd.hx2, fun f3 ys3 H6 e6 hf3 tr3 => ?_⟩
  have tr3 : TrisAt H6 ys3 (spB D) := tr3
  have hbo6 := e6 _ _ hbo5
  have y3l : ys3.length = 2 * D.m := by rw [tr3.1]; exact likeB_len _ _ _
  refine ⟨bo, f3, _, _, rfl, rfl, hbo6, hf3, szl (by rw [List.length_append]; omega), ?_⟩
  have tk7 : TK H6 (upd H6 bo (.lst (ys1 ++ ys2 ++ ys3))) := TK.upd hbo6
  have tr7 := ((tr5.over e6).app tr3).tk tk7
  have hbo7 : (upd H6 bo (.lst (ys1 ++ ys2 ++ ys3))) bo = some (.lst (ys1 ++ ys2 ++ ys3)) := upd_same
  have e07 : Same H (upd H6 bo (.lst (ys1 ++ ys2 ++ ys3))) := fun b o hb => by rw [upd_ne (ne_of_none hb bo0)]; exact e6 _ _ (e05 _ _ hb)
  generalize upd H6 bo (.lst (ys1 ++ ys2 ++ ys3)) = H7 at tr7 hbo7 e07
  refine ⟨_, rfl, .inl ⟨rfl, _, SqL.of hbo7⟩, _, rfl, _, rfl, .ref d1, .ref d2, R.r5, R'.r5, D.s, rfl, d5.over e07, d5'.over e07, ok, ok', cd.pf, _, rfl, _, rfl, D.s, cs, bh, rfl, by omega, fun f4 ys4 H8 e8 hf4 tr4 => ?_⟩
  have hbo8 := e8 _ _ hbo7
  have y4l : ys4.length ≤ 100 := by
    rw [tr4.1]
    unfold orB orL
    rw [List.length_append, likeB_len]
    split <;> simp <;> omega
  refine ⟨bo, f4, _, _, rfl, rfl, hbo8, hf4, szl (by rw [List.length_append, List.length_append]; omega), ?_⟩
  have tk9 : TK H8 (upd H8 bo (.lst (ys1 ++ ys2 ++ ys3 ++ ys4))) := TK.upd hbo8
  have tr9 := ((tr7.over e8).app tr4).tk tk9
  refine ⟨_, rfl, q bo _ _ (fun b o hb => by rw [upd_ne (ne_of_none hb bo0)]; exact e8 _ _ (e07 _ _ hb)) upd_same ?_⟩
  unfold cbB
  rw [hbh]
  exact tr9

theorem ok_caseof (T : Tx K mg a) : FnOk P w K mg base CX0 2 a.f_l_case_of a.d_l_case_of ["_law_rows_here", "_law_one", "_law_other_here"] spCaseOf54 := by
  have G_l_shared := ok_lshared (P := P) (w := w) (base := base) T
  refine T.F_l_case_of.ok sc_l_case_of (fun vs H Q E h => ?_) (fun cdv A outer s H vs Q E hr h => ?_)
  · obtain ⟨_, _, _, _, _, _, _, _, _, _, _, _, _, _, _, rfl, _⟩ := h; rfl
  obtain ⟨rl, t1, t2, w1, w2, Rs, M, R, R', k, l, sn, c, W, W', rfl, ⟨xs, hrl, ax⟩, hR, hR', g, g', pf, ht1, ht2, hw1, hw2, wl, wl', q⟩ := h
  refine ⟨_, (pss_cons (ps_set (i := 3) sc_l_case_of.nd rfl (Or.inl rfl) (pe_call G_l_shared (hr.mono (by omega)) (by rfl) T.m_l_shared T.F_l_shared.kp T.b_l_shared .nil pass0 (pa_cons (pe_ix ix_list (pv 0) (pe_ix ix_tup (pv 1) pe_int (fun _ _ => rfl)) (fun _ _ => rfl)) (pa_cons (pe_ix ix_list (pv 0) (pe_ix ix_tup (pv 2) pe_int (fun _ _ => rfl)) (fun _ _ => rfl)) pa_nil))))
    (pss_cons (ps_for PassesOwn.never rfl (pi_range1 (by rfl) T.z_range (pa_cons (pv 3) pa_nil)) (pg_name (i := 4) sc_l_case_of.nd rfl (Or.inl rfl))
    (pss_one (ps_if (pt_cmpR op_ne (pe_ix ix_tup (pe_ix ix_tup (pv 1) pe_int (fun _ _ => rfl)) (pv 4) (fun _ _ => rfl)) (pe_ix ix_tup (pe_ix ix_tup (pv 2) pe_int (fun _ _ => rfl)) (pv 4) (fun _ _ => rfl)) (nomark _))
    (pss_one (ps_ret (pe_ix ix_list (pe_lst (pa_cons pe_non (pa_cons (pv 4) pa_nil))) (pe_callTy call_int1 (by rfl) T.z_int bt_int (pa_cons (pe_cmpR op_lt (pe_ix ix_tup (pe_ix ix_tup (pv 1) pe_int (fun _ _ => rfl)) (pv 4) (fun _ _ => rfl)) (pe_ix ix_tup (pe_ix ix_tup (pv 2) pe_int (fun _ _ => rfl)) (pv 4) (fun _ _ => rfl)) (nomark _)) pa_nil)) (fun _ _ => rfl))))
    pss_nil)))
    (pss_one (ps_ret (pe_ix ix_list (pe_lst (pa_cons pe_non (pa_cons (pv 3) pa_nil))) (pe_callTy call_int1 (by rfl) T.z_int bt_int (pa_cons (pe_cmpR op_lt (pe_ix ix_tup (pv 1) pe_int (fun _ _ => rfl)) (pe_ix ix_tup (pv 2) pe_int (fun _ _ => rfl)) (nomark _)) pa_nil)) (fun _ _ => rfl)))))), ?_⟩
  obtain ⟨y1, hy1, r1⟩ := ax.get hR
  obtain ⟨y2, hy2, r2⟩ := ax.get hR'
  have k1 : sn ≤ R.S.length := pf.1
  have k2 : sn ≤ R'.S.length := pf.2.1
  have k3 := g.ok.so.1
  have pick : ∀ (A B : Int) (y : Nat), atI [V.non, V.int (y : Int)] (if decide (A < B) = true then 1 else 0) = some (optV (if A < B then some y else none)) := fun A B y => by
    by_cases c : A < B
    · rw [if_pos (decide_eq_true c), if_pos c]; rfl
    · rw [if_neg (by rw [decide_eq_false c]; decide), if_neg c]; rfl
  refine ⟨_, rfl, _, rfl, t1, _, 0, _, rfl, rfl, SqT.of ht1, rfl, rl, _, _, _, rfl, rfl, SqL.of hrl, atI_nat hy1, _, rfl, _, rfl, t2, _, 0, _, rfl, rfl, SqT.of ht2, rfl, rl, _, _, _, rfl, rfl, SqL.of hrl, atI_nat hy2, y1, y2, R.r5, R'.r5, sn, rfl, r1.1.r5, r2.1.r5, r1.1.ok5 g.ok, r2.1.ok5 g'.ok, pf, ?_⟩
  dsimp only [gName]
  refine ⟨_, rfl, _, rfl, by omega, by omega, ?_⟩
  rw [Int.toNat_natCast]
  refine for_range (lo := 0) (n := sn) (fun i σ' H' => H' = H ∧ (∃ o4, σ' = [some (.ref rl), some (.ref t1), some (.ref t2), some (.int (sn : Int)), o4]) ∧ ∀ j < i, W.getD j 0 = W'.getD j 0) ⟨rfl, ⟨_, rfl⟩, fun j hj => by omega⟩ (fun i σ' H' hi pp => ?_) (fun σ' H' pp => ?_)
  · obtain ⟨rfl, ⟨o4, rfl⟩, al⟩ := pp
    have z0 : (0 + (i : Int)) = (i : Int) := Int.zero_add _
    have at1 : atI (W.map V.int) (0 + (i : Int)) = some (.int (W.getD i 0)) := by rw [z0]; exact cell_in (ns := W) (k := (i : Int)) (Int.natCast_nonneg _) (by omega)
    have at2 : atI (W'.map V.int) (0 + (i : Int)) = some (.int (W'.getD i 0)) := by rw [z0]; exact cell_in (ns := W') (k := (i : Int)) (Int.natCast_nonneg _) (by omega)
    dsimp only [gName]
    refine ⟨_, rfl, t1, _, 1, _, rfl, rfl, SqT.of ht1, rfl, _, rfl, w1, _, _, _, rfl, rfl, SqT.of hw1, at1, _, rfl, t2, _, 1, _, rfl, rfl, SqT.of ht2, rfl, _, rfl, w2, _, _, _, rfl, rfl, SqT.of hw2, at2, rfl, _, rfl, ?_⟩
    by_cases c : W.getD i 0 = W'.getD i 0
    · refine iteE (v := false) (ndF (congrArg V.int c)) (iteF ⟨rfl, ⟨_, rfl⟩, fun j hj => ?_⟩)
      by_cases z : j = i
      · rw [z]; exact c
      · exact al j (by omega)
    · refine iteE (v := true) (ndT fun z => c (V.int.inj z)) (iteT ?_)
      refine ⟨_, rfl, szl (by show 2 ≤ 1000000; decide), fun p hp => ?_⟩
      have s1 := same_new hp (.lst [V.non, V.int (0 + (i : Int))])
      refine ⟨_, rfl, t1, _, 1, _, rfl, rfl, SqT.of (s1 _ _ ht1), rfl, _, rfl, w1, _, _, _, rfl, rfl, SqT.of (s1 _ _ hw1), at1, _, rfl, t2, _, 1, _, rfl, rfl, SqT.of (s1 _ _ ht2), rfl, _, rfl, w2, _, _, _, rfl, rfl, SqT.of (s1 _ _ hw2), at2, _, _, rfl, rfl, .inr ⟨_, rfl, p, _, _, _, rfl, rfl, SqL.of upd_same, (by rw [z0]; exact pick _ _ i), ?_⟩⟩
      refine q _ _ s1 fun e => ⟨fun z => ?_, fun z => ?_⟩
      · split at z
        · cases z
          exact ⟨al, .inl ⟨hi, by assumption⟩⟩
        · cases z
      · obtain ⟨z1, z2⟩ := z
        rcases Nat.lt_trichotomy e i with y | y | y
        · have := al e y
          omega
        · subst y
          rw [if_pos (by omega)]
        · exact absurd (z1 i y) c
  obtain ⟨rfl, ⟨o4, rfl⟩, al⟩ := pp
  refine ⟨_, rfl, szl (by show 2 ≤ 1000000; decide), fun p hp => ?_⟩
  have s1 := same_new hp (.lst [V.non, V.int (sn : Int)])
  refine ⟨_, rfl, t1, _, 0, _, rfl, rfl, SqT.of (s1 _ _ ht1), rfl, _, rfl, t2, _, 0, _, rfl, rfl, SqT.of (s1 _ _ ht2), rfl, _, _, rfl, rfl, .inr ⟨_, rfl, p, _, _, _, rfl, rfl, SqL.of upd_same, pick _ _ sn, ?_⟩⟩
  refine q _ _ s1 fun e => ⟨fun z => ?_, fun z => ?_⟩
  · split at z
    · cases z
      exact ⟨al, .inr ⟨rfl, by omega⟩⟩
    · cases z
  · obtain ⟨z1, z2⟩ := z
    rcases z2 with ⟨y1, y2⟩ | ⟨rfl, y2⟩
    · have := al e y1
      omega
    · rw [if_pos (by omega)]

theorem ok_are_bonds (T : Tx K mg a) : FnOk P w K mg base CX0 2 a.f_l_are_bonds a.d_l_are_bonds ["_law_found"] spAreBonds := by
  have G_l_whole := ok_whole (P := P) (w := w) (base := base) T
  refine T.F_l_are_bonds.ok sc_l_are_bonds (fun vs H Q E h => ?_) (fun cdv A outer s H vs Q E hr h => ?_)
  · obtain ⟨_, _, _, rfl, _⟩ := h; rfl
  obtain ⟨l, ys, B, rfl, hl, hB, yl, q⟩ := h
  refine ⟨_, (pss_cons (ps_if (pt_not (pt_val (pe_callB call_isi (by rfl) T.z_isinstance bt_isinstance (pa_cons (pv 0) (pa_cons (pe_bltn (v := .ty "list") (by rfl) T.z_list bt_list rfl) pa_nil)))))
    (pss_one (ps_ret pe_bl))
    pss_nil)
    (pss_cons (ps_for PassesOwn.never rfl (pi_list (pv 0)) (pg_name (i := 1) sc_l_are_bonds.nd rfl (Or.inl rfl))
    (pss_one (ps_if ((pw_or (pt_not (pt_val (pe_callB call_isi (by rfl) T.z_isinstance bt_isinstance (pa_cons (pv 1) (pa_cons (pe_bltn (v := .ty "tuple") (by rfl) T.z_tuple bt_tuple rfl) pa_nil))))) (pw_or (pt_cmpR op_ne (pe_callB call_len_seq (by rfl) T.z_len bt_len (pa_cons (pv 1) pa_nil)) pe_int (nomark _)) (pw_or1 (pt_cmpR op_ne (pe_callB call_len_seq (by rfl) T.z_len bt_len (pa_cons (pe_compB ["_law_n"] [none] (by rfl) (pi_tup (pv 1)) c_l_are_bonds_0 (fun _ _ _ _ _ _ => ⟨(pg_name (i := 0) c_l_are_bonds_0n rfl (Or.inl rfl)), (by exact (pts_one (pt_val (pe_call G_l_whole (hr.mono (by omega)) (by rfl) T.m_l_whole T.F_l_whole.kp T.b_l_whole .nil pass0 (pa_cons (pv 0) pa_nil))))), (pv 0)⟩)) pa_nil)) pe_int (nomark _)))))).pt
    (pss_one (ps_ret pe_bl))
    pss_nil)))
    (pss_one (ps_ret pe_bl)))), ?_⟩
  refine ⟨_, rfl, _, _, _, _, _, rfl, rfl, .lst hl, rfl, _, rfl, iteF ?_⟩
  refine ⟨_, rfl, l, rfl, ⟨_, SqL.of hl⟩, ?_⟩
  refine for_list (xs := ys) (fun i σ' H' => Same H H' ∧ ∃ o1, σ' = [some (.ref l), o1]) ⟨Same.refl _, _, rfl⟩ (fun i σ' H' _ pp => SqL.of (pp.1 _ _ hl)) (fun i x σ' H' hx pp => ?_) (fun σ' H' pp => ?_)
  · obtain ⟨e, o1, rfl⟩ := pp
    have hi : i < B.length := by have := (List.getElem?_eq_some_iff.mp hx).1; have := hB.1; omega
    obtain ⟨t, rfl, ht⟩ := (hB.over e).2 i x _ hx (List.getElem?_eq_getElem hi)
    refine ⟨_, rfl, _, _, _, _, _, rfl, rfl, .tup ht, rfl, _, rfl, iteF ?_⟩
    refine ⟨_, rfl, t, _, rfl, .inr (SqT.of ht), rfl, _, rfl, iteE (ndF rfl) (iteF ?_)⟩
    refine ⟨_, rfl, t, rfl, ⟨_, SqT.of ht⟩, ?_⟩
    refine comp_tup (xs := [V.int B[i].1, V.int B[i].2.1, V.int B[i].2.2]) (fun j zs H2 => H2 = H' ∧ zs.length = j) ⟨rfl, rfl⟩ (szl (by show 3 ≤ 1000000; decide)) (fun j zs H2 hj p => ⟨by rw [p.1]; exact SqT.of ht, by omega⟩) (fun j x zs H2 hx p => ?_) (fun zs H2 p r hr' => ?_)
    · obtain ⟨rfl, zl⟩ := p
      obtain ⟨n, rfl⟩ : ∃ n, x = V.int n := by
        match j, hx with
        | 0, hx => exact ⟨_, (Option.some.inj hx).symm⟩
        | 1, hx => exact ⟨_, (Option.some.inj hx).symm⟩
        | 2, hx => exact ⟨_, (Option.some.inj hx).symm⟩
        | j + 3, hx => simp at hx
      refine ⟨_, rfl, _, rfl, rfl, _, rfl, iteT ?_⟩
      exact ⟨_, rfl, rfl, by rw [List.length_append, zl]; rfl⟩
    · obtain ⟨rfl, zl⟩ := p
      refine ⟨r, _, rfl, .inl (SqL.of upd_same), rfl, _, rfl, iteE (ndF (congrArg (fun n : Nat => V.int (n : Int)) zl)) (iteF ?_)⟩
      exact ⟨e.trans (same_new hr' _), _, rfl⟩
  · obtain ⟨e, o1, rfl⟩ := pp
    exact q _ e

theorem ok_kept (T : Tx K mg a) : FnOk P w K mg base CX0 1 a.f_l_kept a.d_l_kept ["_law_bonds", "_law_values"] spKept54 := by
  refine T.F_l_kept.ok sc_l_kept (fun vs H Q E h => ?_) (fun cdv A outer s H vs Q E hr h => ?_)
  · obtain ⟨_, _, _, _, _, rfl, _⟩ := h; rfl
  obtain ⟨bl, vt, ys, B, U, rfl, hb, hB, hv, ul, hk, q⟩ := h
  refine ⟨_, (pss_cons (ps_for PassesOwn.never rfl (pi_list (pv 0)) (pg_tup rfl (pgs_cons (pg_name (i := 2) sc_l_kept.nd rfl (Or.inl rfl)) (pgs_cons (pg_name (i := 3) sc_l_kept.nd rfl (Or.inl rfl)) (pgs_cons (pg_name (i := 4) sc_l_kept.nd rfl (Or.inl rfl)) pgs_nil))))
    (pss_one (ps_if ((pw_or (pt_not (pt_chain op_le op_lt pe_int (pv 2) (pe_callB call_len_seq (by rfl) T.z_len bt_len (pa_cons (pv 1) pa_nil)))) (pw_or (pt_not (pt_chain op_le op_lt pe_int (pv 3) (pe_callB call_len_seq (by rfl) T.z_len bt_len (pa_cons (pv 1) pa_nil)))) (pw_or1 (pt_cmpR op_gt (pe_op op_sub (pe_ix ix_tup (pv 1) (pv 2) (fun _ _ => rfl)) (pe_ix ix_tup (pv 1) (pv 3) (fun _ _ => rfl))) (pv 4) (nomark _)))))).pt
    (pss_one (ps_ret pe_bl))
    pss_nil)))
    (pss_one (ps_ret pe_bl))), ?_⟩
  refine ⟨_, rfl, bl, rfl, ⟨_, SqL.of hb⟩, ?_⟩
  refine for_list (xs := ys) (fun i σ' H2 => H2 = H ∧ (∃ o2 o3 o4, σ' = [some (.ref bl), some (.ref vt), o2, o3, o4]) ∧ ∀ j < i, ∀ b, B[j]? = some b → hU U b = true) ⟨rfl, ⟨_, _, _, rfl⟩, fun j hj => by omega⟩ (fun i σ' H2 _ pp => by rw [pp.1]; exact SqL.of hb) (fun i x σ' H2 hx pp => ?_) (fun σ' H2 pp => ?_)
  · obtain ⟨rfl, ⟨o2, o3, o4, rfl⟩, hall⟩ := pp
    have hi : i < B.length := by have := (List.getElem?_eq_some_iff.mp hx).1; have := hB.1; omega
    have Bi : B[i]? = some B[i] := List.getElem?_eq_getElem hi
    have mem := List.getElem_mem hi
    generalize B[i] = b at Bi mem
    obtain ⟨t, rfl, ht⟩ := hB.2 i x b hx Bi
    obtain ⟨k1, k2, k3, k4⟩ := hk b mem
    have ml : ((U.map V.int).length : Int) = (U.length : Int) := by rw [List.length_map]
    refine ⟨t, _, rfl, SqT.of ht, rfl, _, _, rfl, _, _, rfl, _, _, rfl, rfl, ?_⟩
    refine ⟨_, rfl, _, _, rfl, rfl, _, rfl, iteE (v := true) (decide_eq_true k1) (iteT ?_)⟩
    refine ⟨_, rfl, vt, _, rfl, .inr (SqT.of hv), _, _, rfl, rfl, _, rfl, iteE (v := false) (by rw [decide_eq_true (by rw [ml]; exact k2)]; rfl) (iteF ?_)⟩
    refine ⟨_, rfl, _, _, rfl, rfl, _, rfl, iteE (v := true) (decide_eq_true k3) (iteT ?_)⟩
    refine ⟨_, rfl, vt, _, rfl, .inr (SqT.of hv), _, _, rfl, rfl, _, rfl, iteE (v := false) (by rw [decide_eq_true (by rw [ml]; exact k4)]; rfl) (iteF ?_)⟩
    refine ⟨_, rfl, _, rfl, vt, _, _, _, rfl, rfl, SqT.of hv, cell_in (ns := U) (k := b.1) k1 k2, _, rfl, _, rfl, vt, _, _, _, rfl, rfl, SqT.of hv, cell_in (ns := U) (k := b.2.1) k3 k4, _, _, rfl, rfl, _, rfl, _, _, rfl, rfl, _, rfl, ?_⟩
    refine ite2 (fun c => ?_) (fun c => ?_)
    · have c := dT c
      have hf : B.all (hU U) = false := by
        rw [List.all_eq_false]
        exact ⟨b, mem, by unfold hU; rw [decide_eq_false (by omega)]; decide⟩
      rw [hf] at q
      exact q
    · have c := dF c
      refine ⟨rfl, ⟨_, _, _, rfl⟩, fun j hj b' hb' => ?_⟩
      by_cases z : j = i
      · subst z
        rw [Bi] at hb'
        cases hb'
        exact decide_eq_true (by omega)
      · exact hall j (by omega) b' hb'
  · obtain ⟨rfl, ⟨o2, o3, o4, rfl⟩, hall⟩ := pp
    have ht : B.all (hU U) = true := by
      rw [List.all_eq_true]
      intro b hb'
      obtain ⟨j, hj⟩ := List.mem_iff_getElem?.mp hb'
      have := (List.getElem?_eq_some_iff.mp hj).1
      exact hall j (by have := hB.1; omega) b hj
    rw [ht] at q
    exact q

theorem ok_lunk (T : Tx K mg a) : FnOk P w K mg base CX0 1 a.f_l_unknown a.d_l_unknown ["_law_name_here", "_law_names", "_law_first_here"] spWhose := by
  refine T.F_l_unknown.ok sc_l_unknown (fun vs H Q E h => ?_) (fun cdv A outer s H vs Q E hr h => ?_)
  · obtain ⟨_, _, _, _, _, rfl, _⟩ := h; rfl
  obtain ⟨nm, z, first, zs, u, rfl, hn, hw, q⟩ := h
  refine ⟨_, (pss_cons (ps_if (pt_cmpR op_eq (pv 0) pe_str (nomark _))
    (pss_one (ps_ret pe_int))
    pss_nil)
    (pss_one (ps_ret (pe_op op_add (pv 2) (pe_bmT PySem.F.slot_tuple_index PySem.F.type_tuple_index mt_tindex (pv 1) (pa_cons (pv 0) pa_nil)))))), ?_⟩
  refine ⟨_, rfl, rfl, _, rfl, ?_⟩
  rcases hw with ⟨rfl, rfl⟩ | ⟨hz, j, hj, hno, rfl⟩
  · exact iteE (v := true) (decide_eq_true rfl) (iteT q)
  · refine iteE (v := false) (dS hz) (iteF ?_)
    exact ⟨_, rfl, _, rfl, ⟨nm, _, rfl, hn⟩, _, rfl, nm, zs, z, j, rfl, rfl, SqT.of hn, hj, hno, _, _, rfl, rfl, q⟩

theorem ok_lloopb (T : Tx K mg a) : FnOk P w K mg base CX0 2 a.f_l_loop_bonds a.d_l_loop_bonds ["_law_row_here", "_law_first_here"] spLoopL54 := by
  have G_l_unknown := ok_lunk (P := P) (w := w) (base := base) T
  refine T.F_l_loop_bonds.ok sc_l_loop_bonds (fun vs H Q E h => ?_) (fun cdv A outer s H vs Q E hr h => ?_)
  · obtain ⟨_, _, _, _, _, rfl, _⟩ := h; rfl
  obtain ⟨v, R, f, u, w2, rfl, ⟨r, u1, u2, u3, u4, x, ls, hs, rfl, hr1, hu1, hu2, als, hu3, ahs, hu4, tm⟩, l3, hu, hw, q⟩ := h
  refine ⟨_, (pss_cons (ps_set (i := 2) sc_l_loop_bonds.nd rfl (Or.inl rfl) (pe_lst pa_nil))
    (pss_cons (ps_for PassesOwn.never rfl (pi_range1 (by rfl) T.z_range (pa_cons (pe_callB call_len_seq (by rfl) T.z_len bt_len (pa_cons (pe_ix ix_tup (pv 0) pe_int (fun _ _ => rfl)) pa_nil)) pa_nil)) (pg_name (i := 3) sc_l_loop_bonds.nd rfl (Or.inl rfl))
    (pss_cons (ps_asg (pe_ix ix_tup (pe_ix ix_tup (pv 0) pe_int (fun _ _ => rfl)) (pv 3) (fun _ _ => rfl)) (pg_tup rfl (pgs_cons (pg_name (i := 4) sc_l_loop_bonds.nd rfl (Or.inl rfl)) (pgs_cons (pg_name (i := 5) sc_l_loop_bonds.nd rfl (Or.inl rfl)) pgs_nil))))
    (pss_cons (ps_asg (pe_ix ix_tup (pe_ix ix_tup (pv 0) pe_int (fun _ _ => rfl)) (pv 3) (fun _ _ => rfl)) (pg_tup rfl (pgs_cons (pg_name (i := 6) sc_l_loop_bonds.nd rfl (Or.inl rfl)) (pgs_cons (pg_name (i := 7) sc_l_loop_bonds.nd rfl (Or.inl rfl)) pgs_nil))))
    (pss_cons (ps_expr (pe_bm PySem.F.plainAttrs_list PySem.F.slot_list_append PySem.F.type_list_append mt_append (pv 2) (pa_cons (pe_tupq (paq_cons (pe_call G_l_unknown (hr.mono (by omega)) (by rfl) T.m_l_unknown T.F_l_unknown.kp T.b_l_unknown .nil pass0 (pa_cons (pv 4) (pa_cons (pe_ix ix_tup (pv 0) pe_int (fun _ _ => rfl)) (pa_cons (pv 1) pa_nil)))) (paq_cons (pe_op op_add (pv 1) (pv 3)) (paq_cons (pe_op op_sub pe_int (pv 5)) paq_nil star_B) star_B) star_K)) pa_nil)))
    (pss_one (ps_expr (pe_bm PySem.F.plainAttrs_list PySem.F.slot_list_append PySem.F.type_list_append mt_append (pv 2) (pa_cons (pe_tupq (paq_cons (pe_op op_add (pv 1) (pv 3)) (paq_cons (pe_call G_l_unknown (hr.mono (by omega)) (by rfl) T.m_l_unknown T.F_l_unknown.kp T.b_l_unknown .nil pass0 (pa_cons (pv 6) (pa_cons (pe_ix ix_tup (pv 0) pe_int (fun _ _ => rfl)) (pa_cons (pv 1) pa_nil)))) (paq_cons (pv 7) paq_nil star_N) star_K) star_B)) pa_nil))))))))
    (pss_one (ps_ret (pv 2))))), ?_⟩
  obtain ⟨xs, hx, xl, hxs⟩ := spt_lo hu2 als
  obtain ⟨os, ho, ol, hos⟩ := spt_hi hu3 ahs
  have nl : ((nmsOf R.S).map V.str).length = R.S.length := by unfold nmsOf; rw [List.length_map, List.length_map]
  refine ⟨szl (by show 0 ≤ 1000000; decide), fun l hl => ?_⟩
  have e1 := same_new hl (.lst [])
  have hl1 : (upd H l (.lst [])) l = some (.lst []) := upd_same
  dsimp only [gName]
  generalize upd H l (.lst []) = H1 at e1 hl1
  refine ⟨_, rfl, r, _, 0, _, rfl, rfl, SqT.of (e1 _ _ hr1), rfl, u1, _, rfl, .inr (SqT.of (e1 _ _ hu1)), _, rfl, by rw [nl]; omega, by rw [nl]; omega, ?_⟩
  rw [nl, Int.toNat_natCast]
  refine for_range (lo := 0) (n := R.S.length) (fun i σ' H' => Same H H' ∧ (∃ o3 o4 o5 o6 o7, σ' = [some (.ref r), some (.int f), some (.ref l), o3, o4, o5, o6, o7]) ∧ ∃ ys : List V, H' l = some (.lst ys) ∧ TrisAt H' ys (likeB (F52 f u (lnF R.S)) (G52 f w2 (hnF R.S)) i)) ⟨e1, ⟨_, _, _, _, _, rfl⟩, [], hl1, .nil⟩ (fun i σ' H' hi pp => ?_) (fun σ' H' pp => ?_)
  · obtain ⟨e, ⟨o3, o4, o5, o6, o7, rfl⟩, ys, hy, tr⟩ := pp
    have z0 : (0 + (i : Int)) = (i : Int) := Int.zero_add _
    have x1 : xs[i]? = some xs[i] := List.getElem?_eq_getElem (by omega)
    have x2 : os[i]? = some os[i] := List.getElem?_eq_getElem (by omega)
    obtain ⟨t1, et1, ht1⟩ := hxs i _ x1
    obtain ⟨t2, et2, ht2⟩ := hos i _ x2
    have at1 : atI xs (0 + (i : Int)) = some (.ref t1) := by rw [z0]; exact (atI_nat x1).trans (congrArg some et1)
    have at2 : atI os (0 + (i : Int)) = some (.ref t2) := by rw [z0]; exact (atI_nat x2).trans (congrArg some et2)
    have yl : ys.length = 2 * i := by rw [tr.1, likeB_len]
    have g1 := e _ _ ht1
    have g2 := e _ _ ht2
    have gr := e _ _ hr1
    dsimp only [gName]
    refine ⟨_, rfl, r, _, 1, _, rfl, rfl, SqT.of gr, rfl, _, rfl, u2, _, _, _, rfl, rfl, SqT.of (e _ _ hx), at1, t1, _, rfl, SqT.of g1, rfl, _, _, rfl, _, _, rfl, rfl, ?_⟩
    refine ⟨_, rfl, r, _, 2, _, rfl, rfl, SqT.of gr, rfl, _, rfl, u3, _, _, _, rfl, rfl, SqT.of (e _ _ ho), at2, t2, _, rfl, SqT.of g2, rfl, _, _, rfl, _, _, rfl, rfl, ?_⟩
    refine ⟨_, rfl, .inl ⟨rfl, _, SqL.of hy⟩, _, rfl, _, rfl, r, _, 0, _, rfl, rfl, SqT.of gr, rfl, _, rfl, u1, lzF R.S i, f, nmsOf R.S, u i, rfl, e _ _ hu1, hu i hi, _, rfl, _, rfl, _, _, rfl, rfl, _, rfl, _, _, rfl, rfl, szl (by show 3 ≤ 1000000; decide), fun b1 hb1 => ?_⟩
    rw [z0]
    have s3 := same_new hb1 (.tup [V.int (u i), V.int (f + (i : Int)), V.int (0 - lnF R.S i)])
    have nb1 : b1 ≠ l := fun z => by rw [z, hy] at hb1; cases hb1
    refine ⟨l, _, _, rfl, rfl, s3 _ _ hy, szlt (by omega), ?_⟩
    have tr3 := ((tr.over s3).upd (xs := ys ++ [V.ref b1]) (s3 _ _ hy)).snoc (t := b1) (b := F52 f u (lnF R.S) i) (by rw [upd_ne nb1, upd_same]; unfold F52; dsimp only; rw [Int.zero_sub])
    have hy3 : (upd (upd H' b1 (.tup [V.int (u i), V.int (f + (i : Int)), V.int (0 - lnF R.S i)])) l (.lst (ys ++ [V.ref b1]))) l = some (.lst (ys ++ [V.ref b1])) := upd_same
    have e3 : Same H (upd (upd H' b1 (.tup [V.int (u i), V.int (f + (i : Int)), V.int (0 - lnF R.S i)])) l (.lst (ys ++ [V.ref b1]))) := fun a o ha => by rw [upd_ne (ne_of_none ha hl)]; exact s3 _ _ (e _ _ ha)
    generalize upd (upd H' b1 (.tup [V.int (u i), V.int (f + (i : Int)), V.int (0 - lnF R.S i)])) l (.lst (ys ++ [V.ref b1])) = H3 at tr3 hy3 e3
    refine ⟨_, rfl, .inl ⟨rfl, _, SqL.of hy3⟩, _, rfl, _, rfl, _, _, rfl, rfl, _, rfl, _, rfl, r, _, 0, _, rfl, rfl, SqT.of (e3 _ _ hr1), rfl, _, rfl, u1, hzF R.S i, f, nmsOf R.S, w2 i, rfl, e3 _ _ hu1, hw i hi, _, rfl, szl (by show 3 ≤ 1000000; decide), fun b2 hb2 => ?_⟩
    have s4 := same_new hb2 (.tup [V.int (f + (i : Int)), V.int (w2 i), V.int (hnF R.S i)])
    have nb2 : b2 ≠ l := fun z => by rw [z, hy3] at hb2; cases hb2
    refine ⟨l, _, _, rfl, rfl, s4 _ _ hy3, szlt (by rw [List.length_append, List.length_singleton]; omega), ?_⟩
    have tr4 := ((tr3.over s4).upd (xs := ys ++ [V.ref b1] ++ [V.ref b2]) (s4 _ _ hy3)).snoc (t := b2) (b := G52 f w2 (hnF R.S) i) (by rw [upd_ne nb2]; exact upd_same)
    exact ⟨fun a o ha => by rw [upd_ne (ne_of_none ha hl)]; exact s4 _ _ (e3 _ _ ha), ⟨_, _, _, _, _, rfl⟩, _, upd_same, tr4⟩
  · obtain ⟨e, ⟨o3, o4, o5, o6, o7, rfl⟩, ys, hy, tr⟩ := pp
    exact ⟨_, rfl, q l ys _ e hy tr⟩

theorem ok_lcaseb (T : Tx K mg a) : FnOk P w K mg base CX0 104 a.f_l_case_bonds a.d_l_case_bonds ["_law_rows_here", "_law_k", "_law_a", "_law_l", "_law_b", "_law_case"] spCaseL54 := by
  have G_l_loop_bonds := ok_lloopb (P := P) (w := w) (base := base) T
  have G_l_touches := ok_touchl (P := P) (w := w) (base := base) T
  have G_l_unknown := ok_lunk (P := P) (w := w) (base := base) T
  have G_l_shared := ok_lshared (P := P) (w := w) (base := base) T
  refine T.F_l_case_bonds.ok sc_l_case_bonds (fun vs H Q E h => ?_) (fun cdv A outer s H vs Q E hr h => ?_)
  · obtain ⟨_, _, _, _, _, _, _, _, _, _, _, _, _, _, rfl, _⟩ := h; rfl
  obtain ⟨rl, Rs, M, R, R', r, r', k, ta, l, tb, cs, o, D, rfl, ⟨xs, hrl, ax⟩, hR, hR', g, g', ok, ok', hta, htb, hS, hS', cd, c1, q⟩ := h
  refine ⟨_, (pss_cons (ps_set (i := 6) sc_l_case_bonds.nd rfl (Or.inl rfl) (pe_ix ix_list (pv 0) (pv 1) (fun _ _ => rfl)))
    (pss_cons (ps_set (i := 7) sc_l_case_bonds.nd rfl (Or.inl rfl) (pe_ix ix_list (pv 0) (pv 3) (fun _ _ => rfl)))
    (pss_cons (ps_set (i := 8) sc_l_case_bonds.nd rfl (Or.inl rfl) (pe_op op_add pe_int (pe_callB call_len_seq (by rfl) T.z_len bt_len (pa_cons (pe_ix ix_tup (pv 6) pe_int (fun _ _ => rfl)) pa_nil))))
    (pss_cons (ps_set (i := 9) sc_l_case_bonds.nd rfl (Or.inl rfl) (pe_op op_cat (pe_call G_l_loop_bonds (hr.mono (by omega)) (by rfl) T.m_l_loop_bonds T.F_l_loop_bonds.kp T.b_l_loop_bonds .nil pass0 (pa_cons (pv 6) (pa_cons pe_int pa_nil))) (pe_call G_l_loop_bonds (hr.mono (by omega)) (by rfl) T.m_l_loop_bonds T.F_l_loop_bonds.kp T.b_l_loop_bonds .nil pass0 (pa_cons (pv 7) (pa_cons (pv 8) pa_nil)))))
    (pss_cons (ps_for PassesOwn.never rfl (pi_zipT (by rfl) T.z_zip (pa_cons (pe_ix ix_tup (pe_ix ix_list (pe_call G_l_touches (hr.mono (by omega)) (by rfl) T.m_l_touches T.F_l_touches.kp T.b_l_touches .nil pass0 (pa_cons (pv 6) pa_nil)) (pv 2) (fun _ _ => rfl)) pe_int (fun _ _ => rfl)) (pa_cons (pe_ix ix_tup (pe_ix ix_list (pe_call G_l_touches (hr.mono (by omega)) (by rfl) T.m_l_touches T.F_l_touches.kp T.b_l_touches .nil pass0 (pa_cons (pv 7) pa_nil)) (pv 4) (fun _ _ => rfl)) pe_int (fun _ _ => rfl)) pa_nil))) (pg_tup rfl (pgs_cons (pg_name (i := 10) sc_l_case_bonds.nd rfl (Or.inl rfl)) (pgs_cons (pg_name (i := 11) sc_l_case_bonds.nd rfl (Or.inl rfl)) pgs_nil)))
    (pss_cons (ps_set (i := 12) sc_l_case_bonds.nd rfl (Or.inl rfl) (pe_call G_l_unknown (hr.mono (by omega)) (by rfl) T.m_l_unknown T.F_l_unknown.kp T.b_l_unknown .nil pass0 (pa_cons (pe_ix ix_tup (pv 10) pe_int (fun _ _ => rfl)) (pa_cons (pe_ix ix_tup (pv 6) pe_int (fun _ _ => rfl)) (pa_cons pe_int pa_nil)))))
    (pss_cons (ps_set (i := 13) sc_l_case_bonds.nd rfl (Or.inl rfl) (pe_call G_l_unknown (hr.mono (by omega)) (by rfl) T.m_l_unknown T.F_l_unknown.kp T.b_l_unknown .nil pass0 (pa_cons (pe_ix ix_tup (pv 11) pe_int (fun _ _ => rfl)) (pa_cons (pe_ix ix_tup (pv 7) pe_int (fun _ _ => rfl)) (pa_cons (pv 8) pa_nil)))))
    (pss_one (ps_set (i := 9) sc_l_case_bonds.nd rfl (Or.inl rfl) (pe_op op_cat (pv 9) (pe_lst (pa_cons (pe_tupq (paq_cons (pv 12) (paq_cons (pv 13) (paq_cons (pe_op op_sub (pe_ix ix_tup (pv 11) pe_int (fun _ _ => rfl)) (pe_ix ix_tup (pv 10) pe_int (fun _ _ => rfl))) paq_nil star_B) star_N) star_N)) (pa_cons (pe_tupq (paq_cons (pv 13) (paq_cons (pv 12) (paq_cons (pe_op op_sub (pe_ix ix_tup (pv 10) pe_int (fun _ _ => rfl)) (pe_ix ix_tup (pv 11) pe_int (fun _ _ => rfl))) paq_nil star_B) star_N) star_N)) pa_nil)))))))))
    (pss_cons (ps_for PassesOwn.never rfl (pi_range1 (by rfl) T.z_range (pa_cons (pv 5) pa_nil)) (pg_name (i := 14) sc_l_case_bonds.nd rfl (Or.inl rfl))
    (pss_one (ps_set (i := 9) sc_l_case_bonds.nd rfl (Or.inl rfl) (pe_op op_cat (pv 9) (pe_lst (pa_cons (pe_tupq (paq_cons (pe_op op_add pe_int (pv 14)) (paq_cons (pe_op op_add (pv 8) (pv 14)) (paq_cons pe_int paq_nil star_C) star_B) star_B)) (pa_cons (pe_tupq (paq_cons (pe_op op_add (pv 8) (pv 14)) (paq_cons (pe_op op_add pe_int (pv 14)) (paq_cons pe_int paq_nil star_C) star_B) star_B)) pa_nil)))))))
    (pss_cons (ps_if (pt_cmpR op_lt (pv 5) (pe_call G_l_shared (hr.mono (by omega)) (by rfl) T.m_l_shared T.F_l_shared.kp T.b_l_shared .nil pass0 (pa_cons (pv 6) (pa_cons (pv 7) pa_nil))) (nomark _))
    (pss_one (ps_expr (pe_bm PySem.F.plainAttrs_list PySem.F.slot_list_append PySem.F.type_list_append mt_append (pv 9) (pa_cons (pe_tupq (paq_cons (pe_op op_add pe_int (pv 5)) (paq_cons (pe_op op_add (pv 8) (pv 5)) (paq_cons (pe_un un_neg pe_int) paq_nil star_U) star_B) star_B)) pa_nil))))
    pss_nil)
    (pss_one (ps_ret (pv 9)))))))))), ?_⟩
  obtain ⟨y1, hy1, r4⟩ := ax.get hR
  obtain ⟨y2, hy2, r4'⟩ := ax.get hR'
  have r3 := r4.1
  have r3' := r4'.1
  have r5 := r3.r5
  have r5' := r3'.r5
  obtain ⟨v1, a1, a2, a3, a4, x1, ls1, hs1, rfl, hv1, ha1, _⟩ := r4.1
  obtain ⟨v2, b1, b2, b3, b4, x2, ls2, hs2, rfl, hv2, hb1, _⟩ := r4'.1
  have k1 : D.s ≤ R.S.length := cd.pf.1
  have k3 := g.ok.so.1
  have k4 := g'.ok.so.1
  have m3 := cd.m3
  have nl : ((nmsOf R.S).map V.str).length = R.S.length := by unfold nmsOf; rw [List.length_map, List.length_map]
  have n1 := nms_nd g.so
  have n2 := nms_nd g'.so
  have z1 := nms_ne g.so
  have z2 := nms_ne g'.so
  refine ⟨_, rfl, _, rfl, rl, _, _, _, rfl, rfl, SqL.of hrl, atI_nat hy1, ?_⟩
  dsimp only [gName]
  refine ⟨_, rfl, _, rfl, rl, _, _, _, rfl, rfl, SqL.of hrl, atI_nat hy2, ?_⟩
  dsimp only [gName]
  refine ⟨_, rfl, v1, _, 0, _, rfl, rfl, SqT.of hv1, rfl, a1, _, rfl, .inr (SqT.of ha1), _, _, rfl, rfl, ?_⟩
  rw [nl]
  dsimp only [gName]
  generalize hbh : 1 + (R.S.length : Int) = bh
  refine ⟨_, rfl, .ref v1, R, 1, D.u, D.w, rfl, r3, k3, fun i hi => ub_whose n1 z1 (cd.hu i (by omega)), fun i hi => ub_whose n1 z1 (cd.hw i (by omega)), fun f1 ys1 H3 e3 hf1 tr1 => ?_⟩
  refine ⟨_, rfl, _, rfl, .ref v2, R', bh, D.u', D.w', rfl, r3'.over e3, k4, fun i hi => by rw [← hbh]; exact ub_whose n2 z2 (cd.hu' i (by omega)), fun i hi => by rw [← hbh]; exact ub_whose n2 z2 (cd.hw' i (by omega)), fun f2 ys2 H4 e4 hf2 tr2 => ?_⟩
  have y1l : ys1.length = 2 * R.S.length := by rw [tr1.1, lbB_len]
  have y2l : ys2.length = 2 * R'.S.length := by rw [tr2.1, lbB_len]
  refine ⟨f1, f2, _, _, rfl, rfl, e4 _ _ hf1, hf2, szl (by omega), fun bo hbo => ?_⟩
  have s5 := same_new hbo (.lst (ys1 ++ ys2))
  have hbo5 : (upd H4 bo (.lst (ys1 ++ ys2))) bo = some (.lst (ys1 ++ ys2)) := upd_same
  have tr5 := ((tr1.over e4).app tr2).over s5
  dsimp only [gName]
  generalize upd H4 bo (.lst (ys1 ++ ys2)) = H5 at s5 hbo5 tr5
  have e04 := e3.trans e4
  have bo0 : H bo = none := e04.free hbo
  have e05 := e04.trans s5
  generalize hB0 : lbB R.S 1 D.u D.w ++ lbB R'.S bh D.u' D.w' = B0 at tr5
  have B0l : B0.length ≤ 12 := by rw [← hB0, List.length_append, lbB_len, lbB_len]; omega
  generalize ys1 ++ ys2 = yy at hbo5 tr5
  refine ⟨_, rfl, .ref v1, R.r5, rfl, r5.over e05, by have := g.ok.m3; show R.m ≤ 100; omega, fun q1 H6 e6 q10 tc1 => ?_⟩
  obtain ⟨as1, tp1, fl1, hq1, at1, htp1⟩ := tch_get tc1 hta
  refine ⟨_, rfl, q1, _, _, _, rfl, rfl, SqL.of hq1, at1, tp1, _, 2, _, rfl, rfl, SqT.of htp1, rfl, ?_⟩
  have e06 := e05.trans e6
  refine ⟨_, rfl, .ref v2, R'.r5, rfl, r5'.over e06, by have := g'.ok.m3; show R'.m ≤ 100; omega, fun q2 H7 e7 q20 tc2 => ?_⟩
  obtain ⟨as2, tp2, fl2, hq2, at2, htp2⟩ := tch_get tc2 htb
  have e07 := e06.trans e7
  obtain ⟨xs, hx, xl, hxs⟩ := hS
  obtain ⟨os, ho, ol, hos⟩ := hS'
  refine ⟨_, rfl, q2, _, _, _, rfl, rfl, SqL.of hq2, at2, tp2, _, 2, _, rfl, rfl, SqT.of htp2, rfl, r.2, r'.2, rfl, ⟨_, SqT.of (e07 _ _ hx)⟩, ⟨_, SqT.of (e07 _ _ ho)⟩, ?_⟩
  have hbo7 := (e6.trans e7) _ _ hbo5
  have tr7 := tr5.over (e6.trans e7)
  generalize hF : (fun i => (D.x1 i, D.x2 i, D.n2 i - D.n1 i)) = F1
  generalize hG : (fun i => (D.x2 i, D.x1 i, D.n1 i - D.n2 i)) = G1
  refine for_zipT (xs := xs) (ys := os) (by omega) (fun i σ' H' => Same H H' ∧ ∃ (o10 o11 o12 o13 : Option V) (fo : Addr) (ys : List V), σ' = [some (.ref rl), some (.int (k : Int)), some (.int (ta : Int)), some (.int (l : Int)), some (.int (tb : Int)), some (.int (cs : Int)), some (.ref v1), some (.ref v2), some (.int bh), some (.ref fo), o10, o11, o12, o13, none] ∧ H fo = none ∧ H' fo = some (.lst ys) ∧ TrisAt H' ys (B0 ++ likeB F1 G1 i)) ⟨e07, _, _, _, _, bo, yy, rfl, bo0, hbo7, by show TrisAt _ _ (B0 ++ []); rw [List.append_nil]; exact tr7⟩ (fun i σ' H' _ pp => ⟨SqT.of (pp.1 _ _ hx), SqT.of (pp.1 _ _ ho)⟩) (fun i x y Tt σ' H' hxi hyi pp hT => ?_) (fun σ' H' pp => ?_)
  · obtain ⟨e, o10, o11, o12, o13, fo, ys, rfl, fo0, hy, tr⟩ := pp
    obtain ⟨t, rfl, ht⟩ := hxs i x hxi
    obtain ⟨t2, rfl, ht2⟩ := hos i y hyi
    have hi : i < D.m := by have := (List.getElem?_eq_some_iff.mp hxi).1; omega
    have sT := same_new hT (.tup [V.ref t, V.ref t2])
    have e2 := e.trans sT
    have hy2 := sT _ _ hy
    have tr2 := tr.over sT
    refine ⟨Tt, _, rfl, SqT.of upd_same, rfl, _, _, rfl, _, _, rfl, rfl, ?_⟩
    generalize upd H' Tt (.tup [V.ref t, V.ref t2]) = H2 at e2 hy2 tr2
    have g1 := e2 _ _ ht
    have g2 := e2 _ _ ht2
    have yl : ys.length ≤ 12 + 2 * i := by rw [tr2.1, List.length_append, likeB_len]; omega
    refine ⟨_, rfl, t, _, 0, _, rfl, rfl, SqT.of g1, rfl, _, rfl, v1, _, 0, _, rfl, rfl, SqT.of (e2 _ _ hv1), rfl, a1, D.z1 i, 1, nmsOf R.S, D.x1 i, rfl, e2 _ _ ha1, cd.hx1 i hi, ?_⟩
    dsimp only [gName]
    refine ⟨_, rfl, t2, _, 0, _, rfl, rfl, SqT.of g2, rfl, _, rfl, v2, _, 0, _, rfl, rfl, SqT.of (e2 _ _ hv2), rfl, _, rfl, b1, D.z2 i, bh, nmsOf R'.S, D.x2 i, rfl, e2 _ _ hb1, by rw [← hbh]; exact cd.hx2 i hi, ?_⟩
    dsimp only [gName]
    refine ⟨_, rfl, _, rfl, _, rfl, _, rfl, t2, _, 1, _, rfl, rfl, SqT.of g2, rfl, _, rfl, t, _, 1, _, rfl, rfl, SqT.of g1, rfl, _, _, rfl, rfl, szl (by show 3 ≤ 1000000; decide), fun w1 hw1 => ?_⟩
    have s3 := same_new hw1 (.tup [V.int (D.x1 i), V.int (D.x2 i), V.int (D.n2 i - D.n1 i)])
    have hw13 : (upd H2 w1 (.tup [V.int (D.x1 i), V.int (D.x2 i), V.int (D.n2 i - D.n1 i)])) w1 = some (.tup [V.int (D.x1 i), V.int (D.x2 i), V.int (D.n2 i - D.n1 i)]) := upd_same
    generalize upd H2 w1 (.tup [V.int (D.x1 i), V.int (D.x2 i), V.int (D.n2 i - D.n1 i)]) = H3 at s3 hw13
    refine ⟨_, rfl, _, rfl, _, rfl, t, _, 1, _, rfl, rfl, SqT.of (s3 _ _ g1), rfl, _, rfl, t2, _, 1, _, rfl, rfl, SqT.of (s3 _ _ g2), rfl, _, _, rfl, rfl, szl (by show 3 ≤ 1000000; decide), fun w2 hw2 => ⟨szl (by show 2 ≤ 1000000; decide), fun l2 hl2 => ?_⟩⟩
    have s4 := same_new hw2 (.tup [V.int (D.x2 i), V.int (D.x1 i), V.int (D.n1 i - D.n2 i)])
    have hw24 : (upd H3 w2 (.tup [V.int (D.x2 i), V.int (D.x1 i), V.int (D.n1 i - D.n2 i)])) w2 = some (.tup [V.int (D.x2 i), V.int (D.x1 i), V.int (D.n1 i - D.n2 i)]) := upd_same
    have s5 := same_new hl2 (.lst [V.ref w1, V.ref w2])
    refine ⟨fo, l2, _, _, rfl, rfl, s5 _ _ (s4 _ _ (s3 _ _ hy2)), upd_same, szl (by show _ + 2 ≤ 1000000; omega), fun p hp => ?_⟩
    have s6 := same_new hp (.lst (ys ++ [V.ref w1, V.ref w2]))
    have s26 := s3.trans (s4.trans (s5.trans s6))
    refine ⟨e2.trans s26, _, _, _, _, p, _, rfl, (e2.trans (s3.trans (s4.trans s5))).free hp, upd_same, ?_⟩
    have := ((tr2.over s26).snoc (t := w1) (b := F1 i) (by rw [← hF]; exact (s4.trans (s5.trans s6)) _ _ hw13)).snoc (t := w2) (b := G1 i) (by rw [← hG]; exact (s5.trans s6) _ _ hw24)
    rw [List.append_assoc ys] at this
    rw [show likeB F1 G1 (i + 1) = likeB F1 G1 i ++ [F1 i] ++ [G1 i] from rfl, ← List.append_assoc, ← List.append_assoc]
    exact this
  obtain ⟨e, o10, o11, o12, o13, fo, ys, rfl, fo0, hy, tr⟩ := pp
  rw [xl] at tr
  generalize hB1 : B0 ++ likeB F1 G1 D.m = B1 at tr
  have B1l : B1.length ≤ 18 := by rw [← hB1, List.length_append, likeB_len]; omega
  dsimp only [gName]
  refine ⟨_, rfl, _, rfl, by omega, by omega, ?_⟩
  rw [Int.toNat_natCast]
  refine for_range (lo := 0) (n := cs) (fun i σ' H' => Same H H' ∧ ∃ (o14 : Option V) (fo : Addr) (ys : List V), σ' = [some (.ref rl), some (.int (k : Int)), some (.int (ta : Int)), some (.int (l : Int)), some (.int (tb : Int)), some (.int (cs : Int)), some (.ref v1), some (.ref v2), some (.int bh), some (.ref fo), o10, o11, o12, o13, o14] ∧ H fo = none ∧ H' fo = some (.lst ys) ∧ TrisAt H' ys (B1 ++ orL bh i)) ⟨e, _, fo, ys, rfl, fo0, hy, by show TrisAt _ _ (B1 ++ []); rw [List.append_nil]; exact tr⟩ (fun i σ' H' hi pp => ?_) (fun σ' H' pp => ?_)
  · clear tr hy fo0 e
    obtain ⟨e, o14, fo, ys, rfl, fo0, hy, tr⟩ := pp
    have yl : ys.length ≤ 18 + 2 * i := by rw [tr.1, List.length_append, show (orL bh i).length = 2 * i from likeB_len _ _ _]; omega
    have z0 : (0 + (i : Int)) = (i : Int) := Int.zero_add _
    dsimp only [gName]
    rw [z0]
    refine ⟨_, rfl, _, rfl, _, _, rfl, rfl, _, rfl, _, rfl, _, _, rfl, rfl, szl (by show 3 ≤ 1000000; decide), fun w1 hw1 => ?_⟩
    have s3 := same_new hw1 (.tup [V.int (1 + (i : Int)), V.int (bh + (i : Int)), V.int 0])
    have hw13 : (upd H' w1 (.tup [V.int (1 + (i : Int)), V.int (bh + (i : Int)), V.int 0])) w1 = some (.tup [V.int (1 + (i : Int)), V.int (bh + (i : Int)), V.int 0]) := upd_same
    generalize upd H' w1 (.tup [V.int (1 + (i : Int)), V.int (bh + (i : Int)), V.int 0]) = H3 at s3 hw13
    refine ⟨_, rfl, _, rfl, _, _, rfl, rfl, _, rfl, _, _, rfl, rfl, szl (by show 3 ≤ 1000000; decide), fun w2 hw2 => ⟨szl (by show 2 ≤ 1000000; decide), fun l2 hl2 => ?_⟩⟩
    have s4 := same_new hw2 (.tup [V.int (bh + (i : Int)), V.int (1 + (i : Int)), V.int 0])
    have hw24 : (upd H3 w2 (.tup [V.int (bh + (i : Int)), V.int (1 + (i : Int)), V.int 0])) w2 = some (.tup [V.int (bh + (i : Int)), V.int (1 + (i : Int)), V.int 0]) := upd_same
    have s5 := same_new hl2 (.lst [V.ref w1, V.ref w2])
    refine ⟨fo, l2, _, _, rfl, rfl, s5 _ _ (s4 _ _ (s3 _ _ hy)), upd_same, szl (by show _ + 2 ≤ 1000000; omega), fun p hp => ?_⟩
    have s6 := same_new hp (.lst (ys ++ [V.ref w1, V.ref w2]))
    have s26 := s3.trans (s4.trans (s5.trans s6))
    refine ⟨e.trans s26, _, p, _, rfl, (e.trans (s3.trans (s4.trans s5))).free hp, upd_same, ?_⟩
    have := ((tr.over s26).snoc (t := w1) (b := (1 + (i : Int), bh + (i : Int), 0)) ((s4.trans (s5.trans s6)) _ _ hw13)).snoc (t := w2) (b := (bh + (i : Int), 1 + (i : Int), 0)) ((s5.trans s6) _ _ hw24)
    rw [List.append_assoc ys] at this
    rw [show orL bh (i + 1) = orL bh i ++ [(1 + (i : Int), bh + (i : Int), 0)] ++ [(bh + (i : Int), 1 + (i : Int), 0)] from rfl, ← List.append_assoc, ← List.append_assoc]
    exact this
  clear tr hy fo0 e
  obtain ⟨e, o14, fo, ys, rfl, fo0, hy, tr⟩ := pp
  have yl : ys.length ≤ 18 + 2 * cs := by rw [tr.1, List.length_append, show (orL bh cs).length = 2 * cs from likeB_len _ _ _]; omega
  have fin : cbB R R' D cs = B1 ++ orL bh cs ++ if cs < D.s then [(1 + (cs : Int), bh + (cs : Int), -1)] else [] := by
    unfold cbB spB orB
    rw [hbh, hB0, hF, hG, hB1, List.append_assoc]
  rw [fin] at q
  refine ⟨_, rfl, _, rfl, _, rfl, .ref v1, .ref v2, R.r5, R'.r5, D.s, rfl, r5.over e, r5'.over e, ok, ok', cd.pf, _, _, rfl, rfl, _, rfl, ite2 (fun c => ?_) (fun c => ?_)⟩
  · have c := dT c
    refine ⟨_, rfl, .inl ⟨rfl, _, SqL.of hy⟩, _, rfl, _, _, rfl, rfl, _, rfl, _, rfl, _, _, rfl, rfl, _, rfl, szl (by show 3 ≤ 1000000; decide), fun b1 hb1 => ?_⟩
    have s3 := same_new hb1 (.tup [V.int (1 + (cs : Int)), V.int (bh + (cs : Int)), V.int (-1)])
    have nb1 : b1 ≠ fo := fun z => by rw [z, hy] at hb1; cases hb1
    refine ⟨fo, _, _, rfl, rfl, s3 _ _ hy, szlt (by omega), ?_⟩
    have tr3 := ((tr.over s3).upd (xs := ys ++ [V.ref b1]) (s3 _ _ hy)).snoc (t := b1) (b := (1 + (cs : Int), bh + (cs : Int), -1)) (by rw [upd_ne nb1]; exact upd_same)
    refine ⟨_, rfl, q fo _ _ (fun a o ha => by rw [upd_ne (ne_of_none ha fo0)]; exact s3 _ _ (e _ _ ha)) upd_same ?_⟩
    rw [if_pos (by omega)]
    exact tr3
  · have c := dF c
    refine ⟨_, rfl, q fo _ _ e hy ?_⟩
    rw [if_neg (by omega), List.append_nil]
    exact tr

theorem ok_inside (T : Tx K mg a) : FnOk P w K mg base CX0 3 a.f_l_inside a.d_l_inside ["_law_row_here", "_law_values"] spInside54 := by
  have G_l_around := ok_around (P := P) (w := w) (base := base) T
  have G_l_stand := ok_stand54 (P := P) (w := w) (base := base) T
  refine T.F_l_inside.ok sc_l_inside (fun vs H Q E h => ?_) (fun cdv A outer s H vs Q E hr h => ?_)
  · obtain ⟨_, _, _, _, _, rfl, _⟩ := h; rfl
  obtain ⟨v, R, c, u, W, rfl, ⟨r, u1, u2, u3, u4, x, ls, hs, rfl, hr1, hu1, hu2, als, hu3, ahs, hu4, tm⟩, g, hu, wl, q⟩ := h
  refine ⟨_, (pss_cons (ps_for PassesOwn.never rfl (pi_range1 (by rfl) T.z_range (pa_cons (pe_callB call_len_seq (by rfl) T.z_len bt_len (pa_cons (pv 1) pa_nil)) pa_nil)) (pg_name (i := 2) sc_l_inside.nd rfl (Or.inl rfl))
    (pss_cons (ps_asg (pe_call G_l_stand (hr.mono (by omega)) (by rfl) T.m_l_stand T.F_l_stand.kp T.b_l_stand .nil pass0 (pa_cons (pe_tup (pa_cons (pe_ix ix_tup (pe_ix ix_tup (pv 0) pe_int (fun _ _ => rfl)) (pv 2) (fun _ _ => rfl)) (pa_cons (pe_ix ix_tup (pe_ix ix_tup (pv 0) pe_int (fun _ _ => rfl)) (pv 2) (fun _ _ => rfl)) pa_nil))) (pa_cons (pe_call G_l_around (hr.mono (by omega)) (by rfl) T.m_l_around T.F_l_around.kp T.b_l_around .nil pass0 (pa_cons (pe_ix ix_tup (pv 0) pe_int (fun _ _ => rfl)) (pa_cons (pe_slice sl_tupH (pv 1) po_none (po_some (pv 2))) pa_nil))) pa_nil))) (pg_tup rfl (pgs_cons (pg_name (i := 3) sc_l_inside.nd rfl (Or.inl rfl)) (pgs_cons (pg_name (i := 4) sc_l_inside.nd rfl (Or.inl rfl)) pgs_nil))))
    (pss_one (ps_if (pt_not (pt_chain op_le op_le (pv 3) (pe_ix ix_tup (pv 1) (pv 2) (fun _ _ => rfl)) (pv 4)))
    (pss_one (ps_ret pe_bl))
    pss_nil))))
    (pss_one (ps_ret pe_bl))), ?_⟩
  have ll := g.ok.so.1
  have nd := nms_nd g.so
  obtain ⟨bl, bh⟩ := bnds_of g.so
  have nml := nmsOf_len R.S
  have ul : (W.map V.int).length = R.S.length := by rw [List.length_map, wl]
  refine ⟨_, rfl, u, _, rfl, .inr (SqT.of hu), _, rfl, by rw [ul]; omega, by rw [ul]; omega, ?_⟩
  rw [ul, Int.toNat_natCast]
  refine for_range (lo := 0) (n := R.S.length) (fun i σ' H' => Same H H' ∧ (∃ o2 o3 o4, σ' = [some (.ref r), some (.ref u), o2, o3, o4]) ∧ ∀ j < i, InAt (nmsOf R.S) (lzF R.S) (hzF R.S) (lnF R.S) (hnF R.S) W j) ⟨Same.refl _, ⟨_, _, _, rfl⟩, fun j hj => by omega⟩ (fun i σ' H' hi pp => ?_) (fun σ' H' pp => ?_)
  rotate_left
  · obtain ⟨e, _, al⟩ := pp
    exact q _ _ e ⟨fun _ => al, fun _ => rfl⟩
  obtain ⟨e, ⟨o2, o3, o4, rfl⟩, al⟩ := pp
  have hq : R.S[i]? = some R.S[i] := List.getElem?_eq_getElem hi
  generalize R.S[i] = qq at hq
  obtain ⟨v1, hv1, t1, rfl, ht1⟩ := als.get hq
  obtain ⟨v2, hv2, t2, rfl, ht2⟩ := ahs.get hq
  have i0 : (0 : Int) + (i : Int) = (i : Int) := Int.zero_add _
  have g1 := e _ _ hr1
  dsimp only [gName]
  refine ⟨_, rfl, r, _, 1, _, rfl, rfl, SqT.of g1, rfl, _, rfl, u2, _, _, _, rfl, rfl, SqT.of (e _ _ hu2), by rw [i0]; exact atI_nat hv1, _, rfl, r, _, 2, _, rfl, rfl, SqT.of g1, rfl, _, rfl, u3, _, _, _, rfl, rfl, SqT.of (e _ _ hu3), by rw [i0]; exact atI_nat hv2, szl (by show 2 ≤ 1000000; decide), fun sp hsp => ?_⟩
  have s1 := same_new hsp (.tup [V.ref t1, V.ref t2])
  have hsp1 : (upd H' sp (.tup [V.ref t1, V.ref t2])) sp = some (.tup [V.ref t1, V.ref t2]) := upd_same
  generalize upd H' sp (.tup [V.ref t1, V.ref t2]) = H1 at s1 hsp1
  have e1 := e.trans s1
  refine ⟨_, rfl, r, _, 0, _, rfl, rfl, SqT.of (e1 _ _ hr1), rfl, _, rfl, _, rfl, _, rfl, u, _, rfl, e1 _ _ hu, fun sl H2 e2 hsl => ?_⟩
  have cut : cutV (W.map V.int) none (some (0 + (i : Int))) = (W.take i).map V.int := by
    rw [i0, show cutV (W.map V.int) none (some (i : Int)) = (W.map V.int).take (i : Int).toNat from cut_to (W.map V.int) (Int.natCast_nonneg _), Int.toNat_natCast, List.map_take]
  rw [cut] at hsl
  have e12 := e1.trans e2
  have tl : (W.take i).length = i := by rw [List.length_take]; omega
  refine ⟨u1, sl, nmsOf R.S, W.take i, rfl, e12 _ _ hu1, hsl, by omega, by omega, nd, fun d kvs H3 e3 hd3 ar => ?_⟩
  have e13 := e12.trans e3
  obtain ⟨b1, sb1, bv1⟩ := st_of bl hi tl ar
  obtain ⟨b2, sb2, bv2⟩ := st_of bh hi tl ar
  have bv1 := bv1.take
  have bv2 := bv2.take
  have el : lzF R.S i = qq.lz := by unfold lzF; rw [hq]; rfl
  have eh : hzF R.S i = qq.hz := by unfold hzF; rw [hq]; rfl
  have eln : lnF R.S i = qq.ln := by unfold lnF; rw [hq]; rfl
  have ehn : hnF R.S i = qq.hn := by unfold hnF; rw [hq]; rfl
  rw [el] at sb1
  rw [eh] at sb2
  refine ⟨sp, d, 2, _, _, _, kvs, rfl, spt_two ((e2.trans e3) _ _ hsp1) (e13 _ _ ht1) (e13 _ _ ht2), by decide, hd3, stb_two sb1 sb2, fun p H4 e4 hp => ?_⟩
  have hp : H4 p = some (.tup [V.int (b1 + qq.ln), V.int (b2 + qq.hn)]) := hp
  have e14 := e13.trans e4
  refine ⟨p, _, rfl, SqT.of hp, rfl, _, _, rfl, _, _, rfl, rfl, ?_⟩
  have atw : atI (W.map V.int) (0 + (i : Int)) = some (.int (W.getD i 0)) := by
    rw [i0]
    exact cell_in (ns := W) (k := (i : Int)) (Int.natCast_nonneg _) (by omega)
  have iff : InAt (nmsOf R.S) (lzF R.S) (hzF R.S) (lnF R.S) (hnF R.S) W i ↔ b1 + qq.ln ≤ W.getD i 0 ∧ W.getD i 0 ≤ b2 + qq.hn := by
    rw [← eln, ← ehn]
    constructor
    · rintro ⟨b, b', z1, z2, z3, z4⟩
      rw [BV.inj nd z1 bv1] at z3
      rw [BV.inj nd z2 bv2] at z4
      exact ⟨z3, z4⟩
    · rintro ⟨z3, z4⟩
      exact ⟨b1, b2, bv1, bv2, z3, z4⟩
  have no : ¬ (b1 + qq.ln ≤ W.getD i 0 ∧ W.getD i 0 ≤ b2 + qq.hn) → Q (.bl false) H4 := fun z => q _ _ e14 ⟨fun y => (by cases y), fun y => absurd (iff.mp (y i hi)) z⟩
  refine ⟨_, rfl, _, rfl, _, rfl, u, _, _, _, rfl, rfl, SqT.of (e14 _ _ hu), atw, _, _, rfl, rfl, _, rfl, ite2 (fun c1 => ?_) (fun c1 => ?_)⟩
  rotate_left
  · have c1 := dF c1
    exact ⟨_, rfl, iteT (no fun z => c1 z.1)⟩
  have c1 := dT c1
  refine ⟨_, rfl, _, _, rfl, rfl, _, rfl, ?_⟩
  by_cases c2 : W.getD i 0 ≤ b2 + qq.hn
  · refine iteE (v := false) (by rw [decide_eq_true c2]; rfl) (iteF ?_)
    refine ⟨e14, ⟨_, _, _, rfl⟩, fun j hj => ?_⟩
    by_cases z : j = i
    · rw [z]; exact iff.mpr ⟨c1, c2⟩
    · exact al j (by omega)
  · refine iteE (v := true) (by rw [decide_eq_false c2]; rfl) (iteT ?_)
    exact no fun z => c2 z.2

theorem ok_first (T : Tx K mg a) : FnOk P w K mg base CX0 4 a.f_l_first a.d_l_first ["_law_row_here", "_law_number"] spFirst54 := by
  have G_l_levels := ok_levels54 (P := P) (w := w) (base := base) T
  refine T.F_l_first.ok sc_l_first (fun vs H Q E h => ?_) (fun cdv A outer s H vs Q E hr h => ?_)
  · obtain ⟨_, _, _, _, rfl, _⟩ := h; rfl
  obtain ⟨v, R, c, n, rfl, r3, g, n0, q⟩ := h
  refine ⟨_, (pss_cons (ps_set (i := 2) sc_l_first.nd rfl (Or.inl rfl) (pe_ix ix_list (pe_call G_l_levels (hr.mono (by omega)) (by rfl) T.m_l_levels T.F_l_levels.kp T.b_l_levels .nil pass0 (pa_cons (pv 0) pa_nil)) (pe_un un_neg pe_int) (fun _ _ => rfl)))
    (pss_cons (ps_if (pt_cmpR (op_eqS (hu64 hr)) (pv 2) (pe_lst pa_nil) (nomark _))
    (pss_one (ps_ret (pe_callTy call_tuple_of (by rfl) T.z_tuple bt_tuple (pa_cons (pe_compB ["_law_e", "_law_number"] [none, some 1] (by rfl) (pi_range1 (by rfl) T.z_range (pa_cons (pe_callB call_len_seq (by rfl) T.z_len bt_len (pa_cons (pe_ix ix_tup (pv 0) pe_int (fun _ _ => rfl)) pa_nil)) pa_nil)) c_l_first_0 (fun _ _ _ _ _ _ => ⟨(pg_name (i := 0) c_l_first_0n rfl (Or.inl rfl)), pts_nil, (pe_op op_mod (pe_op op_fdiv (pv 1) (pe_op op_add (pv 0) pe_int)) pe_int)⟩)) pa_nil))))
    pss_nil)
    (pss_cons (ps_set (i := 3) sc_l_first.nd rfl (Or.inl rfl) (pe_ix ix_list (pv 2) (pe_op op_mod (pv 1) (pe_callB call_len_seq (by rfl) T.z_len bt_len (pa_cons (pv 2) pa_nil))) (fun _ _ => rfl)))
    (pss_cons (ps_if ((pw_and (pt_cmpR op_eq (pe_op op_mod (pe_op op_fdiv (pv 1) pe_int) pe_int) pe_int (nomark _)) (pw_and1 (pt_cmpR (op_neS (hu64 hr)) (pv 3) (pe_tup pa_nil) (nomark _))))).pt
    (pss_cons (ps_set (i := 4) sc_l_first.nd rfl (Or.inl rfl) (pe_op op_mod (pe_op op_fdiv (pv 1) pe_int) (pe_callB call_len_seq (by rfl) T.z_len bt_len (pa_cons (pv 3) pa_nil))))
    (pss_one (ps_ret (pe_op op_catH (pe_op op_catH (pe_slice sl_tupH (pv 3) po_none (po_some (pv 4))) (pe_tup (pa_cons (pe_op op_add (pe_ix ix_tup (pv 3) (pv 4) (fun _ _ => rfl)) (pe_ix ix_list (pe_lst (pa_cons pe_int (pa_cons (pe_un un_neg pe_int) pa_nil))) (pe_op op_mod (pe_op op_fdiv (pv 1) pe_int) pe_int) (fun _ _ => rfl))) pa_nil))) (pe_slice sl_tupH (pv 3) (po_some (pe_op op_add (pv 4) pe_int)) po_none)))))
    pss_nil)
    (pss_one (ps_ret (pv 3))))))), ?_⟩
  have ll := g.ok.so.1
  refine ⟨_, rfl, v, R, rfl, r3, g.ok.rg, g.lv, fun rr l xs ys H1 e1 hrr hl ay => ?_⟩
  refine ⟨_, rfl, rr, _, _, _, rfl, rfl, SqL.of hrr, atI_last xs (.ref l), ?_⟩
  dsimp only [gName]
  have r3 := r3.over e1
  obtain ⟨r, u1, u2, u3, u4, x, ls, hs, rfl, hr1, hu1, _⟩ := r3
  have nl : ((nmsOf R.S).map V.str).length = R.S.length := by unfold nmsOf; rw [List.length_map, List.length_map]
  have lb := g.lv R.S.length (Nat.le_refl _)
  have mem : ∀ w ∈ Tn.lv (bD R.dw) R.S.length, w.length = R.S.length := fun w hw => (Tn.mem_lv.mp hw).1
  generalize Tn.lv (bD R.dw) R.S.length = L at ay lb mem
  have yl := ay.1
  refine ⟨_, rfl, szl (by show 0 ≤ 1000000; decide), fun z hz => ?_⟩
  have s1 := same_new hz (.lst [])
  refine pi_nil (s1 _ _ hl) (ay.mono fun _ _ z => z.over s1) upd_same ⟨_, rfl, ?_⟩
  generalize upd H1 z (.lst []) = H2 at s1
  have e2 := e1.trans s1
  by_cases c0 : L = []
  · refine iteE (v := true) (decide_eq_true c0) (iteT ?_)
    refine ⟨_, rfl, r, _, 0, _, rfl, rfl, SqT.of (s1 _ _ hr1), rfl, u1, _, rfl, .inr (SqT.of (s1 _ _ hu1)), _, rfl, by rw [nl]; omega, by rw [nl]; omega, ?_⟩
    rw [nl, Int.toNat_natCast]
    refine comp_range (n := R.S.length) (fun m ys H' => H' = H2 ∧ ∃ W : List Int, ys = W.map V.int ∧ W.length = m) ⟨rfl, [], rfl, rfl⟩ (szl (by omega)) (fun m ys H' hm pp => by obtain ⟨_, W, rfl, wl⟩ := pp; rw [List.length_map]; omega) (fun m ys H' hm pp => ?_) (fun ys H' pp t ht => ?_)
    · obtain ⟨rfl, W, rfl, wl⟩ := pp
      refine ⟨_, rfl, _, rfl, _, _, rfl, rfl, _, _, rfl, rfl, ⟨(by show (0 : Int) < 0 + (m : Int) + 1; omega), (by show 0 + (m : Int) + 1 < 1073741824; omega)⟩, _, _, rfl, rfl, (by show (0 : Int) < 3; decide), rfl, W ++ [n / (0 + (m : Int) + 1) % 3], by rw [List.map_append]; rfl, by rw [List.length_append, wl]; rfl⟩
    obtain ⟨rfl, W, rfl, wl⟩ := pp
    refine ⟨t, _, rfl, .inl ⟨SqL.of upd_same, fun t2 ht2 => ?_⟩⟩
    exact q t2 W _ (e2.trans ((same_new ht _).trans (same_new ht2 _))) upd_same wl
  refine iteE (v := false) (decide_eq_false c0) (iteF ?_)
  have L0 : 0 < L.length := List.length_pos_iff.mpr c0
  dsimp only [tNext]
  have i0 := Int.emod_nonneg n (show (ys.length : Int) ≠ 0 by omega)
  have i1 := Int.emod_lt_of_pos n (show (0 : Int) < (ys.length : Int) by omega)
  obtain ⟨j, hj⟩ : ∃ j : Nat, n % (ys.length : Int) = (j : Int) := ⟨(n % (ys.length : Int)).toNat, by omega⟩
  have jl : j < ys.length := by omega
  have gy : ys[j]? = some ys[j] := List.getElem?_eq_getElem jl
  obtain ⟨w, hw, t, et, ht⟩ := ay.get' gy
  have wl := mem w (List.mem_of_getElem? hw)
  have aty : atI ys (n % (ys.length : Int)) = some (.ref t) := by rw [hj]; exact (atI_nat gy).trans (congrArg some et)
  refine ⟨_, rfl, _, rfl, _, rfl, l, _, rfl, .inl (SqL.of (s1 _ _ hl)), _, _, rfl, rfl, (by show (0 : Int) < (ys.length : Int); omega), l, _, _, _, rfl, rfl, SqL.of (s1 _ _ hl), aty, ?_⟩
  dsimp only [gName]
  have ht2 := s1 _ _ ht
  have fin : Q (.ref t) H2 := q t w _ e2 ht2 wl
  refine ⟨_, rfl, _, _, rfl, rfl, ⟨by decide, by decide⟩, _, _, rfl, rfl, (by show (0 : Int) < 4; decide), rfl, _, rfl, ite2 (fun c1 => ?_) (fun c1 => ?_)⟩
  rotate_left
  · exact ⟨_, rfl, fin⟩
  refine ⟨_, rfl, szl (by show 0 ≤ 1000000; decide), fun z2 hz2 => ?_⟩
  have s3 := same_new hz2 (.tup [])
  refine cmp_i (neg := true) (B := []) (s3 _ _ ht2) upd_same ⟨_, rfl, ?_⟩
  generalize upd H2 z2 (.tup []) = H3 at s3
  have e3 := e2.trans s3
  have ht3 := s3 _ _ ht2
  by_cases c2 : w = []
  · refine iteE (v := false) (by rw [if_pos rfl, decide_eq_true c2]; rfl) (iteF ?_)
    exact ⟨_, rfl, q t w _ e3 ht3 wl⟩
  refine iteE (v := true) (by rw [if_pos rfl, decide_eq_false c2]; rfl) (iteT ?_)
  have w0 : 0 < w.length := List.length_pos_iff.mpr c2
  have ml : ((w.map V.int).length : Int) = (w.length : Int) := by rw [List.length_map]
  refine ⟨_, rfl, _, _, rfl, rfl, ⟨by decide, by decide⟩, _, rfl, t, _, rfl, .inr (SqT.of ht3), _, _, rfl, rfl, (by show (0 : Int) < ((w.map V.int).length : Int); omega), ?_⟩
  dsimp only [gName]
  rw [ml]
  have k0 := Int.emod_nonneg (n / 508) (show (w.length : Int) ≠ 0 by omega)
  have k1 := Int.emod_lt_of_pos (n / 508) (show (0 : Int) < (w.length : Int) by omega)
  obtain ⟨p, hp⟩ : ∃ p : Nat, n / 508 % (w.length : Int) = (p : Int) := ⟨(n / 508 % (w.length : Int)).toNat, by omega⟩
  rw [hp] at k1 ⊢
  have pl : p < w.length := by omega
  have cut1 : cutV (w.map V.int) none (some (p : Int)) = (w.take p).map V.int := by
    rw [show cutV (w.map V.int) none (some (p : Int)) = (w.map V.int).take (p : Int).toNat from cut_to (w.map V.int) (Int.natCast_nonneg _), Int.toNat_natCast, List.map_take]
  have cut2 : cutV (w.map V.int) (some ((p : Int) + 1)) none = (w.drop (p + 1)).map V.int := by
    rw [show cutV (w.map V.int) (some ((p : Int) + 1)) none = (w.map V.int).drop ((p : Int) + 1).toNat from cut_from (w.map V.int) (by omega), show ((p : Int) + 1).toNat = p + 1 by omega, List.map_drop]
  have atw : atI (w.map V.int) (p : Int) = some (.int (w.getD p 0)) := cell_in (ns := w) (k := (p : Int)) (Int.natCast_nonneg _) (by omega)
  have m0 := Int.emod_nonneg (n / 2000) (show (2 : Int) ≠ 0 by decide)
  have m1 := Int.emod_lt_of_pos (n / 2000) (show (0 : Int) < 2 by decide)
  obtain ⟨zz, _, ez⟩ := pickN (L := [1, -1]) (i := n / 2000 % 2) 2 rfl m0 m1
  refine ⟨_, rfl, _, rfl, _, rfl, t, _, rfl, ht3, fun sl H4 e4 hsl => ?_⟩
  rw [cut1] at hsl
  have ht4 := e4 _ _ ht3
  refine ⟨_, rfl, _, rfl, t, _, _, _, rfl, rfl, SqT.of ht4, atw, _, rfl, szl (by show 2 ≤ 1000000; decide), fun l2 hl2 => ?_⟩
  have s5 := same_new hl2 (.lst [V.int 1, V.int (-1)])
  refine ⟨_, rfl, _, _, rfl, rfl, ⟨by decide, by decide⟩, _, _, rfl, rfl, (by show (0 : Int) < 2; decide), l2, _, _, _, rfl, rfl, SqL.of upd_same, ez, _, _, rfl, rfl, szl (by show 1 ≤ 1000000; decide), fun tu htu => ?_⟩
  have s6 := same_new htu (.tup [V.int (w.getD p 0 + zz)])
  have e46 := s5.trans s6
  refine ⟨sl, tu, _, _, rfl, rfl, e46 _ _ hsl, upd_same, szl (by rw [List.length_map, List.length_take, List.length_singleton]; omega), fun c1 H5 e5 hc1 => ?_⟩
  have ht5 := (e46.trans e5) _ _ ht4
  refine ⟨_, rfl, _, rfl, _, _, rfl, rfl, _, rfl, t, _, rfl, ht5, fun sl2 H6 e6 hsl2 => ?_⟩
  have hsl2 : H6 sl2 = some (.tup (cutV (w.map V.int) (some ((p : Int) + 1)) none)) := hsl2
  rw [cut2] at hsl2
  refine ⟨c1, sl2, _, _, rfl, rfl, e6 _ _ hc1, hsl2, szl (by rw [List.length_append, List.length_map, List.length_map, List.length_take, List.length_drop, List.length_singleton]; omega), fun pp H7 e7 hpp => ?_⟩
  refine q pp (w.take p ++ [w.getD p 0 + zz] ++ w.drop (p + 1)) _ (e3.trans (e4.trans (e46.trans (e5.trans (e6.trans e7))))) ?_ ?_
  · rw [hpp, List.map_append, List.map_append]
    rfl
  · rw [List.length_append, List.length_append, List.length_take, List.length_drop, List.length_singleton]
    omega

theorem ok_other (T : Tx K mg a) : FnOk P w K mg base CX0 5 a.f_l_other a.d_l_other ["_law_row_here", "_law_spots_here", "_law_place", "_law_number"] spOther54 := by
  have G_l_levels := ok_levels54 (P := P) (w := w) (base := base) T
  have G_l_first := ok_first (P := P) (w := w) (base := base) T
  have G_l_around := ok_around (P := P) (w := w) (base := base) T
  have G_l_stand := ok_stand54 (P := P) (w := w) (base := base) T
  refine T.F_l_other.ok sc_l_other (fun vs H Q E h => ?_) (fun cdv A outer s H vs Q E hr h => ?_)
  · obtain ⟨_, _, _, _, _, _, _, _, _, _, rfl, _⟩ := h; rfl
  obtain ⟨v, R, c, n, sp, pl, m, z, kk, P', rfl, r3, g, n0, hS, m3, hZ, hpl, q⟩ := h
  refine ⟨_, (pss_cons (ps_set (i := 4) sc_l_other.nd rfl (Or.inl rfl) (pe_ix ix_list (pe_call G_l_levels (hr.mono (by omega)) (by rfl) T.m_l_levels T.F_l_levels.kp T.b_l_levels .nil pass0 (pa_cons (pv 0) pa_nil)) (pe_un un_neg pe_int) (fun _ _ => rfl)))
    (pss_cons (ps_if ((pw_or (pt_cmpR (op_eqS (hu64 hr)) (pv 4) (pe_lst pa_nil) (nomark _)) (pw_or1 (pt_cmpR op_eq (pe_op op_mod (pe_op op_fdiv (pv 3) pe_int) pe_int) pe_int (nomark _))))).pt
    (pss_one (ps_ret (pe_call G_l_first (hr.mono (by omega)) (by rfl) T.m_l_first T.F_l_first.kp T.b_l_first .nil pass0 (pa_cons (pv 0) (pa_cons (pv 3) pa_nil)))))
    pss_nil)
    (pss_cons (ps_set (i := 5) sc_l_other.nd rfl (Or.inl rfl) (pe_op op_mod (pv 3) (pe_callB call_len_seq (by rfl) T.z_len bt_len (pa_cons (pv 4) pa_nil))))
    (pss_cons (ps_for PassesOwn.never rfl (pi_list (pe_op op_cat (pe_slice sl_list (pv 4) (po_some (pv 5)) po_none) (pe_slice sl_list (pv 4) po_none (po_some (pv 5))))) (pg_name (i := 6) sc_l_other.nd rfl (Or.inl rfl))
    (pss_one (ps_if (pt_cmpR (op_eqS (hu64 hr)) (pe_call G_l_stand (hr.mono (by omega)) (by rfl) T.m_l_stand T.F_l_stand.kp T.b_l_stand .nil pass0 (pa_cons (pv 1) (pa_cons (pe_call G_l_around (hr.mono (by omega)) (by rfl) T.m_l_around T.F_l_around.kp T.b_l_around .nil pass0 (pa_cons (pe_ix ix_tup (pv 0) pe_int (fun _ _ => rfl)) (pa_cons (pv 6) pa_nil))) pa_nil))) (pv 2) (nomark _))
    (pss_one (ps_ret (pv 6)))
    pss_nil)))
    (pss_one (ps_ret (pe_ix ix_list (pv 4) (pv 5) (fun _ _ => rfl)))))))), ?_⟩
  have ll := g.ok.so.1
  have nd := nms_nd g.so
  have nml := nmsOf_len R.S
  refine ⟨_, rfl, v, R, rfl, r3, g.ok.rg, g.lv, fun rr l xs ys H1 e1 hrr hl ay => ?_⟩
  refine ⟨_, rfl, rr, _, _, _, rfl, rfl, SqL.of hrr, atI_last xs (.ref l), ?_⟩
  dsimp only [gName]
  have r31 := r3.over e1
  have lb := g.lv R.S.length (Nat.le_refl _)
  have mem : ∀ w ∈ Tn.lv (bD R.dw) R.S.length, w.length = R.S.length := fun w hw => (Tn.mem_lv.mp hw).1
  generalize Tn.lv (bD R.dw) R.S.length = L at ay lb mem
  have yl := ay.1
  refine ⟨_, rfl, szl (by show 0 ≤ 1000000; decide), fun z0 hz0 => ?_⟩
  have s1 := same_new hz0 (.lst [])
  refine pi_nil (s1 _ _ hl) (ay.mono fun _ _ z => z.over s1) upd_same ⟨_, rfl, ?_⟩
  generalize upd H1 z0 (.lst []) = H2 at s1
  have e2 := e1.trans s1
  by_cases c0 : L = []
  · refine iteE (v := true) (decide_eq_true c0) (iteT ?_)
    refine iteT ⟨_, rfl, _, rfl, v, R, c, n, rfl, r3.over e2, g, n0, fun t W H3 e3 ht wl => q t W H3 (e2.trans e3) ht wl⟩
  refine iteE (v := false) (decide_eq_false c0) (iteF ?_)
  have L0 : 0 < L.length := List.length_pos_iff.mpr c0
  refine ⟨_, rfl, _, _, rfl, rfl, ⟨by decide, by decide⟩, _, _, rfl, rfl, (by show (0 : Int) < 4; decide), rfl, _, rfl, ite2 (fun c1 => ?_) (fun c1 => ?_)⟩
  · exact ⟨_, rfl, _, rfl, v, R, c, n, rfl, r3.over e2, g, n0, fun t W H3 e3 ht wl => q t W H3 (e2.trans e3) ht wl⟩
  dsimp only [tNext]
  have i0 := Int.emod_nonneg n (show (ys.length : Int) ≠ 0 by omega)
  have i1 := Int.emod_lt_of_pos n (show (0 : Int) < (ys.length : Int) by omega)
  obtain ⟨j, hj⟩ : ∃ j : Nat, n % (ys.length : Int) = (j : Int) := ⟨(n % (ys.length : Int)).toNat, by omega⟩
  have jl : j < ys.length := by omega
  have hl2 := s1 _ _ hl
  refine ⟨_, rfl, _, rfl, l, _, rfl, .inl (SqL.of hl2), _, _, rfl, rfl, (by show (0 : Int) < (ys.length : Int); omega), ?_⟩
  dsimp only [gName]
  rw [hj]
  have cut1 : cutV ys (some (j : Int)) none = ys.drop j := by
    rw [show cutV ys (some (j : Int)) none = ys.drop (j : Int).toNat from cut_from ys (Int.natCast_nonneg _), Int.toNat_natCast]
  have cut2 : cutV ys none (some (j : Int)) = ys.take j := by
    rw [show cutV ys none (some (j : Int)) = ys.take (j : Int).toNat from cut_to ys (Int.natCast_nonneg _), Int.toNat_natCast]
  refine ⟨_, rfl, _, rfl, _, rfl, l, _, rfl, SqL.of hl2, fun l3 hl3 => ?_⟩
  rw [cut1]
  have s3 := same_new hl3 (.lst (ys.drop j))
  refine ⟨_, rfl, _, rfl, _, rfl, l, _, rfl, SqL.of (s3 _ _ hl2), fun l4 hl4 => ?_⟩
  rw [cut2]
  have s4 := same_new hl4 (.lst (ys.take j))
  refine ⟨l3, l4, _, _, rfl, rfl, s4 _ _ upd_same, upd_same, szl (by rw [List.length_drop, List.length_take]; omega), fun l5 hl5 => ?_⟩
  have s5 := same_new hl5 (.lst (ys.drop j ++ ys.take j))
  have hl55 : (upd (upd (upd H2 l3 (.lst (ys.drop j))) l4 (.lst (ys.take j))) l5 (.lst (ys.drop j ++ ys.take j))) l5 = some (.lst (ys.drop j ++ ys.take j)) := upd_same
  have s25 := s3.trans (s4.trans s5)
  generalize upd (upd (upd H2 l3 (.lst (ys.drop j))) l4 (.lst (ys.take j))) l5 (.lst (ys.drop j ++ ys.take j)) = H5 at hl55 s25
  have e5 := e2.trans s25
  have s15 := s1.trans s25
  have inY : ∀ y ∈ ys, ∃ (w : List Int) (t : Addr), y = .ref t ∧ H5 t = some (.tup (w.map V.int)) ∧ w.length = R.S.length := fun y hy => by
    obtain ⟨i, hi⟩ := List.mem_iff_getElem?.mp hy
    obtain ⟨w, hw, t, et, ht⟩ := ay.get' hi
    exact ⟨w, t, et, s15 _ _ ht, mem w (List.mem_of_getElem? hw)⟩
  obtain ⟨x, hx⟩ := bs_wh g.so hZ 1
  refine ⟨l5, rfl, ⟨_, SqL.of hl55⟩, ?_⟩
  refine for_list (xs := ys.drop j ++ ys.take j) (fun i σ' H' => Same H5 H' ∧ ∃ o6, σ' = [some v, some (.ref sp), some (.ref pl), some (.int n), some (.ref l), some (.int (j : Int)), o6]) ⟨Same.refl _, _, rfl⟩ (fun i σ' H' _ pp => SqL.of (pp.1 _ _ hl55)) (fun i y σ' H' hy pp => ?_) (fun σ' H' pp => ?_)
  · obtain ⟨e6, o6, rfl⟩ := pp
    obtain ⟨w, t, rfl, ht, wl⟩ := inY y (by
      rcases List.mem_append.mp (List.mem_of_getElem? hy) with h | h
      · exact List.mem_of_mem_drop h
      · exact List.mem_of_mem_take h)
    have e06 := e5.trans e6
    have ht6 := e6 _ _ ht
    obtain ⟨r, u1, u2, u3, u4, x5, ls, hs, rfl, hr1, hu1, _⟩ := r3.over e06
    dsimp only [gName]
    refine ⟨_, rfl, _, rfl, r, _, 0, _, rfl, rfl, SqT.of hr1, rfl, _, rfl, u1, t, nmsOf R.S, w, rfl, hu1, ht6, by omega, by omega, nd, fun d kvs H7 e7 hd ar => ?_⟩
    refine ⟨sp, d, m, z, kk, fun i => (allU w []).getD (x i).toNat 0, kvs, rfl, (hS.over e06).over e7, by omega, hd, fun i hi => stb_w (first := 1) (U := allU w []) (W := w) (Int.le_refl _) rfl (fun j hj => allU_1 hj) wl ar (hx i hi), fun p H8 e8 hp => ?_⟩
    have e08 := e06.trans (e7.trans e8)
    refine ⟨_, rfl, cmp_i (neg := false) hp (e08 _ _ hpl) ⟨_, rfl, ite2 (fun c2 => ?_) (fun c2 => ?_)⟩⟩
    · exact ⟨_, rfl, q t w _ e08 ((e7.trans e8) _ _ ht6) wl⟩
    · exact ⟨e6.trans (e7.trans e8), _, rfl⟩
  · obtain ⟨e6, o6, rfl⟩ := pp
    have gy : ys[j]? = some ys[j] := List.getElem?_eq_getElem jl
    obtain ⟨w, t, et, ht, wl⟩ := inY _ (List.mem_of_getElem? gy)
    exact ⟨_, rfl, _, rfl, l, _, _, _, rfl, rfl, SqL.of ((s25.trans e6) _ _ hl2), (atI_nat gy).trans (congrArg some et), q t w _ (e5.trans e6) (e6 _ _ ht) wl⟩

theorem ok_law (T : Tx K mg a) : FnOk P w K mg base CX0 110 a.f_law a.d_law ["_law_script"] (spLaw K) := by
  have G_l_cell := ok_cellD (P := P) (w := w) (base := base) T
  have G_l_mixed := ok_mixed (P := P) (w := w) (base := base) T
  have G_l_whole := ok_whole (P := P) (w := w) (base := base) T
  have G_l_rows := ok_rows54 (P := P) (w := w) (base := base) T
  have G_l_few := ok_few (P := P) (w := w) (base := base) T
  have G_l_size := ok_size (P := P) (w := w) (base := base) T
  have G_l_made := ok_made54 (P := P) (w := w) (base := base) T
  have G_l_meets := ok_lmeets (P := P) (w := w) (base := base) T
  have G_l_touches := ok_touchl (P := P) (w := w) (base := base) T
  have G_l_first := ok_first (P := P) (w := w) (base := base) T
  have G_l_other := ok_other (P := P) (w := w) (base := base) T
  have G_l_stand := ok_stand54 (P := P) (w := w) (base := base) T
  have G_l_around := ok_around (P := P) (w := w) (base := base) T
  have G_l_inside := ok_inside (P := P) (w := w) (base := base) T
  have G_l_case_of := ok_caseof (P := P) (w := w) (base := base) T
  have G_cases := ok_cases (P := P) (w := w) (base := base) T
  have G_l_cases := ok_lcases (P := P) (w := w) (base := base) T
  have G_case_bonds := ok_caseb (P := P) (w := w) (base := base) T
  have G_l_are_bonds := ok_are_bonds (P := P) (w := w) (base := base) T
  have G_l_kept := ok_kept (P := P) (w := w) (base := base) T
  have G_l_case_bonds := ok_lcaseb (P := P) (w := w) (base := base) T
  refine T.F_law.ok sc_law (fun vs H Q E h => ?_) (fun cdv A outer s H vs Q E hr h => ?_)
  · obtain ⟨_, _, rfl, _⟩ := h; rfl
  obtain ⟨p, ns, rfl, hp, h63, _, q⟩ := h
  refine ⟨_, (pss_cons (ps_set (i := 1) sc_law.nd rfl (Or.inl rfl) (pe_call G_l_rows (hr.mono (by omega)) (by rfl) T.m_l_rows T.F_l_rows.kp T.b_l_rows .nil pass0 (pa_cons (pv 0) (pa_cons (pe_call G_l_few (hr.mono (by omega)) (by rfl) T.m_l_few T.F_l_few.kp T.b_l_few .nil pass0 (pa_cons (pv 0) pa_nil)) pa_nil))))
    (pss_cons (ps_set (i := 2) sc_law.nd rfl (Or.inl rfl) (pe_call G_l_made (hr.mono (by omega)) (by rfl) T.m_l_made T.F_l_made.kp T.b_l_made .nil pass0 (pa_cons (pe_call G_l_size (hr.mono (by omega)) (by rfl) T.m_l_size T.F_l_size.kp T.b_l_size .nil pass0 (pa_cons (pv 0) pa_nil)) (pa_cons (pv 1) pa_nil))))
    (pss_cons (ps_set (i := 3) sc_law.nd rfl (Or.inl rfl) (pe_call G_l_meets (hr.mono (by omega)) (by rfl) T.m_l_meets T.F_l_meets.kp T.b_l_meets .nil pass0 (pa_cons (pv 1) pa_nil)))
    (pss_cons (ps_asg (pe_ix ix_list (pv 3) (pe_op op_mod (pe_call G_l_mixed (hr.mono (by omega)) (by rfl) T.m_l_mixed T.F_l_mixed.kp T.b_l_mixed .nil pass0 (pa_cons (pe_call G_l_cell (hr.mono (by omega)) (by rfl) T.m_l_cell T.F_l_cell.kp T.b_l_cell .nil pass0 (pa_cons (pv 0) (pa_cons pe_int pa_nil))) (pa_cons pe_int pa_nil))) (pe_callB call_len_seq (by rfl) T.z_len bt_len (pa_cons (pv 3) pa_nil))) (fun _ _ => rfl)) (pg_tup rfl (pgs_cons (pg_name (i := 4) sc_law.nd rfl (Or.inl rfl)) (pgs_cons (pg_name (i := 5) sc_law.nd rfl (Or.inl rfl)) (pgs_cons (pg_name (i := 6) sc_law.nd rfl (Or.inl rfl)) (pgs_cons (pg_name (i := 7) sc_law.nd rfl (Or.inl rfl)) pgs_nil))))))
    (pss_cons (ps_set (i := 8) sc_law.nd rfl (Or.inl rfl) (pe_ix ix_tup (pe_ix ix_list (pe_call G_l_touches (hr.mono (by omega)) (by rfl) T.m_l_touches T.F_l_touches.kp T.b_l_touches .nil pass0 (pa_cons (pe_ix ix_list (pv 1) (pv 4) (fun _ _ => rfl)) pa_nil)) (pv 5) (fun _ _ => rfl)) pe_int (fun _ _ => rfl)))
    (pss_cons (ps_set (i := 9) sc_law.nd rfl (Or.inl rfl) (pe_ix ix_tup (pe_ix ix_list (pe_call G_l_touches (hr.mono (by omega)) (by rfl) T.m_l_touches T.F_l_touches.kp T.b_l_touches .nil pass0 (pa_cons (pe_ix ix_list (pv 1) (pv 6) (fun _ _ => rfl)) pa_nil)) (pv 7) (fun _ _ => rfl)) pe_int (fun _ _ => rfl)))
    (pss_cons (ps_set (i := 10) sc_law.nd rfl (Or.inl rfl) (pe_call G_l_first (hr.mono (by omega)) (by rfl) T.m_l_first T.F_l_first.kp T.b_l_first .nil pass0 (pa_cons (pe_ix ix_list (pv 1) (pv 4) (fun _ _ => rfl)) (pa_cons (pe_call G_l_mixed (hr.mono (by omega)) (by rfl) T.m_l_mixed T.F_l_mixed.kp T.b_l_mixed .nil pass0 (pa_cons (pe_call G_l_cell (hr.mono (by omega)) (by rfl) T.m_l_cell T.F_l_cell.kp T.b_l_cell .nil pass0 (pa_cons (pv 0) (pa_cons pe_int pa_nil))) (pa_cons pe_int pa_nil))) pa_nil))))
    (pss_cons (ps_set (i := 11) sc_law.nd rfl (Or.inl rfl) (pe_call G_l_stand (hr.mono (by omega)) (by rfl) T.m_l_stand T.F_l_stand.kp T.b_l_stand .nil pass0 (pa_cons (pv 8) (pa_cons (pe_call G_l_around (hr.mono (by omega)) (by rfl) T.m_l_around T.F_l_around.kp T.b_l_around .nil pass0 (pa_cons (pe_ix ix_tup (pe_ix ix_list (pv 1) (pv 4) (fun _ _ => rfl)) pe_int (fun _ _ => rfl)) (pa_cons (pv 10) pa_nil))) pa_nil))))
    (pss_cons (ps_set (i := 12) sc_law.nd rfl (Or.inl rfl) (pe_call G_l_other (hr.mono (by omega)) (by rfl) T.m_l_other T.F_l_other.kp T.b_l_other .nil pass0 (pa_cons (pe_ix ix_list (pv 1) (pv 6) (fun _ _ => rfl)) (pa_cons (pv 9) (pa_cons (pv 11) (pa_cons (pe_call G_l_mixed (hr.mono (by omega)) (by rfl) T.m_l_mixed T.F_l_mixed.kp T.b_l_mixed .nil pass0 (pa_cons (pe_call G_l_cell (hr.mono (by omega)) (by rfl) T.m_l_cell T.F_l_cell.kp T.b_l_cell .nil pass0 (pa_cons (pv 0) (pa_cons pe_int pa_nil))) (pa_cons pe_int pa_nil))) pa_nil))))))
    (pss_cons (ps_set (i := 13) sc_law.nd rfl (Or.inl rfl) pe_non)
    (pss_cons (ps_if (pt_cmpR (op_eqS (hu64 hr)) (pv 11) (pe_call G_l_stand (hr.mono (by omega)) (by rfl) T.m_l_stand T.F_l_stand.kp T.b_l_stand .nil pass0 (pa_cons (pv 9) (pa_cons (pe_call G_l_around (hr.mono (by omega)) (by rfl) T.m_l_around T.F_l_around.kp T.b_l_around .nil pass0 (pa_cons (pe_ix ix_tup (pe_ix ix_list (pv 1) (pv 6) (fun _ _ => rfl)) pe_int (fun _ _ => rfl)) (pa_cons (pv 12) pa_nil))) pa_nil))) (nomark _))
    (pss_one (ps_if ((pw_and (pt_val (pe_call G_l_inside (hr.mono (by omega)) (by rfl) T.m_l_inside T.F_l_inside.kp T.b_l_inside .nil pass0 (pa_cons (pe_ix ix_list (pv 1) (pv 4) (fun _ _ => rfl)) (pa_cons (pv 10) pa_nil)))) (pw_and1 (pt_val (pe_call G_l_inside (hr.mono (by omega)) (by rfl) T.m_l_inside T.F_l_inside.kp T.b_l_inside .nil pass0 (pa_cons (pe_ix ix_list (pv 1) (pv 6) (fun _ _ => rfl)) (pa_cons (pv 12) pa_nil))))))).pt
    (pss_one (ps_set (i := 13) sc_law.nd rfl (Or.inl rfl) (pe_call G_l_case_of (hr.mono (by omega)) (by rfl) T.m_l_case_of T.F_l_case_of.kp T.b_l_case_of .nil pass0 (pa_cons (pv 1) (pa_cons (pe_tup (pa_cons (pv 4) (pa_cons (pv 10) pa_nil))) (pa_cons (pe_tup (pa_cons (pv 6) (pa_cons (pv 12) pa_nil))) pa_nil))))))
    pss_nil))
    pss_nil)
    (pss_cons (ps_set (i := 14) sc_law.nd rfl (Or.inl rfl) (pe_call G_cases (hr.mono (by omega)) (by rfl) T.m_cases T.F_cases.kp T.b_cases .nil pass0 (pa_cons (pv 2) (pa_cons (pv 4) (pa_cons (pv 6) pa_nil)))))
    (pss_cons (ps_if ((pw_or (pt_not (pt_val (pe_callB call_isi (by rfl) T.z_isinstance bt_isinstance (pa_cons (pv 14) (pa_cons (pe_bltn (v := .ty "list") (by rfl) T.z_list bt_list rfl) pa_nil))))) (pw_or1 (pt_cmpR (op_neS (hu64 hr)) (pv 14) (pe_call G_l_cases (hr.mono (by omega)) (by rfl) T.m_l_cases T.F_l_cases.kp T.b_l_cases .nil pass0 (pa_cons (pv 1) (pa_cons (pv 4) (pa_cons (pv 6) pa_nil)))) (nomark _))))).pt
    (pss_one (ps_ret pe_bl))
    pss_nil)
    (pss_cons (ps_set (i := 15) sc_law.nd rfl (Or.inl rfl) (pe_op op_catH (pe_op op_catH (pe_tup (pa_cons pe_int pa_nil)) (pv 10)) (pv 12)))
    (pss_cons (ps_for PassesOwn.never rfl (pi_list (pv 14)) (pg_name (i := 16) sc_law.nd rfl (Or.inl rfl))
    (pss_cons (ps_set (i := 17) sc_law.nd rfl (Or.inl rfl) (pe_call G_case_bonds (hr.mono (by omega)) (by rfl) T.m_case_bonds T.F_case_bonds.kp T.b_case_bonds .nil pass0 (pa_cons (pv 2) (pa_cons (pv 4) (pa_cons (pv 5) (pa_cons (pv 6) (pa_cons (pv 7) (pa_cons (pv 16) pa_nil))))))))
    (pss_cons (ps_if ((pw_or (pt_not (pt_val (pe_call G_l_whole (hr.mono (by omega)) (by rfl) T.m_l_whole T.F_l_whole.kp T.b_l_whole .nil pass0 (pa_cons (pv 16) pa_nil)))) (pw_or (pt_not (pt_val (pe_call G_l_are_bonds (hr.mono (by omega)) (by rfl) T.m_l_are_bonds T.F_l_are_bonds.kp T.b_l_are_bonds .nil pass0 (pa_cons (pv 17) pa_nil)))) (pw_or1 (pt_cmpR op_ne (pe_call G_l_kept (hr.mono (by omega)) (by rfl) T.m_l_kept T.F_l_kept.kp T.b_l_kept .nil pass0 (pa_cons (pv 17) (pa_cons (pv 15) pa_nil))) (pe_cmpR op_eq (pv 16) (pv 13) (nomark _)) (nomark _)))))).pt
    (pss_one (ps_ret pe_bl))
    pss_nil)
    (pss_one (ps_if (pt_cmpR (op_neS (hu64 hr)) (pv 17) (pe_call G_l_case_bonds (hr.mono (by omega)) (by rfl) T.m_l_case_bonds T.F_l_case_bonds.kp T.b_l_case_bonds .nil pass0 (pa_cons (pv 1) (pa_cons (pv 4) (pa_cons (pv 5) (pa_cons (pv 6) (pa_cons (pv 7) (pa_cons (pv 16) pa_nil))))))) (nomark _))
    (pss_one (ps_ret pe_bl))
    pss_nil)))))
    (pss_one (ps_ret pe_bl))))))))))))))))), ?_⟩
  refine ⟨_, rfl, _, rfl, p, ns, rfl, hp, h63, fun H1 n e1 n1 n3 => ?_⟩
  refine ⟨p, ns, n, rfl, e1.seq hp, h63, by omega, fun rl H2 Rs e2 hRs Rl Rok => ?_⟩
  have e02 := e1.trans e2
  dsimp only [gName]
  refine ⟨_, rfl, p, ns, rfl, e02.seq hp, h63, fun H3 sz e3 => ?_⟩
  refine ⟨_, rfl, sz, rl, Rs, _, rfl, hRs.over e3, by omega, fun R hR => by have := (Rok R hR).m3; omega, fun x dx dl xs H4 e4 hx hdl ax => ?_⟩
  have e04 := e02.trans (e3.trans e4)
  have hRs4 := hRs.over (e3.trans e4)
  have hp4 := e04.seq hp
  clear hRs e02 e1 e2 e3 e4 hp
  dsimp only [gName]
  generalize hM : MtF (cellD ns 0) = M at hRs4
  have mo : ∀ {z : Str} {m n : Int}, M z m → M z n → m = n := fun {z m n} a b => by rw [← hM] at a b; exact a.one b
  have hRs5 : ∀ HX, Same H4 HX → R5sAt HX rl (Rs.map R3.r5) := fun HX e => by
    obtain ⟨ys, h1, h2⟩ := hRs4.over e
    exact ⟨ys, h1, all2_map (h2.mono fun _ _ z => z.1.r5)⟩
  obtain ⟨ys, hrl, ay⟩ := hRs4
  have ok5 : ∀ R ∈ Rs, R.r5.Ok := fun R hR => by
    obtain ⟨j, hj⟩ := List.mem_iff_getElem?.mp hR
    obtain ⟨y, hy, r4⟩ := ay.get hj
    exact r4.1.ok5 (Rok R hR)
  have ok5m : ∀ R ∈ Rs.map R3.r5, R.Ok := fun R hR => by
    obtain ⟨R0, h0, rfl⟩ := List.mem_map.mp hR
    exact ok5 R0 h0
  -- which meet
  refine ⟨_, rfl, rl, Rs.map R3.r5, rfl, hRs5 _ (Same.refl _), ok5m, by rw [List.length_map]; omega, fun so H5 e5 hso => ?_⟩
  have mp := mt_pos (Rs := Rs) (by omega)
  have mm := fun q h => mt_mem (Rs := Rs) (q := q) h
  generalize Pm.mt (al5 (Rs.map R3.r5)) = L at hso mp mm
  obtain ⟨ss, hss, as⟩ := hso
  have sl := as.1
  dsimp only [gName]
  generalize hc7 : mixF (cellD ns 7) 1 = c7
  have i0 := Int.emod_nonneg c7 (show (ss.length : Int) ≠ 0 by omega)
  have i1 := Int.emod_lt_of_pos c7 (show (0 : Int) < (ss.length : Int) by omega)
  obtain ⟨j, hj⟩ : ∃ j : Nat, c7 % (ss.length : Int) = (j : Int) := ⟨(c7 % (ss.length : Int)).toNat, by omega⟩
  have gs : ss[j]? = some ss[j] := List.getElem?_eq_getElem (by omega)
  obtain ⟨⟨k, ta, l, tb⟩, hq4, t4, et4, ht4⟩ := as.get' gs
  obtain ⟨R, r, R', r', hR, hr1, hR', hr2, er⟩ := mm _ (List.mem_of_getElem? hq4)
  have aty : atI ss (c7 % (ss.length : Int)) = some (.ref t4) := by rw [hj]; exact (atI_nat gs).trans (congrArg some et4)
  refine ⟨_, rfl, _, rfl, p, ns, 7, rfl, e5.seq hp4, by decide, by decide, cellD ns 7, 1, rfl, ?_⟩
  rw [hc7]
  refine ⟨_, rfl, so, _, rfl, .inl (SqL.of hss), _, _, rfl, rfl, (by show (0 : Int) < (ss.length : Int); omega), so, _, _, _, rfl, rfl, SqL.of hss, aty, t4, _, rfl, SqT.of ht4, rfl, _, _, rfl, _, _, rfl, _, _, rfl, _, _, rfl, rfl, ?_⟩
  have g := (Rok R (List.mem_of_getElem? hR)).rk
  have g' := (Rok R' (List.mem_of_getElem? hR')).rk
  have ok := ok5 R (List.mem_of_getElem? hR)
  have ok' := ok5 R' (List.mem_of_getElem? hR')
  obtain ⟨y1, hy1, r4⟩ := ay.get hR
  obtain ⟨y2, hy2, r4'⟩ := ay.get hR'
  obtain ⟨D, hS, hS', cd, bz1, bz2⟩ := cd_ex (M := M) (fun a b => mo a b) g g' (r4.2 r (List.mem_of_getElem? hr1)) (r4'.2 r' (List.mem_of_getElem? hr2)) er
  have m3 := cd.m3
  have l3 := g.ok.so.1
  have l3' := g'.ok.so.1
  have ax4 := ax
  -- here, there
  dsimp only [gName]
  change tSeq _ _ _ [some (.ref p), some (.ref rl), some (.ref x), some (.ref so), some (.int (k : Int)), some (.int (ta : Int)), some (.int (l : Int)), some (.int (tb : Int)), none, none, none, none, none, none, none, none, none, none] _
  refine ⟨_, rfl, _, rfl, rl, _, _, _, rfl, rfl, SqL.of (e5 _ _ hrl), atI_nat hy1, y1, R.r5, rfl, (r4.1.r5).over e5, by have := g.ok.m3; show R.m ≤ 100; omega, fun q1 H6 e6 _ tc1 => ?_⟩
  obtain ⟨as1, tp1, fl1, hq1, at1, htp1⟩ := tch_get tc1 hr1
  refine ⟨_, rfl, q1, _, _, _, rfl, rfl, SqL.of hq1, at1, tp1, _, 2, _, rfl, rfl, SqT.of htp1, rfl, ?_⟩
  have e46 := e5.trans e6
  dsimp only [gName]
  refine ⟨_, rfl, _, rfl, rl, _, _, _, rfl, rfl, SqL.of (e46 _ _ hrl), atI_nat hy2, y2, R'.r5, rfl, (r4'.1.r5).over e46, by have := g'.ok.m3; show R'.m ≤ 100; omega, fun q2 H7 e7 _ tc2 => ?_⟩
  obtain ⟨as2, tp2, fl2, hq2, at2, htp2⟩ := tch_get tc2 hr2
  refine ⟨_, rfl, q2, _, _, _, rfl, rfl, SqL.of hq2, at2, tp2, _, 2, _, rfl, rfl, SqT.of htp2, rfl, ?_⟩
  have e47 := e46.trans e7
  dsimp only [gName]
  change tSeq _ _ _ [some (.ref p), some (.ref rl), some (.ref x), some (.ref so), some (.int (k : Int)), some (.int (ta : Int)), some (.int (l : Int)), some (.int (tb : Int)), some (.ref r.2), some (.ref r'.2), none, none, none, none, none, none, none, none] _
  clear tc1 tc2 hq1 hq2 at1 at2 htp1 htp2 e46 e5 e6 e7 hss as gs aty mm
  -- one, and its place
  refine ⟨_, rfl, _, rfl, rl, _, _, _, rfl, rfl, SqL.of (e47 _ _ hrl), atI_nat hy1, _, rfl, p, ns, 8, rfl, e47.seq hp4, by decide, by decide, cellD ns 8, 2, rfl, y1, R, _, mixF (cellD ns 8) 2, rfl, r4.1.over e47, g, (mix_b _ _).1, fun w1 W H8 e8 hw1 wl => ?_⟩
  have e48 := e47.trans e8
  dsimp only [gName]
  obtain ⟨v1, a1, _, _, _, _, _, _, ev1, hv1, ha1, _⟩ := r4.1.over e48
  subst ev1
  have nml := nmsOf_len R.S
  have nml' := nmsOf_len R'.S
  refine ⟨_, rfl, _, rfl, _, rfl, rl, _, _, _, rfl, rfl, SqL.of (e48 _ _ hrl), atI_nat hy1, v1, _, 0, _, rfl, rfl, SqT.of hv1, rfl, _, rfl, a1, w1, nmsOf R.S, W, rfl, ha1, hw1, by omega, by omega, nms_nd g.so, fun d1 kv1 H9 e9 hd1 ar1 => ?_⟩
  refine ⟨r.2, d1, D.m, D.z1, D.n1, fun i => (allU W []).getD (D.x1 i).toNat 0, kv1, rfl, hS.over (e48.trans e9), by omega, hd1, fun i hi => stb_w (first := 1) (U := allU W []) (W := W) (Int.le_refl _) rfl (fun j hj => allU_1 hj) wl ar1 (cd.hx1 i hi), fun pl HA eA hpl => ?_⟩
  have e4A := e48.trans (e9.trans eA)
  have hw1A := (e9.trans eA) _ _ hw1
  have hv1A := (e9.trans eA) _ _ hv1
  have ha1A := (e9.trans eA) _ _ ha1
  dsimp only [gName]
  change tSeq _ _ _ [some (.ref p), some (.ref rl), some (.ref x), some (.ref so), some (.int (k : Int)), some (.int (ta : Int)), some (.int (l : Int)), some (.int (tb : Int)), some (.ref r.2), some (.ref r'.2), some (.ref w1), some (.ref pl), none, none, none, none, none, none] _
  clear hd1 ar1 hw1 hv1 ha1 e9 eA e48 e8 e47
  -- other
  refine ⟨_, rfl, _, rfl, rl, _, _, _, rfl, rfl, SqL.of (e4A _ _ hrl), atI_nat hy2, _, rfl, _, rfl, _, rfl, p, ns, 9, rfl, e4A.seq hp4, by decide, by decide, cellD ns 9, 3, rfl, y2, R', _, mixF (cellD ns 9) 3, r'.2, pl, D.m, D.z2, D.n2, _, rfl, r4'.1.over e4A, g', (mix_b _ _).1, hS'.over e4A, m3, bz2, hpl, fun w2 W' HB eB hw2 wl' => ?_⟩
  have e4B := e4A.trans eB
  dsimp only [gName]
  change tSeq _ _ _ [some (.ref p), some (.ref rl), some (.ref x), some (.ref so), some (.int (k : Int)), some (.int (ta : Int)), some (.int (l : Int)), some (.int (tb : Int)), some (.ref r.2), some (.ref r'.2), some (.ref w1), some (.ref pl), some (.ref w2), none, none, none, none, none] _
  have hplB := eB _ _ hpl
  have hw1B := eB _ _ hw1A
  clear hpl hw1A hv1A ha1A eB e4A
  obtain ⟨v2, b1, _, _, _, _, _, _, ev2, hv2, hb1, _⟩ := r4'.1.over e4B
  subst ev2
  have px : ∀ i < D.m, (allU W []).getD (D.x1 i).toNat 0 = (allU W W').getD (D.x1 i).toNat 0 := fun i hi => by
    rcases cd.hx1 i hi with ⟨_, e⟩ | ⟨_, j, hj, _, e⟩
    · rw [e]; rfl
    · have jl := (List.getElem?_eq_some_iff.mp hj).1
      rw [e, allU_1 (by omega), allU_1 (by omega)]
  refine seq_asgC ?_
  refine seq_any (fun σ' H' => ∃ d : Option Nat, σ' = [some (.ref p), some (.ref rl), some (.ref x), some (.ref so), some (.int (k : Int)), some (.int (ta : Int)), some (.int (l : Int)), some (.int (tb : Int)), some (.ref r.2), some (.ref r'.2), some (.ref w1), some (.ref pl), some (.ref w2), some (optV d), none, none, none, none] ∧ Same HB H' ∧ ∀ e, d = some e ↔ (∀ i < D.m, (allU W W').getD (D.x1 i).toNat 0 + D.n1 i = (allU W W').getD (D.x2 i).toNat 0 + D.n2 i) ∧ InR R W ∧ InR R' W' ∧ CaseAt D.s k l W W' e) (fun σ' HC pp => ?_) (fun nx => ?_)
  rotate_left
  · refine ⟨_, rfl, _, rfl, _, rfl, _, rfl, rl, _, _, _, rfl, rfl, SqL.of (e4B _ _ hrl), atI_nat hy2, v2, _, 0, _, rfl, rfl, SqT.of hv2, rfl, _, rfl, b1, w2, nmsOf R'.S, W', rfl, hb1, hw2, by omega, by omega, nms_nd g'.so, fun d2 kv2 HC eC hd2 ar2 => ?_⟩
    refine ⟨r'.2, d2, D.m, D.z2, D.n2, fun i => (allU W W').getD (D.x2 i).toNat 0, kv2, rfl, hS'.over (e4B.trans eC), by omega, hd2, fun i hi => stb_w (first := 1 + (R.S.length : Int)) (U := allU W W') (W := W') (by omega) rfl (fun j hj => by rw [← wl]; exact allU_2) wl' ar2 (cd.hx2 i hi), fun pl2 HD eD hpl2 => ?_⟩
    have eBD := eC.trans eD
    have e4D := e4B.trans eBD
    refine cmp_i (neg := false) (eBD _ _ hplB) hpl2 ⟨_, rfl, ?_⟩
    by_cases c1 : ∀ i < D.m, (allU W W').getD (D.x1 i).toNat 0 + D.n1 i = (allU W W').getD (D.x2 i).toNat 0 + D.n2 i
    · refine iteE (v := true) (decide_eq_true (vsL_eq.mpr fun i hi => by have := c1 i hi; rw [← px i hi] at this; exact this)) (iteT ?_)
      refine ⟨_, rfl, _, rfl, rl, _, _, _, rfl, rfl, SqL.of (e4D _ _ hrl), atI_nat hy1, _, rfl, .ref v1, R, _, w1, W, rfl, r4.1.over e4D, g, eBD _ _ hw1B, wl, fun bb HE eE hbb => ⟨_, rfl, ite2 (fun c2 => ?_) (fun c2 => ?_)⟩⟩
      rotate_left
      · exact nx _ _ ⟨none, rfl, eBD.trans eE, fun e => ⟨fun z => (by cases z), fun z => absurd (hbb.mpr z.2.1) c2⟩⟩
      have e4E := e4D.trans eE
      refine ⟨_, rfl, _, rfl, rl, _, _, _, rfl, rfl, SqL.of (e4E _ _ hrl), atI_nat hy2, _, rfl, .ref v2, R', _, w2, W', rfl, r4'.1.over e4E, g', (eBD.trans eE) _ _ hw2, wl', fun b3 HF eF hb3 => ⟨_, rfl, ite2 (fun c3 => ?_) (fun c3 => ?_)⟩⟩
      rotate_left
      · exact nx _ _ ⟨none, rfl, eBD.trans (eE.trans eF), fun e => ⟨fun z => (by cases z), fun z => absurd (hb3.mpr z.2.2.1) c3⟩⟩
      have eBF := eBD.trans (eE.trans eF)
      have e4F := e4B.trans eBF
      refine ⟨_, rfl, _, rfl, _, rfl, szl (by show 2 ≤ 1000000; decide), fun t1 ht1 => ⟨_, rfl, _, rfl, szl (by show 2 ≤ 1000000; decide), fun t2 ht2 => ?_⟩⟩
      have s1 := same_new ht1 (.tup [V.int (k : Int), V.ref w1])
      have s2 := same_new ht2 (.tup [V.int (l : Int), V.ref w2])
      have s12 := s1.trans s2
      have eBG := eBF.trans s12
      have e4G := e4F.trans s12
      refine ⟨rl, t1, t2, w1, w2, Rs, M, R, R', k, l, D.s, _, W, W', rfl, ⟨ys, e4G _ _ hrl, ay.mono fun _ _ z => z.over e4G⟩, hR, hR', g, g', cd.pf, s2 _ _ upd_same, upd_same, eBG _ _ hw1B, eBG _ _ hw2, wl, wl', fun d HI eI hd => ?_⟩
      exact nx _ _ ⟨d, rfl, eBG.trans eI, fun e => ⟨fun z => ⟨c1, hbb.mp c2, hb3.mp c3, (hd e).mp z⟩, fun z => (hd e).mpr z.2.2.2⟩⟩
    · refine iteE (v := false) (decide_eq_false fun z => c1 fun i hi => by have := vsL_eq.mp z i hi; dsimp only at this; rw [px i hi] at this; exact this) (iteF ?_)
      exact nx _ _ ⟨none, rfl, eBD, fun e => ⟨fun z => (by cases z), fun z => absurd z.1 c1⟩⟩
  obtain ⟨d, rfl, eC, hd⟩ := pp
  have e4C := e4B.trans eC
  have hw1C := eC _ _ hw1B
  have hw2C := eC _ _ hw2
  clear hplB hw1B hw2 hv2 hb1 e4B px eC
  have gR : (Rs.map R3.r5)[k]? = some R.r5 := by rw [List.getElem?_map, hR]; rfl
  have gR' : (Rs.map R3.r5)[l]? = some R'.r5 := by rw [List.getElem?_map, hR']; rfl
  have hP : ∀ HX, Same H4 HX → P5At a.c_Program a.c_Deed (csOf a) HX (.ref x) (Rs.map R3.r5) := fun HX e => ⟨x, dx, dl, _, xs, rfl, e _ _ hx, e _ _ hdl, all2_map (ax.mono fun _ _ z => (z.over e).d5)⟩
  refine ⟨_, rfl, _, rfl, _, rfl, .ref x, Rs.map R3.r5, k, l, D.s, R.r5, R'.r5, rfl, hP _ e4C, ok5m, gR, gR', cd.pf, fun to HD eD to0 hto => ?_⟩
  have e4D := e4C.trans eD
  have k1 : D.s ≤ R.S.length := cd.pf.1
  have cl : caN k l D.s ≤ 4 := by unfold caN; split <;> omega
  have depR : ∀ m : Nat, depT (.lst (((List.range m).map fun i : Nat => (i : Int)).map fun i => Tr.v (.int i))) ≤ 60 := fun m => by rw [depT, ints_dep]; decide
  dsimp only [gName]
  refine ⟨_, rfl, _, _, _, _, _, rfl, rfl, .lst hto, rfl, _, rfl, iteF ?_⟩
  refine ⟨_, rfl, _, rfl, _, rfl, _, rfl, rl, Rs.map R3.r5, k, l, D.s, R.r5, R'.r5, rfl, hRs5 _ e4D, ok5m, gR, gR', cd.pf, fun tc HE eE htc => ?_⟩
  refine ne_same5 (rng_tr (eE _ _ hto)) (rng_tr htc) (depR _) ⟨_, rfl, iteF ?_⟩
  dsimp only [tNext]
  have eCE := eD.trans eE
  refine ⟨szl (by show 1 ≤ 1000000; decide), fun t0 ht0 => ?_⟩
  have s1 := same_new ht0 (.tup [V.int 0])
  refine ⟨_, rfl, t0, w1, _, _, rfl, rfl, upd_same, (eCE.trans s1) _ _ hw1C, szl (by rw [List.length_map, List.length_singleton]; omega), fun t1 HF eF ht1 => ?_⟩
  have eCF := eCE.trans (s1.trans eF)
  refine ⟨_, rfl, t1, w2, _, _, rfl, rfl, ht1, eCF _ _ hw2C, szl (by rw [List.length_append, List.length_map, List.length_map, List.length_singleton]; omega), fun vt HG eG hvt => ?_⟩
  have hvt : HG vt = some (.tup ((allU W W').map V.int)) := by
    rw [hvt]
    unfold allU
    rw [List.map_cons, List.map_append]
    rfl
  have e4G := e4C.trans (eCF.trans eG)
  have htoG := (eE.trans (s1.trans (eF.trans eG))) _ _ hto
  have ul : (allU W W').length ≤ 100 := by
    show (W ++ W').length + 1 ≤ 100
    rw [List.length_append]
    omega
  clear s1 eF eCF eCE eE eD ht1 htc hw1C hw2C e4D e4C
  dsimp only [gName]
  refine ⟨_, rfl, to, rfl, ⟨_, SqL.of htoG⟩, ?_⟩
  refine for_list (xs := (List.range (caN k l D.s)).map fun i : Nat => V.int (i : Int)) (fun i σ' H' => Same HG H' ∧ ∃ o16 o17, σ' = [some (.ref p), some (.ref rl), some (.ref x), some (.ref so), some (.int (k : Int)), some (.int (ta : Int)), some (.int (l : Int)), some (.int (tb : Int)), some (.ref r.2), some (.ref r'.2), some (.ref w1), some (.ref pl), some (.ref w2), some (optV d), some (.ref to), some (.ref vt), o16, o17]) ⟨Same.refl _, _, _, rfl⟩ (fun i σ' H' _ pp => SqL.of (pp.1 _ _ htoG)) (fun i v σ' H' hv pp => ?_) (fun σ' H' pp => ?_)
  rotate_left
  · exact q _
  obtain ⟨eH, o16, o17, rfl⟩ := pp
  have il : i < caN k l D.s := by have := (List.getElem?_eq_some_iff.mp hv).1; rwa [List.length_map, List.length_range] at this
  rw [List.getElem?_map, List.getElem?_range il] at hv
  have ev := (Option.some.inj hv).symm
  dsimp only at ev
  subst ev
  have is : i ≤ D.s := by unfold caN at il; split at il <;> omega
  have e4H := e4G.trans eH
  dsimp only [gName]
  refine ⟨_, rfl, _, rfl, _, rfl, _, rfl, _, rfl, _, rfl, x, dx, dl, .int sz, xs, Rs, R, R', r, r', k, ta, l, tb, i, _, D, rfl, e4H _ _ hx, e4H _ _ hdl, ax.mono fun _ _ z => z.over e4H, hR, hR', g, g', ok, ok', hr1, hr2, hS.over e4H, hS'.over e4H, cd, is, fun bo bs HI eI hbo tr => ?_⟩
  dsimp only [gName]
  have bl := cbB_len (R := R) (R' := R') (D := D) (case := i) l3 l3' m3 (by omega)
  refine ⟨_, rfl, .int (i : Int), rfl, rfl, _, rfl, iteF ?_⟩
  refine ⟨_, rfl, bo, bs, cbB R R' D i, rfl, hbo, tr, by have := tr.1; omega, fun HJ eJ => ⟨_, rfl, iteF ?_⟩⟩
  have eHJ := eI.trans eJ
  have e4J := e4H.trans eHJ
  have key : (cbB R R' D i).all (hU (allU W W')) = decide (V.int (i : Int) = optV d) := by
    have h1 := cb_all g g' cd wl wl' is
    have h2 := due_case (W := W) (W' := W') il
    have h3 := hd i
    cases hb : (cbB R R' D i).all (hU (allU W W')) with
    | true =>
      have h4 := h1.mp hb
      have h5 := h3.mpr ⟨h4.2.2.1, h4.1, h4.2.1, h2.mpr h4.2.2.2⟩
      rw [h5]
      exact (decide_eq_true rfl).symm
    | false =>
      refine (decide_eq_false fun z => ?_).symm
      have h5 : d = some i := by
        cases d with
        | none => cases z
        | some j => have := V.int.inj z; exact congrArg some (by omega)
      have h6 := h3.mp h5
      have h7 := h1.mpr ⟨h6.2.1, h6.2.2.1, h6.1, h2.mp h6.2.2.2⟩
      rw [hb] at h7
      cases h7
  refine ⟨_, rfl, _, rfl, bo, vt, bs, cbB R R' D i, allU W W', rfl, eJ _ _ hbo, tr.over eJ, (eH.trans eHJ) _ _ hvt, ul, cb_ok g g' cd wl wl' is, ?_⟩
  refine ⟨_, rfl, _, rfl, by cases d <;> rfl, rfl, _, rfl, iteE (v := false) (ndF (congrArg V.bl key)) (iteF ?_)⟩
  dsimp only [tNext]
  refine ⟨_, rfl, _, rfl, _, rfl, _, rfl, _, rfl, _, rfl, _, rfl, rl, Rs, M, R, R', r, r', k, ta, l, tb, i, _, D, rfl, ⟨ys, e4J _ _ hrl, ay.mono fun _ _ z => z.over e4J⟩, hR, hR', g, g', ok, ok', hr1, hr2, hS.over e4J, hS'.over e4J, cd, is, fun b2 bs2 HK eK hb2 tr2 => ?_⟩
  refine ne_same5 (.lst (SqL.of ((eJ.trans eK) _ _ hbo)) (tri_tr (tr.over (eJ.trans eK)))) (.lst (SqL.of hb2) (tri_tr tr2)) (by rw [depT]; have := tri_dep (cbB R R' D i); omega) ⟨_, rfl, iteF ?_⟩
  exact ⟨eH.trans (eHJ.trans eK), _, _, rfl⟩


end
theorem len_1 {us : List Value} (h : us.length = 1) : ∃ x0, us = [x0] := by
  rcases us with _ | ⟨x0, us⟩
  · cases h
  rcases us with _ | ⟨y, us⟩
  · exact ⟨x0, rfl⟩
  · simp only [List.length_cons] at h; omega
theorem len_2 {us : List Value} (h : us.length = 2) : ∃ x0 x1, us = [x0, x1] := by
  rcases us with _ | ⟨x0, us⟩
  · cases h
  rcases us with _ | ⟨x1, us⟩
  · cases h
  rcases us with _ | ⟨y, us⟩
  · exact ⟨x0, x1, rfl⟩
  · simp only [List.length_cons] at h; omega
theorem len_3 {us : List Value} (h : us.length = 3) : ∃ x0 x1 x2, us = [x0, x1, x2] := by
  rcases us with _ | ⟨x0, us⟩
  · cases h
  rcases us with _ | ⟨x1, us⟩
  · cases h
  rcases us with _ | ⟨x2, us⟩
  · cases h
  rcases us with _ | ⟨y, us⟩
  · exact ⟨x0, x1, x2, rfl⟩
  · simp only [List.length_cons] at h; omega
theorem len_4 {us : List Value} (h : us.length = 4) : ∃ x0 x1 x2 x3, us = [x0, x1, x2, x3] := by
  rcases us with _ | ⟨x0, us⟩
  · cases h
  rcases us with _ | ⟨x1, us⟩
  · cases h
  rcases us with _ | ⟨x2, us⟩
  · cases h
  rcases us with _ | ⟨x3, us⟩
  · cases h
  rcases us with _ | ⟨y, us⟩
  · exact ⟨x0, x1, x2, x3, rfl⟩
  · simp only [List.length_cons] at h; omega
theorem len_6 {us : List Value} (h : us.length = 6) : ∃ x0 x1 x2 x3 x4 x5, us = [x0, x1, x2, x3, x4, x5] := by
  rcases us with _ | ⟨x0, us⟩
  · cases h
  rcases us with _ | ⟨x1, us⟩
  · cases h
  rcases us with _ | ⟨x2, us⟩
  · cases h
  rcases us with _ | ⟨x3, us⟩
  · cases h
  rcases us with _ | ⟨x4, us⟩
  · cases h
  rcases us with _ | ⟨x5, us⟩
  · cases h
  rcases us with _ | ⟨y, us⟩
  · exact ⟨x0, x1, x2, x3, x4, x5, rfl⟩
  · simp only [List.length_cons] at h; omega
theorem len_8 {us : List Value} (h : us.length = 8) : ∃ x0 x1 x2 x3 x4 x5 x6 x7, us = [x0, x1, x2, x3, x4, x5, x6, x7] := by
  rcases us with _ | ⟨x0, us⟩
  · cases h
  rcases us with _ | ⟨x1, us⟩
  · cases h
  rcases us with _ | ⟨x2, us⟩
  · cases h
  rcases us with _ | ⟨x3, us⟩
  · cases h
  rcases us with _ | ⟨x4, us⟩
  · cases h
  rcases us with _ | ⟨x5, us⟩
  · cases h
  rcases us with _ | ⟨x6, us⟩
  · cases h
  rcases us with _ | ⟨x7, us⟩
  · cases h
  rcases us with _ | ⟨y, us⟩
  · exact ⟨x0, x1, x2, x3, x4, x5, x6, x7, rfl⟩
  · simp only [List.length_cons] at h; omega
theorem bd_Number_init : BdA "__init__" "Number.__init__" s_Number_init ["self", "n"] := fun _ _ _ _ _ _ _ h => by obtain ⟨_, _, rfl⟩ := len_2 h; rfl
theorem bd_Value_init : BdA "__init__" "Value.__init__" s_Value_init ["self", "name"] := fun _ _ _ _ _ _ _ h => by obtain ⟨_, _, rfl⟩ := len_2 h; rfl
theorem bd_Cell_init : BdA "__init__" "Cell.__init__" s_Cell_init ["self", "table", "spots"] := fun _ _ _ _ _ _ _ h => by obtain ⟨_, _, _, rfl⟩ := len_3 h; rfl
theorem bd_Joined_init : BdA "__init__" "Joined.__init__" s_Joined_init ["self", "sign", "left", "right"] := fun _ _ _ _ _ _ _ h => by obtain ⟨_, _, _, _, rfl⟩ := len_4 h; rfl
theorem bd_Number_reads : BdA "reads" "Number.reads" s_Number_reads ["self"] := fun _ _ _ _ _ _ _ h => by obtain ⟨_, rfl⟩ := len_1 h; rfl
theorem bd_Value_reads : BdA "reads" "Value.reads" s_Value_reads ["self"] := fun _ _ _ _ _ _ _ h => by obtain ⟨_, rfl⟩ := len_1 h; rfl
theorem bd_Cell_reads : BdA "reads" "Cell.reads" s_Cell_reads ["self"] := fun _ _ _ _ _ _ _ h => by obtain ⟨_, rfl⟩ := len_1 h; rfl
theorem bd_Joined_reads : BdA "reads" "Joined.reads" s_Joined_reads ["self"] := fun _ _ _ _ _ _ _ h => by obtain ⟨_, rfl⟩ := len_1 h; rfl
theorem bd_Deed_init : BdA "__init__" "Deed.__init__" s_Deed_init ["self", "names", "lows", "highs", "table", "spots", "term", "path"] := fun _ _ _ _ _ _ _ h => by obtain ⟨_, _, _, _, _, _, _, _, rfl⟩ := len_8 h; rfl
theorem bd_Program_init : BdA "__init__" "Program.__init__" s_Program_init ["self", "size", "deeds"] := fun _ _ _ _ _ _ _ h => by obtain ⟨_, _, _, rfl⟩ := len_3 h; rfl
theorem bd_shared : BdA "shared" "shared" s_shared ["one", "other"] := fun _ _ _ _ _ _ _ h => by obtain ⟨_, _, rfl⟩ := len_2 h; rfl
theorem bd_alike_numbers : BdA "alike_numbers" "alike_numbers" s_alike_numbers ["path", "other", "most"] := fun _ _ _ _ _ _ _ h => by obtain ⟨_, _, _, rfl⟩ := len_3 h; rfl
theorem bd_touches : BdA "touches" "touches" s_touches ["deed"] := fun _ _ _ _ _ _ _ h => by obtain ⟨_, rfl⟩ := len_1 h; rfl
theorem bd_loop_bonds : BdA "loop_bonds" "loop_bonds" s_loop_bonds ["deed", "first"] := fun _ _ _ _ _ _ _ h => by obtain ⟨_, _, rfl⟩ := len_2 h; rfl
theorem bd_like_bonds : BdA "like_bonds" "like_bonds" s_like_bonds ["spots", "names", "first", "others", "other_names", "other_first"] := fun _ _ _ _ _ _ _ h => by obtain ⟨_, _, _, _, _, _, rfl⟩ := len_6 h; rfl
theorem bd_unknown_of : BdA "unknown_of" "unknown_of" s_unknown_of ["spot", "names", "first"] := fun _ _ _ _ _ _ _ h => by obtain ⟨_, _, _, rfl⟩ := len_3 h; rfl
theorem bd_cases : BdA "cases" "cases" s_cases ["program", "k", "l"] := fun _ _ _ _ _ _ _ h => by obtain ⟨_, _, _, rfl⟩ := len_3 h; rfl
theorem bd_case_bonds : BdA "case_bonds" "case_bonds" s_case_bonds ["program", "k", "a", "l", "b", "case"] := fun _ _ _ _ _ _ _ h => by obtain ⟨_, _, _, _, _, _, rfl⟩ := len_6 h; rfl
theorem bd_order_bonds : BdA "order_bonds" "order_bonds" s_order_bonds ["many", "case", "behind"] := fun _ _ _ _ _ _ _ h => by obtain ⟨_, _, _, rfl⟩ := len_3 h; rfl
theorem bd_l_cell : BdA "_law_cell" "_law_cell" s_l_cell ["_law_script", "_law_k"] := fun _ _ _ _ _ _ _ h => by obtain ⟨_, _, rfl⟩ := len_2 h; rfl
theorem bd_l_whole : BdA "_law_whole" "_law_whole" s_l_whole ["_law_found"] := fun _ _ _ _ _ _ _ h => by obtain ⟨_, rfl⟩ := len_1 h; rfl
theorem bd_l_mixed : BdA "_law_mixed" "_law_mixed" s_l_mixed ["_law_cell_here", "_law_k"] := fun _ _ _ _ _ _ _ h => by obtain ⟨_, _, rfl⟩ := len_2 h; rfl
theorem bd_l_name : BdA "_law_name" "_law_name" s_l_name ["_law_cell_here", "_law_e"] := fun _ _ _ _ _ _ _ h => by obtain ⟨_, _, rfl⟩ := len_2 h; rfl
theorem bd_l_spots : BdA "_law_spots" "_law_spots" s_l_spots ["_law_number", "_law_bases", "_law_many", "_law_off"] := fun _ _ _ _ _ _ _ h => by obtain ⟨_, _, _, _, rfl⟩ := len_4 h; rfl
theorem bd_l_cell_of : BdA "_law_cell_of" "_law_cell_of" s_l_cell_of ["_law_number", "_law_bases", "_law_heads_here"] := fun _ _ _ _ _ _ _ h => by obtain ⟨_, _, _, rfl⟩ := len_3 h; rfl
theorem bd_l_leaf : BdA "_law_leaf" "_law_leaf" s_l_leaf ["_law_number", "_law_bases", "_law_heads_here"] := fun _ _ _ _ _ _ _ h => by obtain ⟨_, _, _, rfl⟩ := len_3 h; rfl
theorem bd_l_term : BdA "_law_term" "_law_term" s_l_term ["_law_cell_here", "_law_bases", "_law_heads_here"] := fun _ _ _ _ _ _ _ h => by obtain ⟨_, _, _, rfl⟩ := len_3 h; rfl
theorem bd_l_loop : BdA "_law_loop" "_law_loop" s_l_loop ["_law_number", "_law_far", "_law_stack", "_law_cell_here"] := fun _ _ _ _ _ _ _ h => by obtain ⟨_, _, _, _, rfl⟩ := len_4 h; rfl
theorem bd_l_row : BdA "_law_row" "_law_row" s_l_row ["_law_cell_here", "_law_stack", "_law_path", "_law_heads_here"] := fun _ _ _ _ _ _ _ h => by obtain ⟨_, _, _, _, rfl⟩ := len_4 h; rfl
theorem bd_l_heads : BdA "_law_heads" "_law_heads" s_l_heads ["_law_script"] := fun _ _ _ _ _ _ _ h => by obtain ⟨_, rfl⟩ := len_1 h; rfl
theorem bd_l_rows : BdA "_law_rows" "_law_rows" s_l_rows ["_law_script", "_law_many"] := fun _ _ _ _ _ _ _ h => by obtain ⟨_, _, rfl⟩ := len_2 h; rfl
theorem bd_l_size : BdA "_law_size" "_law_size" s_l_size ["_law_script"] := fun _ _ _ _ _ _ _ h => by obtain ⟨_, rfl⟩ := len_1 h; rfl
theorem bd_l_object : BdA "_law_object" "_law_object" s_l_object ["_law_term_here"] := fun _ _ _ _ _ _ _ h => by obtain ⟨_, rfl⟩ := len_1 h; rfl
theorem bd_l_made : BdA "_law_made" "_law_made" s_l_made ["_law_size_here", "_law_rows_here"] := fun _ _ _ _ _ _ _ h => by obtain ⟨_, _, rfl⟩ := len_2 h; rfl
theorem bd_l_few : BdA "_law_few" "_law_few" s_l_few ["_law_script"] := fun _ _ _ _ _ _ _ h => by obtain ⟨_, rfl⟩ := len_1 h; rfl
theorem bd_l_around : BdA "_law_around" "_law_around" s_l_around ["_law_names", "_law_values"] := fun _ _ _ _ _ _ _ h => by obtain ⟨_, _, rfl⟩ := len_2 h; rfl
theorem bd_l_stand : BdA "_law_stand" "_law_stand" s_l_stand ["_law_spots_here", "_law_around_here"] := fun _ _ _ _ _ _ _ h => by obtain ⟨_, _, rfl⟩ := len_2 h; rfl
theorem bd_l_levels : BdA "_law_levels" "_law_levels" s_l_levels ["_law_row_here"] := fun _ _ _ _ _ _ _ h => by obtain ⟨_, rfl⟩ := len_1 h; rfl
theorem bd_l_reads : BdA "_law_reads" "_law_reads" s_l_reads ["_law_term_here"] := fun _ _ _ _ _ _ _ h => by obtain ⟨_, rfl⟩ := len_1 h; rfl
theorem bd_l_touches : BdA "_law_touches" "_law_touches" s_l_touches ["_law_row_here"] := fun _ _ _ _ _ _ _ h => by obtain ⟨_, rfl⟩ := len_1 h; rfl
theorem bd_l_meets : BdA "_law_meets" "_law_meets" s_l_meets ["_law_rows_here"] := fun _ _ _ _ _ _ _ h => by obtain ⟨_, rfl⟩ := len_1 h; rfl
theorem bd_l_shared : BdA "_law_shared" "_law_shared" s_l_shared ["_law_one", "_law_other_here"] := fun _ _ _ _ _ _ _ h => by obtain ⟨_, _, rfl⟩ := len_2 h; rfl
theorem bd_l_cases : BdA "_law_cases" "_law_cases" s_l_cases ["_law_rows_here", "_law_k", "_law_l"] := fun _ _ _ _ _ _ _ h => by obtain ⟨_, _, _, rfl⟩ := len_3 h; rfl
theorem bd_l_case_of : BdA "_law_case_of" "_law_case_of" s_l_case_of ["_law_rows_here", "_law_one", "_law_other_here"] := fun _ _ _ _ _ _ _ h => by obtain ⟨_, _, _, rfl⟩ := len_3 h; rfl
theorem bd_l_are_bonds : BdA "_law_are_bonds" "_law_are_bonds" s_l_are_bonds ["_law_found"] := fun _ _ _ _ _ _ _ h => by obtain ⟨_, rfl⟩ := len_1 h; rfl
theorem bd_l_kept : BdA "_law_kept" "_law_kept" s_l_kept ["_law_bonds", "_law_values"] := fun _ _ _ _ _ _ _ h => by obtain ⟨_, _, rfl⟩ := len_2 h; rfl
theorem bd_l_unknown : BdA "_law_unknown" "_law_unknown" s_l_unknown ["_law_name_here", "_law_names", "_law_first_here"] := fun _ _ _ _ _ _ _ h => by obtain ⟨_, _, _, rfl⟩ := len_3 h; rfl
theorem bd_l_loop_bonds : BdA "_law_loop_bonds" "_law_loop_bonds" s_l_loop_bonds ["_law_row_here", "_law_first_here"] := fun _ _ _ _ _ _ _ h => by obtain ⟨_, _, rfl⟩ := len_2 h; rfl
theorem bd_l_case_bonds : BdA "_law_case_bonds" "_law_case_bonds" s_l_case_bonds ["_law_rows_here", "_law_k", "_law_a", "_law_l", "_law_b", "_law_case"] := fun _ _ _ _ _ _ _ h => by obtain ⟨_, _, _, _, _, _, rfl⟩ := len_6 h; rfl
theorem bd_l_inside : BdA "_law_inside" "_law_inside" s_l_inside ["_law_row_here", "_law_values"] := fun _ _ _ _ _ _ _ h => by obtain ⟨_, _, rfl⟩ := len_2 h; rfl
theorem bd_l_first : BdA "_law_first" "_law_first" s_l_first ["_law_row_here", "_law_number"] := fun _ _ _ _ _ _ _ h => by obtain ⟨_, _, rfl⟩ := len_2 h; rfl
theorem bd_l_other : BdA "_law_other" "_law_other" s_l_other ["_law_row_here", "_law_spots_here", "_law_place", "_law_number"] := fun _ _ _ _ _ _ _ h => by obtain ⟨_, _, _, _, rfl⟩ := len_4 h; rfl
theorem bd_law : BdA "law" "law" s_law ["_law_script"] := fun _ _ _ _ _ _ _ h => by obtain ⟨_, rfl⟩ := len_1 h; rfl
theorem txt_mk {K : PySem.W.Frag} {h : Heap} {mg : Str → Option Value} {fa : Addr} (X : K.In h) (G : h.Ns mainGlobals mg) (hfa : mg "law" = some (.ref fa))
    {C_Term : Addr} {C_Number : Addr} {C_Value : Addr} {C_Cell : Addr} {C_Joined : Addr} {C_Deed : Addr} {C_Program : Addr} {f1 f2 f3 f4 f5 f6 f7 f8 f9 f10 f11 f12 f13 f14 f15 f16 f17 f18 f19 f20 f21 f22 f23 f24 f25 f26 f27 f28 f29 f30 f31 f32 f33 f34 f35 f36 f37 f38 f39 f40 f41 f42 f43 f44 f45 f46 f47 f48 f49 f50 f51 f52 f53 : Addr} {d1 d2 d3 d4 d5 d6 d7 d8 d9 d10 d11 d12 d13 d14 d15 d16 d17 d18 d19 d20 d21 d22 d23 d24 d25 d26 d27 d28 d29 d30 d31 d32 d33 d34 d35 d36 d37 d38 d39 d40 d41 d42 d43 d44 d45 d46 d47 d48 d49 d50 d51 d52 d53 : FuncData}
    (a_Term : ClA K C_Term "Term")
    (a_Number : ClA K C_Number "Number")
    (a_Value : ClA K C_Value "Value")
    (a_Cell : ClA K C_Cell "Cell")
    (a_Joined : ClA K C_Joined "Joined")
    (a_Deed : ClA K C_Deed "Deed")
    (a_Program : ClA K C_Program "Program")
    (h1 : DcA K C_Number "__init__" "Number.__init__" s_Number_init f1 d1)
    (h2 : DcA K C_Value "__init__" "Value.__init__" s_Value_init f2 d2)
    (h3 : DcA K C_Cell "__init__" "Cell.__init__" s_Cell_init f3 d3)
    (h4 : DcA K C_Joined "__init__" "Joined.__init__" s_Joined_init f4 d4)
    (h5 : DcA K C_Number "reads" "Number.reads" s_Number_reads f5 d5)
    (h6 : DcA K C_Value "reads" "Value.reads" s_Value_reads f6 d6)
    (h7 : DcA K C_Cell "reads" "Cell.reads" s_Cell_reads f7 d7)
    (h8 : DcA K C_Joined "reads" "Joined.reads" s_Joined_reads f8 d8)
    (h9 : DcA K C_Deed "__init__" "Deed.__init__" s_Deed_init f9 d9)
    (h10 : DcA K C_Program "__init__" "Program.__init__" s_Program_init f10 d10)
    (h11 : DnA K "shared" s_shared f11 d11)
    (h12 : DnA K "alike_numbers" s_alike_numbers f12 d12)
    (h13 : DnA K "touches" s_touches f13 d13)
    (h14 : DnA K "loop_bonds" s_loop_bonds f14 d14)
    (h15 : DnA K "like_bonds" s_like_bonds f15 d15)
    (h16 : DnA K "unknown_of" s_unknown_of f16 d16)
    (h17 : DnA K "cases" s_cases f17 d17)
    (h18 : DnA K "case_bonds" s_case_bonds f18 d18)
    (h19 : DnA K "order_bonds" s_order_bonds f19 d19)
    (h20 : DnA K "_law_cell" s_l_cell f20 d20)
    (h21 : DnA K "_law_whole" s_l_whole f21 d21)
    (h22 : DnA K "_law_mixed" s_l_mixed f22 d22)
    (h23 : DnA K "_law_name" s_l_name f23 d23)
    (h24 : DnA K "_law_spots" s_l_spots f24 d24)
    (h25 : DnA K "_law_cell_of" s_l_cell_of f25 d25)
    (h26 : DnA K "_law_leaf" s_l_leaf f26 d26)
    (h27 : DnA K "_law_term" s_l_term f27 d27)
    (h28 : DnA K "_law_loop" s_l_loop f28 d28)
    (h29 : DnA K "_law_row" s_l_row f29 d29)
    (h30 : DnA K "_law_heads" s_l_heads f30 d30)
    (h31 : DnA K "_law_rows" s_l_rows f31 d31)
    (h32 : DnA K "_law_size" s_l_size f32 d32)
    (h33 : DnA K "_law_object" s_l_object f33 d33)
    (h34 : DnA K "_law_made" s_l_made f34 d34)
    (h35 : DnA K "_law_few" s_l_few f35 d35)
    (h36 : DnA K "_law_around" s_l_around f36 d36)
    (h37 : DnA K "_law_stand" s_l_stand f37 d37)
    (h38 : DnA K "_law_levels" s_l_levels f38 d38)
    (h39 : DnA K "_law_reads" s_l_reads f39 d39)
    (h40 : DnA K "_law_touches" s_l_touches f40 d40)
    (h41 : DnA K "_law_meets" s_l_meets f41 d41)
    (h42 : DnA K "_law_shared" s_l_shared f42 d42)
    (h43 : DnA K "_law_cases" s_l_cases f43 d43)
    (h44 : DnA K "_law_case_of" s_l_case_of f44 d44)
    (h45 : DnA K "_law_are_bonds" s_l_are_bonds f45 d45)
    (h46 : DnA K "_law_kept" s_l_kept f46 d46)
    (h47 : DnA K "_law_unknown" s_l_unknown f47 d47)
    (h48 : DnA K "_law_loop_bonds" s_l_loop_bonds f48 d48)
    (h49 : DnA K "_law_case_bonds" s_l_case_bonds f49 d49)
    (h50 : DnA K "_law_inside" s_l_inside f50 d50)
    (h51 : DnA K "_law_first" s_l_first f51 d51)
    (h52 : DnA K "_law_other" s_l_other f52 d52)
    (h53 : DnA K "law" s_law f53 d53)
    (n_Number_n : PySem.W.findIn K (.ref C_Number) "n" = some none)
    (n_Value_name : PySem.W.findIn K (.ref C_Value) "name" = some none)
    (n_Cell_table : PySem.W.findIn K (.ref C_Cell) "table" = some none)
    (n_Cell_spots : PySem.W.findIn K (.ref C_Cell) "spots" = some none)
    (n_Joined_sign : PySem.W.findIn K (.ref C_Joined) "sign" = some none)
    (n_Joined_left : PySem.W.findIn K (.ref C_Joined) "left" = some none)
    (n_Joined_right : PySem.W.findIn K (.ref C_Joined) "right" = some none)
    (n_Deed_names : PySem.W.findIn K (.ref C_Deed) "names" = some none)
    (n_Deed_lows : PySem.W.findIn K (.ref C_Deed) "lows" = some none)
    (n_Deed_highs : PySem.W.findIn K (.ref C_Deed) "highs" = some none)
    (n_Deed_table : PySem.W.findIn K (.ref C_Deed) "table" = some none)
    (n_Deed_spots : PySem.W.findIn K (.ref C_Deed) "spots" = some none)
    (n_Deed_term : PySem.W.findIn K (.ref C_Deed) "term" = some none)
    (n_Deed_path : PySem.W.findIn K (.ref C_Deed) "path" = some none)
    (n_Program_size : PySem.W.findIn K (.ref C_Program) "size" = some none)
    (n_Program_deeds : PySem.W.findIn K (.ref C_Program) "deeds" = some none)
    (z_bool : PySem.W.nsIn K mainGlobals "bool" = some none)
    (z_enumerate : PySem.W.nsIn K mainGlobals "enumerate" = some none)
    (z_int : PySem.W.nsIn K mainGlobals "int" = some none)
    (z_isinstance : PySem.W.nsIn K mainGlobals "isinstance" = some none)
    (z_len : PySem.W.nsIn K mainGlobals "len" = some none)
    (z_list : PySem.W.nsIn K mainGlobals "list" = some none)
    (z_min : PySem.W.nsIn K mainGlobals "min" = some none)
    (z_range : PySem.W.nsIn K mainGlobals "range" = some none)
    (z_tuple : PySem.W.nsIn K mainGlobals "tuple" = some none)
    (z_zip : PySem.W.nsIn K mainGlobals "zip" = some none) :
    ∃ a : Ad, Tx K mg a ∧ fa = a.f_law ∧ (∀ (s : Shared) (v : Value), BindsTo s a.d_law ⟨[v], []⟩ [("_law_script", v)]) := by
  have e := hfa.symm.trans (PySem.W.mg_of X G h53.a)
  cases e
  obtain ⟨_, _, _, _, _, _, _, _, _, rfl, _⟩ := h53.F.ex
  exact ⟨⟨f1, d1, f2, d2, f3, d3, f4, d4, f5, d5, f6, d6, f7, d7, f8, d8, f9, d9, f10, d10, f11, d11, f12, d12, f13, d13, f14, d14, f15, d15, f16, d16, f17, d17, f18, d18, f19, d19, f20, d20, f21, d21, f22, d22, f23, d23, f24, d24, f25, d25, f26, d26, f27, d27, f28, d28, f29, d29, f30, d30, f31, d31, f32, d32, f33, d33, f34, d34, f35, d35, f36, d36, f37, d37, f38, d38, f39, d39, f40, d40, f41, d41, f42, d42, f43, d43, f44, d44, f45, d45, f46, d46, f47, d47, f48, d48, f49, d49, f50, d50, f51, d51, f52, d52, fa, _, C_Term, C_Number, C_Value, C_Cell, C_Joined, C_Deed, C_Program⟩, ⟨h1.F, 
    h1.F.binds bd_Number_init, 
    h2.F, 
    h2.F.binds bd_Value_init, 
    h3.F, 
    h3.F.binds bd_Cell_init, 
    h4.F, 
    h4.F.binds bd_Joined_init, 
    h5.F, 
    h5.F.binds bd_Number_reads, 
    h6.F, 
    h6.F.binds bd_Value_reads, 
    h7.F, 
    h7.F.binds bd_Cell_reads, 
    h8.F, 
    h8.F.binds bd_Joined_reads, 
    h9.F, 
    h9.F.binds bd_Deed_init, 
    h10.F, 
    h10.F.binds bd_Program_init, 
    h11.F, 
    h11.F.binds bd_shared, 
    PySem.W.mg_of X G h11.a, 
    h12.F, 
    h12.F.binds bd_alike_numbers, 
    PySem.W.mg_of X G h12.a, 
    h13.F, 
    h13.F.binds bd_touches, 
    PySem.W.mg_of X G h13.a, 
    h14.F, 
    h14.F.binds bd_loop_bonds, 
    PySem.W.mg_of X G h14.a, 
    h15.F, 
    h15.F.binds bd_like_bonds, 
    PySem.W.mg_of X G h15.a, 
    h16.F, 
    h16.F.binds bd_unknown_of, 
    PySem.W.mg_of X G h16.a, 
    h17.F, 
    h17.F.binds bd_cases, 
    PySem.W.mg_of X G h17.a, 
    h18.F, 
    h18.F.binds bd_case_bonds, 
    PySem.W.mg_of X G h18.a, 
    h19.F, 
    h19.F.binds bd_order_bonds, 
    PySem.W.mg_of X G h19.a, 
    h20.F, 
    h20.F.binds bd_l_cell, 
    PySem.W.mg_of X G h20.a, 
    h21.F, 
    h21.F.binds bd_l_whole, 
    PySem.W.mg_of X G h21.a, 
    h22.F, 
    h22.F.binds bd_l_mixed, 
    PySem.W.mg_of X G h22.a, 
    h23.F, 
    h23.F.binds bd_l_name, 
    PySem.W.mg_of X G h23.a, 
    h24.F, 
    h24.F.binds bd_l_spots, 
    PySem.W.mg_of X G h24.a, 
    h25.F, 
    h25.F.binds bd_l_cell_of, 
    PySem.W.mg_of X G h25.a, 
    h26.F, 
    h26.F.binds bd_l_leaf, 
    PySem.W.mg_of X G h26.a, 
    h27.F, 
    h27.F.binds bd_l_term, 
    PySem.W.mg_of X G h27.a, 
    h28.F, 
    h28.F.binds bd_l_loop, 
    PySem.W.mg_of X G h28.a, 
    h29.F, 
    h29.F.binds bd_l_row, 
    PySem.W.mg_of X G h29.a, 
    h30.F, 
    h30.F.binds bd_l_heads, 
    PySem.W.mg_of X G h30.a, 
    h31.F, 
    h31.F.binds bd_l_rows, 
    PySem.W.mg_of X G h31.a, 
    h32.F, 
    h32.F.binds bd_l_size, 
    PySem.W.mg_of X G h32.a, 
    h33.F, 
    h33.F.binds bd_l_object, 
    PySem.W.mg_of X G h33.a, 
    h34.F, 
    h34.F.binds bd_l_made, 
    PySem.W.mg_of X G h34.a, 
    h35.F, 
    h35.F.binds bd_l_few, 
    PySem.W.mg_of X G h35.a, 
    h36.F, 
    h36.F.binds bd_l_around, 
    PySem.W.mg_of X G h36.a, 
    h37.F, 
    h37.F.binds bd_l_stand, 
    PySem.W.mg_of X G h37.a, 
    h38.F, 
    h38.F.binds bd_l_levels, 
    PySem.W.mg_of X G h38.a, 
    h39.F, 
    h39.F.binds bd_l_reads, 
    PySem.W.mg_of X G h39.a, 
    h40.F, 
    h40.F.binds bd_l_touches, 
    PySem.W.mg_of X G h40.a, 
    h41.F, 
    h41.F.binds bd_l_meets, 
    PySem.W.mg_of X G h41.a, 
    h42.F, 
    h42.F.binds bd_l_shared, 
    PySem.W.mg_of X G h42.a, 
    h43.F, 
    h43.F.binds bd_l_cases, 
    PySem.W.mg_of X G h43.a, 
    h44.F, 
    h44.F.binds bd_l_case_of, 
    PySem.W.mg_of X G h44.a, 
    h45.F, 
    h45.F.binds bd_l_are_bonds, 
    PySem.W.mg_of X G h45.a, 
    h46.F, 
    h46.F.binds bd_l_kept, 
    PySem.W.mg_of X G h46.a, 
    h47.F, 
    h47.F.binds bd_l_unknown, 
    PySem.W.mg_of X G h47.a, 
    h48.F, 
    h48.F.binds bd_l_loop_bonds, 
    PySem.W.mg_of X G h48.a, 
    h49.F, 
    h49.F.binds bd_l_case_bonds, 
    PySem.W.mg_of X G h49.a, 
    h50.F, 
    h50.F.binds bd_l_inside, 
    PySem.W.mg_of X G h50.a, 
    h51.F, 
    h51.F.binds bd_l_first, 
    PySem.W.mg_of X G h51.a, 
    h52.F, 
    h52.F.binds bd_l_other, 
    PySem.W.mg_of X G h52.a, 
    h53.F, 
    h53.F.binds bd_law, 
    PySem.W.mg_of X G h53.a, 
    ⟨a_Term.pg, a_Term.hd, a_Term.po, a_Term.sa⟩, 
    PySem.W.mg_of X G a_Term.a, 
    ⟨a_Number.pg, a_Number.hd, a_Number.po, a_Number.sa⟩, 
    PySem.W.mg_of X G a_Number.a, 
    ⟨a_Number.mi, h1.a, h1.i, a_Number.kc⟩, 
    ⟨h5.a, h5.i, h5.F.kp⟩, 
    n_Number_n, 
    ⟨a_Value.pg, a_Value.hd, a_Value.po, a_Value.sa⟩, 
    PySem.W.mg_of X G a_Value.a, 
    ⟨a_Value.mi, h2.a, h2.i, a_Value.kc⟩, 
    ⟨h6.a, h6.i, h6.F.kp⟩, 
    n_Value_name, 
    ⟨a_Cell.pg, a_Cell.hd, a_Cell.po, a_Cell.sa⟩, 
    PySem.W.mg_of X G a_Cell.a, 
    ⟨a_Cell.mi, h3.a, h3.i, a_Cell.kc⟩, 
    ⟨h7.a, h7.i, h7.F.kp⟩, 
    n_Cell_table, 
    n_Cell_spots, 
    ⟨a_Joined.pg, a_Joined.hd, a_Joined.po, a_Joined.sa⟩, 
    PySem.W.mg_of X G a_Joined.a, 
    ⟨a_Joined.mi, h4.a, h4.i, a_Joined.kc⟩, 
    ⟨h8.a, h8.i, h8.F.kp⟩, 
    n_Joined_sign, 
    n_Joined_left, 
    n_Joined_right, 
    ⟨a_Deed.pg, a_Deed.hd, a_Deed.po, a_Deed.sa⟩, 
    PySem.W.mg_of X G a_Deed.a, 
    ⟨a_Deed.mi, h9.a, h9.i, a_Deed.kc⟩, 
    n_Deed_names, 
    n_Deed_lows, 
    n_Deed_highs, 
    n_Deed_table, 
    n_Deed_spots, 
    n_Deed_term, 
    n_Deed_path, 
    ⟨a_Program.pg, a_Program.hd, a_Program.po, a_Program.sa⟩, 
    PySem.W.mg_of X G a_Program.a, 
    ⟨a_Program.mi, h10.a, h10.i, a_Program.kc⟩, 
    n_Program_size, 
    n_Program_deeds, 
    PySem.W.mg_none_of X G z_bool, 
    PySem.W.mg_none_of X G z_enumerate, 
    PySem.W.mg_none_of X G z_int, 
    PySem.W.mg_none_of X G z_isinstance, 
    PySem.W.mg_none_of X G z_len, 
    PySem.W.mg_none_of X G z_list, 
    PySem.W.mg_none_of X G z_min, 
    PySem.W.mg_none_of X G z_range, 
    PySem.W.mg_none_of X G z_tuple, 
    PySem.W.mg_none_of X G z_zip⟩, rfl, fun s v => .of_eq rfl⟩
end Fw
open PySem PySem.W PyProof.Rows
namespace PySem.W.Fast
def tw10032132483962830370 := True
def tw10155968759408059648 := True
def tw10162715464612761859 := True
def tw10175821773256107759 := True
def tw10205808833357263821 := True
def tw10246807869647823302 := True
def tw10249937679609108390 := True
def tw1031936781857292088 := True
def tw10328794258865640361 := True
def tw10362355623960675782 := True
def tw10373615264768394716 := True
def tw10407472925476442050 := True
def tw10449711723199379501 := True
def tw10525358498645171650 := True
def tw10571084940844989458 := True
def tw10582529786400577617 := True
def tw10583450000609670572 := True
def tw10625558127930480916 := True
def tw10649055364908136903 := True
def tw10674848515714364917 := True
def tw10678295209043031869 := True
def tw10857859629648006725 := True
def tw11014652033508644367 := True
def tw11015103588410619130 := True
def tw11091040288510189726 := True
def tw11120210491991516501 := True
def tw11142785140243289521 := True
def tw11194196876773951274 := True
def tw11208875213759863405 := True
def tw11240963621738139002 := True
def tw1124272491524509459 := True
def tw11242802265850725442 := True
def tw11289037760002851236 := True
def tw11325810078821254234 := True
def tw11326807650929901438 := True
def tw1133052928331238242 := True
def tw11393187193361157893 := True
def tw11397721118275403546 := True
def tw11541575860347338390 := True
def tw11550041790990004904 := True
def tw11564821709965898470 := True
def tw11575929430624153187 := True
def tw11643560433866073805 := True
def tw11683061327706118783 := True
def tw11698984425142834139 := True
def tw11738021040501684793 := True
def tw11811286218412896725 := True
def tw11849885185270974701 := True
def tw11859380554711180723 := True
def tw1191797419889492096 := True
def tw12056692114589739796 := True
def tw1205998096471853478 := True
def tw12065014758646215690 := True
def tw12067766949727689448 := True
def tw12090190587604794335 := True
def tw12170255066533431259 := True
def tw12176298984346425185 := True
def tw12196103695011099651 := True
def tw122074571534375499 := True
def tw12316444569724349373 := True
def tw12369363892447266604 := True
def tw12418262439334250830 := True
def tw12439652581646686926 := True
def tw12475641124821478123 := True
def tw12485217131766611701 := True
def tw12513805735005194822 := True
def tw12525956106808918441 := True
def tw12534527851355583762 := True
def tw12580729996865287860 := True
def tw12589547698409957550 := True
def tw12625733729993855237 := True
def tw12696394637884988308 := True
def tw12700341850895205772 := True
def tw1271163565527167064 := True
def tw12769678533545885552 := True
def tw12802684677259428810 := True
def tw12822690341288178873 := True
def tw1282578631141721442 := True
def tw1291535829898573391 := True
def tw12956330940250333817 := True
def tw12981296149551307320 := True
def tw12989676910097595642 := True
def tw13016549635221618178 := True
def tw13021006161573818195 := True
def tw13060182127919980390 := True
def tw13061296718662676629 := True
def tw1309083749928118152 := True
def tw13162739621829399643 := True
def tw1316628817978159053 := True
def tw1317636161291850465 := True
def tw13211220768408475446 := True
def tw1322869835584568538 := True
def tw1324593591758157098 := True
def tw13269260097013644857 := True
def tw1327622370530512546 := True
def tw13301236839241574275 := True
def tw13333346057336816658 := True
def tw13350569673450076373 := True
def tw13384200104687104508 := True
def tw13391985531247508163 := True
def tw13393064821530801584 := True
def tw13439269154959492603 := True
def tw13562306123041280435 := True
def tw13647999875441406024 := True
def tw13680997935494138478 := True
def tw13699125671377799398 := True
def tw1371150213649900247 := True
def tw13756580087361562417 := True
def tw13762430902165071140 := True
def tw13860861078135234259 := True
def tw13879864848698241798 := True
def tw139545036100007127 := True
def tw13980838352889335913 := True
def tw14027583908891684843 := True
def tw14107533150538758473 := True
def tw14122877527237288470 := True
def tw14146859220187786635 := True
def tw14166885835519530465 := True
def tw1416761553253532027 := True
def tw14183551998831513937 := True
def tw14213287798984213144 := True
def tw14213762617275653246 := True
def tw14271735683412641403 := True
def tw14349374409877352764 := True
def tw14388180756764286476 := True
def tw14388401766124683024 := True
def tw14435227594236025418 := True
def tw14504280740036804833 := True
def tw14508626753189575588 := True
def tw14558580812760765604 := True
def tw14573797514762433709 := True
def tw1462651913183706088 := True
def tw14668459423814249205 := True
def tw14698116751976210860 := True
def tw14759670778728499487 := True
def tw14775579668625617781 := True
def tw14785238612891385483 := True
def tw14838239243593608231 := True
def tw148565903417266011 := True
def tw1485815075631803210 := True
def tw14980983583394691609 := True
def tw14989060109735323699 := True
def tw14993441313946796949 := True
def tw15012847014039343001 := True
def tw1502632136848918396 := True
def tw15055975913947709659 := True
def tw1509412057912485283 := True
def tw15142614999870606193 := True
def tw15157347440963384798 := True
def tw15192194235852768886 := True
def tw15250404096913003438 := True
def tw15252171200462442707 := True
def tw1528042556879063527 := True
def tw15348638318725178730 := True
def tw15384650425942915719 := True
def tw15456161465498194686 := True
def tw15478716271774551081 := True
def tw15533617111589992368 := True
def tw15549543879971643436 := True
def tw15604385232447078363 := True
def tw15653945453080399499 := True
def tw15655645183319803926 := True
def tw15679769478770395371 := True
def tw15695843419977243259 := True
def tw15756164493455251686 := True
def tw15763529183379998474 := True
def tw15852392474193377158 := True
def tw15906586145906851170 := True
def tw15912223892396534508 := True
def tw15960304962149659390 := True
def tw15977045395498696186 := True
def tw160169266567935011 := True
def tw16057383113549908023 := True
def tw16236011539516827522 := True
def tw16238694763042644774 := True
def tw16347784622957695176 := True
def tw16429557122834325750 := True
def tw16439548898063088773 := True
def tw16456263856858549147 := True
def tw16485424795472717997 := True
def tw16545254341817024755 := True
def tw1657151820261091324 := True
def tw1657383185004919443 := True
def tw16629100086954882706 := True
def tw16684326037548580037 := True
def tw16746175772037187239 := True
def tw16782063122198096563 := True
def tw16798960226810600933 := True
def tw16977611000818794753 := True
def tw16997734068953109434 := True
def tw17013687882779179222 := True
def tw17022671867940510296 := True
def tw17091344838095474253 := True
def tw17119985213703731691 := True
def tw17160011225139346114 := True
def tw17176042795185086322 := True
def tw17211065724966901932 := True
def tw17297516628902407160 := True
def tw17306273481999667423 := True
def tw17395730473787245191 := True
def tw17395940712441675739 := True
def tw17440449737047411137 := True
def tw17444763464585680545 := True
def tw17522899883920335482 := True
def tw1753120243548079454 := True
def tw17539237055053327352 := True
def tw17586575703105678288 := True
def tw17587577929474649169 := True
def tw17674466228672707205 := True
def tw1767933751245979568 := True
def tw17700738453111010303 := True
def tw17750078781557482129 := True
def tw17752724707068898277 := True
def tw17766402939532360958 := True
def tw17768899904930452527 := True
def tw17778019414701408718 := True
def tw17813848816144943636 := True
def tw17846826416549061997 := True
def tw17847929548311400787 := True
def tw17923276931723876757 := True
def tw17923759526370830840 := True
def tw17935014562752799525 := True
def tw18025119358393582807 := True
def tw18030602775892519972 := True
def tw18047381042986190790 := True
def tw18068834218179372717 := True
def tw18114705741754111769 := True
def tw18125450658427973741 := True
def tw18131447073949105872 := True
def tw18179479346232932116 := True
def tw18231408164833816258 := True
def tw18244061339141655739 := True
def tw18313297525098431645 := True
def tw18323406788651569674 := True
def tw18323916382570280451 := True
def tw18332924834705722486 := True
def tw1840647238822740858 := True
def tw18415034470121772890 := True
def tw1851617643316332669 := True
def tw1886782961146856444 := True
def tw1931332118190261316 := True
def tw2065919501005533536 := True
def tw2083037422937946758 := True
def tw2096191212570196001 := True
def tw2116630343155386522 := True
def tw2139204688929719402 := True
def tw2215246384039862155 := True
def tw2224162673846022159 := True
def tw2286803621080040115 := True
def tw2321057874935981389 := True
def tw2336897860903525778 := True
def tw2347222199275396418 := True
def tw2377647146570555786 := True
def tw2415389034145301360 := True
def tw2415796669470092075 := True
def tw2423610893343225097 := True
def tw2440463522415133190 := True
def tw2448208330202753364 := True
def tw2474677762853132274 := True
def tw2483460007660776155 := True
def tw2485147338629486491 := True
def tw2517853861829473534 := True
def tw2544568159475034595 := True
def tw2591484610643033580 := True
def tw2648436273606170252 := True
def tw2700286572858218468 := True
def tw2723602462895342547 := True
def tw2735726243337538690 := True
def tw2757365679573522747 := True
def tw2790362352843083668 := True
def tw280826396287643944 := True
def tw2808910795887949994 := True
def tw2900588710756767149 := True
def tw2929804190613304580 := True
def tw2930127462737096510 := True
def tw295146041930189639 := True
def tw2967290158673781059 := True
def tw3024899300685016244 := True
def tw3059064468081370867 := True
def tw3096911947007949321 := True
def tw3138220574329900451 := True
def tw3180731005847081670 := True
def tw3217702418373613787 := True
def tw3275600738755301211 := True
def tw3290594542226337116 := True
def tw3352036104946628893 := True
def tw3369811027609657967 := True
def tw3378103457807129219 := True
def tw3413640230657815066 := True
def tw3415697820485872733 := True
def tw3481122198880776448 := True
def tw3514367460037332627 := True
def tw3518068640885493313 := True
def tw3612838319287508550 := True
def tw3635543614138216871 := True
def tw3649819730846710075 := True
def tw3683679394657877458 := True
def tw3712662430292991190 := True
def tw3749749928696287783 := True
def tw3797091594707193280 := True
def tw3836916911042997085 := True
def tw3865507722553367656 := True
def tw3937285875818150778 := True
def tw394330484532146605 := True
def tw4029578049154163158 := True
def tw4094285890195307309 := True
def tw4127821166455703588 := True
def tw4159071601792548839 := True
def tw4243381669387163936 := True
def tw4283762082835593481 := True
def tw4290597313520279751 := True
def tw4336033454075327854 := True
def tw4377619126901469663 := True
def tw4392846095552487277 := True
def tw4400750470072716315 := True
def tw4402352574517361228 := True
def tw4449508995203217671 := True
def tw4562528972550906316 := True
def tw4563906764510091298 := True
def tw4677110319153925243 := True
def tw4726257186315505363 := True
def tw4734292503341910126 := True
def tw4745787118279186502 := True
def tw4754754348960329971 := True
def tw476407680552561873 := True
def tw4766344451596523628 := True
def tw4801771804419167730 := True
def tw4878048615241864484 := True
def tw4890135024506797200 := True
def tw4919797367275723099 := True
def tw4942803313953484680 := True
def tw4965552373430751950 := True
def tw4974009740704091025 := True
def tw4983103870128654924 := True
def tw501889432687745455 := True
def tw5033245281195156769 := True
def tw5054528069754708603 := True
def tw5091189117333343703 := True
def tw5115330866919525795 := True
def tw512091760767200743 := True
def tw5146648067728561280 := True
def tw5157457690147240622 := True
def tw5203209536085209572 := True
def tw5226148521420841680 := True
def tw5289000194789441783 := True
def tw5350409272846101199 := True
def tw5363141841805967876 := True
def tw5393701708760580405 := True
def tw545275929480054462 := True
def tw5514903222037882482 := True
def tw5526318035705581295 := True
def tw5642922162978483942 := True
def tw565290281427981144 := True
def tw5678222206389727135 := True
def tw5692204733492322982 := True
def tw5714670654447887760 := True
def tw5750705669268642582 := True
def tw5772143809716350606 := True
def tw5773165620813302118 := True
def tw5796303567640308312 := True
def tw5855519126459792059 := True
def tw588836271110844424 := True
def tw5889418318471553119 := True
def tw5917731014980182407 := True
def tw6002556171420201987 := True
def tw6010284044044466217 := True
def tw6010285537489973960 := True
def tw6012442056551759015 := True
def tw6055948455193834508 := True
def tw6105510261298521059 := True
def tw6115332549434585778 := True
def tw6207601033704618415 := True
def tw62169221832989515 := True
def tw6278688175706511710 := True
def tw6318752381810414496 := True
def tw6320205662833234585 := True
def tw6332447510897825316 := True
def tw636782872963655722 := True
def tw6443854423317218993 := True
def tw6542740988978621412 := True
def tw6608757689557487601 := True
def tw6653074317643681729 := True
def tw6704398677400340733 := True
def tw6719232164954178834 := True
def tw6721842134708511369 := True
def tw6750972141621293451 := True
def tw6755433790053661149 := True
def tw6781534827930165695 := True
def tw678665978985500005 := True
def tw6885631969853345785 := True
def tw6960273980624185458 := True
def tw6979980587571179663 := True
def tw7021502226578997949 := True
def tw70458823970749638 := True
def tw7170286844146861570 := True
def tw7174333747232609762 := True
def tw7372215615763666041 := True
def tw7506581438338168902 := True
def tw7594184567103176860 := True
def tw7762666233877082483 := True
def tw7773725773488424470 := True
def tw7790243970542181319 := True
def tw7794701259329999856 := True
def tw7862742117621990099 := True
def tw7865005036954166186 := True
def tw7869815683232553687 := True
def tw7918028718431252695 := True
def tw7950272115976346102 := True
def tw7971359936159556520 := True
def tw8065790070585283141 := True
def tw8110295916356184246 := True
def tw8140494107620533798 := True
def tw8206302285529134871 := True
def tw8329584917429669689 := True
def tw8340246945126984412 := True
def tw8362443083882900180 := True
def tw8386171508463781747 := True
def tw8437946377904395933 := True
def tw8472857442369474990 := True
def tw8506759221024464208 := True
def tw8580552455416591840 := True
def tw8581531554031548893 := True
def tw8605983992960053123 := True
def tw8608418655056309610 := True
def tw8611062352701366573 := True
def tw8621022715121548606 := True
def tw8698960964775486430 := True
def tw878615077043816944 := True
def tw878889820871675864 := True
def tw8829995840188488413 := True
def tw8867996985247845484 := True
def tw8917416560778704265 := True
def tw8927253886178242654 := True
def tw8928944964704439464 := True
def tw8939512258928675307 := True
def tw9005559818506223244 := True
def tw9038235492271541753 := True
def tw9063957820642647037 := True
def tw9080293825438540635 := True
def tw9110289926064337208 := True
def tw9129105518051019130 := True
def tw9129563553828722198 := True
def tw9132397473950939030 := True
def tw9138524662629008204 := True
def tw9165559950772555451 := True
def tw9230677517951119752 := True
def tw9263621748538422023 := True
def tw9299296984063687703 := True
def tw9312074851353587684 := True
def tw9370286914028640191 := True
def tw9382599418826872739 := True
def tw9417065027417381313 := True
def tw9466529765382763861 := True
def tw9492606331695907887 := True
def tw9510228834306507577 := True
def tw9526654952744244717 := True
def tw9543782737504383148 := True
def tw9580193577666731929 := True
def tw9619230893138234688 := True
def tw9649608355824339552 := True
def tw9691808381351816050 := True
def tw9709900297595870728 := True
def tw9807161682488032466 := True
def tw9883312273565144330 := True
def tw9990314291877507118 := True
end PySem.W.Fast
set_option maxRecDepth 100000 in
set_option maxHeartbeats 0 in
theorem PySem.Challenge.cw_furrow_k54_cases_of_turns_holds : PySem.Challenge.rw_furrow_k54_cases_of_turns.Holds := by
  w_on; o_law; k_head; (case hw => w_witness2)
  k_fill
  refine L2.law_walk (l := PySem.Challenge.rw_furrow_k54_cases_of_turns) (x := "_law_script") 110 (by decide) rfl rfl (fun w h Y => PySem.W.kIn_of Y) ?F
  case F =>
    intro w mg fa h KX G hmg
    suffices hh : ∃ a : Fw.Ad, Fw.Tx _ mg a ∧ fa = a.f_law ∧ (∀ (s : Shared) (v : Value), BindsTo s a.d_law ⟨[v], []⟩ [("_law_script", v)]) by
      obtain ⟨a, T, e, b⟩ := hh
      subst e
      exact ⟨a.d_law, b, fun base _ _ => Fw.ok_law T⟩
    refine' Fw.txt_mk KX G hmg ?a_Term ?a_Number ?a_Value ?a_Cell ?a_Joined ?a_Deed ?a_Program ?h1 ?h2 ?h3 ?h4 ?h5 ?h6 ?h7 ?h8 ?h9 ?h10 ?h11 ?h12 ?h13 ?h14 ?h15 ?h16 ?h17 ?h18 ?h19 ?h20 ?h21 ?h22 ?h23 ?h24 ?h25 ?h26 ?h27 ?h28 ?h29 ?h30 ?h31 ?h32 ?h33 ?h34 ?h35 ?h36 ?h37 ?h38 ?h39 ?h40 ?h41 ?h42 ?h43 ?h44 ?h45 ?h46 ?h47 ?h48 ?h49 ?h50 ?h51 ?h52 ?h53 ?n_Number_n ?n_Value_name ?n_Cell_table ?n_Cell_spots ?n_Joined_sign ?n_Joined_left ?n_Joined_right ?n_Deed_names ?n_Deed_lows ?n_Deed_highs ?n_Deed_table ?n_Deed_spots ?n_Deed_term ?n_Deed_path ?n_Program_size ?n_Program_deeds ?z_bool ?z_enumerate ?z_int ?z_isinstance ?z_len ?z_list ?z_min ?z_range ?z_tuple ?z_zip
    any_goals first | refine' ⟨?_, L2.fun_mk ?_ ?_ ?_⟩ | refine' ⟨?_, ?_, L2.fun_mk ?_ ?_ ?_⟩ | refine' Fw.ClA.mk ?_ ?_ ?_ ?_ ?_ ?_ ?_
    any_goals first | k_is | kit_is | exact rfl | kernel_rfl | decide
#print axioms PySem.Challenge.cw_furrow_k54_cases_of_turns_holds
