import PyProof.Rows.All
import Wide.All
import OpenK.AllK
import Wide.FinOn
import Lean
import PyProof.EqAt
import PyProof.EqKinds
import PyProof.TupleCall
import PyProof.ListMulRoad
import PySem.Challenge.RW_furrow_k31_turns
set_option genSizeOf false
set_option compiler.extract_closed false
set_option Elab.async false
set_option linter.all false
set_option maxRecDepth 100000
namespace L2
open PySem PySem.Spec PyProof.Rows

noncomputable abbrev Key := Sum Int Str
noncomputable def keyIs : Key → Value → Bool
  | .inl k, v => Value.isInt k v
  | .inr x, v => Value.isStrOf x v
noncomputable def keyH (w : World) : Key → Int
  | .inl k => hashInt k
  | .inr x => hashStr w x
theorem keyIs_shape : ∀ {k : Key} {v : Value}, keyIs k v = true → (∃ i t, k = Sum.inl i ∧ v = Value.int i t) ∨ (∃ x t, k = Sum.inr x ∧ v = Value.str x t)
  | .inl i, v, h => by
    obtain ⟨t, e⟩ := Value.isInt_shape (k := i) (v := v) h
    exact .inl ⟨i, t, rfl, e⟩
  | .inr x, v, h => by
    obtain ⟨t, e⟩ := Value.isStrOf_shape (x := x) (v := v) h
    exact .inr ⟨x, t, rfl, e⟩
theorem keyIs_int (i : Int) (t : Tok) : keyIs (.inl i) (.int i t) = true := by simp [keyIs, Value.isInt]
theorem keyIs_str (x : Str) (t : Tok) : keyIs (.inr x) (.str x t) = true := by simp [keyIs, Value.isStrOf]
theorem key_ll (a b : Int) : decide ((Sum.inl a : Key) = Sum.inl b) = (a == b) := by
  by_cases e : a = b
  · subst e; simp
  · have h : ¬ (Sum.inl a : Key) = Sum.inl b := fun q => e (Sum.inl.inj q)
    rw [decide_eq_false h]
    exact (beq_eq_false_iff_ne.mpr e).symm
theorem key_rr (a b : Str) : decide ((Sum.inr a : Key) = Sum.inr b) = decide (a = b) := by
  by_cases e : a = b
  · subst e; simp
  · have h : ¬ (Sum.inr a : Key) = Sum.inr b := fun q => e (Sum.inr.inj q)
    rw [decide_eq_false h, decide_eq_false e]
theorem key_lr (a : Int) (b : Str) : decide ((Sum.inl a : Key) = Sum.inr b) = false := decide_eq_false (fun q => nomatch q)
theorem key_rl (a : Str) (b : Int) : decide ((Sum.inr a : Key) = Sum.inl b) = false := decide_eq_false (fun q => nomatch q)

noncomputable def mixKind (prog : Program) (w : World) : PySem.KeyKind prog w Key where
  is := keyIs
  hash := keyH w
  inj := fun v a b ha hb => by
    rcases keyIs_shape ha with ⟨i, t, rfl, rfl⟩ | ⟨x, t, rfl, rfl⟩
    · rcases keyIs_shape hb with ⟨j, u, rfl, e⟩ | ⟨y, u, rfl, e⟩
      · injection e with e1 _; rw [e1]
      · exact nomatch e
    · rcases keyIs_shape hb with ⟨j, u, rfl, e⟩ | ⟨y, u, rfl, e⟩
      · exact nomatch e
      · injection e with e1 _; rw [e1]
  byValue := fun k v h => by
    rcases keyIs_shape h with ⟨i, t, rfl, rfl⟩ | ⟨x, t, rfl, rfl⟩ <;> rfl
  pyHash := fun hv h => by
    rcases keyIs_shape hv with ⟨i, t, rfl, rfl⟩ | ⟨x, t, rfl, rfl⟩
    · exact wpAny_pyHash_int h
    · exact wpAny_pyHash_str h
  eqBool := fun hu hv h => by
    rcases keyIs_shape hu with ⟨i, t, rfl, rfl⟩ | ⟨x, t, rfl, rfl⟩
    · rcases keyIs_shape hv with ⟨j, u, rfl, rfl⟩ | ⟨y, u, rfl, rfl⟩
      · rw [key_ll] at h; exact wpAny_eqBool_int h
      · rw [key_lr] at h; exact SeqAt.EqAt.int_str i t y u _ _ _ _ h
    · rcases keyIs_shape hv with ⟨j, u, rfl, rfl⟩ | ⟨y, u, rfl, rfl⟩
      · rw [key_rl] at h; exact SeqAt.EqAt.str_int x t j u _ _ _ _ h
      · rw [key_rr] at h; exact wpAny_eqBool_str h
  «strs» := fun k x t v h => by
    rcases keyIs_shape h with ⟨i, u, rfl, e⟩ | ⟨y, u, rfl, e⟩
    · exact nomatch e
    · injection e with e1 _
      subst e1
      cases v <;> rfl

theorem mixKind_int (prog : Program) (w : World) (i : Int) (t : Tok) : (mixKind prog w).is (.inl i) (.int i t) = true := keyIs_int i t
theorem mixKind_str (prog : Program) (w : World) (x : Str) (t : Tok) : (mixKind prog w).is (.inr x) (.str x t) = true := keyIs_str x t
end L2

namespace L2
open PySem PySem.Spec PyProof.Rows

inductive V where
  | non | bl (b : Bool) | int (i : Int) | str (x : Str) | byt (b : Array UInt8) | flt (b : UInt64) | ref (a : Addr) | ty (n : String)
  deriving DecidableEq

noncomputable def RelV : V → Value → Prop
  | .non, u => u = Value.none
  | .bl b, u => u = Value.bool b
  | .int i, u => ∃ t, u = Value.int i t
  | .str x, u => ∃ t, u = Value.str x t
  | .byt b, u => ∃ t, u = Value.bytes b t
  | .flt b, u => ∃ t, u = Value.float b t
  | .ref a, u => u = Value.ref a
  | .ty n, u => u = Value.type n

noncomputable abbrev Vals : List V → List Value → Prop := Paired RelV
theorem Vals.length {xs : List V} {us : List Value} (r : Vals xs us) : xs.length = us.length := Paired.length r
theorem Vals.get : ∀ {xs : List V} {us : List Value} {i : Nat} {x : V}, Vals xs us → xs[i]? = some x → ∃ u, us[i]? = some u ∧ RelV x u
  | _, _, _, _, .nil, e => by simp at e
  | _, _, 0, _, .cons r _, e => by simp at e; subst e; exact ⟨_, rfl, r⟩
  | _, _, i + 1, x, .cons _ t, e => by
    obtain ⟨u, h1, h2⟩ := Vals.get (i := i) (x := x) t (by simpa using e)
    exact ⟨u, by simpa using h1, h2⟩
theorem Vals.append : ∀ {xs ys : List V} {us ws : List Value}, Vals xs us → Vals ys ws → Vals (xs ++ ys) (us ++ ws)
  | _, _, _, _, .nil, s => s
  | _, _, _, _, .cons r t, s => .cons r (Vals.append t s)
theorem Vals.take : ∀ {xs : List V} {us : List Value} (n : Nat), Vals xs us → Vals (xs.take n) (us.take n)
  | _, _, 0, _ => .nil
  | _, _, _ + 1, .nil => .nil
  | _, _, n + 1, .cons r t => .cons r (Vals.take n t)
theorem Vals.drop : ∀ {xs : List V} {us : List Value} (n : Nat), Vals xs us → Vals (xs.drop n) (us.drop n)
  | _, _, 0, r => r
  | _, _, _ + 1, .nil => .nil
  | _, _, n + 1, .cons _ t => Vals.drop n t
noncomputable def RelO : Option V → Option Value → Prop
  | some v, some u => RelV v u
  | none, none => True
  | _, _ => False
noncomputable def KV {κ : Type} : List (κ × V) → List (κ × Value) → Prop := Paired fun (p : κ × V) (q : κ × Value) => p.1 = q.1 ∧ RelV p.2 q.2

noncomputable def kV : Key → V
  | .inl i => .int i
  | .inr x => .str x

inductive HO where
  /-- a list -/
  | lst (xs : List V)
  /-- a tuple (never changes) -/
  | tup (xs : List V)
  /-- a dict whose keys are ints and texts; one whose keys are tuples of ints and texts (the empty one is both) -/
  | dK (kvs : List (Key × V)) | dT (kvs : List (List Key × V))
  /-- a set of ints: its members, its size -/
  | set (S : Int → Bool) (n : Nat)
  /-- an instance of the class at C, its dict at dx, its attributes -/
  | ins (C dx : Addr) (fs : List (Str × V))
  /-- the dict of the instance at x -/
  | own (x : Addr)
  /-- the dict of an exception -/
  | xd (fs : List (Str × V))
  /-- a bound method, f of x -/
  | met (f x : Addr)
  /-- a range object lo, lo + 1, .. below hi -/
  | rng (lo hi : Int)
  /-- a thing that is known to the object (the script; a dict while a loop walks it): read, never written while it is so -/
  | frz (o : Obj) (u : HO)
  /-- a code object's table -/
  | tbl (ps : Array Value)
  /-- any other thing, by what is true of its one object (a def of one's own: SetO a S n := HO.ext fun h => ..) -/
  | ext (φ : Heap → Prop)

noncomputable abbrev Hp := Addr → Option HO
noncomputable def upd (H : Hp) (a : Addr) (o : HO) : Hp := fun b => if b = a then some o else H b
theorem upd_same {H : Hp} {a : Addr} {o : HO} : upd H a o a = some o := by unfold upd; rw [if_pos rfl]
theorem upd_ne {H : Hp} {a b : Addr} {o : HO} (h : b ≠ a) : upd H a o b = H b := by unfold upd; rw [if_neg h]
theorem upd_upd {H : Hp} {a : Addr} {o u : HO} : upd (upd H a o) a u = upd H a u := by
  funext b; unfold upd; split <;> rfl
theorem ne_of {H : Hp} {a b : Addr} {o u : HO} (h : H a = some o) (h' : H b = some u) (d : o ≠ u) : a ≠ b := by
  intro e; subst e; rw [h] at h'; exact d (Option.some.inj h')
theorem ne_of_none {H : Hp} {a b : Addr} {o : HO} (h : H a = some o) (h' : H b = none) : a ≠ b := by
  intro e; subst e; rw [h] at h'; cases h'

section
variable (P : Program) (w : World)
noncomputable def IsTupN (h : Heap) (a : Addr) (its : Array Value) : Prop := ∃ o, h.get? a = some o ∧ o.cls = .type "tuple" ∧ (∃ n, o.data = .seq its n) ∧ o.dict = none
theorem IsTupN.tup {h : Heap} {a : Addr} {its : Array Value} (x : IsTupN h a its) : IsTup h a its := let ⟨o, e, c, d, _⟩ := x; ⟨o, e, c, d⟩
theorem IsTupN.new (h : Heap) (its : Array Value) : IsTupN (h.push { cls := .type "tuple", data := .seq its }) h.objs.size its := ⟨_, Heap.get?_push_size _ rfl, rfl, ⟨_, rfl⟩, rfl⟩
noncomputable def ObjOk (H : Hp) (h : Heap) (a : Addr) : HO → Prop
  | .lst xs => xs.length ≤ sizeLine ∧ ∃ (its : List Value) (n : Nat), Vals xs its ∧ h.get? a = some { cls := .type "list", data := .seq its.toArray n }
  | .tup xs => xs.length ≤ sizeLine ∧ ∃ its : List Value, Vals xs its ∧ IsTupN h a its.toArray
  | .dK kvs => kvs.length ≤ sizeLine ∧ (a == sysModules) = false ∧ ∃ vs, KV kvs vs ∧ h.DictOf (mixKind P w) a vs
  | .dT kvs => kvs.length ≤ sizeLine ∧ (a == sysModules) = false ∧ ∃ xs : List (List Key × Addr × Value),
      Paired (fun (p : List Key × V) (q : List Key × Addr × Value) => p.1 = q.1 ∧ H q.2.1 = some (.tup (p.1.map kV)) ∧ RelV p.2 q.2.2) kvs xs ∧
      ∃ o es ep, h.get? a = some o ∧ o.ExactDict ∧ o.data = .dict es ep ∧ es.toList = xs.map (entryOfKey (tupleKind (mixKind P w))) ∧ (xs.map (·.1)).Nodup
  | .set S n => h.SetOf (intKind P w) a S n
  | .ins C dx fs => H dx = some (.own a) ∧ fs.length ≤ 1000 ∧ dx ≠ a ∧ h.get? a = some (PySem.W.instObj C dx) ∧
      ∃ mA, h.Ns1 dx mA ∧ (∀ f, RelO (fs.lookup f) (mA f)) ∧ PySem.Within mA (fs.map (·.1))
  | .own _ => ∃ o, h.get? a = some o
  | .xd fs => ∃ mA, h.Ns1 a mA ∧ ∀ f, RelO (fs.lookup f) (mA f)
  | .rng lo hi => ∃ t u v, h.get? a = some { cls := .type "range", data := .fields #[.int lo t, .int hi u, .int 1 v] }
  | .frz o u => h.get? a = some o ∧ ObjOk H h a u
  | .tbl ps => h.get? a = some { cls := .none, data := .fields ps }
  | .met f x => h.get? a = some (PySem.W.methodObj (.ref f) (.ref x))
  | .ext φ => φ h ∧ (∃ o, h.get? a = some o) ∧ ∀ h1 h2 : Heap, φ h1 → (∀ o, h1.get? a = some o → h2.get? a = some o) → φ h2
noncomputable def HOk (H : Hp) (h : Heap) : Prop := ∀ a o, H a = some o → ObjOk P w H h a o
end

section
variable {P : Program} {w : World} {H H' : Hp} {h h' : Heap} {a : Addr} {o : HO}
theorem ObjOk.lt (x : ObjOk P w H h a o) : a < h.objs.size := by
  cases o with
  | lst xs => obtain ⟨_, _, _, _, e⟩ := x; exact Heap.lt_size e
  | tup xs => obtain ⟨_, _, _, p⟩ := x; exact p.tup.lt
  | dK kvs => obtain ⟨_, _, _, _, o, _, _, e, _⟩ := x; exact Heap.lt_size e
  | dT kvs => obtain ⟨_, _, _, _, o, _, _, e, _⟩ := x; exact Heap.lt_size e
  | set S n => obtain ⟨o, _, _, _, e, _⟩ := x; exact Heap.lt_size e
  | ins C dx fs => obtain ⟨_, _, _, e, _⟩ := x; exact Heap.lt_size e
  | own y => obtain ⟨_, e⟩ := x; exact Heap.lt_size e
  | xd fs => obtain ⟨_, ⟨_, _, _, e, _⟩, _⟩ := x; exact Heap.lt_size e
  | rng lo hi => obtain ⟨_, _, _, e⟩ := x; exact Heap.lt_size e
  | frz ob u => obtain ⟨e, _⟩ := x; exact Heap.lt_size e
  | tbl ps => exact Heap.lt_size (show h.get? a = some _ from x)
  | met f y => exact Heap.lt_size (show h.get? a = some _ from x)
  | ext φ => obtain ⟨_, ⟨_, e⟩, _⟩ := x; exact Heap.lt_size e
theorem Paired.mapP {α β : Type} {F G : α → β → Prop} : ∀ {l₁ : List α} {l₂ : List β}, Paired F l₁ l₂ → (∀ a b, F a b → G a b) → Paired G l₁ l₂
  | _, _, .nil, _ => .nil
  | _, _, .cons r t, f => .cons (f _ _ r) (Paired.mapP t f)
theorem ObjOk.stay (x : ObjOk P w H h a o) (k : ∀ b u, (b = a ∨ H b = some (.own a)) → h.get? b = some u → h'.get? b = some u)
    (ho : ∀ b, H b = some (.own a) → H' b = some (.own a)) (ht : ∀ b xs, H b = some (.tup xs) → H' b = some (.tup xs)) : ObjOk P w H' h' a o := by
  induction o with
  | lst xs => obtain ⟨z, its, n, r, e⟩ := x; exact ⟨z, its, n, r, k _ _ (.inl rfl) e⟩
  | tup xs => obtain ⟨z, its, r, ob, e, c⟩ := x; exact ⟨z, its, r, ob, k _ _ (.inl rfl) e, c⟩
  | dK kvs => obtain ⟨z, y, vs, r, ob, es, ep, e, c⟩ := x; exact ⟨z, y, vs, r, ob, es, ep, k _ _ (.inl rfl) e, c⟩
  | dT kvs =>
    obtain ⟨z, y, xs, r, ob, es, ep, e, c⟩ := x
    exact ⟨z, y, xs, Paired.mapP r fun p q z => ⟨z.1, ht _ _ z.2.1, z.2.2⟩, ob, es, ep, k _ _ (.inl rfl) e, c⟩
  | set S n => obtain ⟨ob, es, ep, t, e, c⟩ := x; exact ⟨ob, es, ep, t, k _ _ (.inl rfl) e, c⟩
  | ins C dx fs =>
    obtain ⟨d, z, ne, e, mA, ⟨od, es, ep, e2, c⟩, r⟩ := x
    exact ⟨ho _ d, z, ne, k _ _ (.inl rfl) e, mA, ⟨od, es, ep, k _ _ (.inr d) e2, c⟩, r⟩
  | own y => obtain ⟨ob, e⟩ := x; exact ⟨ob, k _ _ (.inl rfl) e⟩
  | xd fs => obtain ⟨mA, ⟨od, es, ep, e, c⟩, r⟩ := x; exact ⟨mA, ⟨od, es, ep, k _ _ (.inl rfl) e, c⟩, r⟩
  | rng lo hi => obtain ⟨t, u, v, e⟩ := x; exact ⟨t, u, v, k _ _ (.inl rfl) e⟩
  | frz ob u ih => obtain ⟨e, q⟩ := x; exact ⟨k _ _ (.inl rfl) e, ih q⟩
  | tbl ps =>
    have e : h.get? a = some { cls := .none, data := .fields ps } := x
    show h'.get? a = some { cls := .none, data := .fields ps }
    exact k a _ (.inl rfl) e
  | met f y =>
    have e : h.get? a = some (PySem.W.methodObj (.ref f) (.ref y)) := x
    show h'.get? a = some (PySem.W.methodObj (.ref f) (.ref y))
    exact k a _ (.inl rfl) e
  | ext φ => obtain ⟨p, ⟨o, e⟩, st⟩ := x; exact ⟨st _ _ p fun o q => k _ _ (.inl rfl) q, ⟨o, k _ _ (.inl rfl) e⟩, st⟩
theorem HOk.lt (x : HOk P w H h) (e : H a = some o) : a < h.objs.size := (x a o e).lt
theorem HOk.fresh (x : HOk P w H h) (e : h.objs.size ≤ a) : H a = none := by
  cases q : H a with
  | none => rfl
  | some u => exact absurd (Nat.lt_of_lt_of_le (x.lt q) e) (Nat.lt_irrefl _)
theorem HOk.kept (x : HOk P w H h) (k : ∀ b u, h.get? b = some u → h'.get? b = some u) : HOk P w H h' := fun a o e =>
  (x a o e).stay (fun b u _ q => k b u q) (fun _ q => q) fun _ _ q => q
theorem HOk.laid (x : HOk P w H h) (k : ∀ b u, h.get? b = some u → h'.get? b = some u) (hp : h.objs.size ≤ a) (new : ObjOk P w (upd H a o) h' a o) : HOk P w (upd H a o) h' := fun b u e => by
  have hn := x.fresh hp
  by_cases hb : b = a
  · subst hb; rw [upd_same] at e; cases e; exact new
  · rw [upd_ne hb] at e
    exact (x b u e).stay (fun c v _ q => k c v q) (fun c q => by rw [upd_ne (ne_of_none q hn)]; exact q) fun c xs q => by rw [upd_ne (ne_of_none q hn)]; exact q
end

noncomputable def Rd (H : Hp) (a : Addr) (u : HO) : Prop := H a = some u ∨ ∃ o, H a = some (.frz o u)
theorem Rd.ok {P : Program} {w : World} {H : Hp} {h : Heap} {a : Addr} {u : HO} (r : Rd H a u) (x : HOk P w H h) : ObjOk P w H h a u := by
  rcases r with r | ⟨o, r⟩
  · exact x a u r
  · obtain ⟨_, q⟩ := x a _ r
    exact q
noncomputable def Mut : Option HO → Prop
  | some (.lst _) => True
  | some (.dK _) => True
  | some (.dT _) => True
  | some (.set _ _) => True
  | some (.ins _ _ _) => True
  | some (.ext _) => True
  | _ => False
section
variable {P : Program} {w : World} {H : Hp} {h h' : Heap} {x e : Addr} {o' : HO}
theorem HOk.write (ok : HOk P w H h) (mu : Mut (H x)) (he : e = x ∨ H e = some (.own x)) (k : ∀ b u, b ≠ e → h.get? b = some u → h'.get? b = some u) (heo : ∃ u, h'.get? e = some u)
    (new : ObjOk P w (upd H x o') h' x o') : HOk P w (upd H x o') h' := fun b u q => by
  have nown : ∀ c y, H c = some (.own y) → c ≠ x := fun c y r z => by subst z; rw [r] at mu; exact mu
  have ntup : ∀ c xs, H c = some (.tup xs) → c ≠ x := fun c xs r z => by subst z; rw [r] at mu; exact mu
  by_cases hb : b = x
  · subst hb; rw [upd_same] at q; cases q; exact new
  · rw [upd_ne hb] at q
    by_cases hbe : b = e
    · have q' : H b = some (.own x) := by
        rcases he with z | z
        · exact absurd (hbe.trans z) hb
        · rw [hbe]; exact z
      rw [q] at q'; cases q'
      obtain ⟨v, hv⟩ := heo
      exact ⟨v, by rw [hbe]; exact hv⟩
    · refine (ok b u q).stay (fun c v hc r => k c v ?_ r) (fun c r => by rw [upd_ne (nown c b r)]; exact r) fun c xs r => by rw [upd_ne (ntup c xs r)]; exact r
      rcases hc with rfl | hc
      · exact hbe
      · rintro rfl
        rcases he with z | z
        · exact nown c b hc z
        · rw [hc] at z; cases z; exact hb rfl
end

structure Un (fs ex : List Addr) (H H' : Hp) (h h' : Heap) : Prop where
  keep : ∀ b o, h.get? b = some o → H b = none → b ∉ fs → b ∉ ex → h'.get? b = some o
  slot : ∀ b o, h.get? b = some o → H b = none → b ∈ fs → b ∉ ex → ∃ sl, h'.get? b = some { o with slots := sl }
  free : ∀ b o, h.get? b = some o → H b = none → b ∉ ex → H' b = none
  there : ∀ b o, h.get? b = some o → b ∉ ex → ∃ o', h'.get? b = some o'
  tups : ∀ b xs, H b = some (.tup xs) → H' b = some (.tup xs)
  frzs : ∀ b o u, H b = some (.frz o u) → H' b = some (.frz o u)
  tbls : ∀ b ps, H b = some (.tbl ps) → ∃ more, H' b = some (.tbl (ps ++ more))
section
variable {fs fs' ex ex' : List Addr} {H H1 H2 : Hp} {h h1 h2 h' : Heap} {a x e : Addr} {o : HO}
theorem Un.any (u : Un fs ex H H1 h h1) {b : Addr} {ob : Obj} (q : h.get? b = some ob) (n : H b = none) (hx : b ∉ ex) : ∃ sl, h1.get? b = some { ob with slots := sl } := by
  by_cases hb : b ∈ fs
  · exact u.slot b ob q n hb hx
  · exact ⟨ob.slots, u.keep b ob q n hb hx⟩
theorem Un.kept (k : ∀ b u, h.get? b = some u → h'.get? b = some u) : Un fs ex H H h h' :=
  ⟨fun b ob q _ _ _ => k b ob q, fun b ob q _ _ _ => ⟨ob.slots, k b ob q⟩, fun _ _ _ n _ => n, fun b ob q _ => ⟨ob, k b ob q⟩, fun _ _ q => q, fun _ _ _ q => q, fun _ ps q => ⟨#[], by rw [q]; simp⟩⟩
theorem Un.refl : Un fs ex H H h h := Un.kept fun _ _ q => q
theorem Un.laid (k : ∀ b u, h.get? b = some u → h'.get? b = some u) (hp : h.objs.size ≤ a) (hn : H a = none) : Un fs ex H (upd H a o) h h' where
  keep := fun b u q _ _ _ => k b u q
  slot := fun b u q _ _ _ => ⟨u.slots, k b u q⟩
  free := fun b u q n _ => by rw [upd_ne (Nat.ne_of_lt (Nat.lt_of_lt_of_le (Heap.lt_size q) hp))]; exact n
  there := fun b u q _ => ⟨u, k b u q⟩
  tups := fun b xs q => by rw [upd_ne (ne_of_none q hn)]; exact q
  frzs := fun b u xs q => by rw [upd_ne (ne_of_none q hn)]; exact q
  tbls := fun b ps q => ⟨#[], by rw [upd_ne (ne_of_none q hn), q]; simp⟩
theorem Un.write (mu : Mut (H x)) (he : e = x ∨ H e = some (.own x)) (k : ∀ b u, b ≠ e → h.get? b = some u → h'.get? b = some u) (heo : ∃ u, h'.get? e = some u) : Un fs ex H (upd H x o) h h' := by
  have hx : ∀ b, H b = none → b ≠ x := fun b n z => by subst z; rw [n] at mu; exact mu
  have hb : ∀ b, H b = none → b ≠ e := fun b n z => by
    subst z
    rcases he with r | r
    · exact hx b n r
    · rw [n] at r; cases r
  have hm : ∀ b u, H b = some u → ¬ Mut (some u) → b ≠ x := fun b u q nm z => by subst z; rw [q] at mu; exact nm mu
  refine ⟨fun b u q n _ _ => k b u (hb b n) q, fun b u q n _ _ => ⟨u.slots, k b u (hb b n) q⟩, fun b u q n _ => by rw [upd_ne (hx b n)]; exact n, fun b u q _ => ?_,
    fun b xs q => by rw [upd_ne (hm b _ q fun z => z)]; exact q, fun b u xs q => by rw [upd_ne (hm b _ q fun z => z)]; exact q, fun b ps q => ⟨#[], by rw [upd_ne (hm b _ q fun z => z), q]; simp⟩⟩
  by_cases hbe : b = e
  · subst hbe; exact heo
  · exact ⟨u, k b u hbe q⟩
end

noncomputable def trk (h : Heap) (H : Hp) : List Addr := (List.range h.objs.size).filter fun a => (H a).isSome
noncomputable def hidT (h : Heap) (H : Hp) : Heap := PySem.W.hideAll h (trk h H)
theorem hidT_size (h : Heap) (H : Hp) : (hidT h H).objs.size = h.objs.size := PySem.W.hideAll_size _ _
theorem hidT_get {h : Heap} {H : Hp} {b : Addr} {o : Obj} (e : h.get? b = some o) (n : H b = none) : (hidT h H).get? b = some o :=
  PySem.W.hideAll_get _ e fun hm => by
    have q : (H b).isSome = true := (List.mem_filter.mp hm).2
    rw [n] at q; simp at q
theorem of_hidT {h : Heap} {H : Hp} {b : Addr} {o : Obj} (e : (hidT h H).get? b = some o) : h.get? b = some o ∧ H b = none := by
  have e' : h.get? b = some o := PySem.W.of_hideAll (trk h H) e
  refine ⟨e', ?_⟩
  cases q : H b with
  | none => rfl
  | some x =>
    have hm : b ∈ trk h H := List.mem_filter.mpr ⟨List.mem_range.mpr (Heap.lt_size e'), by simp [q]⟩
    have z : (hidT h H).get? b = none := PySem.W.hideAll_none (trk h H) hm
    rw [z] at e; cases e

end L2

namespace L2
open PySem PySem.Spec PyProof.Rows

structure Mod (K : PySem.W.Frag) (mg : Str → Option Value) (base : Heap) : Prop where
  kin : K.In base
  glob : base.Ns mainGlobals mg
  blt : ∃ mb, base.Ns builtinsNs mb ∧ ∀ x : Str, x ≠ "__name__" → mb x = bootBuiltins x
  nolimit : base.NoLimit

structure Cx where
  prog : Program
  w : World
  K : PySem.W.Frag
  mg : Str → Option Value
  base : Heap
  A : Around
  N : List Str
  s₀ : Shared
  H₀ : Hp
  env : Env
  outer : List Env
  stack : List Env
  ex : List Addr
  fn : Str → Bool
  calm : Bool
  pn : List (Addr × Obj)
  xe : Value → Shared → Prop
noncomputable def frs (l : List Env) : List Addr := l.filterMap (·.frame)
noncomputable abbrev Cx.fs (X : Cx) : List Addr := frs X.outer

noncomputable def Vis (sc : Scope) (x : Str) : Prop := sc.names.lookup x = some .local ∨ sc.names.lookup x = some .cell ∨ sc.names.lookup x = some .free
noncomputable def Loc (sc : Scope) (x : Str) : Prop := sc.names.lookup x = some .local ∨ sc.names.lookup x = some .cell
noncomputable def Look (env : Env) (h : Heap) (m : Str → Option Value) (x : Str) (u : Value) : Prop :=
  (env.kindOf x = some .local ∧ m x = some u) ∨ ((env.kindOf x = some .cell ∨ env.kindOf x = some .free) ∧ ∃ c, env.cells.lookup x = some c ∧ h.IsCell c (some u))

structure Cx.Ok (X : Cx) : Prop where
  mod : Mod X.K X.mg X.base
  kind : X.env.scope.kind = .function
  glob : X.env.globals = mainGlobals
  blt : X.env.builtins = builtinsNs
  above : X.s₀.heap.objs.size ≤ X.env.locals
  inj : ∀ x y c, X.env.cells.lookup x = some c → X.env.cells.lookup y = some c → x = y
  has : ∀ x, (X.env.kindOf x = some .cell ∨ X.env.kindOf x = some .free) → ∃ c, X.env.cells.lookup x = some c
  cab : ∀ x c, X.fn x = true → X.env.cells.lookup x = some c → X.s₀.heap.objs.size ≤ c
  hd : X.calm = true → X.A.handled = none
  frames : X.A.frames = some X.stack
  stk : X.stack = X.outer ∨ (X.stack = X.env :: X.outer ∧ X.env.frame = some X.env.locals)
  exf : ∀ b ∈ X.ex, b ≠ X.env.locals ∧ ∀ x c, X.env.cells.lookup x = some c → c ≠ b
  bs : ∀ b o, X.base.get? b = some o → X.s₀.heap.get? b = some o ∧ X.H₀ b = none
  bsz : X.base.objs.size ≤ X.s₀.heap.objs.size
  noex : ∀ b o, X.base.get? b = some o → b ∉ X.ex
  exfs : ∀ b ∈ X.ex, b ∉ X.fs
  funs : X.s₀.heap.FunFrames X.base X.outer
  frf : ∀ b ∈ X.fs, X.H₀ b = none

structure Inv (X : Cx) (pins : List (Addr × Obj)) (σ : List (Option V)) (H : Hp) (s : Shared) : Prop where
  ok : X.Ok
  os : s.os = X.s₀.os
  bare : AllBare s.gens
  base : Un X.fs X.ex X.H₀ H X.s₀.heap s.heap
  loc : ∃ m, s.heap.Ns X.env.locals m ∧ ∀ (i : Nat) (x : Str) (v : V), X.N[i]? = some x → σ[i]? = some (some v) → Vis X.env.scope x → ∃ u, RelV v u ∧ Look X.env s.heap m x u
  cell : ∀ x c, X.env.cells.lookup x = some c → ∃ v, s.heap.IsCell c v
  free : H X.env.locals = none
  freeC : ∀ x c, X.env.cells.lookup x = some c → H c = none
  pin : ∀ p ∈ X.pn ++ pins, s.heap.get? p.1 = some p.2 ∧ H p.1 = none ∧ p.1 ≠ X.env.locals ∧ p.1 ∉ X.fs ∧ ∀ v, p.2.data ≠ .cell v
  hok : HOk X.prog X.w H s.heap
  len : σ.length = X.N.length

section
variable {X : Cx} {pins : List (Addr × Obj)} {σ : List (Option V)} {H H' : Hp} {s : Shared} {h' : Heap}

theorem Cx.Ok.nofr (ok : X.Ok) {b : Addr} {o : Obj} (e : X.base.get? b = some o) : b ∉ X.fs := fun hb => by
  have := (ok.funs.mem hb).1
  rw [e] at this; cases this
theorem Inv.bs (I : Inv X pins σ H s) : ∀ b o, X.base.get? b = some o → s.heap.get? b = some o ∧ H b = none := fun b o e =>
  ⟨I.base.keep b o (I.ok.bs b o e).1 (I.ok.bs b o e).2 (I.ok.nofr e) (I.ok.noex b o e), I.base.free b o (I.ok.bs b o e).1 (I.ok.bs b o e).2 (I.ok.noex b o e)⟩
theorem Inv.bk (I : Inv X pins σ H s) : ∀ b o, X.base.get? b = some o → s.heap.get? b = some o := fun b o e => (I.bs b o e).1
theorem Inv.mod (I : Inv X pins σ H s) : Mod X.K X.mg X.base := I.ok.mod
theorem Inv.kIn (I : Inv X pins σ H s) : X.K.In s.heap := I.ok.mod.kin.keeps I.bk
theorem Inv.lt (I : Inv X pins σ H s) : X.env.locals < s.heap.objs.size := let ⟨_, hn, _⟩ := I.loc; hn.lt
theorem Inv.sz (I : Inv X pins σ H s) : X.s₀.heap.objs.size ≤ s.heap.objs.size := Nat.le_trans I.ok.above (Nat.le_of_lt I.lt)
theorem Inv.nofs (I : Inv X pins σ H s) {a : Addr} (h : s.heap.objs.size ≤ a) : a ∉ X.fs := fun hb => by
  obtain ⟨_, o, ho, _⟩ := I.ok.funs.mem hb
  exact absurd (Nat.lt_of_lt_of_le (Heap.lt_size ho) (Nat.le_trans I.sz h)) (Nat.lt_irrefl _)
theorem Inv.cne (I : Inv X pins σ H s) : ∀ x c, X.env.cells.lookup x = some c → c ≠ X.env.locals := fun x c e z => by
  obtain ⟨v, o, ho, hd⟩ := I.cell x c e
  obtain ⟨m, ⟨o', es, ep, ho', hd', _⟩, _⟩ := I.loc
  rw [z, ho'] at ho; cases ho; rw [hd'] at hd; cases hd
theorem Inv.funs (I : Inv X pins σ H s) : s.heap.FunFrames X.base X.outer := by
  have all : ∀ (l : List Env), (∀ b ∈ frs l, b ∈ X.fs) → X.s₀.heap.FunFrames X.base l → s.heap.FunFrames X.base l := by
    intro l
    induction l with
    | nil => intro _ _; trivial
    | cons env r ih =>
      intro hs hl
      obtain ⟨hk, ⟨L, o, hf, hn, ho, hd⟩, hr⟩ := hl
      have hL : L ∈ X.fs := hs L (by unfold frs; rw [List.filterMap_cons, hf]; exact List.mem_cons_self)
      obtain ⟨sl, e⟩ := I.base.slot L o ho (I.ok.frf L hL) hL fun z => I.ok.exfs L z hL
      exact ⟨hk, ⟨L, _, hf, hn, e, hd⟩, ih (fun b hb => hs b (by unfold frs; rw [List.filterMap_cons, hf]; exact List.mem_cons_of_mem _ hb)) hr⟩
  exact all X.outer (fun _ hb => hb) I.ok.funs

theorem Inv.stack (I : Inv X pins σ H s) : s.heap.FunFrames X.base X.stack := by
  rcases I.ok.stk with e | ⟨e, hf⟩
  · rw [e]; exact I.funs
  · rw [e]
    obtain ⟨m, hn, _⟩ := I.loc
    refine .cons (by rw [I.ok.kind]; decide) hf hn ?_ I.funs
    exact Heap.get?_none_of_le (Nat.le_trans I.ok.bsz I.ok.above)
theorem Inv.stkSub (I : Inv X pins σ H s) : ∀ b ∈ frs X.stack, b ∈ X.env.locals :: X.fs := fun b hb => by
  rcases I.ok.stk with e | ⟨e, hf⟩
  · rw [e] at hb; exact List.mem_cons_of_mem _ hb
  · rw [e] at hb
    unfold frs at hb
    rw [List.filterMap_cons, hf] at hb
    exact hb
theorem Inv.stkFree (I : Inv X pins σ H s) : ∀ b ∈ frs X.stack, H b = none := fun b hb => by
  rcases List.mem_cons.mp (I.stkSub b hb) with e | hb
  · rw [e]; exact I.free
  · obtain ⟨_, o, ho, _⟩ := I.ok.funs.mem hb
    exact I.base.free b o ho (I.ok.frf b hb) fun z => I.ok.exfs b z hb

theorem Inv.step {g' : Array GenState} {t' : Nat} {d' : Drawn} {ch : List Addr} (I : Inv X pins σ H s)
    (hch : ∀ b ∈ ch, (b ∈ X.ex ∨ X.s₀.heap.objs.size ≤ b) ∧ b ≠ X.env.locals ∧ (∀ x c, X.env.cells.lookup x = some c → c ≠ b) ∧ ∀ p ∈ X.pn ++ pins, p.1 ≠ b)
    (keep : ∀ b o, b ≠ X.env.locals → b ∉ X.fs → b ∉ ch → s.heap.get? b = some o → H b = none → h'.get? b = some o)
    (slot : ∀ b o, b ≠ X.env.locals → b ∈ X.fs → b ∉ ch → s.heap.get? b = some o → H b = none → ∃ sl, h'.get? b = some { o with slots := sl }) (free : ∀ b o, b ∉ ch → s.heap.get? b = some o → H b = none → H' b = none)
    (there : ∀ b o, b ∉ ch → s.heap.get? b = some o → ∃ o', h'.get? b = some o')
    (tups : ∀ b xs, H b = some (.tup xs) → H' b = some (.tup xs)) (frzs : ∀ b o u, H b = some (.frz o u) → H' b = some (.frz o u)) (tbls : ∀ b ps, H b = some (.tbl ps) → ∃ more, H' b = some (.tbl (ps ++ more)))
    (ns : ∀ m, s.heap.Ns X.env.locals m → h'.Ns X.env.locals m) (hok : HOk X.prog X.w H' h') (hg : AllBare g') :
    Inv X pins σ H' { s with heap := h', gens := g', drawn := d', toks := t' } := by
  have neL : ∀ b o, X.s₀.heap.get? b = some o → b ≠ X.env.locals := fun b o e => Nat.ne_of_lt (Nat.lt_of_lt_of_le (Heap.lt_size e) I.ok.above)
  have neC : ∀ b o, X.s₀.heap.get? b = some o → b ∉ X.ex → b ∉ ch := fun b o e hx hb => by
    rcases (hch b hb).1 with z | z
    · exact hx z
    · exact absurd (Nat.lt_of_lt_of_le (Heap.lt_size e) z) (Nat.lt_irrefl _)
  have cellK : ∀ x c, X.env.cells.lookup x = some c → ∀ v, s.heap.IsCell c v → h'.IsCell c v := fun x c e v ⟨o, ho, hd⟩ => by
    have nch : c ∉ ch := fun z => (hch c z).2.2.1 x c e rfl
    by_cases hc : c ∈ X.fs
    · obtain ⟨sl, q⟩ := slot c o (I.cne x c e) hc nch ho (I.freeC x c e)
      exact ⟨_, q, hd⟩
    · exact ⟨o, keep c o (I.cne x c e) hc nch ho (I.freeC x c e), hd⟩
  refine ⟨I.ok, I.os, hg, ⟨fun b o e n hb hx => ?_, fun b o e n hb hx => ?_, fun b o e n hx => ?_, fun b o e hx => ?_, fun b xs e => tups b xs (I.base.tups b xs e), fun b o xs e => frzs b o xs (I.base.frzs b o xs e), fun b ps e => ?_⟩, ?_, fun x c e => ?_, ?_, fun x c e => ?_, fun p hp => ?_, hok, I.len⟩
  · exact keep b o (neL b o e) hb (neC b o e hx) (I.base.keep b o e n hb hx) (I.base.free b o e n hx)
  · obtain ⟨sl, e1⟩ := I.base.slot b o e n hb hx
    obtain ⟨sl', e2⟩ := slot b _ (neL b o e) hb (neC b o e hx) e1 (I.base.free b o e n hx)
    exact ⟨sl', e2⟩
  · obtain ⟨o', e1⟩ := I.base.there b o e hx
    exact free b o' (neC b o e hx) e1 (I.base.free b o e n hx)
  · obtain ⟨o', e1⟩ := I.base.there b o e hx
    exact there b o' (neC b o e hx) e1
  · obtain ⟨m1, e1⟩ := I.base.tbls b ps e
    obtain ⟨m2, e2⟩ := tbls b _ e1
    exact ⟨m1 ++ m2, by rw [e2, Array.append_assoc]⟩
  · obtain ⟨m, hn, hl⟩ := I.loc
    refine ⟨m, ns m hn, fun i x v e1 e2 e3 => ?_⟩
    obtain ⟨u, r, l⟩ := hl i x v e1 e2 e3
    refine ⟨u, r, ?_⟩
    rcases l with l | ⟨k, c, e, z⟩
    · exact .inl l
    · exact .inr ⟨k, c, e, cellK x c e _ z⟩
  · obtain ⟨v, z⟩ := I.cell x c e
    exact ⟨v, cellK x c e v z⟩
  · obtain ⟨m, ⟨o, _, _, ho, _⟩, _⟩ := I.loc
    exact free _ o (fun z => (hch _ z).2.1 rfl) ho I.free
  · obtain ⟨v, o, ho, hd⟩ := I.cell x c e
    exact free c o (fun z => (hch c z).2.2.1 x c e rfl) ho (I.freeC x c e)
  · obtain ⟨e, n, ne, nf, d⟩ := I.pin p hp
    have nch : p.1 ∉ ch := fun z => (hch p.1 z).2.2.2 p hp rfl
    exact ⟨keep p.1 p.2 ne nf nch e n, free p.1 p.2 nch e n, ne, nf, d⟩
theorem Inv.un {t' : Nat} (I : Inv X pins σ H s) (u : Un X.fs [] H H' s.heap h') (hok : HOk X.prog X.w H' h') : Inv X pins σ H' { s with heap := h', toks := t' } := by
  obtain ⟨m, ⟨o, es, ep, ho, r⟩, _⟩ := id I.loc
  obtain ⟨sl, hL⟩ := u.any ho I.free (by simp)
  exact I.step (g' := s.gens) (d' := s.drawn) (ch := []) (fun _ z => nomatch z) (fun b o _ hb _ e n => u.keep b o e n hb (by simp)) (fun b o _ hb _ e n => u.slot b o e n hb (by simp)) (fun b o _ e n => u.free b o e n (by simp)) (fun b o _ e => u.there b o e (by simp)) u.tups u.frzs u.tbls (fun m' hm => by
    obtain ⟨o', es', ep', ho', r'⟩ := hm
    rw [ho] at ho'; cases ho'
    exact ⟨_, es', ep', hL, r'⟩) hok I.bare
theorem Inv.call {g' : Array GenState} {t' : Nat} {d' : Drawn} {ch : List Addr} (I : Inv X pins σ H s) (u : Un (frs X.stack) ch H H' s.heap h') (hok : HOk X.prog X.w H' h') (hg : AllBare g')
    (hch : ∀ b ∈ ch, (b ∈ X.ex ∨ X.s₀.heap.objs.size ≤ b) ∧ b ≠ X.env.locals ∧ (∀ x c, X.env.cells.lookup x = some c → c ≠ b) ∧ ∀ p ∈ X.pn ++ pins, p.1 ≠ b) :
    Inv X pins σ H' { s with heap := h', gens := g', drawn := d', toks := t' } := by
  obtain ⟨m, ⟨o, es, ep, ho, r⟩, _⟩ := id I.loc
  obtain ⟨sl, hL⟩ := u.any ho I.free fun z => (hch _ z).2.1 rfl
  exact I.step (ch := ch) hch (fun b o hL hb hc e n => u.keep b o e n (fun z => (List.mem_cons.mp (I.stkSub b z)).elim hL hb) hc) (fun b o _ _ hc e n => u.any e n hc) (fun b o hc e n => u.free b o e n hc) (fun b o hc e => u.there b o e hc) u.tups u.frzs u.tbls (fun m' hm => by
    obtain ⟨o', es', ep', ho', r'⟩ := hm
    rw [ho] at ho'; cases ho'
    exact ⟨_, es', ep', hL, r'⟩) hok hg
theorem Inv.turned {t' : Nat} {it : Addr} (I : Inv X pins σ H s) (k : ∀ b o, b ≠ it → s.heap.get? b = some o → h'.get? b = some o) (hn : H it = none) (hL : it ≠ X.env.locals)
    (h1 : it ∈ X.ex ∨ X.s₀.heap.objs.size ≤ it) (h2 : ∀ x c, X.env.cells.lookup x = some c → c ≠ it) (h3 : ∀ p ∈ X.pn ++ pins, p.1 ≠ it) : Inv X pins σ H { s with heap := h', toks := t' } := by
  have nit : ∀ b u, H b = some u → b ≠ it := fun b u e z => by rw [z, hn] at e; cases e
  refine I.step (g' := s.gens) (d' := s.drawn) (ch := [it]) (fun b hb => ?_) (fun b o _ _ hc e _ => k b o (fun z => hc (by simp [z])) e) (fun b o _ _ hc e _ => ⟨o.slots, k b o (fun z => hc (by simp [z])) e⟩) (fun _ _ _ _ n => n)
    (fun b o hc e => ⟨o, k b o (fun z => hc (by simp [z])) e⟩) (fun _ _ e => e) (fun _ _ _ e => e) (fun b ps e => ⟨#[], by rw [e]; simp⟩) (fun m hm => ?_) (fun b u e => ?_) I.bare
  · have e : b = it := by simpa using hb
    subst e
    exact ⟨h1, hL, h2, h3⟩
  · obtain ⟨o, es, ep, ho, r⟩ := hm
    exact ⟨o, es, ep, k _ o (Ne.symm hL) ho, r⟩
  · refine (I.hok b u e).stay (fun c v hc q => k c v ?_ q) (fun _ q => q) fun _ _ q => q
    rcases hc with z | z
    · rw [z]; exact nit b u e
    · exact nit c _ z
theorem Inv.tok (I : Inv X pins σ H s) (t : Nat) : Inv X pins σ H { s with toks := t } := I.un (h' := s.heap) (t' := t) Un.refl I.hok
theorem Inv.kept {t' : Nat} (I : Inv X pins σ H s) (k : ∀ b u, s.heap.get? b = some u → h'.get? b = some u) : Inv X pins σ H { s with heap := h', toks := t' } := I.un (Un.kept k) (I.hok.kept k)
theorem Inv.laid {a : Addr} {o : HO} {t' : Nat} (I : Inv X pins σ H s) (k : ∀ b u, s.heap.get? b = some u → h'.get? b = some u) (hp : s.heap.objs.size ≤ a) (new : ObjOk X.prog X.w (upd H a o) h' a o) :
    Inv X pins σ (upd H a o) { s with heap := h', toks := t' } := I.un (Un.laid k hp (I.hok.fresh hp)) (I.hok.laid k hp new)
theorem Inv.write {x e : Addr} {o : HO} {t' : Nat} (I : Inv X pins σ H s) (mu : Mut (H x)) (he : e = x ∨ H e = some (.own x)) (k : ∀ b u, b ≠ e → s.heap.get? b = some u → h'.get? b = some u) (heo : ∃ u, h'.get? e = some u)
    (new : ObjOk X.prog X.w (upd H x o) h' x o) : Inv X pins σ (upd H x o) { s with heap := h', toks := t' } := I.un (Un.write mu he k heo) (I.hok.write mu he k heo new)
theorem Inv.weak {σ' : List (Option V)} (I : Inv X pins σ H s) (hl : σ'.length = σ.length) (w : ∀ (i : Nat) v, σ'[i]? = some (some v) → σ[i]? = some (some v)) : Inv X pins σ' H s :=
  ⟨I.ok, I.os, I.bare, I.base, let ⟨m, hn, hl'⟩ := I.loc; ⟨m, hn, fun i x v e1 e2 e3 => hl' i x v e1 (w i v e2) e3⟩, I.cell, I.free, I.freeC, I.pin, I.hok, hl.trans I.len⟩
theorem Inv.pins_of {pins' : List (Addr × Obj)} (I : Inv X pins σ H s) (h : ∀ p ∈ pins', s.heap.get? p.1 = some p.2 ∧ H p.1 = none ∧ p.1 ≠ X.env.locals ∧ p.1 ∉ X.fs ∧ ∀ v, p.2.data ≠ .cell v) : Inv X pins' σ H s :=
  ⟨I.ok, I.os, I.bare, I.base, I.loc, I.cell, I.free, I.freeC, fun p hp => (List.mem_append.mp hp).elim (fun z => I.pin p (List.mem_append_left _ z)) (h p), I.hok, I.len⟩

theorem nodup_ix {N : List Str} (hN : N.Nodup) {i j : Nat} {x : Str} (a : N[i]? = some x) (b : N[j]? = some x) : i = j := by
  obtain ⟨h1, e1⟩ := List.getElem?_eq_some_iff.mp a
  obtain ⟨h2, e2⟩ := List.getElem?_eq_some_iff.mp b
  exact (List.getElem_inj hN).mp (e1.trans e2.symm)

theorem store_ok2 {M : Model} {A : Around} {E : Value → Shared → Prop} {i : Nat} {x : Str} {v : V} {u : Value} {Q : Unit → Shared → Prop} (I : Inv X pins σ H s) (hN : X.N.Nodup) (hi : X.N[i]? = some x) (hx : Loc X.env.scope x) (r : RelV v u)
    (h : ∀ s', Inv X pins (σ.set i (some v)) H s' → (∃ a, Heap.SameBut a s.heap s'.heap ∧ (a = X.env.locals ∨ X.env.cells.lookup x = some a)) → Q () s') (hf : X.fn x = true ∨ X.env.scope.names.lookup x = some .local := by first | exact .inl rfl | exact .inr rfl | assumption) : wpAny M A (storeName X.env x u) Q E s := by
  obtain ⟨m, hn, hl⟩ := id I.loc
  have hcls : (X.env.scope.kind == .class || (X.env.scope.kind == .module && X.env.locals != X.env.globals)) = false := by rw [I.ok.kind]; rfl
  have hiσ : i < σ.length := by rw [I.len]; exact (List.getElem?_eq_some_iff.mp hi).1
  have cne := I.cne
  have tracked : ∀ {a : Addr} {h' : Heap}, (∃ o, s.heap.get? a = some o ∧ H a = none) → Heap.SameBut a s.heap h' → HOk X.prog X.w H h' := fun {a h'} ha hs b ob e => by
    obtain ⟨_, _, hfree⟩ := ha
    refine (I.hok b ob e).stay (fun c w' hc q => (hs.2 c ?_).trans q) (fun _ q => q) fun _ _ q => q
    rintro rfl
    rcases hc with rfl | hc
    · rw [hfree] at e; cases e
    · rw [hfree] at hc; cases hc
  rcases hx with hk | hk
  · refine wpAny_storeName_local hk hn (fun h' hn' hs => ?_) hcls
    obtain ⟨oL, _, _, hoL, _⟩ := id hn
    refine h _ ⟨I.ok, I.os, I.bare, ⟨fun b o e n hb hx => ?_, fun b o e n hb hx => ?_, I.base.free, fun b o e hx => ?_, I.base.tups, I.base.frzs, I.base.tbls⟩, ⟨_, hn', fun j y v' e1 e2 e3 => ?_⟩, fun y c e => ?_, I.free, I.freeC, fun p hp => ?_, tracked ⟨oL, hoL, I.free⟩ hs, by simpa using I.len⟩ ⟨_, hs, .inl rfl⟩
    · exact (hs.2 b (Nat.ne_of_lt (Nat.lt_of_lt_of_le (Heap.lt_size e) I.ok.above))).trans (I.base.keep b o e n hb hx)
    · obtain ⟨sl, e1⟩ := I.base.slot b o e n hb hx
      exact ⟨sl, (hs.2 b (Nat.ne_of_lt (Nat.lt_of_lt_of_le (Heap.lt_size e) I.ok.above))).trans e1⟩
    · obtain ⟨o', e1⟩ := I.base.there b o e hx
      exact ⟨o', (hs.2 b (Nat.ne_of_lt (Nat.lt_of_lt_of_le (Heap.lt_size e) I.ok.above))).trans e1⟩
    · by_cases hj : j = i
      · subst hj
        rw [hi] at e1; cases e1
        rw [List.getElem?_set_self hiσ] at e2
        cases e2
        exact ⟨u, r, .inl ⟨hk, by simp⟩⟩
      · rw [List.getElem?_set_ne (Ne.symm hj)] at e2
        obtain ⟨u', r', q⟩ := hl j y v' e1 e2 e3
        refine ⟨u', r', ?_⟩
        rcases q with ⟨k, e⟩ | ⟨k, c, e, z⟩
        · refine .inl ⟨k, ?_⟩
          have : y ≠ x := fun e => hj (nodup_ix hN e1 (e ▸ hi))
          simp [this, e]
        · exact .inr ⟨k, c, e, z.sameBut hs (cne y c e)⟩
    · obtain ⟨w', z⟩ := I.cell y c e
      exact ⟨w', z.sameBut hs (cne y c e)⟩
    · obtain ⟨e, n, ne, nf, d⟩ := I.pin p hp
      exact ⟨(hs.2 p.1 ne).trans e, n, ne, nf, d⟩
  · have hfn : X.fn x = true := by
      rcases hf with z | z
      · exact z
      · rw [z] at hk; cases hk
    obtain ⟨c, hc⟩ := I.ok.has x (.inl hk)
    obtain ⟨w', z⟩ := I.cell x c hc
    refine wpAny_storeName_cell I.ok.kind hk hc z (fun h' hc' hs => ?_)
    obtain ⟨oc, hoc, hocd⟩ := id z
    refine h { s with heap := h' } ⟨I.ok, I.os, I.bare, ⟨fun b o e n hb hx => ?_, fun b o e n hb hx => ?_, I.base.free, fun b o e hx => ?_, I.base.tups, I.base.frzs, I.base.tbls⟩, ⟨m, hn.sameBut hs (Ne.symm (cne x c hc)), fun j y v' e1 e2 e3 => ?_⟩, fun y c' e => ?_, I.free, I.freeC, fun p hp => ?_, tracked ⟨oc, hoc, I.freeC x c hc⟩ hs, by simpa using I.len⟩ ⟨c, hs, .inr hc⟩
    · exact (hs.2 b (Nat.ne_of_lt (Nat.lt_of_lt_of_le (Heap.lt_size e) (I.ok.cab x c hfn hc)))).trans (I.base.keep b o e n hb hx)
    · obtain ⟨sl, e1⟩ := I.base.slot b o e n hb hx
      exact ⟨sl, (hs.2 b (Nat.ne_of_lt (Nat.lt_of_lt_of_le (Heap.lt_size e) (I.ok.cab x c hfn hc)))).trans e1⟩
    · obtain ⟨o', e1⟩ := I.base.there b o e hx
      exact ⟨o', (hs.2 b (Nat.ne_of_lt (Nat.lt_of_lt_of_le (Heap.lt_size e) (I.ok.cab x c hfn hc)))).trans e1⟩
    · by_cases hj : j = i
      · subst hj
        rw [hi] at e1; cases e1
        rw [List.getElem?_set_self hiσ] at e2
        cases e2
        exact ⟨u, r, .inr ⟨.inl hk, c, hc, hc'⟩⟩
      · rw [List.getElem?_set_ne (Ne.symm hj)] at e2
        obtain ⟨u', r', q⟩ := hl j y v' e1 e2 e3
        refine ⟨u', r', ?_⟩
        rcases q with q | ⟨k, c', e, z'⟩
        · exact .inl q
        · refine .inr ⟨k, c', e, z'.sameBut hs ?_⟩
          rintro rfl
          exact hj (nodup_ix hN e1 (I.ok.inj _ _ _ e hc ▸ hi))
    · by_cases hcc : c' = c
      · subst hcc; exact ⟨_, hc'⟩
      · obtain ⟨w2, z2⟩ := I.cell y c' e
        exact ⟨w2, z2.sameBut hs hcc⟩
    · obtain ⟨e, n, ne, nf, d⟩ := I.pin p hp
      refine ⟨(hs.2 p.1 ?_).trans e, n, ne, nf, d⟩
      intro q
      rw [q, hoc] at e
      have q' : oc = p.2 := Option.some.inj e
      exact d w' (by rw [← q']; exact hocd)
theorem store_ok {M : Model} {A : Around} {E : Value → Shared → Prop} {i : Nat} {x : Str} {v : V} {u : Value} {Q : Unit → Shared → Prop} (I : Inv X pins σ H s) (hN : X.N.Nodup) (hi : X.N[i]? = some x) (hx : Loc X.env.scope x) (r : RelV v u)
    (h : ∀ s', Inv X pins (σ.set i (some v)) H s' → Q () s') (hf : X.fn x = true ∨ X.env.scope.names.lookup x = some .local := by first | exact .inl rfl | exact .inr rfl | assumption) : wpAny M A (storeName X.env x u) Q E s :=
  store_ok2 I hN hi hx r (fun s' I' _ => h s' I') hf
theorem Inv.call' {s' : Shared} {ch : List Addr} (I : Inv X pins σ H s) (ho : s'.os = s.os) (u : Un (frs X.stack) ch H H' s.heap s'.heap) (hok : HOk X.prog X.w H' s'.heap) (hg : AllBare s'.gens)
    (hch : ∀ b ∈ ch, (b ∈ X.ex ∨ X.s₀.heap.objs.size ≤ b) ∧ b ≠ X.env.locals ∧ (∀ x c, X.env.cells.lookup x = some c → c ≠ b) ∧ ∀ p ∈ X.pn ++ pins, p.1 ≠ b) : Inv X pins σ H' s' := by
  obtain ⟨h', g', d', t', o'⟩ := s'
  have e : o' = s.os := ho
  subst e
  exact I.call (g' := g') (t' := t') (d' := d') u hok hg hch
end

noncomputable abbrev XK := Value → Option Addr → Hp → Prop
noncomputable abbrev St := List (Option V)
noncomputable abbrev VK := V → Hp → Prop
noncomputable abbrev TE := St → Hp → VK → Prop
noncomputable abbrev TT := St → Hp → (Bool → Hp → Prop) → Prop
noncomputable abbrev TA := St → Hp → (List V → Hp → Prop) → Prop
structure Ends where
  nx : St → Hp → Prop
  rt : VK
  bk : St → Hp → Prop := fun _ _ => False
  ct : St → Hp → Prop := fun _ _ => False
noncomputable abbrev TS := Ends → St → Hp → Prop

noncomputable def EP (X : Cx) (pins : List (Addr × Obj)) (σ : St) (Q : VK) (u : Value) (s' : Shared) : Prop := ∃ v H', Inv X pins σ H' s' ∧ RelV v u ∧ Q v H'
noncomputable def TP (X : Cx) (pins : List (Addr × Obj)) (σ : St) (Q : Bool → Hp → Prop) (b : Bool) (s' : Shared) : Prop := ∃ H', Inv X pins σ H' s' ∧ Q b H'
noncomputable def AP (X : Cx) (pins : List (Addr × Obj)) (σ : St) (Q : List V → Hp → Prop) (us : List Value) (s' : Shared) : Prop := ∃ vs H', Inv X pins σ H' s' ∧ Vals vs us ∧ Q vs H'
noncomputable def SP (X : Cx) (pins : List (Addr × Obj)) (D : Ends) (f : Flow) (s' : Shared) : Prop :=
  match f with
  | .next => ∃ σ' H', Inv X pins σ' H' s' ∧ D.nx σ' H'
  | .brk => ∃ σ' H', Inv X pins σ' H' s' ∧ D.bk σ' H'
  | .cont => ∃ σ' H', Inv X pins σ' H' s' ∧ D.ct σ' H'
  | .ret u => ∃ v σ' H', Inv X pins σ' H' s' ∧ RelV v u ∧ D.rt v H'

noncomputable def PE (X : Cx) (e : Expr) (t : TE) : Prop :=
  ∀ (pins : List (Addr × Obj)) (s : Shared) (σ : St) (H : Hp) (Q : VK), Inv X pins σ H s → t σ H Q → wpAny (model X.prog X.w) X.A (eval e X.env) (EP X pins σ Q) X.xe s
noncomputable def PT (X : Cx) (e : Expr) (t : TT) : Prop :=
  ∀ (pins : List (Addr × Obj)) (s : Shared) (σ : St) (H : Hp) (Q : Bool → Hp → Prop), Inv X pins σ H s → t σ H Q → wpAny (model X.prog X.w) X.A (isTrue e X.env (eval e X.env)) (TP X pins σ Q) X.xe s
noncomputable def PW (X : Cx) (e : Expr) (t : TT) : Prop :=
  ∀ (whole : Sem Value) (pins : List (Addr × Obj)) (s : Shared) (σ : St) (H : Hp) (Q : Bool → Hp → Prop), Inv X pins σ H s → t σ H Q → wpAny (model X.prog X.w) X.A (isTrue e X.env whole) (TP X pins σ Q) X.xe s
theorem PW.pt {X : Cx} {e : Expr} {t : TT} (h : PW X e t) : PT X e t := h _
noncomputable def PA (X : Cx) (es : List Expr) (t : TA) : Prop :=
  ∀ (pos : Pos) (pins : List (Addr × Obj)) (s : Shared) (σ : St) (H : Hp) (Q : List V → Hp → Prop), Inv X pins σ H s → t σ H Q → wpAny (model X.prog X.w) X.A (spliced (backTo pos (starEach es X.env))) (AP X pins σ Q) X.xe s
noncomputable def PS (X : Cx) (st : Stmt) (t : TS) : Prop :=
  ∀ (pins : List (Addr × Obj)) (s : Shared) (σ : St) (H : Hp) (D : Ends), Inv X pins σ H s → t D σ H → wpAny (model X.prog X.w) X.A (exec st X.env) (SP X pins D) X.xe s
noncomputable def PSs (X : Cx) (st : List Stmt) (t : TS) : Prop :=
  ∀ (pins : List (Addr × Obj)) (s : Shared) (σ : St) (H : Hp) (D : Ends), Inv X pins σ H s → t D σ H → wpAny (model X.prog X.w) X.A (execs st X.env) (SP X pins D) X.xe s
theorem thn {α : Type} {t : Sem α} {Q Q' : α → Shared → Prop} {M : Model} {A : Around} {E : Value → Shared → Prop} {s : Shared} (h : wpAny M A t Q E s) (hQ : ∀ a s, Q a s → Q' a s) : wpAny M A t Q' E s := wpAny_mono h hQ fun _ _ x => x
end L2

namespace L2
open PySem PySem.Spec PyProof.Rows
section
variable {X : Cx}

noncomputable def tVar (i : Nat) : TE := fun σ H Q => ∃ v, σ[i]? = some (some v) ∧ Q v H
noncomputable def tC (v : V) : TE := fun _ H Q => Q v H
theorem pe_var {i : Nat} {x : Str} {pos : Pos} (hN : X.N[i]? = some x) (hv : Vis X.env.scope x) (hd : (x == ("__debug__" : Str)) = false := by decide) (hcd : (x == ("__classdict__" : Str)) = false := by decide) : PE X (.Name x pos) (tVar i) := by
  intro pins s σ H Q I h
  obtain ⟨v, e, h⟩ := h
  obtain ⟨m, hn, hl⟩ := I.loc
  obtain ⟨u, r, l⟩ := hl i x v hN e hv
  have fin : EP X pins σ Q u s := ⟨v, H, I, r, h⟩
  rcases l with ⟨hk, hm⟩ | ⟨hk, c, hc, hcell⟩
  · exact wpAny_Name (wpAny_loadName_local I.ok.kind hk hn hm fin) hd
  · rcases hk with hk | hk
    · exact wpAny_Name (wpAny_loadName_cell I.ok.kind hk hc hcell fin) hd
    · exact wpAny_Name (wpAny_loadName_free I.ok.kind hk hc hcell fin hcd) hd
theorem pe_int {i j pos} : PE X (.Constant (.int i) j pos) (tC (.int i)) := fun _ _ _ H _ I h => wpAny_Constant_int ⟨.int i, H, I.tok _, ⟨_, rfl⟩, h⟩
theorem pe_bl {b j pos} : PE X (.Constant (.bool b) j pos) (tC (.bl b)) := fun _ _ _ H _ I h => Constant_bool ⟨.bl b, H, I, rfl, h⟩
theorem pe_non {j pos} : PE X (.Constant .none j pos) (tC .non) := fun _ _ _ H _ I h => Constant_none ⟨.non, H, I, rfl, h⟩
theorem pe_str {x j pos} : PE X (.Constant (.str x) j pos) (tC (.str x)) := fun _ _ _ H _ I h => Calls.Constant_str ⟨.str x, H, I.tok _, ⟨_, rfl⟩, h⟩

noncomputable def Gl (X : Cx) (x : Str) : Prop := X.env.kindOf x = some .globalImplicit
theorem ld_glob {E : Value → Shared → Prop} {pins : List (Addr × Obj)} {s : Shared} {σ : St} {H : Hp} {x : Str} {u : Value} {pos : Pos} {Q : Value → Shared → Prop} (I : Inv X pins σ H s) (hg : Gl X x) (hm : X.mg x = some u) (h : Q u s)
    (hd : (x == ("__debug__" : Str)) = false := by decide) : wpAny (model X.prog X.w) X.A (eval (.Name x pos) X.env) Q E s :=
  Calls.Name_function_global I.ok.kind hg (Calls.loadGlobal_global (by rw [I.ok.glob]; exact I.mod.glob.keeps I.bk) hm h) hd
theorem ld_blt {E : Value → Shared → Prop} {pins : List (Addr × Obj)} {s : Shared} {σ : St} {H : Hp} {x : Str} {u : Value} {pos : Pos} {Q : Value → Shared → Prop} (I : Inv X pins σ H s) (hg : Gl X x) (hm : X.mg x = none) (hv : bootBuiltins x = some u) (h : Q u s)
    (hn : x ≠ "__name__" := by decide) (hd : (x == ("__debug__" : Str)) = false := by decide) : wpAny (model X.prog X.w) X.A (eval (.Name x pos) X.env) Q E s := by
  obtain ⟨mb, h1, h2⟩ := I.mod.blt
  exact Calls.Name_function_global I.ok.kind hg (Calls.loadGlobal_builtin (by rw [I.ok.glob]; exact I.mod.glob.keeps I.bk) hm (by rw [I.ok.blt]; exact h1.keeps I.bk) ((h2 x hn).trans hv) h) hd
theorem pe_bltn {x : Str} {v : V} {u : Value} {pos : Pos} (hg : Gl X x) (hm : X.mg x = none) (hv : bootBuiltins x = some u) (r : RelV v u) (hn : x ≠ "__name__" := by decide) (hd : (x == ("__debug__" : Str)) = false := by decide) : PE X (.Name x pos) (tC v) :=
  fun _ _ _ H _ I h => ld_blt I hg hm hv ⟨v, H, I, r, h⟩ hn hd

variable {a b : Expr} {ta tb : TE} {pos : Pos}
noncomputable def tB (t : TE) : TT := fun σ H Q => t σ H fun x H1 => ∃ c, x = .bl c ∧ Q c H1
theorem pt_val {e : Expr} {t : TE} (h : PE X e t) (he : ∀ whole, isTrue e X.env whole = (do let v ← whole; standAt e.pos; holding [v] (truthy v)) := by intro _; rfl) : PT X e (tB t) := by
  intro pins s σ H Q I hw
  refine isTrue_plain (thn (h pins s σ H _ I hw) fun v s1 ⟨x, H1, I1, r1, q1⟩ => ?_) (he _)
  obtain ⟨d, rfl, q⟩ := q1
  cases r1
  exact wpAny_truthy_bool ⟨H1, I1, q⟩

variable {tA tB' : TT} {rest : List Expr}
noncomputable def tAnd (t u : TT) : TT := fun σ H Q => t σ H fun c H1 => if c = true then u σ H1 Q else Q false H1
noncomputable def tOr (t u : TT) : TT := fun σ H Q => t σ H fun c H1 => if c = true then Q true H1 else u σ H1 Q
noncomputable def tNot (t : TT) : TT := fun σ H Q => t σ H fun c H1 => Q (!c) H1
theorem pw_and1 (ha : PT X a tA) : PW X (.BoolOp .And [a] pos) tA := by
  intro wh pins s σ H Q I h
  refine isTrue_and (thn (ha pins s σ H Q I h) fun c s1 e => ?_)
  cases c with
  | true => exact isTrue_and_nil e
  | false => exact e
theorem pw_or1 (ha : PT X a tA) : PW X (.BoolOp .Or [a] pos) tA := by
  intro wh pins s σ H Q I h
  refine isTrue_or (thn (ha pins s σ H Q I h) fun c s1 e => ?_)
  cases c with
  | false => exact isTrue_or_nil e
  | true => exact e
theorem pw_and (ha : PT X a tA) (hb : PW X (.BoolOp .And (b :: rest) pos) tB') : PW X (.BoolOp .And (a :: b :: rest) pos) (tAnd tA tB') := by
  intro wh pins s σ H Q I h
  refine isTrue_and (thn (ha pins s σ H _ I h) fun c s1 ⟨H1, I1, q1⟩ => ?_)
  cases c with
  | true => exact hb wh pins s1 σ H1 Q I1 q1
  | false => exact ⟨H1, I1, q1⟩
theorem pw_or (ha : PT X a tA) (hb : PW X (.BoolOp .Or (b :: rest) pos) tB') : PW X (.BoolOp .Or (a :: b :: rest) pos) (tOr tA tB') := by
  intro wh pins s σ H Q I h
  refine isTrue_or (thn (ha pins s σ H _ I h) fun c s1 ⟨H1, I1, q1⟩ => ?_)
  cases c with
  | true => exact ⟨H1, I1, q1⟩
  | false => exact hb wh pins s1 σ H1 Q I1 q1
theorem pt_not (ha : PT X a tA) : PT X (.UnaryOp .Not a pos) (tNot tA) := by
  intro pins s σ H Q I h
  exact isTrue_not (ha pins s σ H (fun c H1 => Q (!c) H1) I h)
noncomputable def tAndV (ta tb : TE) : TE := fun σ H Q => ta σ H fun x H1 => ∃ c, x = .bl c ∧ if c = true then tb σ H1 Q else Q (.bl false) H1
noncomputable def tNotV (ta : TE) : TE := fun σ H Q => ta σ H fun x H1 => ∃ c, x = .bl c ∧ Q (.bl (!c)) H1
theorem pe_one {op} {t : TE} (h : PE X a t) : PE X (.BoolOp op [a] pos) t := fun pins s σ H Q I hw => BoolOp_one (h pins s σ H Q I hw)
theorem pe_and (ha : PE X a ta) (hb : PE X (.BoolOp .And (b :: rest) pos) tb) : PE X (.BoolOp .And (a :: b :: rest) pos) (tAndV ta tb) := by
  intro pins s σ H Q I h
  refine BoolOp_and (thn (ha pins s σ H _ I h) fun v s1 ⟨x, H1, I1, r1, q1⟩ => ?_)
  obtain ⟨c, rfl, q1⟩ := q1
  cases r1
  refine wpAny_truthy_bool ?_
  cases c with
  | true => exact hb pins s1 σ H1 Q I1 q1
  | false => exact ⟨.bl false, H1, I1, rfl, q1⟩
theorem pe_not (ha : PE X a ta) : PE X (.UnaryOp .Not a pos) (tNotV ta) := by
  intro pins s σ H Q I h
  refine UnaryOp_ (thn (ha pins s σ H _ I h) fun v s1 ⟨x, H1, I1, r1, q1⟩ => ?_)
  obtain ⟨c, rfl, q1⟩ := q1
  cases r1
  exact not_of (wpAny_truthy_bool ⟨.bl (!c), H1, I1, rfl, q1⟩)
end
end L2

namespace L2
open PySem PySem.Spec PyProof.Rows

noncomputable def SqL (K : PySem.W.Frag) (H : Hp) (a : Addr) (xs : List V) : Prop :=
  Rd H a (.lst xs) ∨
    ∃ (o : Obj) (its : Array Value) (n : Nat), K.lookup a = some o ∧ o.cls = .type "list" ∧ o.dict = none ∧ o.data = .seq its n ∧ its.size ≤ sizeLine ∧ Vals xs its.toList
noncomputable def SqT (K : PySem.W.Frag) (H : Hp) (a : Addr) (xs : List V) : Prop :=
  Rd H a (.tup xs) ∨
    ∃ (o : Obj) (its : Array Value) (n : Nat), K.lookup a = some o ∧ o.cls = .type "tuple" ∧ o.data = .seq its n ∧ its.size ≤ sizeLine ∧ Vals xs its.toList
noncomputable def absV : Value → Option V
  | .none => some .non
  | .bool b => some (.bl b)
  | .int i _ => some (.int i)
  | .str x _ => some (.str x)
  | .bytes b _ => some (.byt b)
  | .float b _ => some (.flt b)
  | .ref a => some (.ref a)
  | .type n => some (.ty n)
  | _ => none
theorem RelV.abs {x : V} {u : Value} (r : RelV x u) : absV u = some x := by
  cases x with
  | non => cases r; rfl
  | bl _ => cases r; rfl
  | int _ => obtain ⟨t, rfl⟩ := r; rfl
  | str _ => obtain ⟨t, rfl⟩ := r; rfl
  | byt _ => obtain ⟨t, rfl⟩ := r; rfl
  | flt _ => obtain ⟨t, rfl⟩ := r; rfl
  | ref _ => cases r; rfl
  | ty _ => cases r; rfl
theorem RelV.inj {x y : V} {u : Value} (r : RelV x u) (q : RelV y u) : x = y := Option.some.inj (r.abs.symm.trans q.abs)
theorem Vals.inj : ∀ {xs ys : List V} {us : List Value}, Vals xs us → Vals ys us → xs = ys := by
  intro xs
  induction xs with
  | nil =>
    intro ys us h k
    cases h
    cases k
    rfl
  | cons x xs ih =>
    intro ys us h k
    cases h with
    | cons r t =>
      cases k with
      | cons r' t' => rw [r.inj r', ih t t']
section
variable {X : Cx} {pins : List (Addr × Obj)} {σ : St} {H : Hp} {s : Shared} {a : Addr} {xs ys : List V}
theorem SqL.of {K : PySem.W.Frag} (h : H a = some (.lst xs)) : SqL K H a xs := .inl (.inl h)
theorem SqT.of {K : PySem.W.Frag} (h : H a = some (.tup xs)) : SqT K H a xs := .inl (.inl h)
theorem Inv.list (I : Inv X pins σ H s) (h : SqL X.K H a xs) : ∃ its : List Value, Vals xs its ∧ PlainL s.heap a its.toArray ∧ xs.length ≤ sizeLine := by
  rcases h with h | ⟨o, its, n, hk, hc, hd, hs, hz, r⟩
  · obtain ⟨z, its, n, r, e⟩ := h.ok I.hok
    exact ⟨its, r, ⟨_, n, e, rfl, rfl, rfl⟩, z⟩
  · refine ⟨its.toList, r, ⟨o, n, I.kIn a o hk, hc, hd, by simpa using hs⟩, ?_⟩
    have e := r.length
    simp only [Array.length_toList] at e
    omega
theorem Inv.tuple (I : Inv X pins σ H s) (h : SqT X.K H a xs) : ∃ its : List Value, Vals xs its ∧ IsTup s.heap a its.toArray ∧ xs.length ≤ sizeLine := by
  rcases h with h | ⟨o, its, n, hk, hc, hs, hz, r⟩
  · obtain ⟨z, its, r, p⟩ := h.ok I.hok
    exact ⟨its, r, p.tup, z⟩
  · refine ⟨its.toList, r, ⟨o, I.kIn a o hk, hc, n, by simpa using hs⟩, ?_⟩
    have e := r.length
    simp only [Array.length_toList] at e
    omega
theorem Inv.list_inj (I : Inv X pins σ H s) (h : SqL X.K H a xs) (h' : SqL X.K H a ys) : xs = ys := by
  obtain ⟨its, r, ⟨o, n, e, _, _, d⟩, _⟩ := I.list h
  obtain ⟨its', r', ⟨o', n', e', _, _, d'⟩, _⟩ := I.list h'
  rw [e] at e'; cases e'
  rw [d] at d'
  injection d' with d1 _
  have : its = its' := by simpa using congrArg Array.toList d1
  subst this
  exact r.inj r'
theorem Inv.tuple_inj (I : Inv X pins σ H s) (h : SqT X.K H a xs) (h' : SqT X.K H a ys) : xs = ys := by
  obtain ⟨its, r, ⟨o, e, _, n, d⟩, _⟩ := I.tuple h
  obtain ⟨its', r', ⟨o', e', _, n', d'⟩, _⟩ := I.tuple h'
  rw [e] at e'; cases e'
  rw [d] at d'
  injection d' with d1 _
  have : its = its' := by simpa using congrArg Array.toList d1
  subst this
  exact r.inj r'
end

noncomputable abbrev Cx.wish (X : Cx) (E : Value → Shared → Prop) : Cx := { X with xe := E }
noncomputable abbrev Cx.nox (X : Cx) : Cx := X.wish fun _ _ => False
theorem Cx.Ok.wish {X : Cx} (ok : X.Ok) (E : Value → Shared → Prop) : (X.wish E).Ok :=
  ⟨ok.mod, ok.kind, ok.glob, ok.blt, ok.above, ok.inj, ok.has, ok.cab, ok.hd, ok.frames, ok.stk, ok.exf, ok.bs, ok.bsz, ok.noex, ok.exfs, ok.funs, ok.frf⟩
theorem Cx.Ok.unwish {X : Cx} {E : Value → Shared → Prop} (ok : (X.wish E).Ok) : X.Ok :=
  ⟨ok.mod, ok.kind, ok.glob, ok.blt, ok.above, ok.inj, ok.has, ok.cab, ok.hd, ok.frames, ok.stk, ok.exf, ok.bs, ok.bsz, ok.noex, ok.exfs, ok.funs, ok.frf⟩
section
variable {X : Cx} {pins : List (Addr × Obj)} {σ : St} {H : Hp} {s : Shared} {E : Value → Shared → Prop}
theorem Inv.wish (I : Inv X pins σ H s) (E : Value → Shared → Prop) : Inv (X.wish E) pins σ H s := ⟨I.ok.wish E, I.os, I.bare, I.base, I.loc, I.cell, I.free, I.freeC, I.pin, I.hok, I.len⟩
theorem Inv.unwish (I : Inv (X.wish E) pins σ H s) : Inv X pins σ H s := ⟨I.ok.unwish, I.os, I.bare, I.base, I.loc, I.cell, I.free, I.freeC, I.pin, I.hok, I.len⟩
theorem SP.unwish {D : Ends} {f : Flow} {s' : Shared} (h : SP (X.wish E) pins D f s') : SP X pins D f s' := by
  cases f with
  | next => obtain ⟨σ', H', I, q⟩ := h; exact ⟨σ', H', I.unwish, q⟩
  | brk => obtain ⟨σ', H', I, q⟩ := h; exact ⟨σ', H', I.unwish, q⟩
  | cont => obtain ⟨σ', H', I, q⟩ := h; exact ⟨σ', H', I.unwish, q⟩
  | ret u => obtain ⟨v, σ', H', I, r, q⟩ := h; exact ⟨v, σ', H', I.unwish, r, q⟩
theorem PSs.nox {st : List Stmt} {t : TS} (h : PSs X.nox st t) : PSs X st t := fun pins s σ H D I hw =>
  wpAny_mono (h pins s σ H D (I.wish _) hw) (fun _ _ q => q.unwish) fun _ _ z => False.elim z
end

section
variable {X : Cx} {st : Stmt} {rest : List Stmt} {t u : TS} {e : Expr} {te : TE} {pos : Pos}
noncomputable def tNext : TS := fun D σ H => D.nx σ H
noncomputable def tSeq (t u : TS) : TS := fun D σ H => t { D with nx := u D } σ H
theorem pss_nil : PSs X [] tNext := fun _ _ σ H _ I h => wpAny_execs_nil ⟨σ, H, I, h⟩
theorem pss_cons (h1 : PS X st t) (h2 : PSs X rest u) : PSs X (st :: rest) (tSeq t u) := by
  intro pins s σ H D I h
  refine wpAny_execs_cons (thn (h1 pins s σ H { D with nx := u D } I h) fun f s1 q => ?_)
  cases f with
  | next =>
    obtain ⟨σ', H', I', q⟩ := q
    exact h2 pins s1 σ' H' D I' q
  | ret v => exact q
  | brk => exact q
  | cont => exact q
theorem pss_one (h1 : PS X st t) : PSs X [st] t := by
  intro pins s σ H D I h
  refine wpAny_execs_cons (thn (h1 pins s σ H D I h) fun f s1 q => ?_)
  cases f with
  | next => exact wpAny_execs_nil q
  | ret v => exact q
  | brk => exact q
  | cont => exact q
theorem Inv.quiet {pins : List (Addr × Obj)} {σ : St} {H : Hp} {s : Shared} (I : Inv X pins σ H s) : interactive X.env = false := by simp [interactive, I.ok.kind]
noncomputable def tDrop (te : TE) : TS := fun D σ H => te σ H fun _ H1 => D.nx σ H1
theorem ps_expr (he : PE X e te) (hs : swapsWith e none pos.line X.env = pure false := by rfl) : PS X (.Expr e pos) (tDrop te) := by
  intro pins s σ H D I h
  exact wpAny_Expr_any (thn (he pins s σ H _ I h) fun v s1 ⟨x, H1, I1, r1, q1⟩ => ⟨σ, H1, I1, q1⟩) I.quiet hs
noncomputable def tRet (te : TE) : TS := fun D σ H => te σ H D.rt
theorem ps_ret (he : PE X e te) : PS X (.Return (some e) pos) (tRet te) := by
  intro pins s σ H D I h
  exact wpAny_Return_some (thn (he pins s σ H _ I h) fun v s1 ⟨x, H1, I1, r1, q1⟩ => ⟨x, σ, H1, I1, r1, q1⟩)
noncomputable def tIfS (c : TT) (t u : TS) : TS := fun D σ H => c σ H fun b H1 => if b = true then t D σ H1 else u D σ H1
theorem ps_if {c : Expr} {a b : List Stmt} {tc : TT} (hc : PT X c tc) (ha : PSs X a t) (hb : PSs X b u) : PS X (.If c a b pos) (tIfS tc t u) := by
  intro pins s σ H D I h
  refine wpAny_If (thn (hc pins s σ H _ I h) fun d s1 ⟨H1, I1, q1⟩ => ?_)
  cases d with
  | true => exact ha pins s1 σ H1 D I1 q1
  | false => exact hb pins s1 σ H1 D I1 q1
noncomputable def tNever : TS := fun _ _ _ => False
theorem ps_never : PS X st tNever := fun _ _ _ _ _ _ h => h.elim
end

noncomputable abbrev TG := V → St → Hp → (St → Hp → Prop) → Prop
noncomputable abbrev TGs := List V → St → Hp → (St → Hp → Prop) → Prop
noncomputable def PG (X : Cx) (target : Expr) (t : TG) : Prop :=
  ∀ (pins : List (Addr × Obj)) (s : Shared) (σ : St) (H : Hp) (v : V) (u : Value) (Q : St → Hp → Prop), Inv X pins σ H s → RelV v u → t v σ H Q →
    wpAny (model X.prog X.w) X.A (assign target X.env u) (fun _ s' => ∃ σ' H', Inv X pins σ' H' s' ∧ Q σ' H') X.xe s
noncomputable def PGs (X : Cx) (ts : List Expr) (t : TGs) : Prop :=
  ∀ (pins : List (Addr × Obj)) (s : Shared) (σ : St) (H : Hp) (vs : List V) (us : List Value) (Q : St → Hp → Prop), Inv X pins σ H s → Vals vs us → t vs σ H Q →
    wpAny (model X.prog X.w) X.A (assignInOrder ((assignEach ts X.env).map (·.2)) us) (fun _ s' => ∃ σ' H', Inv X pins σ' H' s' ∧ Q σ' H') X.xe s
section
variable {X : Cx} {pos : Pos}
noncomputable def gName (i : Nat) : TG := fun v σ H Q => Q (σ.set i (some v)) H
theorem pg_name {i : Nat} {x : Str} (hN : X.N.Nodup) (hi : X.N[i]? = some x) (hx : Loc X.env.scope x) (hf : X.fn x = true ∨ X.env.scope.names.lookup x = some .local := by first | exact .inl rfl | exact .inr rfl | assumption) : PG X (.Name x pos) (gName i) := by
  intro pins s σ H v u Q I r h
  exact wpAny_assign_Name (store_ok I hN hi hx r (fun s' I' => ⟨_, H, I', h⟩) hf)
noncomputable def gNil : TGs := fun vs σ H Q => vs = [] ∧ Q σ H
noncomputable def gCons (t : TG) (u : TGs) : TGs := fun vs σ H Q => ∃ v r, vs = v :: r ∧ t v σ H fun σ' H' => u r σ' H' Q
theorem pgs_nil : PGs X [] gNil := by
  intro pins s σ H vs us Q I r h
  obtain ⟨e, h⟩ := h
  subst e
  cases r
  exact assignInOrder_nil ⟨σ, H, I, h⟩
theorem pgs_cons {e : Expr} {es : List Expr} {t : TG} {u : TGs} (h1 : PG X e t) (h2 : PGs X es u)
    (hs : (assignEach (e :: es) X.env).map (·.2) = assign e X.env :: (assignEach es X.env).map (·.2) := by rfl) : PGs X (e :: es) (gCons t u) := by
  intro pins s σ H vs us Q I r h
  obtain ⟨v, vr, e1, h⟩ := h
  subst e1
  cases r with
  | cons r rr =>
    rw [hs]
    refine assignInOrder_cons (thn (h1 pins s σ H _ _ _ I r h) fun _ s1 ⟨σ1, H1, I1, q1⟩ => ?_)
    exact h2 pins s1 σ1 H1 _ _ Q I1 rr q1
noncomputable def gTup (K : PySem.W.Frag) (n : Nat) (t : TGs) : TG := fun v σ H Q => ∃ a xs, v = .ref a ∧ SqT K H a xs ∧ xs.length = n ∧ t xs σ H Q
theorem pg_tup {es : List Expr} {k : Nat} {t : TGs} {n : Nat} (hc : X.calm = true) (h : PGs X es t)
    (hn : (assignEach es X.env).length = n := by rfl) (hst : (assignEach es X.env).findIdx? (·.1) = none := by rfl) : PG X (.Tuple es k pos) (gTup X.K n t) := by
  intro pins s σ H v u Q I r hw
  obtain ⟨a, xs, e1, hq, hl, hw⟩ := hw
  subst e1
  cases r
  obtain ⟨its, rv, ht, hz⟩ := I.tuple hq
  refine assign_Tuple_tuple (I.ok.hd hc) ht (by simp [hn, ← hl, rv.length]) hst fun h' hx => ?_
  have I1 : Inv X pins σ H { s with heap := h' } := I.kept (t' := s.toks) fun b o e => hx b o (Nat.ne_of_lt (Heap.lt_size e)) e
  exact h pins _ σ H xs _ Q I1 (by simpa using rv) hw
noncomputable def tAsg (te : TE) (g : TG) : TS := fun D σ H => te σ H fun x H1 => g x σ H1 D.nx
theorem ps_asg {tg e : Expr} {te : TE} {g : TG} (he : PE X e te) (hg : PG X tg g) (hs : swapsWithSole [tg] e pos.line X.env = pure false := by rfl) (hw : swappedStores [tg] e X.env = pure none := by rfl)
    (h1 : (assignEach [tg] X.env).map (·.2) = [assign tg X.env] := by rfl) : PS X (.Assign [tg] e pos) (tAsg te g) := by
  intro pins s σ H D I h
  refine wpAny_Assign_stores (thn (he pins s σ H _ I h) fun v s1 ⟨x, H1, I1, r1, q1⟩ => ?_) hs hw
  rw [h1]
  exact thn (hg pins s1 σ H1 x v _ I1 r1 q1) fun _ s2 q => q
theorem ps_set {i : Nat} {x : Str} {e : Expr} {te : TE} {pos' : Pos} (hN : X.N.Nodup) (hi : X.N[i]? = some x) (hx : Loc X.env.scope x) (he : PE X e te) (hs : swapsWith e (some (.Name x pos')) pos.line X.env = pure false := by rfl) (hf : X.fn x = true ∨ X.env.scope.names.lookup x = some .local := by first | exact .inl rfl | exact .inr rfl | assumption) :
    PS X (.Assign [.Name x pos'] e pos) (tAsg te (gName i)) := by
  intro pins s σ H D I h
  refine wpAny_Assign_Name (thn (he pins s σ H _ I h) fun v s1 ⟨y, H1, I1, r1, q1⟩ => ?_) hs
  exact store_ok I1 hN hi hx r1 (fun s2 I2 => ⟨_, H1, I2, q1⟩) hf
end

section
variable {X : Cx} {pos : Pos}
noncomputable def tWhile (c : TT) (tb : TS) : TS := fun D σ H => ∃ W : Nat → St → Hp → Prop, (∃ m, W m σ H) ∧ ∀ m σ H, W m σ H →
  c σ H fun b H1 => if b = true then ∃ N : St → Hp → Prop, (∀ σ' H', N σ' H' → ∃ m', m' < m ∧ W m' σ' H') ∧ tb { D with nx := N, ct := N, bk := D.nx } σ H1 else D.nx σ H1
theorem ps_while {c : Expr} {body : List Stmt} {tc : TT} {tb : TS} (hp : PassesOwn (model X.prog X.w) X.A X.env X.xe) (hc : PT X c tc) (hb : PSs X body tb) : PS X (.While c body [] pos) (tWhile tc tb) := by
  intro pins s σ H D I h
  obtain ⟨W, ⟨m0, w0⟩, turn⟩ := h
  refine wpAny_While (codeAny_whileLoop (fun n s' => ∃ σ' H', Inv X pins σ' H' s' ∧ W n σ' H') ?_ m0 ⟨σ, H, I, w0⟩)
  rintro n s1 ⟨σ1, H1, I1, w1⟩
  refine wpAny_passesOwn hp (thn (hc pins s1 σ1 H1 _ I1 (turn n σ1 H1 w1)) fun b s2 ⟨H2, I2, q2⟩ => ?_)
  cases b with
  | true =>
    obtain ⟨N, hN, q2⟩ := q2
    rw [if_pos rfl]
    refine wpAny_passesOwn hp (thn (hb pins s2 σ1 H2 _ I2 q2) fun f s3 q3 => ?_)
    cases f with
    | next =>
      obtain ⟨σ3, H3, I3, n3⟩ := q3
      obtain ⟨m', hm, w3⟩ := hN σ3 H3 n3
      exact ⟨m', hm, σ3, H3, I3, w3⟩
    | cont =>
      obtain ⟨σ3, H3, I3, n3⟩ := q3
      obtain ⟨m', hm, w3⟩ := hN σ3 H3 n3
      exact ⟨m', hm, σ3, H3, I3, w3⟩
    | brk => exact q3
    | ret v => exact q3
  | false =>
    rw [if_neg Bool.false_ne_true]
    exact wpAny_execs_nil ⟨σ1, H2, I2, q2⟩
end

structure It where
  go : Nat → Hp → Prop
  yld : Nat → Hp → V → Hp → Prop
  stop : Nat → Hp → Prop
noncomputable def FpOk (X : Cx) (pins : List (Addr × Obj)) (H : Hp) (b : Addr) : Prop :=
  H b = none ∧ b ≠ X.env.locals ∧ b ∉ X.fs ∧ (b ∈ X.ex ∨ X.s₀.heap.objs.size ≤ b) ∧ (∀ x c, X.env.cells.lookup x = some c → c ≠ b) ∧ ∀ p ∈ X.pn ++ pins, p.1 ≠ b
theorem Inv.fpOk {X : Cx} {pins : List (Addr × Obj)} {σ : St} {H H' : Hp} {s : Shared} {b : Addr} (I : Inv X pins σ H s) (hb : s.heap.objs.size ≤ b) (hn : H' b = none) : FpOk X pins H' b := by
  refine ⟨hn, Nat.ne_of_gt (Nat.lt_of_lt_of_le I.lt hb), I.nofs hb, .inr (Nat.le_trans I.sz hb), fun x c e z => ?_, fun p hp z => ?_⟩
  · obtain ⟨v, q⟩ := I.cell x c e
    exact absurd (Nat.lt_of_lt_of_le q.lt (by rw [z]; exact hb)) (Nat.lt_irrefl _)
  · exact absurd (Nat.lt_of_lt_of_le (Heap.lt_size (I.pin p hp).1) (by rw [z]; exact hb)) (Nat.lt_irrefl _)
structure Turn (P : Program) (w : World) (K : PySem.W.Frag) (tg : Expr) (J : It) (fp : List Addr) (it : Addr) (tn : Nat → Heap → Prop) : Prop where
  mem : it ∈ fp
  obj : ∀ i h, tn i h → ∀ b ∈ fp, ∃ o, h.get? b = some o ∧ ∀ v, o.data ≠ .cell v
  keep : ∀ i h h', tn i h → (∀ b ∈ fp, ∀ o, h.get? b = some o → h'.get? b = some o) → tn i h'
  item : ∀ (X : Cx), X.prog = P → X.w = w → X.K = K → X.calm = true → ∀ (i : Nat) (pins : List (Addr × Obj)) (s : Shared) (σ : St) (H : Hp) (E : Value → Shared → Prop), Inv X pins σ H s → (∀ b ∈ fp, FpOk X pins H b) → tn i s.heap → J.go i H →
    wpAny (model P w) X.A (pyNext (.ref it)) (fun r s1 => ∃ u, r = some u ∧
      wpAny (model P w) X.A (letOwnedTupleGo tg (.ref it) u) (fun _ s2 => ∃ x H', Inv X pins σ H' s2 ∧ RelV x u ∧ J.yld i H x H' ∧ tn (i + 1) s2.heap ∧ ∀ b ∈ fp, H' b = none) E s1) E s
  done : ∀ (X : Cx), X.prog = P → X.w = w → X.K = K → X.calm = true → ∀ (i : Nat) (pins : List (Addr × Obj)) (s : Shared) (σ : St) (H : Hp) (E : Value → Shared → Prop), Inv X pins σ H s → (∀ b ∈ fp, FpOk X pins H b) → tn i s.heap → J.stop i H →
    wpAny (model P w) X.A (pyNext (.ref it)) (fun r s1 => r = none ∧ Inv X pins σ H s1) E s
  self : ∀ (A : Around) (i : Nat) (s : Shared) (Q : Value → Shared → Prop) (E : Value → Shared → Prop), tn i s.heap → Q (.ref it) s → wpAny (model P w) A (pyIter (.ref it)) Q E s
noncomputable abbrev TI := St → Hp → (It → Hp → Prop) → Prop
noncomputable def PIE (X : Cx) (pins : List (Addr × Obj)) (σ : St) (tg : Expr) (R : It → Hp → Prop) (itv : Value) (s2 : Shared) : Prop :=
  ∃ (it : Addr) (fp : List Addr) (tn : Nat → Heap → Prop) (J : It) (H' : Hp), itv = .ref it ∧ Inv X pins σ H' s2 ∧ Turn X.prog X.w X.K tg J fp it tn ∧ tn 0 s2.heap ∧ (∀ b ∈ fp, FpOk X pins H' b) ∧ R J H'
noncomputable def PI (X : Cx) (tg iter : Expr) (wi : TI) : Prop :=
  ∀ (pins : List (Addr × Obj)) (s : Shared) (σ : St) (H : Hp) (R : It → Hp → Prop), Inv X pins σ H s → wi σ H R →
    wpAny (model X.prog X.w) X.A (eval iter X.env) (fun v s1 => wpAny (model X.prog X.w) X.A (pyIter v) (PIE X pins σ tg R) X.xe s1) X.xe s

theorem go_of {M : Model} {A : Around} {E : Value → Shared → Prop} {s : Shared} {tg : Expr} {it : Addr} {u : Value} {o : Obj} {n : String} {vs : Array Value} {Q : Unit → Shared → Prop} (ho : s.heap.get? it = some o) (hc : o.cls = .type n) (hd : o.data = .fields vs)
    (hn : ["enumerate", "zip", "dict_itemiterator", "dict_reverseitemiterator", "odict_iterator", "itertools.zip_longest", "itertools.pairwise"].contains n = false) (hQ : Q () s) : wpAny M A (letOwnedTupleGo tg (.ref it) u) Q E s := by
  unfold letOwnedTupleGo
  cases tg <;> first
    | exact wpAny_pure hQ
    | (cases u <;> first
        | exact wpAny_pure hQ
        | (refine wpAny_bind (wpAny_load ho ?_)
           rw [hc, hd]
           show wpAny M A (if (["enumerate", "zip", "dict_itemiterator", "dict_reverseitemiterator", "odict_iterator", "itertools.zip_longest", "itertools.pairwise"].contains n && vs[0]? == some (rawInt _)) = true then _ else _) Q E s
           rw [if_neg (by intro h; rw [hn, Bool.false_and] at h; cases h)]
           exact wpAny_pure hQ))

noncomputable def Itl (K : PySem.W.Frag) (a : Addr) : It :=
  ⟨fun i H => ∃ xs x, SqL K H a xs ∧ xs[i]? = some x, fun i H x H' => H' = H ∧ ∀ xs, SqL K H a xs → xs[i]? = some x, fun i H => ∃ xs, SqL K H a xs ∧ xs.length ≤ i⟩
noncomputable def Itt (K : PySem.W.Frag) (a : Addr) : It :=
  ⟨fun i H => ∃ xs x, SqT K H a xs ∧ xs[i]? = some x, fun i H x H' => H' = H ∧ ∀ xs, SqT K H a xs → xs[i]? = some x, fun i H => ∃ xs, SqT K H a xs ∧ xs.length ≤ i⟩
noncomputable def Itr (lo : Int) (n : Nat) : It := ⟨fun i _ => i < n, fun i H x H' => H' = H ∧ x = .int (lo + i), fun i _ => n ≤ i⟩
theorem turn_list {P : Program} {w : World} {K : PySem.W.Frag} {tg : Expr} (a it : Addr) : Turn P w K tg (Itl K a) [it] it (fun i h => h.IsListIter it a i) where
  mem := by simp
  obj := fun i h st b hb => by
    have e : b = it := by simpa using hb
    subst e
    obtain ⟨o, e, c, d⟩ := st
    exact ⟨o, e, fun v z => by rw [d] at z; cases z⟩
  keep := fun i h h' st k => st.at fun o e => k it (by simp) o e
  item := by
    intro X hP hw hK hc i pins s σ H E I hf st hg
    subst hP hw hK
    obtain ⟨xs, x, hq, hx⟩ := hg
    obtain ⟨its, rv, p, hz⟩ := I.list hq
    obtain ⟨u, hu, ru⟩ := rv.get hx
    obtain ⟨f0, f1, f2, f3, f4, f5⟩ := hf it (by simp)
    refine wpAny_pyNext_list_item st p.isList (x := u) (by simpa using hu) fun h' st' sb => ?_
    have I1 : Inv X pins σ H { s with heap := h' } := I.turned (t' := s.toks) (fun b o hb e => (sb.2 b hb).trans e) f0 f1 f3 f4 f5
    obtain ⟨o, e, c, d⟩ := id st'
    exact ⟨u, rfl, go_of (s := { s with heap := h' }) e c d (by decide) ⟨x, H, I1, ru, ⟨rfl, fun ys hy => by rw [I.list_inj hy hq]; exact hx⟩, st', fun b hb => (hf b hb).1⟩⟩
  done := by
    intro X hP hw hK hc i pins s σ H E I hf st hg
    subst hP hw hK
    obtain ⟨xs, hq, hx⟩ := hg
    obtain ⟨its, rv, p, hz⟩ := I.list hq
    obtain ⟨f0, f1, f2, f3, f4, f5⟩ := hf it (by simp)
    have hl := rv.length
    exact wpAny_pyNext_list_end (I.ok.hd hc) st p.isList (by simp; omega) fun h' eb => ⟨rfl, I.turned (t' := s.toks) (fun b o hb e => eb b o hb e) f0 f1 f3 f4 f5⟩
  self := fun _ _ _ _ _ st h => wpAny_pyIter_listiter st h
theorem turn_tuple {P : Program} {w : World} {K : PySem.W.Frag} {tg : Expr} (a it : Addr) : Turn P w K tg (Itt K a) [it] it (fun i h => h.IsTupleIter it a i) where
  mem := by simp
  obj := fun i h st b hb => by
    have e : b = it := by simpa using hb
    subst e
    obtain ⟨o, e, c, d⟩ := st
    exact ⟨o, e, fun v z => by rw [d] at z; cases z⟩
  keep := fun i h h' st k => st.at fun o e => k it (by simp) o e
  item := by
    intro X hP hw hK hc i pins s σ H E I hf st hg
    subst hP hw hK
    obtain ⟨xs, x, hq, hx⟩ := hg
    obtain ⟨its, rv, p, hz⟩ := I.tuple hq
    obtain ⟨u, hu, ru⟩ := rv.get hx
    obtain ⟨f0, f1, f2, f3, f4, f5⟩ := hf it (by simp)
    refine wpAny_pyNext_tuple_item st (show s.heap.IsTuple a its.toArray from p) (x := u) (by simpa using hu) fun h' st' sb => ?_
    have I1 : Inv X pins σ H { s with heap := h' } := I.turned (t' := s.toks) (fun b o hb e => (sb.2 b hb).trans e) f0 f1 f3 f4 f5
    obtain ⟨o, e, c, d⟩ := id st'
    exact ⟨u, rfl, go_of (s := { s with heap := h' }) e c d (by decide) ⟨x, H, I1, ru, ⟨rfl, fun ys hy => by rw [I.tuple_inj hy hq]; exact hx⟩, st', fun b hb => (hf b hb).1⟩⟩
  done := by
    intro X hP hw hK hc i pins s σ H E I hf st hg
    subst hP hw hK
    obtain ⟨xs, hq, hx⟩ := hg
    obtain ⟨its, rv, p, hz⟩ := I.tuple hq
    obtain ⟨f0, f1, f2, f3, f4, f5⟩ := hf it (by simp)
    have hl := rv.length
    exact wpAny_pyNext_tuple_end (I.ok.hd hc) st (show s.heap.IsTuple a its.toArray from p) (by simp; omega) fun h' eb => ⟨rfl, I.turned (t' := s.toks) (fun b o hb e => eb b o hb e) f0 f1 f3 f4 f5⟩
  self := fun _ _ _ _ _ st h => wpAny_pyIter_tupleiter st h
theorem turn_range {P : Program} {w : World} {K : PySem.W.Frag} {tg : Expr} (it : Addr) (lo : Int) (n : Nat) : Turn P w K tg (Itr lo n) [it] it (fun i h => IsRangeIter h it (lo + (i : Nat) * 1) ((n : Int) - (i : Nat)) 1) where
  mem := by simp
  obj := fun i h st b hb => by
    have e : b = it := by simpa using hb
    subst e
    exact ⟨_, st, fun v z => by
      have z' : Data.fields _ = Data.cell v := z
      cases z'⟩
  keep := fun i h h' st k => k it (by simp) _ st
  item := by
    intro X hP hw hK hc i pins s σ H E I hf st hg
    subst hP hw hK
    obtain ⟨f0, f1, f2, f3, f4, f5⟩ := hf it (by simp)
    have W := Walks.range (prog := X.prog) (w := X.w) (I.ok.hd hc) it lo 1 n
    refine W.item i s _ _ hg st fun v h' tk hv st' kk => ?_
    obtain ⟨t, rfl⟩ := hv
    have I1 : Inv X pins σ H { s with heap := h', toks := tk } := I.turned (fun b o hb e => kk b o (by simpa using hb) e) f0 f1 f3 f4 f5
    refine ⟨_, rfl, go_of (s := { s with heap := h', toks := tk }) (n := "range_iterator") st' rfl rfl (by decide) ⟨.int (lo + i), H, I1, ⟨t, ?_⟩, ⟨rfl, rfl⟩, st', fun b hb => (hf b hb).1⟩⟩
    rw [Int.mul_one]
  done := by
    intro X hP hw hK hc i pins s σ H E I hf st hg
    subst hP hw hK
    obtain ⟨f0, f1, f2, f3, f4, f5⟩ := hf it (by simp)
    exact wpAny_pyNext_range_end (I.ok.hd hc) st (by have : n ≤ i := hg; omega) fun h' eb => ⟨rfl, I.turned (t' := s.toks) (fun b o hb e => eb b o hb e) f0 f1 f3 f4 f5⟩
  self := fun _ _ _ _ _ st h => wpAny_pyIter_rangeiter st h
end L2

namespace L2
open PySem PySem.Spec PyProof.Rows
section
variable {X : Cx} {tg : Expr}
noncomputable def iList (K : PySem.W.Frag) (tl : TE) : TI := fun σ H R => tl σ H fun x H1 => ∃ a, x = .ref a ∧ (∃ xs, SqL K H1 a xs) ∧ R (Itl K a) H1
noncomputable def iTup (K : PySem.W.Frag) (tl : TE) : TI := fun σ H R => tl σ H fun x H1 => ∃ a, x = .ref a ∧ (∃ xs, SqT K H1 a xs) ∧ R (Itt K a) H1
theorem pi_list {l : Expr} {tl : TE} (hl : PE X l tl) : PI X tg l (iList X.K tl) := by
  intro pins s σ H R I h
  refine thn (hl pins s σ H _ I h) fun v s1 ⟨x, H1, I1, r1, q1⟩ => ?_
  obtain ⟨a, e, ⟨xs, hq⟩, q⟩ := q1
  subst e
  cases r1
  obtain ⟨its, rv, p, hz⟩ := I1.list hq
  refine wpAny_pyIter_list p.isList ?_
  refine ⟨s1.heap.objs.size, [s1.heap.objs.size], _, _, H1, rfl, I1.kept (t' := s1.toks) fun b o e => Heap.get?_push_of_some _ e, turn_list a _, ⟨_, Heap.get?_push_size _ rfl, rfl, rfl⟩, fun b hb => ?_, q⟩
  have e : b = s1.heap.objs.size := by simpa using hb
  subst e
  exact I1.fpOk (Nat.le_refl _) (I1.hok.fresh (Nat.le_refl _))
theorem pi_tup {l : Expr} {tl : TE} (hl : PE X l tl) : PI X tg l (iTup X.K tl) := by
  intro pins s σ H R I h
  refine thn (hl pins s σ H _ I h) fun v s1 ⟨x, H1, I1, r1, q1⟩ => ?_
  obtain ⟨a, e, ⟨xs, hq⟩, q⟩ := q1
  subst e
  cases r1
  obtain ⟨its, rv, p, hz⟩ := I1.tuple hq
  refine wpAny_pyIter_tuple (show s1.heap.IsTuple a its.toArray from p) ?_
  refine ⟨s1.heap.objs.size, [s1.heap.objs.size], _, _, H1, rfl, I1.kept (t' := s1.toks) fun b o e => Heap.get?_push_of_some _ e, turn_tuple a _, ⟨_, Heap.get?_push_size _ rfl, rfl, rfl⟩, fun b hb => ?_, q⟩
  have e : b = s1.heap.objs.size := by simpa using hb
  subst e
  exact I1.fpOk (Nat.le_refl _) (I1.hok.fresh (Nat.le_refl _))
theorem range_it {pins : List (Addr × Obj)} {σ : St} {H : Hp} {s : Shared} {R : It → Hp → Prop} {E : Value → Shared → Prop} {lo hi : Int} {t u v : Tok} {tk : Nat} (I : Inv X pins σ H s) (h1 : -(2 ^ 62) ≤ lo) (h2 : lo < 2 ^ 62) (h3 : -(2 ^ 62) ≤ hi) (h4 : hi < 2 ^ 62)
    (q : R (Itr lo (hi - lo).toNat) H) : wpAny (model X.prog X.w) X.A (pyIter (.ref s.heap.objs.size)) (PIE X pins σ tg R) E { s with heap := s.heap.push { cls := .type "range", data := .fields #[.int lo t, .int hi u, .int 1 v] }, toks := tk } := by
  refine wpAny_pyIter_range (IsRange.new ..) (small_one h1 h2 h3 h4) ?_
  have I1 : Inv X pins σ H { s with heap := s.heap.push { cls := .type "range", data := .fields #[.int lo t, .int hi u, .int 1 v] }, toks := tk } := I.kept fun b o e => Heap.get?_push_of_some _ e
  refine ⟨(s.heap.push { cls := .type "range", data := .fields #[.int lo t, .int hi u, .int 1 v] }).objs.size, [(s.heap.push { cls := .type "range", data := .fields #[.int lo t, .int hi u, .int 1 v] }).objs.size], _, _, H, rfl,
    I1.kept (t' := tk) fun b o e => Heap.get?_push_of_some _ e, turn_range _ lo (hi - lo).toNat, ?_, fun b hb => ?_, q⟩
  · have e1 : lo + ((0 : Nat) : Int) * 1 = lo := by simp
    have e2 : (((hi - lo).toNat : Nat) : Int) - ((0 : Nat) : Int) = Builtin.Range.rangeSize lo hi 1 := by rw [rangeSize_one]; split <;> omega
    show IsRangeIter _ _ (lo + ((0 : Nat) : Int) * 1) ((((hi - lo).toNat : Nat) : Int) - ((0 : Nat) : Int)) 1
    rw [e1, e2]
    exact Heap.get?_push_size _ rfl
  · have e : b = (s.heap.push { cls := .type "range", data := .fields #[.int lo t, .int hi u, .int 1 v] }).objs.size := by simpa using hb
    subst e
    exact I1.fpOk (Nat.le_refl _) (I1.hok.fresh (Nat.le_refl _))
noncomputable def iRng1 (ta : TA) : TI := fun σ H R => ta σ H fun vs H1 => ∃ j : Int, vs = [.int j] ∧ -(2 ^ 62) ≤ j ∧ j < 2 ^ 62 ∧ R (Itr 0 j.toNat) H1
noncomputable def iRng2 (ta : TA) : TI := fun σ H R => ta σ H fun vs H1 => ∃ i j : Int, vs = [.int i, .int j] ∧ (-(2 ^ 62) ≤ i ∧ i < 2 ^ 62 ∧ -(2 ^ 62) ≤ j ∧ j < 2 ^ 62) ∧ R (Itr i (j - i).toNat) H1
theorem pi_range1 {a : Expr} {ta : TA} {p pos : Pos} (hg : Gl X "range") (hm : X.mg "range" = none) (ha : PA X [a] ta) (hs : starEach [a] X.env = [(false, eval a X.env)] := by rfl) : PI X tg (.Call (.Name "range" p) [a] [] pos) (iRng1 ta) := by
  intro pins s σ H R I h
  refine Call_ (ld_blt I hg hm boot_range (PyProof.Rows.callWith_type1 (thn (ha pos pins s σ H _ I h) fun us s1 ⟨vs, H1, I1, r1, q1⟩ => ?_) hs rfl))
  obtain ⟨j, e, q1, q2, q⟩ := q1
  subst e
  cases r1 with
  | cons r rr =>
    cases rr
    obtain ⟨t, rfl⟩ := r
    exact call_range_1 (range_it I1 (by omega) (by omega) q1 q2 (by simpa using q))
theorem pi_range2 {a b : Expr} {ta : TA} {p pos : Pos} (hg : Gl X "range") (hm : X.mg "range" = none) (ha : PA X [a, b] ta) (hs : starEach [a, b] X.env = [(false, eval a X.env), (false, eval b X.env)] := by rfl) (hs2 : starEach [b] X.env = [(false, eval b X.env)] := by rfl) :
    PI X tg (.Call (.Name "range" p) [a, b] [] pos) (iRng2 ta) := by
  intro pins s σ H R I h
  refine Call_ (ld_blt I hg hm boot_range (PyProof.Rows.callWith_type1 (thn (ha pos pins s σ H _ I h) fun us s1 ⟨vs, H1, I1, r1, q1⟩ => ?_) (by rw [hs, hs2]) (by rw [hs2]; rfl)))
  obtain ⟨i, j, e, ⟨q1, q2, q3, q4⟩, q⟩ := q1
  subst e
  cases r1 with
  | cons r rr =>
    cases rr with
    | cons r' rr =>
      cases rr
      obtain ⟨t, rfl⟩ := r
      obtain ⟨t', rfl⟩ := r'
      exact call_range_2 (range_it I1 q1 q2 q3 q4 q)

noncomputable def tFor (wi : TI) (g : TG) (tb : TS) : TS := fun D σ H => wi σ H fun J H1 => ∃ W : Nat → Nat → St → Hp → Prop, (∃ m, W 0 m σ H1) ∧ ∀ i m σ H, W i m σ H →
  (J.stop i H ∧ D.nx σ H) ∨ (J.go i H ∧ ∃ N : St → Hp → Prop, (∀ σ' H', N σ' H' → ∃ m', m' < m ∧ W (i + 1) m' σ' H') ∧ ∀ x H', J.yld i H x H' → g x σ H' fun σ2 H2 => tb { D with nx := N, ct := N, bk := D.nx } σ2 H2)
noncomputable def pinsAt (fp : List Addr) (h : Heap) : List (Addr × Obj) := fp.filterMap fun b => (h.get? b).map fun o => (b, o)
theorem mem_pinsAt {fp : List Addr} {h : Heap} {b : Addr} {o : Obj} (hb : b ∈ fp) (e : h.get? b = some o) : (b, o) ∈ pinsAt fp h := List.mem_filterMap.mpr ⟨b, hb, by rw [e]; rfl⟩
theorem of_pinsAt {fp : List Addr} {h : Heap} {p : Addr × Obj} (hp : p ∈ pinsAt fp h) : p.1 ∈ fp ∧ h.get? p.1 = some p.2 := by
  obtain ⟨b, hb, e⟩ := List.mem_filterMap.mp hp
  cases q : h.get? b with
  | none => rw [q] at e; cases e
  | some o =>
    rw [q] at e
    have e' : (b, o) = p := Option.some.inj e
    subst e'
    exact ⟨hb, q⟩
theorem Inv.pinned {pins : List (Addr × Obj)} {σ : St} {H : Hp} {s : Shared} {fp : List Addr} (I : Inv X pins σ H s) (hf : ∀ b ∈ fp, FpOk X pins H b) (ho : ∀ b ∈ fp, ∃ o, s.heap.get? b = some o ∧ ∀ v, o.data ≠ .cell v) : Inv X (pins ++ pinsAt fp s.heap) σ H s :=
  I.pins_of fun p hp => (List.mem_append.mp hp).elim (fun z => I.pin p (List.mem_append_right _ z)) fun z => by
    obtain ⟨hb, e⟩ := of_pinsAt z
    obtain ⟨f0, f1, f2, _⟩ := hf p.1 hb
    obtain ⟨o, e', d⟩ := ho p.1 hb
    rw [e] at e'; cases e'
    exact ⟨e, f0, f1, f2, d⟩
theorem Inv.unpinned {pins pl : List (Addr × Obj)} {σ : St} {H : Hp} {s : Shared} (I : Inv X (pins ++ pl) σ H s) : Inv X pins σ H s := I.pins_of fun p hp => I.pin p (List.mem_append_right _ (List.mem_append_left _ hp))
theorem ps_for {iter : Expr} {body : List Stmt} {wi : TI} {g : TG} {tb : TS} {pos : Pos} (hp : PassesOwn (model X.prog X.w) X.A X.env X.xe) (hc : X.calm = true) (hi : PI X tg iter wi) (hg : PG X tg g) (hb : PSs X body tb)
    (hs : ∀ x, foldedSetIterable iter X.env x = pure x := by intro _; rfl) : PS X (.For tg iter body [] pos) (tFor wi g tb) := by
  intro pins s σ H D I h
  refine wpAny_For (thn (hi pins s σ H _ I h) fun v s1 h1 => thn h1 fun itv s2 h2 => ?_) hs
  obtain ⟨it, fp, tn, J, H2, e, I2, T, st2, f2, W, ⟨m0, w0⟩, turn⟩ := h2
  subst e
  -- what stays true of the iterator's objects through the loop
  have stat : ∀ {H' : Hp}, (∀ b ∈ fp, H' b = none) → ∀ b ∈ fp, FpOk X pins H' b := fun hn b hb => ⟨hn b hb, (f2 b hb).2⟩
  refine codeAny_forLoop_any (fun n s' => ∃ i σ' H', Inv X pins σ' H' s' ∧ tn i s'.heap ∧ (∀ b ∈ fp, H' b = none) ∧ W i n σ' H') ?_ m0 ⟨0, σ, H2, I2, st2, fun b hb => (f2 b hb).1, w0⟩
  rintro n s3 ⟨i, σ3, H3, I3, st3, fr3, w3⟩
  rcases turn i n σ3 H3 w3 with ⟨stop, qn⟩ | ⟨go, N, hN, step⟩
  · refine wpAny_passesOwn hp (thn (T.done X rfl rfl rfl hc i pins s3 σ3 H3 X.xe I3 (stat fr3) st3 stop) fun r s4 ⟨hr, I4⟩ => ?_)
    subst hr
    exact wpAny_execs_nil ⟨σ3, H3, I4, qn⟩
  · refine wpAny_passesOwn hp (thn (T.item X rfl rfl rfl hc i pins s3 σ3 H3 X.xe I3 (stat fr3) st3 go) fun r s4 ⟨u, hr, h4⟩ => ?_)
    subst hr
    refine wpAny_passesOwn hp (thn h4 fun _ s5 ⟨x, H5, I5, r5, y5, st5, fr5⟩ => ?_)
    have I5' := I5.pinned (stat fr5) (T.obj _ _ st5)
    refine wpAny_passesOwn hp (thn (hg _ s5 σ3 H5 x u _ I5' r5 (step x H5 y5)) fun _ s6 ⟨σ6, H6, I6, q6⟩ => ?_)
    refine wpAny_passesOwn hp (thn (hb _ s6 σ6 H6 _ I6 q6) fun f s7 q7 => ?_)
    have again : ∀ {σ7 : St} {H7 : Hp}, Inv X (pins ++ pinsAt fp s5.heap) σ7 H7 s7 → N σ7 H7 → ∃ m, m < n ∧ ∃ i σ' H', Inv X pins σ' H' s7 ∧ tn i s7.heap ∧ (∀ b ∈ fp, H' b = none) ∧ W i m σ' H' := fun {σ7 H7} I7 n7 => by
      obtain ⟨m', hm, w7⟩ := hN σ7 H7 n7
      refine ⟨m', hm, i + 1, σ7, H7, I7.unpinned, T.keep _ _ _ st5 fun b hb o e => (I7.pin (b, o) (List.mem_append_right _ (List.mem_append_right _ (mem_pinsAt hb e)))).1, fun b hb => ?_, w7⟩
      obtain ⟨o, e, d⟩ := T.obj _ _ st5 b hb
      exact (I7.pin (b, o) (List.mem_append_right _ (List.mem_append_right _ (mem_pinsAt hb e)))).2.1
    cases f with
    | next => obtain ⟨σ7, H7, I7, n7⟩ := q7; exact again I7 n7
    | cont => obtain ⟨σ7, H7, I7, n7⟩ := q7; exact again I7 n7
    | brk => obtain ⟨σ7, H7, I7, q7⟩ := q7; exact ⟨σ7, H7, I7.unpinned, q7⟩
    | ret v => obtain ⟨x7, σ7, H7, I7, r7, q7⟩ := q7; exact ⟨x7, σ7, H7, I7.unpinned, r7, q7⟩
end

theorem for_list {K : PySem.W.Frag} {a : Addr} {xs : List V} {g : TG} {tb : TS} {D : Ends} {σ : St} {H : Hp} (Pv : Nat → St → Hp → Prop) (h0 : Pv 0 σ H) (hl : ∀ i σ H, i ≤ xs.length → Pv i σ H → SqL K H a xs)
    (hs : ∀ i x σ H, xs[i]? = some x → Pv i σ H → g x σ H fun σ2 H2 => tb { D with nx := Pv (i + 1), ct := Pv (i + 1), bk := D.nx } σ2 H2) (hd : ∀ σ H, Pv xs.length σ H → D.nx σ H) :
    ∃ W : Nat → Nat → St → Hp → Prop, (∃ m, W 0 m σ H) ∧ ∀ i m σ H, W i m σ H →
      ((Itl K a).stop i H ∧ D.nx σ H) ∨ ((Itl K a).go i H ∧ ∃ N : St → Hp → Prop, (∀ σ' H', N σ' H' → ∃ m', m' < m ∧ W (i + 1) m' σ' H') ∧ ∀ x H', (Itl K a).yld i H x H' → g x σ H' fun σ2 H2 => tb { D with nx := N, ct := N, bk := D.nx } σ2 H2) := by
  refine ⟨fun i m σ H => m = xs.length - i ∧ i ≤ xs.length ∧ Pv i σ H, ⟨xs.length, by simp, Nat.zero_le _, h0⟩, ?_⟩
  rintro i m σ H ⟨rfl, hi, p⟩
  have q := hl i σ H hi p
  by_cases hlt : i < xs.length
  · refine .inr ⟨⟨xs, xs[i], q, by simp [hlt]⟩, Pv (i + 1), fun σ' H' p' => ⟨xs.length - (i + 1), by omega, rfl, hlt, p'⟩, fun x H' y => ?_⟩
    obtain ⟨e, y⟩ := y
    subst e
    exact hs i x σ _ (y xs q) p
  · have e : i = xs.length := by omega
    subst e
    exact .inl ⟨⟨xs, q, Nat.le_refl _⟩, hd σ H p⟩
theorem for_tup {K : PySem.W.Frag} {a : Addr} {xs : List V} {g : TG} {tb : TS} {D : Ends} {σ : St} {H : Hp} (Pv : Nat → St → Hp → Prop) (h0 : Pv 0 σ H) (hl : ∀ i σ H, i ≤ xs.length → Pv i σ H → SqT K H a xs)
    (hs : ∀ i x σ H, xs[i]? = some x → Pv i σ H → g x σ H fun σ2 H2 => tb { D with nx := Pv (i + 1), ct := Pv (i + 1), bk := D.nx } σ2 H2) (hd : ∀ σ H, Pv xs.length σ H → D.nx σ H) :
    ∃ W : Nat → Nat → St → Hp → Prop, (∃ m, W 0 m σ H) ∧ ∀ i m σ H, W i m σ H →
      ((Itt K a).stop i H ∧ D.nx σ H) ∨ ((Itt K a).go i H ∧ ∃ N : St → Hp → Prop, (∀ σ' H', N σ' H' → ∃ m', m' < m ∧ W (i + 1) m' σ' H') ∧ ∀ x H', (Itt K a).yld i H x H' → g x σ H' fun σ2 H2 => tb { D with nx := N, ct := N, bk := D.nx } σ2 H2) := by
  refine ⟨fun i m σ H => m = xs.length - i ∧ i ≤ xs.length ∧ Pv i σ H, ⟨xs.length, by simp, Nat.zero_le _, h0⟩, ?_⟩
  rintro i m σ H ⟨rfl, hi, p⟩
  have q := hl i σ H hi p
  by_cases hlt : i < xs.length
  · refine .inr ⟨⟨xs, xs[i], q, by simp [hlt]⟩, Pv (i + 1), fun σ' H' p' => ⟨xs.length - (i + 1), by omega, rfl, hlt, p'⟩, fun x H' y => ?_⟩
    obtain ⟨e, y⟩ := y
    subst e
    exact hs i x σ _ (y xs q) p
  · have e : i = xs.length := by omega
    subst e
    exact .inl ⟨⟨xs, q, Nat.le_refl _⟩, hd σ H p⟩
theorem for_range {lo : Int} {n : Nat} {g : TG} {tb : TS} {D : Ends} {σ : St} {H : Hp} (Pv : Nat → St → Hp → Prop) (h0 : Pv 0 σ H)
    (hs : ∀ i σ H, i < n → Pv i σ H → g (.int (lo + i)) σ H fun σ2 H2 => tb { D with nx := Pv (i + 1), ct := Pv (i + 1), bk := D.nx } σ2 H2) (hd : ∀ σ H, Pv n σ H → D.nx σ H) :
    ∃ W : Nat → Nat → St → Hp → Prop, (∃ m, W 0 m σ H) ∧ ∀ i m σ H, W i m σ H →
      ((Itr lo n).stop i H ∧ D.nx σ H) ∨ ((Itr lo n).go i H ∧ ∃ N : St → Hp → Prop, (∀ σ' H', N σ' H' → ∃ m', m' < m ∧ W (i + 1) m' σ' H') ∧ ∀ x H', (Itr lo n).yld i H x H' → g x σ H' fun σ2 H2 => tb { D with nx := N, ct := N, bk := D.nx } σ2 H2) := by
  refine ⟨fun i m σ H => m = n - i ∧ i ≤ n ∧ Pv i σ H, ⟨n, by simp, Nat.zero_le _, h0⟩, ?_⟩
  rintro i m σ H ⟨rfl, hi, p⟩
  by_cases hlt : i < n
  · refine .inr ⟨hlt, Pv (i + 1), fun σ' H' p' => ⟨n - (i + 1), by omega, rfl, hlt, p'⟩, fun x H' y => ?_⟩
    obtain ⟨e, y⟩ := y
    subst e y
    exact hs i σ _ hlt p
  · have e : i = n := by omega
    subst e
    exact .inl ⟨Nat.le_refl _, hd σ H p⟩
end L2

namespace L2
open PySem PySem.Spec PyProof.Rows

noncomputable abbrev R2 := V → V → Hp → VK → Prop
noncomputable def OpR (X : Cx) (f : Value → Value → Sem Value) (r : R2) : Prop :=
  ∀ (pins : List (Addr × Obj)) (s : Shared) (σ : St) (H : Hp) (x y : V) (v u : Value) (Q : VK), Inv X pins σ H s → RelV x v → RelV y u → r x y H Q →
    wpAny (model X.prog X.w) X.A (f v u) (EP X pins σ Q) X.xe s
noncomputable def UnR (X : Cx) (f : Value → Sem Value) (r : V → Hp → VK → Prop) : Prop :=
  ∀ (pins : List (Addr × Obj)) (s : Shared) (σ : St) (H : Hp) (x : V) (v : Value) (Q : VK), Inv X pins σ H s → RelV x v → r x H Q →
    wpAny (model X.prog X.w) X.A (f v) (EP X pins σ Q) X.xe s
noncomputable def CallR (X : Cx) (f : Value) (r : List V → Hp → VK → Prop) : Prop :=
  ∀ (pins : List (Addr × Obj)) (s : Shared) (σ : St) (H : Hp) (xs : List V) (us : List Value) (Q : VK), Inv X pins σ H s → Vals xs us → r xs H Q →
    wpAny (model X.prog X.w) X.A (call f us) (EP X pins σ Q) X.xe s
noncomputable def TruR (X : Cx) (r : V → Hp → (Bool → Hp → Prop) → Prop) : Prop :=
  ∀ (pins : List (Addr × Obj)) (s : Shared) (σ : St) (H : Hp) (x : V) (v : Value) (Q : Bool → Hp → Prop), Inv X pins σ H s → RelV x v → r x H Q →
    wpAny (model X.prog X.w) X.A (truthy v) (TP X pins σ Q) X.xe s

noncomputable def tOp (r : R2) (ta tb : TE) : TE := fun σ H Q => ta σ H fun x H1 => tb σ H1 fun y H2 => r x y H2 Q
noncomputable def tUn (r : V → Hp → VK → Prop) (ta : TE) : TE := fun σ H Q => ta σ H fun x H1 => r x H1 Q
noncomputable def rI (C : Int → Int → Prop) (g : Int → Int → V) : R2 := fun x y H Q => ∃ i j, x = .int i ∧ y = .int j ∧ C i j ∧ Q (g i j) H
noncomputable def rI0 (g : Int → Int → V) : R2 := fun x y H Q => ∃ i j, x = .int i ∧ y = .int j ∧ Q (g i j) H
noncomputable def rU (g : Int → V) : V → Hp → VK → Prop := fun x H Q => ∃ i, x = .int i ∧ Q (g i) H

section
variable {X : Cx} {a b c : Expr} {ta tb tc : TE} {pos : Pos}

theorem binT (ha : PE X a ta) (hb : PE X b tb) {pins : List (Addr × Obj)} {s : Shared} {σ : St} {H : Hp} {R : V → V → Hp → Prop} (I : Inv X pins σ H s)
    (h : ta σ H fun x H1 => tb σ H1 fun y H2 => R x y H2) {Q : Value → Shared → Prop} {f : Value → Value → Sem Value}
    (hf : ∀ v u s2 x y H2, Inv X pins σ H2 s2 → RelV x v → RelV y u → R x y H2 → wpAny (model X.prog X.w) X.A (f v u) Q X.xe s2) :
    wpAny (model X.prog X.w) X.A (eval a X.env) (fun v s₁ => wpAny (model X.prog X.w) X.A (eval b X.env) (fun u s₂ => wpAny (model X.prog X.w) X.A (f v u) Q X.xe s₂) X.xe s₁) X.xe s := by
  refine thn (ha pins s σ H _ I h) fun v s1 ⟨x, H1, I1, r1, q1⟩ => ?_
  refine thn (hb pins s1 σ H1 _ I1 q1) fun u s2 ⟨y, H2, I2, r2, q2⟩ => ?_
  exact hf v u s2 x y H2 I2 r1 r2 q2

theorem pe_op {op : Operator} {r : R2} (ho : OpR X (binaryOp op) r) (ha : PE X a ta) (hb : PE X b tb) : PE X (.BinOp a op b pos) (tOp r ta tb) := by
  intro pins s σ H Q I h
  exact wpAny_BinOp (binT ha hb I h fun v u s2 x y H2 I2 rx ry q => ho pins s2 σ H2 x y v u Q I2 rx ry q)
theorem pe_un {op : UnaryOp} {r : V → Hp → VK → Prop} (ho : UnR X (unaryOp op) r) (ha : PE X a ta) : PE X (.UnaryOp op a pos) (tUn r ta) := by
  intro pins s σ H Q I h
  exact UnaryOp_ (thn (ha pins s σ H _ I h) fun v s1 ⟨x, H1, I1, r1, q1⟩ => ho pins s1 σ H1 x v Q I1 r1 q1)
theorem opI {f : Value → Value → Sem Value} {C : Int → Int → Prop} {g : Int → Int → Int}
    (rule : ∀ (i j : Int) (t u : Tok) (s : Shared) (Q : Value → Shared → Prop) (E : Value → Shared → Prop), C i j → Q (.int (g i j) s.toks) { s with toks := s.toks + 1 } → wpAny (model X.prog X.w) X.A (f (.int i t) (.int j u)) Q E s) :
    OpR X f (rI C fun i j => .int (g i j)) := by
  intro pins s σ H x y v u Q I rx ry h
  obtain ⟨i, j, rfl, rfl, hc, q⟩ := h
  obtain ⟨t, rfl⟩ := rx
  obtain ⟨t', rfl⟩ := ry
  exact rule i j t t' s _ _ hc ⟨.int (g i j), H, I.tok _, ⟨_, rfl⟩, q⟩
theorem opI0 {f : Value → Value → Sem Value} {g : Int → Int → Int}
    (rule : ∀ (i j : Int) (t u : Tok) (s : Shared) (Q : Value → Shared → Prop) (E : Value → Shared → Prop), Q (.int (g i j) s.toks) { s with toks := s.toks + 1 } → wpAny (model X.prog X.w) X.A (f (.int i t) (.int j u)) Q E s) :
    OpR X f (rI0 fun i j => .int (g i j)) := by
  intro pins s σ H x y v u Q I rx ry h
  obtain ⟨i, j, rfl, rfl, q⟩ := h
  obtain ⟨t, rfl⟩ := rx
  obtain ⟨t', rfl⟩ := ry
  exact rule i j t t' s _ _ ⟨.int (g i j), H, I.tok _, ⟨_, rfl⟩, q⟩
theorem opB0 {f : Value → Value → Sem Value} {g : Int → Int → Bool}
    (rule : ∀ (i j : Int) (t u : Tok) (s : Shared) (Q : Value → Shared → Prop) (E : Value → Shared → Prop), Q (.bool (g i j)) s → wpAny (model X.prog X.w) X.A (f (.int i t) (.int j u)) Q E s) :
    OpR X f (rI0 fun i j => .bl (g i j)) := by
  intro pins s σ H x y v u Q I rx ry h
  obtain ⟨i, j, rfl, rfl, q⟩ := h
  obtain ⟨t, rfl⟩ := rx
  obtain ⟨t', rfl⟩ := ry
  exact rule i j t t' s _ _ ⟨.bl (g i j), H, I, rfl, q⟩

noncomputable def CDiv (i j : Int) : Prop := 0 < j ∧ j < 1073741824
noncomputable def CPow (i j : Int) : Prop := 0 ≤ j ∧ j ≤ 1000000 ∧ i.natAbs < 2 ^ 64
noncomputable def CMul (i j : Int) : Prop := (-(2 ^ 64) < i ∧ i < 2 ^ 64) ∨ (-(2 ^ 64) < j ∧ j < 2 ^ 64)
theorem CMul.ok {i j : Int} (h : CMul i j) : IntMulOk i j := by
  rcases h with ⟨h1, h2⟩ | ⟨h1, h2⟩
  · exact .of_left (intBits_le_64 h1 h2)
  · exact .of_right (intBits_le_64 h1 h2)
theorem op_add : OpR X (binaryOp .Add) (rI0 fun i j => .int (i + j)) := opI0 fun _ _ _ _ _ _ _ q => add_int q
theorem op_sub : OpR X (binaryOp .Sub) (rI0 fun i j => .int (i - j)) := opI0 fun _ _ _ _ _ _ _ q => sub_int q
theorem op_mul : OpR X (binaryOp .Mult) (rI CMul fun i j => .int (i * j)) := opI fun _ _ _ _ _ _ _ hc q => mul_int q hc.ok
theorem op_fdiv : OpR X (binaryOp .FloorDiv) (rI CDiv fun i j => .int (i / j)) := opI fun i j _ _ _ _ _ hc q => by
  have h1 : (0 : Int) < j := hc.1
  have h2 : j < 1073741824 := hc.2
  exact floordiv_int (by omega) (by rw [Int.fdiv_eq_ediv_of_nonneg i (by omega)]; exact q) (.inl (PyProof.noPylong_small (by omega)))
theorem op_mod : OpR X (binaryOp .Mod) (rI (fun _ j => 0 < j) fun i j => .int (i % j)) := opI fun i j _ _ _ _ _ hc q => by
  have h1 : (0 : Int) < j := hc
  exact mod_int' (by omega) (by rw [Int.fmod_eq_emod_of_nonneg i (by omega)]; exact q)
theorem op_pow : OpR X (binaryOp .Pow) (rI CPow fun i j => .int (i ^ j.toNat)) := opI fun _ _ _ _ _ _ _ hc q => pow_int_small hc.1 hc.2.1 hc.2.2 q
theorem unI {f : Value → Sem Value} {g : Int → Int}
    (rule : ∀ (i : Int) (t : Tok) (s : Shared) (Q : Value → Shared → Prop) (E : Value → Shared → Prop), Q (.int (g i) s.toks) { s with toks := s.toks + 1 } → wpAny (model X.prog X.w) X.A (f (.int i t)) Q E s) :
    UnR X f (rU fun i => .int (g i)) := by
  intro pins s σ H x v Q I rx h
  obtain ⟨i, rfl, q⟩ := h
  obtain ⟨t, rfl⟩ := rx
  exact rule i t s _ _ ⟨.int (g i), H, I.tok _, ⟨_, rfl⟩, q⟩
theorem un_neg : UnR X (unaryOp .USub) (rU fun i => .int (-i)) := unI fun _ _ _ _ _ q => neg_int q
end

noncomputable def scal : V → V → Bool
  | .non, .non => true | .non, .int _ => true | .int _, .non => true | .non, .bl _ => true | .bl _, .non => true | .non, .str _ => true | .str _, .non => true
  | .int _, .int _ => true | .bl _, .bl _ => true | .str _, .str _ => true | .byt _, .byt _ => true
  | .int _, .str _ => true | .str _, .int _ => true | .bl _, .str _ => true | .str _, .bl _ => true
  | _, _ => false
noncomputable def rEq : R2 := fun x y H Q => scal x y = true ∧ Q (.bl (decide (x = y))) H
noncomputable def rNe : R2 := fun x y H Q => scal x y = true ∧ Q (.bl (!decide (x = y))) H

theorem dec_int {i j : Int} : decide (V.int i = V.int j) = (i == j) := by
  rw [Bool.eq_iff_iff]
  simp
theorem dec_bl {i j : Bool} : decide (V.bl i = V.bl j) = (i == j) := by
  rw [Bool.eq_iff_iff]
  simp
theorem dec_str {i j : Str} : decide (V.str i = V.str j) = (i == j) := by
  rw [Bool.eq_iff_iff]
  simp
theorem dec_byt {i j : Array UInt8} : decide (V.byt i = V.byt j) = (i.toList == j.toList) := by
  rw [Bool.eq_iff_iff]
  cases i
  cases j
  simp

section
variable {X : Cx} {a b c : Expr} {ta tb tc : TE} {pos : Pos}
theorem fin_bl {pins : List (Addr × Obj)} {σ : St} {H : Hp} {s : Shared} {Q : VK} {k k' : Bool} (I : Inv X pins σ H s) (q : Q (.bl k) H) (e : k = k') : EP X pins σ Q (.bool k') s := by
  subst e
  exact ⟨.bl k, H, I, rfl, q⟩
theorem op_eq : OpR X (compareOp .Eq) rEq := by
  intro pins s σ H x y v u Q I rx ry h
  obtain ⟨hs, q⟩ := h
  cases x with
  | non =>
    cases rx
    cases y with
    | non => cases ry; exact PySem.EqNone.eq_none_none (fin_bl I q (by simp))
    | bl j => cases ry; exact PySem.EqNone.eq_none_bool (fin_bl I q (by simp))
    | int j => obtain ⟨t', rfl⟩ := ry; exact PySem.EqNone.eq_none_int (fin_bl I q (by simp))
    | str j => obtain ⟨t', rfl⟩ := ry; exact PySem.EqNone.eq_none_str (fin_bl I q (by simp))
    | _ => exact absurd (show false = true from hs) Bool.false_ne_true
  | bl i =>
    cases rx
    cases y with
    | non => cases ry; exact PySem.EqNone.eq_bool_none (fin_bl I q (by simp))
    | bl j => cases ry; exact eq_bool (fin_bl I q dec_bl)
    | str j => obtain ⟨t', rfl⟩ := ry; exact PySem.EqMixed.eq_bool_str (fin_bl I q (by simp))
    | _ => exact absurd (show false = true from hs) Bool.false_ne_true
  | int i =>
    obtain ⟨t, rfl⟩ := rx
    cases y with
    | non => cases ry; exact PySem.EqNone.eq_int_none (fin_bl I q (by simp))
    | int j => obtain ⟨t', rfl⟩ := ry; exact eq_int (fin_bl I q dec_int)
    | str j => obtain ⟨t', rfl⟩ := ry; exact PySem.EqMixed.eq_int_str (fin_bl I q (by simp))
    | _ => exact absurd (show false = true from hs) Bool.false_ne_true
  | str i =>
    obtain ⟨t, rfl⟩ := rx
    cases y with
    | non => cases ry; exact PySem.EqNone.eq_str_none (fin_bl I q (by simp))
    | bl j => cases ry; exact PySem.EqMixed.eq_str_bool (fin_bl I q (by simp))
    | int j => obtain ⟨t', rfl⟩ := ry; exact PySem.EqMixed.eq_str_int (fin_bl I q (by simp))
    | str j => obtain ⟨t', rfl⟩ := ry; exact eq_str (fin_bl I q dec_str)
    | _ => exact absurd (show false = true from hs) Bool.false_ne_true
  | byt i =>
    obtain ⟨t, rfl⟩ := rx
    cases y with
    | byt j => obtain ⟨t', rfl⟩ := ry; exact PySem.W.eq_bytes (fin_bl I q dec_byt)
    | _ => exact absurd (show false = true from hs) Bool.false_ne_true
  | _ => cases y <;> exact absurd (show false = true from hs) Bool.false_ne_true
theorem op_ne : OpR X (compareOp .NotEq) rNe := by
  intro pins s σ H x y v u Q I rx ry h
  obtain ⟨hs, q⟩ := h
  cases x with
  | non =>
    cases rx
    cases y with
    | non => cases ry; exact PySem.EqNone.ne_none_none (fin_bl I q (by simp))
    | bl j => cases ry; exact PySem.EqNone.ne_none_bool (fin_bl I q (by simp))
    | int j => obtain ⟨t', rfl⟩ := ry; exact PySem.EqNone.ne_none_int (fin_bl I q (by simp))
    | str j => obtain ⟨t', rfl⟩ := ry; exact PySem.EqNone.ne_none_str (fin_bl I q (by simp))
    | _ => exact absurd (show false = true from hs) Bool.false_ne_true
  | bl i =>
    cases rx
    cases y with
    | non => cases ry; exact PySem.EqNone.ne_bool_none (fin_bl I q (by simp))
    | bl j => cases ry; exact ne_bool (fin_bl I q (congrArg not dec_bl))
    | str j => obtain ⟨t', rfl⟩ := ry; exact PySem.EqMixed.ne_bool_str (fin_bl I q (by simp))
    | _ => exact absurd (show false = true from hs) Bool.false_ne_true
  | int i =>
    obtain ⟨t, rfl⟩ := rx
    cases y with
    | non => cases ry; exact PySem.EqNone.ne_int_none (fin_bl I q (by simp))
    | int j => obtain ⟨t', rfl⟩ := ry; exact ne_int (fin_bl I q (congrArg not dec_int))
    | str j => obtain ⟨t', rfl⟩ := ry; exact PySem.EqMixed.ne_int_str (fin_bl I q (by simp))
    | _ => exact absurd (show false = true from hs) Bool.false_ne_true
  | str i =>
    obtain ⟨t, rfl⟩ := rx
    cases y with
    | non => cases ry; exact PySem.EqNone.ne_str_none (fin_bl I q (by simp))
    | bl j => cases ry; exact PySem.EqMixed.ne_str_bool (fin_bl I q (by simp))
    | int j => obtain ⟨t', rfl⟩ := ry; exact PySem.EqMixed.ne_str_int (fin_bl I q (by simp))
    | str j => obtain ⟨t', rfl⟩ := ry; exact ne_str (fin_bl I q (congrArg not dec_str))
    | _ => exact absurd (show false = true from hs) Bool.false_ne_true
  | byt i =>
    obtain ⟨t, rfl⟩ := rx
    cases y with
    | byt j => obtain ⟨t', rfl⟩ := ry; exact PySem.W.ne_bytes (fin_bl I q (congrArg not dec_byt))
    | _ => exact absurd (show false = true from hs) Bool.false_ne_true
  | _ => cases y <;> exact absurd (show false = true from hs) Bool.false_ne_true

theorem op_lt : OpR X (compareOp .Lt) (rI0 fun i j => .bl (decide (i < j))) := opB0 fun _ _ _ _ _ _ _ q => lt_int q
theorem op_le : OpR X (compareOp .LtE) (rI0 fun i j => .bl (decide (i ≤ j))) := opB0 fun _ _ _ _ _ _ _ q => le_int q
theorem op_gt : OpR X (compareOp .Gt) (rI0 fun i j => .bl (decide (j < i))) := opB0 fun _ _ _ _ _ _ _ q => gt_int q
theorem op_isN : OpR X (compareOp .Is) (fun x y H Q => y = .non ∧ Q (.bl (decide (x = .non))) H) := by
  intro pins s σ H x y v u Q I rx ry h
  obtain ⟨rfl, q⟩ := h
  cases ry
  refine is_none_gen (fin_bl I q ?_)
  cases x <;> first
    | (cases rx; rfl)
    | (obtain ⟨t, rfl⟩ := rx; rfl)
theorem op_notN : OpR X (compareOp .IsNot) (fun x y H Q => y = .non ∧ Q (.bl (!decide (x = .non))) H) := by
  intro pins s σ H x y v u Q I rx ry h
  obtain ⟨rfl, q⟩ := h
  cases ry
  refine isnot_none_gen (fin_bl I q ?_)
  cases x <;> first
    | (cases rx; rfl)
    | (obtain ⟨t, rfl⟩ := rx; rfl)

theorem nomark (b : Expr) {op : CmpOp} (h : op ≠ .In := by decide) (h2 : op ≠ .NotIn := by decide) : behindInMarks op b = false := by
  have e1 : (op == CmpOp.In) = false := by cases op <;> first | rfl | exact absurd rfl h
  have e2 : (op == CmpOp.NotIn) = false := by cases op <;> first | rfl | exact absurd rfl h2
  cases b <;> simp [behindInMarks, e1, e2]
theorem pe_cmpR {op : CmpOp} {r : R2} (ho : OpR X (compareOp op) r) (ha : PE X a ta) (hb : PE X b tb) (hm : behindInMarks op b = false) : PE X (.Compare a [op] [b] pos) (tOp r ta tb) := by
  intro pins s σ H Q I h
  exact wpAny_Compare1 (binT ha hb I h fun v u s2 x y H2 I2 rx ry q => ho pins s2 σ H2 x y v u Q I2 rx ry q) hm
noncomputable def tTest (t : TE) : TT := fun σ H Q => t σ H fun x H' => ∃ k, x = .bl k ∧ Q k H'
theorem pt_cmpR {op : CmpOp} {r : R2} (ho : OpR X (compareOp op) r) (ha : PE X a ta) (hb : PE X b tb) (hm : behindInMarks op b = false) : PT X (.Compare a [op] [b] pos) (tTest (tOp r ta tb)) := by
  intro pins s σ H Q I h
  refine wpAny_isTrue_Compare1 (thn (ha pins s σ H _ I h) fun v s1 ⟨x, H1, I1, r1, q1⟩ => thn (hb pins s1 σ H1 _ I1 q1) fun u s2 ⟨y, H2, I2, r2, q2⟩ =>
    thn (ho pins s2 σ H2 x y v u _ I2 r1 r2 q2) fun c s3 ⟨z, H3, I3, r3, k, e, q3⟩ => ?_) hm
  subst e
  cases r3
  exact wpAny_truthy_bool ⟨H3, I3, q3⟩
noncomputable def tChain (r r' : R2) (ta tb tc : TE) : TE := fun σ H Q => ta σ H fun x H1 => tb σ H1 fun y H2 => r x y H2 fun z H3 => ∃ k, z = .bl k ∧
  (if k = true then tc σ H3 fun w' H4 => r' y w' H4 Q else Q (.bl false) H3)
theorem pt_chain {op op' : CmpOp} {r r' : R2} (ho : OpR X (compareOp op) r) (ho' : OpR X (compareOp op') r') (ha : PE X a ta) (hb : PE X b tb) (hc : PE X c tc)
    (hm : lastMarks [op, op'] [b, c] = false := by with_unfolding_all rfl) : PT X (.Compare a [op, op'] [b, c] pos) (tTest (tChain r r' ta tb tc)) := by
  intro pins s σ H Q I h
  refine isTrue_chain (thn (ha pins s σ H _ I h) fun v s1 ⟨x, H1, I1, r1, q1⟩ => test_link (thn (hb pins s1 σ H1 _ I1 q1) fun u s2 ⟨y, H2, I2, r2, q2⟩ =>
    thn (ho pins s2 σ H2 x y v u _ I2 r1 r2 q2) fun d s3 ⟨z, H3, I3, r3, k, e, q3⟩ => ?_)) hm
  subst e
  cases r3
  refine wpAny_truthy_bool ?_
  cases k with
  | false =>
    obtain ⟨k', e', q'⟩ := q3
    cases e'
    exact ite_ff ⟨H3, I3, q'⟩
  | true =>
    refine ite_tt (test_last (thn (hc pins s3 σ H3 _ I3 q3) fun w' s4 ⟨z', H4, I4, r4, q4⟩ => thn (ho' pins s4 σ H4 y z' u w' _ I4 r2 r4 q4) fun d' s5 ⟨z2, H5, I5, r5, k2, e2, q5⟩ => ?_))
    subst e2
    cases r5
    exact wpAny_truthy_bool ⟨H5, I5, q5⟩

noncomputable def TruV (K : PySem.W.Frag) (x : V) (H : Hp) (k : Bool) : Prop :=
  match x with
  | .non => k = false
  | .bl b => k = b
  | .int i => k = (i != 0)
  | .str y => y.length ≤ sizeLine ∧ k = ((y.length : Int) != 0)
  | .byt y => y.size ≤ sizeLine ∧ k = ((y.size : Int) != 0)
  | .ref p => (∃ xs, SqL K H p xs ∧ k = !xs.isEmpty) ∨ (∃ xs, SqT K H p xs ∧ k = !xs.isEmpty) ∨ ∃ kvs, H p = some (.dK kvs) ∧ k = !kvs.isEmpty
  | _ => False
theorem isEmpty_kv {κ : Type} {kvs : List (κ × V)} {vs : List (κ × Value)} (r : KV kvs vs) : (!vs.isEmpty) = !kvs.isEmpty := by
  cases r <;> rfl
theorem isEmpty_of {xs : List V} {its : List Value} (r : Vals xs its) : (!its.toArray.isEmpty) = !xs.isEmpty := by
  cases r <;> simp
theorem line63 : (sizeLine : Nat) < 2 ^ 63 := by rw [sizeLine_eq]; decide
theorem tru_ok : TruR X (fun x H Q => ∃ k, TruV X.K x H k ∧ Q k H) := by
  intro pins s σ H x v Q I rx h
  obtain ⟨k, e, q⟩ := h
  have hl := line63
  have hs : sizeLine = 16777216 := sizeLine_eq
  cases x with
  | non =>
    cases rx
    have e' : k = false := e
    subst e'
    exact truthy_none ⟨H, I, q⟩
  | bl b =>
    cases rx
    have e' : k = b := e
    subst e'
    exact wpAny_truthy_bool ⟨H, I, q⟩
  | int i =>
    obtain ⟨t, rfl⟩ := rx
    have e' : k = (i != 0) := e
    subst e'
    exact PySem.P.truthy_int ⟨H, I, q⟩
  | str y =>
    obtain ⟨t, rfl⟩ := rx
    obtain ⟨hy, e'⟩ : y.length ≤ sizeLine ∧ k = ((y.length : Int) != 0) := e
    subst e'
    exact PySem.P.truthy_str (by omega) ⟨H, I.tok _, q⟩
  | byt y =>
    obtain ⟨t, rfl⟩ := rx
    obtain ⟨hy, e'⟩ : y.size ≤ sizeLine ∧ k = ((y.size : Int) != 0) := e
    subst e'
    exact PySem.W.truthy_bytes (by omega) ⟨H, I.tok _, q⟩
  | ref p =>
    cases rx
    have e' : (∃ xs, SqL X.K H p xs ∧ k = !xs.isEmpty) ∨ (∃ xs, SqT X.K H p xs ∧ k = !xs.isEmpty) ∨ ∃ kvs, H p = some (.dK kvs) ∧ k = !kvs.isEmpty := e
    rcases e' with ⟨xs, hx, e'⟩ | ⟨xs, hx, e'⟩ | ⟨kvs, hx, e'⟩
    · subst e'
      obtain ⟨its, r, pl, hz⟩ := I.list hx
      have hlen := r.length
      exact wpAny_truthy_list pl.isList (by simp only [List.size_toArray]; omega) ⟨H, I.tok _, by rw [isEmpty_of r]; exact q⟩
    · subst e'
      obtain ⟨its, r, pl, hz⟩ := I.tuple hx
      have hlen := r.length
      exact truthy_tuple pl (by simp only [List.size_toArray]; omega) ⟨H, I.tok _, by rw [isEmpty_of r]; exact q⟩
    · subst e'
      obtain ⟨hz, hS, vs, r, m⟩ : kvs.length ≤ sizeLine ∧ (p == sysModules) = false ∧ ∃ vs, KV kvs vs ∧ s.heap.DictOf (mixKind X.prog X.w) p vs := I.hok p _ hx
      have hlen : kvs.length = vs.length := Paired.length r
      exact wpAny_truthy_dict hS m (by omega) ⟨H, I.tok _, by rw [isEmpty_kv r]; exact q⟩
  | _ => exact (show False from e).elim
theorem pt_truth (ha : PE X a ta) (he : ∀ whole, isTrue a X.env whole = (do let v ← whole; standAt a.pos; holding [v] (truthy v))) :
    PT X a (fun σ H Q => ta σ H fun x H' => ∃ k, TruV X.K x H' k ∧ Q k H') := by
  intro pins s σ H Q I h
  exact isTrue_plain (thn (ha pins s σ H _ I h) fun v s1 ⟨x, H1, I1, r1, q1⟩ => tru_ok pins s1 σ H1 x v Q I1 r1 q1) (he _)

theorem op_add_str : OpR X (binaryOp .Add) (fun x y H Q => ∃ i j, x = .str i ∧ y = .str j ∧ i.length + j.length ≤ sizeLine ∧ Q (.str (i ++ j)) H) := by
  intro pins s σ H x y v u Q I rx ry h
  obtain ⟨i, j, rfl, rfl, hz, q⟩ := h
  obtain ⟨t, rfl⟩ := rx
  obtain ⟨t', rfl⟩ := ry
  exact add_str (fun t' tk => ⟨.str (i ++ j), H, I.tok _, ⟨_, rfl⟩, q⟩) hz
theorem vals1 {x : V} {us : List Value} (r : Vals [x] us) : ∃ u, us = [u] ∧ RelV x u := by
  cases r with
  | cons r1 r2 => cases r2; exact ⟨_, rfl, r1⟩
theorem vals2 {x y : V} {us : List Value} (r : Vals [x, y] us) : ∃ u w', us = [u, w'] ∧ RelV x u ∧ RelV y w' := by
  cases r with
  | cons r1 r2 =>
    cases r2 with
    | cons r3 r4 => cases r4; exact ⟨_, _, rfl, r1, r3⟩
theorem call_max2 (hc : X.calm = true) : CallR X (.builtin "max") (fun xs H Q => ∃ i j, xs = [.int i, .int j] ∧ Q (.int (if j > i then j else i)) H) := by
  intro pins s σ H xs us Q I r h
  obtain ⟨i, j, rfl, q⟩ := h
  obtain ⟨u, w', rfl, ⟨t, rfl⟩, ⟨t', rfl⟩⟩ := vals2 r
  refine max_two_ints (I.ok.hd hc) fun h' tk k => ⟨_, H, I.kept k, ?_, q⟩
  by_cases hj : j > i
  · rw [if_pos hj, if_pos hj]; exact ⟨_, rfl⟩
  · rw [if_neg hj, if_neg hj]; exact ⟨_, rfl⟩
theorem call_min2 (hc : X.calm = true) : CallR X (.builtin "min") (fun xs H Q => ∃ i j, xs = [.int i, .int j] ∧ Q (.int (if j < i then j else i)) H) := by
  intro pins s σ H xs us Q I r h
  obtain ⟨i, j, rfl, q⟩ := h
  obtain ⟨u, w', rfl, ⟨t, rfl⟩, ⟨t', rfl⟩⟩ := vals2 r
  refine min_two_ints (I.ok.hd hc) fun h' tk k => ⟨_, H, I.kept k, ?_, q⟩
  by_cases hj : j < i
  · rw [if_pos hj, if_pos hj]; exact ⟨_, rfl⟩
  · rw [if_neg hj, if_neg hj]; exact ⟨_, rfl⟩
end
end L2

namespace L2
open PySem PySem.Spec PyProof.Rows

structure ObjM (h : Heap) (x dx C : Addr) (mA : Str → Option Value) : Prop where
  obj : h.get? x = some (PySem.W.instObj C dx)
  ns : h.Ns1 dx mA
  ne : dx ≠ x

theorem lookIn_ns {h : Heap} {dx : Addr} {mA : Str → Option Value} (n : h.Ns1 dx mA) : ∃ od, h.get? dx = some od ∧ ∀ name, PySem.W.lookIn name od = some (mA name) := by
  obtain ⟨o, es, ep, ho, hd, hk, _, hm⟩ := n
  refine ⟨o, ho, fun name => ?_⟩
  have e := hm name
  unfold nsFind findBy at e
  rw [← Array.find?_toList] at e
  unfold PySem.W.lookIn
  rw [hd]
  dsimp only
  split
  · rename_i y q
    rw [q] at e
    exact congrArg some e
  · rename_i q
    rw [q] at e
    have a : es.toList.any (·.refKey) = false := by
      rw [List.any_eq_false]
      intro y hy
      obtain ⟨z, t, hkey⟩ := hk y (Array.mem_toList_iff.mp hy)
      simp [DictEntry.refKey, hkey]
    have a' : ¬ es.toList.any (·.refKey) = true := by rw [a]; exact Bool.false_ne_true
    rw [if_neg a']
    exact congrArg some e

theorem ObjM.look {h : Heap} {x dx C : Addr} {mA : Str → Option Value} (I : ObjM h x dx C mA) : ∃ od, PySem.W.InstAt h x (PySem.W.instObj C dx) C (some od) ∧ ∀ name, PySem.W.lookIn name od = some (mA name) :=
  let ⟨od, ho, hl⟩ := lookIn_ns I.ns
  ⟨od, ⟨I.obj, rfl, rfl, ho⟩, hl⟩

section
variable {prog : Program} {w : World} {A : Around} {E : Value → Shared → Prop} {s : Shared} {K : PySem.W.Frag} {x dx C f : Addr} {mA : Str → Option Value} {name : Str} {v : Value}

theorem get_map {expr : Bool} {Q : Value → Shared → Prop} (X : K.In s.heap) (I : ObjM s.heap x dx C mA) (hg : PySem.W.plainGet K C name = true) (hh : PySem.W.hasDictIn K C = true)
    (ha : PySem.W.findIn K (.ref C) name = some none) (hv : mA name = some v) (hv' : PySem.W.handedIn v = true) (h : Q v { s with toks := s.toks + 1 }) :
    wpAny (model prog w) A (getAttr (.ref x) name expr) Q E s := by
  obtain ⟨od, J, hl⟩ := I.look
  exact PySem.W.get_value X J (PySem.W.plainGet_of hg).1 (PySem.W.findObj_own hh ha rfl (by rw [hl, hv])) hv' h

theorem set_map {ns : List Str} {Q : Unit → Shared → Prop} (X : K.In s.heap) (I : ObjM s.heap x dx C mA)
    (hs : PySem.W.findIn K (.ref C) "__setattr__" = some (some (.builtin "object.__setattr__"))) (hp : PySem.W.plainOver K C = true) (ht : PySem.W.takerIn K C name = some none) (hh : PySem.W.hasDictIn K C = true)
    (hw : PySem.Within mA ns) (hsz : ns.length ≤ sizeLine)
    (h : ∀ h', ObjM h' x dx C (fun y => if y = name then some v else mA y) → Heap.SameBut dx s.heap h' → Q () { s with heap := h', toks := s.toks + 2 }) :
    wpAny (model prog w) A (setAttr (.ref x) name v) Q E s := by
  obtain ⟨od, J, hl⟩ := I.look
  refine PySem.W.set_plain X J hs (PySem.W.osa_open (s := { s with toks := s.toks + 1 }) (r := none) X J hp ht fun b => ?_)
  obtain ⟨cd, hc, hd'⟩ := PySem.W.any_some hh
  have hx : s.heap.get? x = some ⟨.ref C, some dx, .plain, #[]⟩ := I.obj
  refine wpAny_bind (wpAny_pure (wpAny_bind (wpAny_bind (wpAny_loadPart hx (wpAny_bind (PySem.W.Looks.here (s := { s with toks := s.toks + 1 }) (PySem.W.looks_clsIn X hc) ?_))))))
  rw [hd']
  refine wpAny_pure (a := some dx) (wpAny_bind (wpAny_pure (wpAny_bind ?_)))
  refine wpAny_nsSet1 (s := { s with toks := s.toks + 1 }) I.ns fun h' hn2 hs2 => ?_
  obtain ⟨oD, esD, epD, hoD, hdD, hcD⟩ := hn2.count (PySem.Within.cons name v hw)
  refine wpAny_bind (wpAny_lookBehind hoD (by rw [hdD]; exact pastItsLine_dict (Nat.le_trans hcD (by rw [List.length_cons]; omega))) ?_)
  exact wpAny_pure (h _ ⟨(hs2.2 _ (Ne.symm I.ne)).trans I.obj, hn2, I.ne⟩ hs2)

theorem make_map {R : Result → Shared → Prop} {vs : List Value} {kw : List (Str × Value)} (X : K.In s.heap) (hm : PySem.W.makesIn K C = true)
    (hi : PySem.W.findIn K (.ref C) "__init__" = some (some (.ref f))) (hf : PySem.W.typeIn K (.ref f) = some (.type "function"))
    (h : codeAny (model prog w) (A.under (.builtin "type.__call__" ⟨.ref C :: vs, kw⟩)) (.call (.ref f) ⟨.ref (s.heap.objs.size + 1) :: vs, kw⟩) (PySem.W.InitBack (s.heap.objs.size + 1) R)
      { s with heap := (s.heap.push PySem.W.emptyDict).push (PySem.W.instObj C s.heap.objs.size) }) :
    codeAny (model prog w) A (.call (.ref C) ⟨vs, kw⟩) R s := by
  obtain ⟨hh, g, d, t, os⟩ := s
  exact PySem.W.make_core (PySem.W.makes_of X hm) (PySem.W.looks_findIn X hi) (fun self => PySem.W.bind_fn X self hf) (.inl rfl) h
end

noncomputable def putF (f : Str) (v : V) : List (Str × V) → List (Str × V)
  | [] => [(f, v)]
  | (g, x) :: r => if g = f then (g, v) :: r else (g, x) :: putF f v r
theorem lookup_putF (f g : Str) (v : V) : ∀ fs : List (Str × V), (putF f v fs).lookup g = if g = f then some v else fs.lookup g
  | [] => by
    show List.lookup g [(f, v)] = _
    by_cases h : g = f
    · have hb : (g == f) = true := beq_iff_eq.mpr h
      simp only [List.lookup, hb, if_pos h]
    · have hb : (g == f) = false := beq_eq_false_iff_ne.mpr h
      simp only [List.lookup, hb, if_neg h]
  | (k, x) :: r => by
    have ih := lookup_putF f g v r
    rw [show putF f v ((k, x) :: r) = (if k = f then (k, v) :: r else (k, x) :: putF f v r) from rfl]
    by_cases hk : k = f
    · rw [if_pos hk]
      by_cases h : g = k
      · have hb : (g == k) = true := beq_iff_eq.mpr h
        simp only [List.lookup, hb, if_pos (h.trans hk)]
      · have hb : (g == k) = false := beq_eq_false_iff_ne.mpr h
        simp only [List.lookup, hb, if_neg (fun e : g = f => h (e.trans hk.symm))]
    · rw [if_neg hk]
      by_cases h : g = k
      · have hb : (g == k) = true := beq_iff_eq.mpr h
        simp only [List.lookup, hb, if_neg (fun e : g = f => hk (h.symm.trans e))]
      · have hb : (g == k) = false := beq_eq_false_iff_ne.mpr h
        simp only [List.lookup, hb]
        exact ih
theorem keys_putF (f : Str) (v : V) : ∀ fs : List (Str × V), f ∈ (putF f v fs).map (·.1) ∧ ∀ g, g ∈ fs.map (·.1) → g ∈ (putF f v fs).map (·.1)
  | [] => ⟨by simp [putF], fun g h => by simp at h⟩
  | (k, x) :: r => by
    obtain ⟨i1, i2⟩ := keys_putF f v r
    rw [show putF f v ((k, x) :: r) = (if k = f then (k, v) :: r else (k, x) :: putF f v r) from rfl]
    by_cases hk : k = f
    · rw [if_pos hk]
      subst hk
      exact ⟨by simp, fun g h => by simpa using h⟩
    · rw [if_neg hk]
      refine ⟨?_, fun g h => ?_⟩
      · rw [List.map_cons]
        exact List.mem_cons_of_mem _ i1
      · rw [List.map_cons] at h ⊢
        rcases List.mem_cons.mp h with e | e
        · exact List.mem_cons.mpr (.inl e)
        · exact List.mem_cons_of_mem _ (i2 g e)
theorem length_putF (f : Str) (v : V) : ∀ fs : List (Str × V), (putF f v fs).length ≤ fs.length + 1
  | [] => by simp [putF]
  | (k, x) :: r => by
    have ih := length_putF f v r
    rw [show putF f v ((k, x) :: r) = (if k = f then (k, v) :: r else (k, x) :: putF f v r) from rfl]
    by_cases hk : k = f
    · rw [if_pos hk, List.length_cons, List.length_cons]; omega
    · rw [if_neg hk, List.length_cons, List.length_cons]; omega

theorem RelO.some_of {v : V} {o : Option Value} (r : RelO (some v) o) : ∃ u, o = some u ∧ RelV v u := by
  cases o with
  | none => exact (show False from r).elim
  | some u => exact ⟨u, rfl, r⟩
theorem handed_of {v : V} {u : Value} (r : RelV v u) : PySem.W.handedIn u = true := by
  cases v with
  | non => cases (show u = Value.none from r); rfl
  | bl b => cases (show u = Value.bool b from r); rfl
  | int i => obtain ⟨t, e⟩ := (show ∃ t, u = Value.int i t from r); cases e; rfl
  | str x => obtain ⟨t, e⟩ := (show ∃ t, u = Value.str x t from r); cases e; rfl
  | byt b => obtain ⟨t, e⟩ := (show ∃ t, u = Value.bytes b t from r); cases e; rfl
  | flt b => obtain ⟨t, e⟩ := (show ∃ t, u = Value.float b t from r); cases e; rfl
  | ref a => cases (show u = Value.ref a from r); rfl
  | ty n => cases (show u = Value.type n from r); rfl

section
variable {P : Program} {w : World} {H H' : Hp} {h h' : Heap} {a C dx : Addr} {fs fs' : List (Str × V)}
theorem ins_get (hok : HOk P w H h) (e : H a = some (.ins C dx fs)) : ∃ mA, ObjM h a dx C mA ∧ (∀ f, RelO (fs.lookup f) (mA f)) ∧ PySem.Within mA (fs.map (·.1)) ∧ fs.length ≤ 1000 ∧ H dx = some (.own a) := by
  obtain ⟨d, z, ne, ob, mA, n, r, q⟩ := (show ObjOk P w H h a (.ins C dx fs) from hok a _ e)
  exact ⟨mA, ⟨ob, n, ne⟩, r, q, z, d⟩
end

structure Cls (K : PySem.W.Frag) (C : Addr) : Prop where
  pg : PySem.W.plainGet K C Str.empty = true
  hd : PySem.W.hasDictIn K C = true
  po : PySem.W.plainOver K C = true
  sa : PySem.W.findIn K (.ref C) "__setattr__" = some (some (.builtin "object.__setattr__"))
theorem Cls.get {K : PySem.W.Frag} {C : Addr} (c : Cls K C) (f : Str) : PySem.W.plainGet K C f = true := c.pg
noncomputable def NoAttr (K : PySem.W.Frag) (C : Addr) (f : Str) : Prop := PySem.W.findIn K (.ref C) f = some none
theorem NoAttr.taker {K : PySem.W.Frag} {C : Addr} {f : Str} (n : NoAttr K C f) : PySem.W.takerIn K C f = some none := by
  unfold PySem.W.takerIn
  rw [show PySem.W.findIn K (.ref C) f = some none from n]
  rfl
section
variable {X : Cx} {pins : List (Addr × Obj)} {σ : St} {H : Hp} {s : Shared} {a C dx : Addr} {fs : List (Str × V)} {f : Str} {v : V} {A : Around} {E : Value → Shared → Prop}

theorem getattr_ok {b : Bool} {Q : Value → Shared → Prop} (I : Inv X pins σ H s) (e : H a = some (.ins C dx fs)) (c : Cls X.K C) (n : NoAttr X.K C f) (l : fs.lookup f = some v)
    (h : ∀ u s', Inv X pins σ H s' → RelV v u → Q u s') : wpAny (model X.prog X.w) A (getAttr (.ref a) f b) Q E s := by
  obtain ⟨mA, O, r, _, _, _⟩ := ins_get I.hok e
  obtain ⟨u, hu, ru⟩ := RelO.some_of (v := v) (o := mA f) (by rw [← l]; exact r f)
  exact get_map I.kIn O (c.get f) c.hd n hu (handed_of ru) (h u _ (I.tok _) ru)

theorem setattr_ok {y : V} {u : Value} {Q : Unit → Shared → Prop} (I : Inv X pins σ H s) (e : H a = some (.ins C dx fs)) (c : Cls X.K C) (n : NoAttr X.K C f) (hl : fs.length < 1000) (ry : RelV y u)
    (h : ∀ s', Inv X pins σ (upd H a (.ins C dx (putF f y fs))) s' → Q () s') : wpAny (model X.prog X.w) A (setAttr (.ref a) f u) Q E s := by
  obtain ⟨mA, O, r, wi, _, ho⟩ := ins_get I.hok e
  have hz : (fs.map (·.1)).length ≤ sizeLine := by rw [List.length_map, sizeLine_eq]; omega
  refine set_map I.kIn O c.sa c.po n.taker c.hd wi hz fun h' O' sb => h _ ?_
  have hd : ∃ o, h'.get? dx = some o := let ⟨o, _, _, e', _⟩ := O'.ns; ⟨o, e'⟩
  refine I.write (x := a) (e := dx) (by rw [e]; exact True.intro) (.inr ho) (fun b q hb z => (sb.2 b hb).trans z) hd ?_
  refine ⟨by rw [upd_ne O.ne]; exact ho, ?_, O.ne, O'.obj, _, O'.ns, fun g => ?_, fun g hg => ?_⟩
  · have := length_putF f y fs; omega
  · show RelO ((putF f y fs).lookup g) (if g = f then some u else mA g)
    rw [lookup_putF]
    by_cases q : g = f
    · rw [if_pos q, if_pos q]; exact ry
    · rw [if_neg q, if_neg q]; exact r g
  · by_cases q : g = f
    · rw [q]; exact (keys_putF f y fs).1
    · refine (keys_putF f y fs).2 g (wi g fun z => hg ?_)
      show (if g = f then some u else mA g) = none
      rw [if_neg q]; exact z

theorem Inv.made (I : Inv X pins σ H s) : Inv X pins σ (upd (upd H s.heap.objs.size (.own (s.heap.objs.size + 1))) (s.heap.objs.size + 1) (.ins C s.heap.objs.size []))
    { s with heap := (s.heap.push PySem.W.emptyDict).push (PySem.W.instObj C s.heap.objs.size) } := by
  have e1 : (s.heap.push PySem.W.emptyDict).get? s.heap.objs.size = some PySem.W.emptyDict := Heap.get?_push_size s.heap rfl
  have e2 : ((s.heap.push PySem.W.emptyDict).push (PySem.W.instObj C s.heap.objs.size)).get? (s.heap.objs.size + 1) = some (PySem.W.instObj C s.heap.objs.size) := by
    have := Heap.get?_push_size (s.heap.push PySem.W.emptyDict) (o := PySem.W.instObj C s.heap.objs.size) rfl
    rwa [Heap.size_push] at this
  have e3 : (s.heap.push PySem.W.emptyDict).Ns s.heap.objs.size (fun _ => none) := ⟨PySem.W.emptyDict, #[], _, e1, rfl, (fun e he => absurd he (by simp)), fun _ => rfl⟩
  have I1 := I.laid (a := s.heap.objs.size) (o := .own (s.heap.objs.size + 1)) (h' := s.heap.push PySem.W.emptyDict) (t' := s.toks) (fun b u q => Heap.get?_push_of_some _ q) (Nat.le_refl _) ⟨_, e1⟩
  refine I1.laid (a := s.heap.objs.size + 1) (o := .ins C s.heap.objs.size []) (t' := s.toks) (fun b u q => Heap.get?_push_of_some _ q) (Nat.le_of_eq (Heap.size_push _ _)) ?_
  have ne : s.heap.objs.size ≠ s.heap.objs.size + 1 := Nat.ne_of_lt (Nat.lt_succ_self _)
  refine ⟨by rw [upd_ne ne, upd_same], Nat.zero_le _, ne, e2, fun _ => none, (Heap.Ns1.of_empty e3).at fun o q => Heap.get?_push_of_some _ q, fun _ => True.intro, fun y hy => absurd rfl hy⟩

theorem attr_of {prog : Program} {w : World} {env : Env} {e : Expr} {f : Str} {pos : Pos} {s : Shared} {Q : Value → Shared → Prop} (hb : attributeBase e f env (eval e env) = eval e env)
    (h : wpAny (model prog w) A (eval e env) (fun o s₁ => wpAny (model prog w) A (getAttr o f true) Q E s₁) E s) : wpAny (model prog w) A (eval (.Attribute e f pos) env) Q E s :=
  Attribute_any_ h (by rw [arm_eval_Attribute, hb])
end

noncomputable def tFld (K : PySem.W.Frag) (ta : TE) (f : Str) : TE := fun σ H Q => ta σ H fun x H1 => ∃ a C dx fs v, x = .ref a ∧ H1 a = some (.ins C dx fs) ∧ Cls K C ∧ NoAttr K C f ∧ fs.lookup f = some v ∧ Q v H1
noncomputable def sFld (K : PySem.W.Frag) (ta tv : TE) (f : Str) : TS := fun D σ H => tv σ H fun y H1 => ta σ H1 fun x H2 => ∃ a C dx fs, x = .ref a ∧ H2 a = some (.ins C dx fs) ∧ Cls K C ∧ NoAttr K C f ∧ fs.length < 1000 ∧
  D.nx σ (upd H2 a (.ins C dx (putF f y fs)))
noncomputable def InOp (X : Cx) (op : Operator) (rd : V → V → Hp → VK → Prop) : Prop :=
  ∀ (pins : List (Addr × Obj)) (s : Shared) (σ : St) (H : Hp) (x y : V) (u v : Value) (Q : VK), Inv X pins σ H s → RelV x u → RelV y v → rd x y H Q → wpAny (model X.prog X.w) X.A (inplaceOp op u v) (EP X pins σ Q) X.xe s
noncomputable def sFldAug (K : PySem.W.Frag) (ta tv : TE) (rd : V → V → Hp → VK → Prop) (f : Str) : TS := fun D σ H => ta σ H fun x H1 => ∃ a C dx fs v, x = .ref a ∧ H1 a = some (.ins C dx fs) ∧ Cls K C ∧ NoAttr K C f ∧ fs.lookup f = some v ∧
  tv σ H1 fun y H2 => rd v y H2 fun z H3 => ∃ dx' fs', H3 a = some (.ins C dx' fs') ∧ fs'.length < 1000 ∧ D.nx σ (upd H3 a (.ins C dx' (putF f z fs')))

section
variable {X : Cx} {o e value : Expr} {f : Str} {pos pos' tpos : Pos} {ta tv : TE}
theorem pe_fld (he : PE X e ta) (hb : attributeBase e f X.env (eval e X.env) = eval e X.env) : PE X (.Attribute e f pos) (tFld X.K ta f) := by
  intro pins s σ H Q I h
  refine attr_of hb (thn (he pins s σ H _ I h) fun u s1 ⟨x, H1, I1, rx, a, C, dx, fs, v, ex, ea, c, n, l, q⟩ => ?_)
  subst ex
  obtain rfl : u = Value.ref a := rx
  exact getattr_ok I1 ea c n l fun u' s2 I2 ru => ⟨v, H1, I2, ru, q⟩
theorem ps_fld (ha : PE X o ta) (hv : PE X value tv) (hs : swapsWith value (some (.Attribute o f pos')) pos.line X.env = pure false) : PS X (.Assign [.Attribute o f pos'] value pos) (sFld X.K ta tv f) := by
  intro pins s σ H D I h
  refine plainObj_wpAny_Assign_Attribute (thn (hv pins s σ H _ I h) fun u s1 ⟨y, H1, I1, ry, q⟩ => thn (ha pins s1 σ H1 _ I1 q) fun ov s2 ⟨x, H2, I2, rx, a, C, dx, fs, ex, ea, c, n, l, q2⟩ => ?_) hs
  subst ex
  obtain rfl : ov = Value.ref a := rx
  exact setattr_ok I2 ea c n l ry fun s3 I3 => ⟨σ, _, I3, q2⟩
theorem ps_fldaug {op : Operator} {rd : V → V → Hp → VK → Prop} (ha : PE X o ta) (hv : PE X value tv) (hop : InOp X op rd) : PS X (.AugAssign (.Attribute o f tpos) op value pos) (sFldAug X.K ta tv rd f) := by
  intro pins s σ H D I h
  refine wpAny_AugAssign_AttributeAny (thn (ha pins s σ H _ I h) fun ov s1 ⟨x, H1, I1, rx, a, C, dx, fs, v, ex, ea, c, n, l, q⟩ => ?_)
  subst ex
  obtain rfl : ov = Value.ref a := rx
  refine getattr_ok I1 ea c n l fun u s2 I2 ru => thn (hv pins s2 σ H1 _ I2 q) fun w3 s3 ⟨y, H2, I3, ry, q3⟩ => thn (hop pins s3 σ H2 v y u w3 _ I3 ru ry q3) fun w4 s4 ⟨z, H3, I4, rz, dx', fs', ea', l', q4⟩ => ?_
  exact setattr_ok I4 ea' c n l' rz fun s5 I5 => ⟨σ, _, I5, q4⟩
noncomputable def rSub : V → V → Hp → VK → Prop := fun x y H Q => ∃ i j, x = .int i ∧ y = .int j ∧ Q (.int (i - j)) H
theorem in_sub : InOp X .Sub rSub := by
  rintro pins s σ H x y u v Q I rx ry ⟨i, j, rfl, rfl, q⟩
  obtain ⟨t, rfl⟩ := (show ∃ t, u = Value.int i t from rx)
  obtain ⟨t', rfl⟩ := (show ∃ t', v = Value.int j t' from ry)
  exact PyProof.Rows.isub_int ⟨.int (i - j), H, I.tok _, ⟨_, rfl⟩, q⟩

end

section
variable {X : Cx} {pins : List (Addr × Obj)} {σ : St} {H : Hp} {s : Shared} {A : Around} {E : Value → Shared → Prop} {Q : Value → Shared → Prop} {c : Value} {b : Bool}
inductive TyOf (K : PySem.W.Frag) (H : Hp) : V → Value → Prop where
  | non : TyOf K H .non (.type "NoneType")
  | bl (x : Bool) : TyOf K H (.bl x) (.type "bool")
  | int (i : Int) : TyOf K H (.int i) (.type "int")
  | str (x : Str) : TyOf K H (.str x) (.type "str")
  | flt (x : UInt64) : TyOf K H (.flt x) (.type "float")
  | lst {a : Addr} {xs : List V} (e : H a = some (.lst xs)) : TyOf K H (.ref a) (.type "list")
  | frz {a : Addr} {o : Obj} {xs : List V} (e : H a = some (.frz o (.lst xs))) : TyOf K H (.ref a) (.type "list")
  | tup {a : Addr} {xs : List V} (e : H a = some (.tup xs)) : TyOf K H (.ref a) (.type "tuple")
  | dK {a : Addr} {kvs : List (Key × V)} (e : H a = some (.dK kvs)) : TyOf K H (.ref a) (.type "dict")
  | dT {a : Addr} {kvs : List (List Key × V)} (e : H a = some (.dT kvs)) : TyOf K H (.ref a) (.type "dict")
  | ins {a C dx : Addr} {fs : List (Str × V)} (e : H a = some (.ins C dx fs)) (cl : Cls K C) (ha : PySem.W.findIn K (.ref C) "__class__" = some (some (.builtin "object.__class__")))
      (hn : PySem.W.specialIn K (.builtin "object.__class__") "__get__" = some (some (.builtin "getset_descriptor.__get__"))) (htk : PySem.W.takesIn K (.builtin "object.__class__") = some true)
      (hm : PySem.W.mroIn K C (.type "object") = some true) : TyOf K H (.ref a) (.ref C)
theorem isinst_ok {x : V} {u t : Value} (I : Inv X pins σ H s) (rx : RelV x u) (ty : TyOf X.K H x t) (e : PySem.W.kitOne X.K t c = some b) (h : ∀ tk, Q (.bool b) { s with toks := tk }) :
    wpAny (model X.prog X.w) A (call (.builtin "isinstance") [u, c]) Q E s := by
  cases ty with
  | non => cases (show u = Value.none from rx); exact PySem.W.kia_one PySem.W.kitx_none I.kIn True.intro e (fun z => nomatch z) h
  | bl y => cases (show u = Value.bool y from rx); exact PySem.W.kia_one PySem.W.kitx_bool I.kIn True.intro e (fun z => nomatch z) h
  | int i => obtain ⟨t, q⟩ := (show ∃ t, u = Value.int i t from rx); cases q; exact PySem.W.kia_one PySem.W.kitx_int I.kIn True.intro e (fun z => nomatch z) h
  | str y => obtain ⟨t, q⟩ := (show ∃ t, u = Value.str y t from rx); cases q; exact PySem.W.kia_one PySem.W.kitx_str I.kIn True.intro e (fun z => nomatch z) h
  | flt y => obtain ⟨t, q⟩ := (show ∃ t, u = Value.float y t from rx); cases q; exact PySem.W.kia_one PySem.W.kitx_float I.kIn True.intro e (fun z => nomatch z) h
  | @lst a xs ea =>
    cases (show u = Value.ref a from rx)
    obtain ⟨_, _, n, _, h1⟩ := (show ObjOk X.prog X.w H s.heap a (.lst xs) from I.hok a _ ea)
    exact PySem.W.kia_one PySem.W.kitx_list I.kIn ⟨_, h1, rfl⟩ e (fun z => nomatch z) h
  | @frz a ob xs ea =>
    cases (show u = Value.ref a from rx)
    obtain ⟨_, _, _, n, _, h1⟩ := (show ObjOk X.prog X.w H s.heap a (.frz ob (.lst xs)) from I.hok a _ ea)
    exact PySem.W.kia_one PySem.W.kitx_list I.kIn ⟨_, h1, rfl⟩ e (fun z => nomatch z) h
  | @tup a xs ea =>
    cases (show u = Value.ref a from rx)
    obtain ⟨_, _, _, p⟩ := (show ObjOk X.prog X.w H s.heap a (.tup xs) from I.hok a _ ea)
    obtain ⟨o, h1, h2, _⟩ := p
    exact PySem.W.kia_one PySem.W.kitx_tuple I.kIn ⟨o, h1, h2⟩ e (fun z => nomatch z) h
  | @dK a kvs ea =>
    cases (show u = Value.ref a from rx)
    obtain ⟨_, _, vs, _, p⟩ := (show ObjOk X.prog X.w H s.heap a (.dK kvs) from I.hok a _ ea)
    obtain ⟨o, es, ep, h1, h2, _⟩ := p
    exact PySem.W.kia_one PySem.W.kitx_dict I.kIn ⟨o, h1, h2.1⟩ e (fun z => nomatch z) h
  | @dT a kvs ea =>
    cases (show u = Value.ref a from rx)
    obtain ⟨_, _, xs, _, o, es, ep, h1, h2, _⟩ := (show ObjOk X.prog X.w H s.heap a (.dT kvs) from I.hok a _ ea)
    exact PySem.W.kia_one PySem.W.kitx_dict I.kIn ⟨o, h1, h2.1⟩ e (fun z => nomatch z) h
  | @ins a C dx fs ea cl ha hn htk hm =>
    cases (show u = Value.ref a from rx)
    obtain ⟨mA, O, _⟩ := ins_get I.hok ea
    obtain ⟨od, J, _⟩ := O.look
    exact PySem.W.kia_one (PySem.W.kitx_own (cl.get _) cl.hd ha hn htk hm) I.kIn J e (fun z => nomatch z) h
end
end L2

namespace L2
open PySem PySem.Spec PyProof.Rows

structure Room (k : Nat) (A : Around) : Prop where
  hd : A.handled = none
  dp : A.depth + 3 * k + 5 < recursionLimit
  un : A.units + 16 * k + 200 < cLine
  gd : A.guards = some []
theorem Room.mono {j k : Nat} {A : Around} (r : Room k A) (h : j ≤ k) : Room j A := ⟨r.hd, by have := r.dp; omega, by have := r.un; omega, r.gd⟩
theorem Room.deeper {k : Nat} {A : Around} (r : Room (k + 1) A) (env : Env) : Room k (A.deeper env) :=
  ⟨r.hd, by have := r.dp; show A.depth + 1 + 3 * k + 5 < _; omega, by have := r.un; show A.units + 3 + 16 * k + 200 < _; omega, r.gd⟩
theorem make_depth {A : Around} {C : Addr} {us : List Value} {kw : List (Str × Value)} : (A.under (.builtin "type.__call__" ⟨.ref C :: us, kw⟩)).depth = A.depth + 1 := by
  first | rfl | simp [Around.under, Code.weight, Code.isCreation, Code.isGuard, Code.isCaller, Code.frames, Code.isFrame, guardIds]
theorem make_units {A : Around} {C : Addr} {us : List Value} {kw : List (Str × Value)} : (A.under (.builtin "type.__call__" ⟨.ref C :: us, kw⟩)).units = A.units + 1 := by
  first | rfl | simp [Around.under, Code.cUnits, Code.frames, Code.isFrame]
theorem make_guards {A : Around} {C : Addr} {us : List Value} {kw : List (Str × Value)} : (A.under (.builtin "type.__call__" ⟨.ref C :: us, kw⟩)).guards = A.guards := by
  have : Code.guards (.builtin "type.__call__" ⟨.ref C :: us, kw⟩) = [] := by first | rfl | simp [Code.guards, Code.isGuard, guardIds]
  show pushGuards (Code.guards (.builtin "type.__call__" ⟨.ref C :: us, kw⟩)) A.guards = A.guards
  rw [this]
  cases A.guards <;> rfl
theorem Room.make {k : Nat} {A : Around} (r : Room (k + 1) A) (C : Addr) (us : List Value) (kw : List (Str × Value)) : Room k (A.under (.builtin "type.__call__" ⟨.ref C :: us, kw⟩)) :=
  ⟨r.hd, by have := r.dp; rw [make_depth]; omega, by have := r.un; rw [make_units]; omega, by rw [make_guards]; exact r.gd⟩
theorem Room.depth {k : Nat} {A : Around} (r : Room k A) : A.depth < recursionLimit := by have := r.dp; omega
theorem Room.units {k : Nat} {A : Around} (r : Room k A) : A.units + 64 < cLine := by have := r.un; omega
noncomputable def tNil : TA := fun _ H Q => Q [] H
noncomputable def tCons (ta : TE) (tr : TA) : TA := fun σ H Q => ta σ H fun x H1 => tr σ H1 fun xs H2 => Q (x :: xs) H2
section
variable {X : Cx} {e : Expr} {es : List Expr} {te : TE} {t : TA} {pos : Pos}
theorem pa_nil : PA X [] tNil := fun _ _ _ _ H Q I h => Calls.spliced_nil ⟨[], H, I, .nil, h⟩
theorem pa_cons (ha : PE X e te) (hr : PA X es t) (hs : starEach (e :: es) X.env = (false, eval e X.env) :: starEach es X.env := by rfl) : PA X (e :: es) (tCons te t) := by
  intro pos pins s σ H Q I h
  rw [hs]
  show wpAny _ _ (spliced ((false, eval e X.env) :: backTo pos (starEach es X.env))) _ _ s
  refine Calls.spliced_cons (thn (ha pins s σ H _ I h) fun u s1 ⟨x, H1, I1, r1, q1⟩ => ?_)
  exact thn (hr pos pins s1 σ H1 _ I1 q1) fun us s2 ⟨xs, H2, I2, r2, q2⟩ => ⟨x :: xs, H2, I2, .cons r1 r2, q2⟩

noncomputable def tTup (t : TA) : TE := fun σ H Q => t σ H fun xs H1 => xs.length ≤ sizeLine ∧ ∀ p, H1 p = none → Q (.ref p) (upd H1 p (.tup xs))
noncomputable def tLst (t : TA) : TE := fun σ H Q => t σ H fun xs H1 => xs.length ≤ sizeLine ∧ ∀ p, H1 p = none → Q (.ref p) (upd H1 p (.lst xs))
theorem pe_tup {x1} (h : PA X es t) : PE X (.Tuple es x1 pos) (tTup t) := by
  intro pins s σ H Q I hq
  refine wpAny_Tuple_spliced (thn (h pos pins s σ H _ I hq) fun us s1 ⟨xs, H1, I1, r, z, q⟩ => ⟨by rw [← r.length]; exact z, ?_⟩)
  have hf : H1 s1.heap.objs.size = none := I1.hok.fresh (Nat.le_refl _)
  refine ⟨.ref s1.heap.objs.size, upd H1 s1.heap.objs.size (.tup xs), I1.laid (t' := s1.toks) (fun b u e => Heap.get?_push_of_some _ e) (Nat.le_refl _) ?_, rfl, q _ hf⟩
  exact ⟨z, us, r, ⟨_, Heap.get?_push_size _ rfl, rfl, ⟨_, rfl⟩, rfl⟩⟩
theorem pe_lst (h : PA X es t) : PE X (.List es pos) (tLst t) := by
  intro pins s σ H Q I hq
  refine wpAny_List_spliced (thn (h pos pins s σ H _ I hq) fun us s1 ⟨xs, H1, I1, r, z, q⟩ => ⟨by rw [← r.length]; exact z, ?_⟩)
  have hf : H1 s1.heap.objs.size = none := I1.hok.fresh (Nat.le_refl _)
  refine ⟨.ref s1.heap.objs.size, upd H1 s1.heap.objs.size (.lst xs), I1.laid (t' := s1.toks) (fun b u e => Heap.get?_push_of_some _ e) (Nat.le_refl _) ?_, rfl, q _ hf⟩
  exact ⟨z, us, 0, r, Heap.get?_push_size _ rfl⟩
end

noncomputable abbrev Sp := List V → Hp → VK → XK → Prop
noncomputable abbrev CXT := List Env → Hp → Shared → XK → Value → Shared → Prop

structure Env0 (P : Program) (w : World) (K : PySem.W.Frag) (mg : Str → Option Value) (base : Heap) (A : Around) (outer : List Env) (s : Shared) (H : Hp) : Prop where
  frames : A.frames = some outer
  mod : Mod K mg base
  bs : ∀ b o, base.get? b = some o → s.heap.get? b = some o ∧ H b = none
  bsz : base.objs.size ≤ s.heap.objs.size
  funs : s.heap.FunFrames base outer
  frf : ∀ b ∈ frs outer, H b = none
  hok : HOk P w H s.heap
  bare : AllBare s.gens
noncomputable def CE (outer : List Env) (P : Program) (w : World) (H : Hp) (s : Shared) (Q : VK) (u : Value) (s' : Shared) : Prop :=
  ∃ v H', s'.os = s.os ∧ AllBare s'.gens ∧ Un (frs outer) [] H H' s.heap s'.heap ∧ HOk P w H' s'.heap ∧ RelV v u ∧ Q v H'
noncomputable def CR (CX : CXT) (outer : List Env) (P : Program) (w : World) (H : Hp) (s : Shared) (Q : VK) (E : XK) (r : Result) (s' : Shared) : Prop :=
  match r with
  | .ok (.ret u) => CE outer P w H s Q u s'
  | .ok _ => False
  | .error e => CX outer H s E e s'
structure FnOk (P : Program) (w : World) (K : PySem.W.Frag) (mg : Str → Option Value) (base : Heap) (CX : CXT) (k : Nat) (f : Addr) (fd : FuncData) (ps : List Str) (sp : Sp) : Prop where
  len : ∀ vs H Q E, sp vs H Q E → vs.length = ps.length
  run : ∀ (A : Around) (outer : List Env) (s : Shared) (H : Hp) (args : Args) (us : List Value) (vs : List V) (Q : VK) (E : XK), Room k A → Env0 P w K mg base A outer s H → BindsTo s fd args (ps.zip us) → Vals vs us → sp vs H Q E →
    codeAny (model P w) A (.call (.ref f) args) (CR CX outer P w H s Q E) s
theorem Env0.make {P : Program} {w : World} {K : PySem.W.Frag} {mg : Str → Option Value} {base : Heap} {A : Around} {outer : List Env} {s : Shared} {H : Hp} (e : Env0 P w K mg base A outer s H) (C : Addr) (us : List Value) (kw : List (Str × Value)) :
    Env0 P w K mg base (A.under (.builtin "type.__call__" ⟨.ref C :: us, kw⟩)) outer s H := ⟨by first | exact e.frames | (simpa [Around.under, Code.envs, Code.isFrame, pushEnvs] using e.frames), e.mod, e.bs, e.bsz, e.funs, e.frf, e.hok, e.bare⟩
section
variable {X : Cx} {pins : List (Addr × Obj)} {σ : St} {H : Hp} {s s' : Shared}
theorem Inv.env0 (I : Inv X pins σ H s) : Env0 X.prog X.w X.K X.mg X.base X.A X.stack s H :=
  ⟨I.ok.frames, I.ok.mod, I.bs, Nat.le_trans I.ok.bsz I.sz, I.stack, I.stkFree, I.hok, I.bare⟩
theorem Inv.after {Q : VK} {u : Value} (I : Inv X pins σ H s) (h : CE X.stack X.prog X.w H s Q u s') : EP X pins σ Q u s' := by
  obtain ⟨v, H', os, bare, un, hok, r, q⟩ := h
  obtain ⟨hh, g, d, t, os'⟩ := s'
  obtain rfl : os' = s.os := os
  exact ⟨v, H', I.call (h' := hh) (g' := g) (d' := d) (t' := t) (ch := []) un hok bare (fun b z => absurd z (by simp)), r, q⟩
end

noncomputable def tCall (sp : Sp) (dvs : List V) (E : XK) (t : TA) : TE := fun σ H Q => t σ H fun vs H1 => sp (vs ++ dvs) H1 Q E
noncomputable def tMake (C : Addr) (sp : Sp) (dvs : List V) (E : XK) (t : TA) : TE := fun σ H Q => t σ H fun vs H1 => ∀ x dx, H1 x = none → H1 dx = none → dx ≠ x →
  sp (.ref x :: (vs ++ dvs)) (upd (upd H1 dx (.own x)) x (.ins C dx [])) (fun v H2 => v = .non ∧ Q (.ref x) H2) E

noncomputable def Binds (K : PySem.W.Frag) (fd : FuncData) (ps : List Str) (ds : List Value) : Prop :=
  ∀ (s : Shared) (us : List Value), K.In s.heap → (us ++ ds).length = ps.length → BindsTo s fd ⟨us, []⟩ (ps.zip (us ++ ds))
theorem Binds.all {K : PySem.W.Frag} {fd : FuncData} {ps : List Str} (h : ∀ us : List Value, us.length = ps.length → bindArgs fd ⟨us, []⟩ = pure (ps.zip us)) : Binds K fd ps [] := fun s us _ hl => by
  rw [List.append_nil] at hl ⊢
  exact .of_eq (h us hl)

noncomputable def Passes (CX : CXT) (X : Cx) (E : XK) : Prop := ∀ (pins : List (Addr × Obj)) (σ : St) (H : Hp) (s : Shared) (e : Value) (s' : Shared), Inv X pins σ H s → CX X.stack H s E e s' → X.xe e s'

section
variable {X : Cx} {CX : CXT} {k : Nat} {f C : Addr} {fd : FuncData} {ps : List Str} {sp : Sp} {dvs : List V} {ds : List Value} {E : XK} {x m : Str} {p pos apos : Pos} {e o : Expr} {es : List Expr} {ta : TE} {t : TA}

theorem run_fn {pins : List (Addr × Obj)} {σ : St} {H : Hp} {s : Shared} {Q : VK} {us : List Value} {vs : List V} (F : FnOk X.prog X.w X.K X.mg X.base CX k f fd ps sp) (hr : Room k X.A) (hb : Binds X.K fd ps ds) (hd : Vals dvs ds) (hx : Passes CX X E)
    (I : Inv X pins σ H s) (r : Vals vs us) (h : sp (vs ++ dvs) H Q E) : wpAny (model X.prog X.w) X.A (call (.ref f) us) (EP X pins σ Q) X.xe s := by
  have r2 : Vals (vs ++ dvs) (us ++ ds) := r.append hd
  have hl : (us ++ ds).length = ps.length := by rw [← r2.length]; exact F.len _ _ _ _ h
  refine wpAny_call (codeAny_mono (F.run X.A X.stack s H ⟨us, []⟩ (us ++ ds) (vs ++ dvs) Q E hr I.env0 (hb s us I.kIn hl) r2 h) fun r s' hq => ?_)
  cases r with
  | error e => exact hx pins σ H s e s' I hq
  | ok fl =>
    cases fl with
    | ret u => exact I.after hq
    | next => exact False.elim hq
    | brk => exact False.elim hq
    | cont => exact False.elim hq

theorem pe_call (F : FnOk X.prog X.w X.K X.mg X.base CX k f fd ps sp) (hr : Room k X.A) (hg : Gl X x) (hm : X.mg x = some (.ref f)) (hk : PySem.W.keepIn X.K (.ref f) = true) (hb : Binds X.K fd ps ds) (hd : Vals dvs ds) (hx : Passes CX X E)
    (ha : PA X (e :: es) t) (hdb : (x == ("__debug__" : Str)) = false := by decide) (he : starEach (e :: es) X.env = (false, eval e X.env) :: starEach es X.env := by rfl) (hpl : (backTo pos (starEach es X.env)).any (·.1) = false := by rfl) :
    PE X (.Call (.Name x p) (e :: es) [] pos) (tCall sp dvs E t) := by
  intro pins s σ H Q I h
  refine wpAny_Call_Name_kw (ld_glob I hg hm ?_ hdb)
  refine PySem.W.callWith_K (h₀ := X.base) I.ok.mod.kin hk (thn (ha pos pins s σ H _ I h) fun us s1 ⟨vs, H1, I1, r, q⟩ => ⟨I1.kIn, ?_⟩) he hpl
  exact run_fn F hr hb hd hx I1 r q
structure Mk (K : PySem.W.Frag) (C f : Addr) : Prop where
  makes : PySem.W.makesIn K C = true
  init : PySem.W.findIn K (.ref C) "__init__" = some (some (.ref f))
  fn : PySem.W.isFn K (.ref f) = true
  kp : PySem.W.keepIn K (.ref C) = true

theorem run_make {pins : List (Addr × Obj)} {σ : St} {H : Hp} {s : Shared} {Q : VK} {us : List Value} {vs : List V} (M : Mk X.K C f) (F : FnOk X.prog X.w X.K X.mg X.base CX k f fd ps sp) (hr : Room (k + 1) X.A) (hb : Binds X.K fd ps ds) (hd : Vals dvs ds)
    (hx : Passes CX X E) (I : Inv X pins σ H s) (r : Vals vs us)
    (h : ∀ x dx, H x = none → H dx = none → dx ≠ x → sp (.ref x :: (vs ++ dvs)) (upd (upd H dx (.own x)) x (.ins C dx [])) (fun v H2 => v = .non ∧ Q (.ref x) H2) E) :
    wpAny (model X.prog X.w) X.A (call (.ref C) us) (EP X pins σ Q) X.xe s := by
  have hq := h (s.heap.objs.size + 1) s.heap.objs.size (I.hok.fresh (Nat.le_succ _)) (I.hok.fresh (Nat.le_refl _)) (Nat.ne_of_lt (Nat.lt_succ_self _))
  have I2 := Inv.made (C := C) I
  have r2 : Vals (V.ref (s.heap.objs.size + 1) :: (vs ++ dvs)) (Value.ref (s.heap.objs.size + 1) :: (us ++ ds)) := .cons rfl (r.append hd)
  have hl : (Value.ref (s.heap.objs.size + 1) :: us ++ ds).length = ps.length := by
    have e := r2.length
    rw [F.len _ _ _ _ hq] at e
    exact e.symm
  refine wpAny_call (make_map (f := f) I.kIn M.makes M.init (beq_iff_eq.mp M.fn) (codeAny_mono (F.run _ X.stack _ _ ⟨Value.ref (s.heap.objs.size + 1) :: us, []⟩ (Value.ref (s.heap.objs.size + 1) :: (us ++ ds)) _ _ E (hr.make C us [])
    (I2.env0.make C us []) (hb _ (Value.ref (s.heap.objs.size + 1) :: us) I2.kIn hl) r2 hq) fun r s' hq' => ?_))
  cases r with
  | error e => exact hx pins σ _ _ e s' I2 hq'
  | ok fl =>
    cases fl with
    | ret u =>
      obtain ⟨v, H', I3, rv, ev, q3⟩ := I2.after hq'
      subst ev
      exact ⟨rv, ⟨V.ref (s.heap.objs.size + 1), H', I3, rfl, q3⟩⟩
    | next => exact False.elim hq'
    | brk => exact False.elim hq'
    | cont => exact False.elim hq'
theorem pe_make (M : Mk X.K C f) (F : FnOk X.prog X.w X.K X.mg X.base CX k f fd ps sp) (hr : Room (k + 1) X.A) (hg : Gl X x) (hm : X.mg x = some (.ref C)) (hb : Binds X.K fd ps ds) (hd : Vals dvs ds) (hx : Passes CX X E)
    (ha : PA X (e :: es) t) (hdb : (x == ("__debug__" : Str)) = false := by decide) (he : starEach (e :: es) X.env = (false, eval e X.env) :: starEach es X.env := by rfl) (hpl : (backTo pos (starEach es X.env)).any (·.1) = false := by rfl) :
    PE X (.Call (.Name x p) (e :: es) [] pos) (tMake C sp dvs E t) := by
  intro pins s σ H Q I h
  refine wpAny_Call_Name_kw (ld_glob I hg hm ?_ hdb)
  refine PySem.W.callWith_K (h₀ := X.base) I.ok.mod.kin M.kp (thn (ha pos pins s σ H _ I h) fun us s1 ⟨vs, H1, I1, r, q⟩ => ⟨I1.kIn, ?_⟩) he hpl
  exact run_make M F hr hb hd hx I1 r q
end

section
variable {X : Cx} {CX : CXT} {k : Nat} {f C : Addr} {fd : FuncData} {ps ks : List Str} {sp : Sp} {E : XK} {x m : Str} {p pos apos kpos : Pos} {e o : Expr} {es : List Expr} {kws : List Keyword} {te ta : TE} {t tk : TA} {nm : Option Str}
variable {g : List Value → List Value → List Value} {gV : List V → List V → List V}
end

structure FnScope (N P : List Str) (sc : Scope) : Prop where
  kind : sc.kind = .function
  co : sc.isCoroutine = false
  gen : sc.isGenerator = false
  nd : N.Nodup
  pre : N.take P.length = P
  par : ∀ x ∈ P, sc.names.lookup x = some .local ∨ sc.names.lookup x = some .cell
  nofree : ∀ y ∈ sc.names, y.2 ≠ .free

theorem bindL_out {kindOf : Str → Option NameKind} {x : Str} : ∀ {binds : List (Str × Value)} {m : Str → Option Value}, (∀ v, (x, v) ∉ binds) → bindL kindOf binds m x = m x
  | [], _, _ => rfl
  | (n, v) :: r, m, h => by
    unfold bindL
    rw [bindL_out fun w hw => h w (List.mem_cons_of_mem _ hw)]
    split
    · have : x ≠ n := by rintro rfl; exact h v List.mem_cons_self
      simp [this]
    · rfl
theorem bindC_out {kindOf : Str → Option NameKind} {x : Str} : ∀ {binds : List (Str × Value)} {m : Str → Option Value}, (∀ v, (x, v) ∉ binds) → bindC kindOf binds m x = m x
  | [], _, _ => rfl
  | (n, v) :: r, m, h => by
    unfold bindC
    rw [bindC_out fun w hw => h w (List.mem_cons_of_mem _ hw)]
    split
    · rfl
    · have : x ≠ n := by rintro rfl; exact h v List.mem_cons_self
      simp [this]
theorem bindL_get {kindOf : Str → Option NameKind} {x : Str} {v : Value} : ∀ {P : List Str} {vs : List Value} {i : Nat} {m : Str → Option Value}, P.Nodup → P[i]? = some x → vs[i]? = some v → kindOf x = some .local →
    bindL kindOf (P.zip vs) m x = some v
  | [], _, _, _, _, h, _, _ => by simp at h
  | _ :: _, [], _, _, _, _, h, _ => by simp at h
  | p :: P, w :: vs, 0, m, nd, h1, h2, hk => by
    simp at h1 h2; subst h1; subst h2
    show bindL kindOf ((p, w) :: P.zip vs) m p = _
    unfold bindL
    rw [bindL_out fun v hv => (List.nodup_cons.mp nd).1 (List.of_mem_zip hv).1, if_pos hk]
    simp
  | p :: P, w :: vs, i + 1, m, nd, h1, h2, hk => by
    show bindL kindOf ((p, w) :: P.zip vs) m x = _
    unfold bindL
    exact bindL_get (i := i) (List.nodup_cons.mp nd).2 (by simpa using h1) (by simpa using h2) hk
theorem bindC_get {kindOf : Str → Option NameKind} {x : Str} {v : Value} : ∀ {P : List Str} {vs : List Value} {i : Nat} {m : Str → Option Value}, P.Nodup → P[i]? = some x → vs[i]? = some v → kindOf x ≠ some .local →
    bindC kindOf (P.zip vs) m x = some v
  | [], _, _, _, _, h, _, _ => by simp at h
  | _ :: _, [], _, _, _, _, h, _ => by simp at h
  | p :: P, w :: vs, 0, m, nd, h1, h2, hk => by
    simp at h1 h2; subst h1; subst h2
    show bindC kindOf ((p, w) :: P.zip vs) m p = _
    unfold bindC
    rw [bindC_out fun v hv => (List.nodup_cons.mp nd).1 (List.of_mem_zip hv).1, if_neg hk]
    simp
  | p :: P, w :: vs, i + 1, m, nd, h1, h2, hk => by
    show bindC kindOf ((p, w) :: P.zip vs) m x = _
    unfold bindC
    exact bindC_get (i := i) (List.nodup_cons.mp nd).2 (by simpa using h1) (by simpa using h2) hk

noncomputable def start (N : List Str) (vs : List V) : St := vs.map some ++ List.replicate (N.length - vs.length) none

noncomputable def cxOf (CX : CXT) (P : Program) (w : World) (K : PySem.W.Frag) (mg : Str → Option Value) (base : Heap) (N : List Str) (qual : Str) (scope : Scope) (f : Addr) (cd : Value) (A : Around) (outer : List Env) (s : Shared) (H : Hp) (E : XK) : Cx where
  prog := P
  w := w
  K := K
  mg := mg
  base := base
  A := A.deeper (envOfC qual scope s.heap.objs.size f cd)
  N := N
  s₀ := s
  H₀ := H
  env := envOfC qual scope s.heap.objs.size f cd
  outer := outer
  stack := envOfC qual scope s.heap.objs.size f cd :: outer
  ex := []
  calm := true
  fn := fun _ => true
  pn := []
  xe := fun e s' => wpAny (model P w) (A.deeper (envOfC qual scope s.heap.objs.size f cd)) (leaving (envOfC qual scope s.heap.objs.size f cd) e) (fun _ s'' => CX outer H s E e s'') (fun e' s'' => CX outer H s E e' s'') s'

theorem cell_has {sc : Scope} {n : Nat} {x : Str} (h : sc.names.lookup x = some .cell) : ∃ c, (cellsFrom n sc.names []).lookup x = some c := by
  have q := PySem.W.cellsFrom_some sc.names n [] (.inl h)
  exact Option.isSome_iff_exists.mp q

theorem inv_start {CX : CXT} {P : Program} {w : World} {K : PySem.W.Frag} {mg : Str → Option Value} {base : Heap} {N ps : List Str} {qual : Str} {scope : Scope} {f : Addr} {cd : Value} {A : Around} {outer : List Env} {s s1 : Shared} {H : Hp} {E : XK} {us : List Value} {vs : List V}
    (S : FnScope N ps scope) (hd : A.handled = none) (e0 : Env0 P w K mg base A outer s H) (hl : vs.length = ps.length) (r : Vals vs us)
    (x : InCallC s s.heap.objs.size (bindL (envOfC qual scope s.heap.objs.size f cd).kindOf (ps.zip us) fun _ => none) (cellsFrom (s.heap.objs.size + 1) scope.names []) (bindC (envOfC qual scope s.heap.objs.size f cd).kindOf (ps.zip us) fun _ => none) s1) :
    Inv (cxOf CX P w K mg base N qual scope f cd A outer s H E) [] (start N vs) H s1 := by
  have hpl : ps.length ≤ N.length := by have := congrArg List.length S.pre; rw [List.length_take] at this; omega
  obtain ⟨h1, tk, rfl, hk⟩ := x.done
  have noA : ∀ b : Addr, b ∉ (cxOf CX P w K mg base N qual scope f cd A outer s H E).ex := fun b z => absurd (show b ∈ ([] : List Addr) from z) (by simp)
  refine ⟨⟨e0.mod, S.kind, rfl, rfl, Nat.le_refl _, fun y z c h1 h2 => ?_, fun y hy => ?_, fun y c _ h => ?_, fun _ => hd, Around.frames_deeper e0.frames, .inr ⟨rfl, rfl⟩, fun b z => absurd z (noA b), e0.bs, e0.bsz, fun b _ _ => noA b, fun b z => absurd z (noA b), e0.funs, e0.frf⟩,
    rfl, e0.bare, Un.kept hk, ⟨_, x.toInCall.ns, fun i y v h1 h2 h3 => ?_⟩, fun y c h => ⟨_, x.cell y c h⟩, e0.hok.fresh (Nat.le_refl _), fun y c h => ?_, fun p hp => absurd (show p ∈ ([] : List (Addr × Obj)) from hp) (by simp), e0.hok.kept hk, ?_⟩
  · exact name_of_addr x.apart (PySem.mem_of_lookup h1) (PySem.mem_of_lookup h2)
  · have hy : scope.names.lookup y = some .cell ∨ scope.names.lookup y = some .free := hy
    rcases hy with hy | hy
    · exact cell_has hy
    · exact absurd rfl (S.nofree _ (PySem.mem_of_lookup hy))
  · exact Nat.le_of_lt (x.above y c (PySem.mem_of_lookup h))
  · have hi : i < vs.length := by
      unfold start at h2
      by_cases hi : i < vs.length
      · exact hi
      · rw [List.getElem?_append_right (by simpa using hi)] at h2
        rw [List.getElem?_replicate] at h2
        split at h2 <;> cases h2
    have ha : vs[i]? = some v := by
      unfold start at h2
      rw [List.getElem?_append_left (by simpa using hi), List.getElem?_map] at h2
      cases e : vs[i]? with
      | none => rw [e] at h2; cases h2
      | some a => rw [e] at h2; cases h2; rfl
    obtain ⟨u, hu, rv⟩ := r.get ha
    have hp : ps[i]? = some y := by
      rw [← S.pre, List.getElem?_take_of_lt (by omega)]; exact h1
    have ndP : ps.Nodup := by rw [← S.pre]; exact S.nd.sublist (List.take_sublist _ _)
    refine ⟨u, rv, ?_⟩
    rcases S.par y (List.mem_of_getElem? hp) with k | k
    · exact .inl ⟨k, bindL_get ndP hp hu k⟩
    · obtain ⟨c, e⟩ := cell_has (n := s.heap.objs.size + 1) k
      refine .inr ⟨.inl k, c, e, ?_⟩
      have q := x.cell y c e
      rw [bindC_get ndP hp hu (by show scope.names.lookup y ≠ _; rw [k]; decide)] at q
      exact q
  · exact e0.hok.fresh (Nat.le_of_lt (x.above y c (PySem.mem_of_lookup h)))
  · unfold start
    show _ = N.length
    rw [List.length_append, List.length_map, List.length_replicate]
    omega

theorem fn_of {CX : CXT} {P : Program} {w : World} {K : PySem.W.Frag} {mg : Str → Option Value} {base : Heap} {k : Nat} {f : Addr} {name qual : Str} {params : Arguments} {body : List Stmt} {scope : Scope} {dV kV doc pm cdv ct oc : Value} {an od : Option Addr}
    {osl : Array (Option Value)} {N ps : List Str} {sp : Sp} (lk : K.lookup f = some ⟨oc, od, .func (PySem.W.fnOf name qual params body scope dV kV doc pm an cdv ct), osl⟩) (hcd : PySem.W.codeIn K cdv qual = true) (S : FnScope N ps scope)
    (len : ∀ vs H Q E, sp vs H Q E → vs.length = ps.length)
    (hbody : ∀ (A : Around) (outer : List Env) (s : Shared) (H : Hp) (vs : List V) (Q : VK) (E : XK), Room k (A.deeper (envOfC qual scope s.heap.objs.size f cdv)) → sp vs H Q E →
      ∃ t, PSs (cxOf CX P w K mg base N qual scope f cdv A outer s H E) body t ∧ t { nx := fun _ H' => Q .non H', rt := Q } (start N vs) H) :
    FnOk P w K mg base CX (k + 1) f (PySem.W.fnOf name qual params body scope dV kV doc pm an cdv ct) ps sp := by
  refine ⟨len, fun A outer s H args us vs Q E hr e0 hb r hsp => ?_⟩
  have hl := len _ _ _ _ hsp
  have KX : K.In s.heap := e0.mod.kin.keeps fun b o e => (e0.bs b o e).1
  have lim : s.heap.NoLimit := e0.mod.nolimit.keeps fun b o e => (e0.bs b o e).1
  have hkind : ∀ y ∈ ps.zip us, scope.names.lookup y.1 = some .local ∨ (scope.names.lookup y.1 = some .cell ∧ ((cellsFrom (s.heap.objs.size + 1) scope.names []).lookup y.1).isSome = true) := fun ⟨n, v⟩ hy => by
    rcases S.par n (List.of_mem_zip hy).1 with q | q
    · exact .inl q
    · exact .inr ⟨q, PySem.W.cellsFrom_some _ _ _ (.inl q)⟩
  refine codeAny_call_function hr.depth (KX _ _ lk) rfl S.co S.gen rfl (PySem.W.codeRec_of KX hcd) (hb _ _ _ _ ?_)
  refine wpAny_newFunctionEnv_cells S.kind hkind fun env he s1 x => ?_
  subst he
  refine ⟨lim.keeps x.toInCall.keep, codeAny_func ?_⟩
  obtain ⟨t, ht, hq⟩ := hbody A outer s H vs Q E (hr.deeper _) hsp
  have I : Inv (cxOf CX P w K mg base N qual scope f cdv A outer s H E) [] (start N vs) H s1 := inv_start S hr.hd e0 hl r x
  refine wpAny_mono (ht [] s1 (start N vs) H _ I hq) (fun fl s' hs => ?_) fun e s' hs => hs
  have fin : ∀ {σ' : St} {H' : Hp} {v : V} {u : Value}, Inv (cxOf CX P w K mg base N qual scope f cdv A outer s H E) [] σ' H' s' → RelV v u → Q v H' → CE outer P w H s Q u s' :=
    fun {σ' H' v u} J rv q => ⟨v, H', J.os, J.bare, J.base, J.hok, rv, q⟩
  cases fl with
  | ret u =>
    obtain ⟨v, σ', H', J, rv, q⟩ := hs
    exact fin J rv q
  | next =>
    obtain ⟨σ', H', J, q⟩ := hs
    exact fin (v := V.non) (u := Value.none) J rfl q
  | brk =>
    obtain ⟨_, _, _, q⟩ := hs
    exact False.elim q
  | cont =>
    obtain ⟨_, _, _, q⟩ := hs
    exact False.elim q
end L2

namespace L2
open PySem PySem.Spec PyProof.Rows
section
variable {X : Cx} {x : Str} {p pos : Pos} {e : Expr} {es : List Expr} {t : TA} {id T : String} {r : List V → Hp → VK → Prop}

noncomputable def tCB (r : List V → Hp → VK → Prop) (t : TA) : TE := fun σ H Q => t σ H fun vs H1 => r vs H1 Q
theorem pe_callB (hc : CallR X (.builtin id) r) (hg : Gl X x) (hm : X.mg x = none) (hv : bootBuiltins x = some (.builtin id)) (ha : PA X (e :: es) t) (hn : x ≠ "__name__" := by decide) (hdb : (x == ("__debug__" : Str)) = false := by decide)
    (he : starEach (e :: es) X.env = (false, eval e X.env) :: starEach es X.env := by rfl) (hpl : (backTo pos (starEach es X.env)).any (·.1) = false := by rfl) : PE X (.Call (.Name x p) (e :: es) [] pos) (tCB r t) := by
  intro pins s σ H Q I h
  refine wpAny_Call_Name_kw (ld_blt I hg hm hv ?_ hn hdb)
  exact PyProof.Rows.callWith_builtin1 (thn (ha pos pins s σ H _ I h) fun us s1 ⟨vs, H1, I1, r1, q1⟩ => hc pins s1 σ H1 vs us Q I1 r1 q1) he hpl
theorem pe_callTy (hc : CallR X (.type T) r) (hg : Gl X x) (hm : X.mg x = none) (hv : bootBuiltins x = some (.type T)) (ha : PA X (e :: es) t) (hn : x ≠ "__name__" := by decide) (hdb : (x == ("__debug__" : Str)) = false := by decide)
    (he : starEach (e :: es) X.env = (false, eval e X.env) :: starEach es X.env := by rfl) (hpl : (backTo pos (starEach es X.env)).any (·.1) = false := by rfl) : PE X (.Call (.Name x p) (e :: es) [] pos) (tCB r t) := by
  intro pins s σ H Q I h
  refine wpAny_Call_Name_kw (ld_blt I hg hm hv ?_ hn hdb)
  exact PyProof.Rows.callWith_type1 (thn (ha pos pins s σ H _ I h) fun us s1 ⟨vs, H1, I1, r1, q1⟩ => hc pins s1 σ H1 vs us Q I1 r1 q1) he hpl
end
end L2

namespace HT
open PySem PyProof.Rows

noncomputable def lexLt : List Int → List Int → Bool
  | [], [] => false
  | [], _ :: _ => true
  | _ :: _, [] => false
  | x :: xs, y :: ys => if x = y then lexLt xs ys else decide (x < y)
theorem lexLt_cons (x y : Int) (xs ys : List Int) : lexLt (x :: xs) (y :: ys) = if x = y then lexLt xs ys else decide (x < y) := rfl
theorem lexLt_nil_nil : lexLt [] [] = false := rfl
theorem lexLt_nil_cons (y : Int) (ys : List Int) : lexLt [] (y :: ys) = true := rfl
theorem lexLt_cons_nil (x : Int) (xs : List Int) : lexLt (x :: xs) [] = false := rfl

theorem eqAt_int (A : Around) (s : Shared) (a : Int) (t : Tok) (c : Int) (u : Tok) : ∃ e, SeqAt.EqAt A s (.int a t) (.int c u) e ∧ (e = true ↔ a = c) :=
  ⟨(a == c), SeqAt.EqAt.int_int a t c u, by simp⟩
theorem rcLt_int (A : Around) (s : Shared) (a : Int) (t : Tok) (c : Int) (u : Tok) (prog : Program) (w : World) (E : Value → Shared → Prop) (Q : Value → Shared → Prop) (h : Q (.bool (decide (a < c))) s) :
    wpAny (model prog w) A (richCompare .Lt (.int a t) (.int c u)) Q E s :=
  (PyProof.Rows.lt_int h : wpAny (model prog w) A (compareOp .Lt (.int a t) (.int c u)) Q E s)

section
open PySem.SeqAt
open PySem.AutoSeq1 (wpAny_loadPart')
open PySem.MeetsSeq PySem.MeetsSeq2 PySem.MeetsSeq3

theorem tuple_lt_ints (l b : Addr) (items items2 : Array Value) (n n2 : Nat) (dd dd2 : Option Addr) (sl sl2 : Array (Option Value)) (ns ms : List Int) (hi : IntsAre items.toList ns) (hj : IntsAre items2.toList ms) :
    Meets (Builtin.«tuple.__lt__» ⟨[.ref l, .ref b], []⟩)
      (fun _ R s => s.heap.get? l = some { cls := .type "tuple", dict := dd, data := .seq items n, slots := sl } ∧ s.heap.get? b = some { cls := .type "tuple", dict := dd2, data := .seq items2 n2, slots := sl2 } ∧
        R (.ok (.ret (.bool (lexLt ns ms)))) s) :=
  .of_wp fun prog w A R s h => by
    obtain ⟨hp, g, d, tk, os⟩ := s; obtain ⟨hl, hb, h⟩ := h
    have f2 := AutoSeq1.sub_tuple_tuple
    have z1 : items.size = ns.length := by rw [← hi.length]; simp
    have z2 : items2.size = ms.length := by rw [← hj.length]; simp
    wp_walk using wpAny_loadPart' hl, wpAny_loadPart' hb, wpAny_forIn_list _ (fun rest b s' => b.1 = none ∧ s' = ⟨hp, g, d, tk, os⟩ ∧ ∃ (vs ws : List Value) (ns' ms' : List Int), rest = vs.zip ws ∧
      IntsAre vs ns' ∧ IntsAre ws ms' ∧ ns'.length + items2.size = ms'.length + items.size ∧ R (.ok (.ret (.bool (lexLt ns' ms')))) ⟨hp, g, d, tk, os⟩) _
    case turn =>
      rintro ⟨y, x⟩ rest b s' ⟨hb', rfl, vs, ws, ns', ms', hz, hvi, hwi, hlen, hR⟩
      cases hvi with
      | nil => rw [List.zip_nil_left] at hz; cases hz
      | cons a t hvi' =>
        cases hwi with
        | nil => rw [List.zip_nil_right] at hz; cases hz
        | cons c u hwi' =>
          rw [List.zip_cons_cons] at hz
          injection hz with hyx hrest
          injection hyx with hy hx
          subst hy hx
          rw [lexLt_cons] at hR
          simp only [List.length_cons] at hlen
          obtain ⟨e, he, hiff⟩ := eqAt_int A.in1 ⟨hp, g, d, tk, os⟩ a t c u
          refine wpAny_bind (he prog w _ _ ?_)
          cases e with
          | true =>
            rw [if_pos (hiff.mp rfl)] at hR
            wp_walk
            exact ⟨rfl, rfl, _, _, _, _, hrest, hvi', hwi', by omega, hR⟩
          | false =>
            rw [if_neg (fun q => absurd (hiff.mpr q) Bool.false_ne_true)] at hR
            have hri := rcLt_int A.in1 ⟨hp, g, d, tk, os⟩ a t c u prog w
            wp_walk using hri
            exact ⟨_, rfl, by simpa using hR⟩
    case fin =>
      rintro ⟨b1, b2⟩ s' ⟨hb', rfl, vs, ws, ns', ms', hz, hvi, hwi, hlen, hR⟩
      simp only at hb'
      subst hb'
      have hv : lexLt ns' ms' = decide (items.size < items2.size) := by
        cases hvi with
        | nil =>
          cases hwi with
          | nil =>
            simp only [List.length_nil] at hlen
            rw [lexLt_nil_nil]
            exact (decide_eq_false (by omega)).symm
          | cons c u hw =>
            simp only [List.length_nil, List.length_cons] at hlen
            rw [lexLt_nil_cons]
            exact (decide_eq_true (by omega)).symm
        | cons a t hv =>
          cases hwi with
          | nil =>
            simp only [List.length_nil, List.length_cons] at hlen
            rw [lexLt_cons_nil]
            exact (decide_eq_false (by omega)).symm
          | cons c u hw =>
            rw [List.zip_cons_cons] at hz
            cases hz
      rw [hv] at hR
      wp_walk
      exact ⟨_, rfl, by simpa [Builtin.Tuple.tupleCompareSizes] using hR⟩
    case h =>
      exact ⟨rfl, rfl, items.toList, items2.toList, ns, ms, rfl, hi, hj, by omega, h⟩
end

section
variable {prog : Program} {w : World} {A : Around} {E : Value → Shared → Prop} {s : Shared}

theorem lt_tupInts {l b : Addr} {items items2 : Array Value} {ns ms : List Int} {Q : Value → Shared → Prop} (hl : IsTup s.heap l items) (hb : IsTup s.heap b items2) (hi : IntsAre items.toList ns) (hj : IntsAre items2.toList ms)
    (hu : A.units < cLine) (h : Q (.bool (lexLt ns ms)) s) : wpAny (model prog w) A (compareOp .Lt (.ref l) (.ref b)) Q E s := by
  obtain ⟨⟨cls, dd, data, sl⟩, ho, hc, n, hd⟩ := id hl
  obtain ⟨⟨cls2, dd2, data2, sl2⟩, ho2, hc2, n2, hd2⟩ := id hb
  simp only at hc hd hc2 hd2
  subst hc hd hc2 hd2
  exact richCompare_meets_room (op := .Lt) ⟨_, ho, rfl⟩ ⟨_, ho2, rfl⟩ PySem.F.slot_tuple_lt PySem.F.entry_tuple_lt (PySem.F.args_tuple_lt_2 _ _) (tuple_lt_ints l b items items2 n n2 dd dd2 sl sl2 ns ms hi hj)
    ⟨ho, ho2, show Value.bool (lexLt ns ms) ≠ Value.notImplemented ∧ Q (.bool (lexLt ns ms)) s from ⟨(fun x => nomatch x), h⟩⟩ hu

theorem cat_tup {t b : Addr} {vs ws : List Value} {Q : Value → Shared → Prop} (ht : IsTup s.heap t vs.toArray) (hb : IsTup s.heap b ws.toArray) (hv : vs ≠ [])
    (h1 : ws = [] → Q (.ref t) s) (h2 : ws ≠ [] → Q (.ref s.heap.objs.size) { s with heap := s.heap.push { cls := .type "tuple", data := .seq (vs ++ ws).toArray } })
    (hsz : vs.length + ws.length ≤ sizeLine) : wpAny (model prog w) A (binaryOp .Add (.ref t) (.ref b)) Q E s := by
  obtain ⟨⟨cls, dd, data, sl⟩, ho, hc, n, hd⟩ := id ht
  obtain ⟨⟨cls2, dd2, data2, sl2⟩, ho2, hc2, n2, hd2⟩ := id hb
  simp only at hc hd hc2 hd2
  subst hc hd hc2 hd2
  have e : vs.toArray ++ ws.toArray = (vs ++ ws).toArray := by simp
  by_cases hw : ws = []
  · exact concat_meets ⟨_, ho, rfl⟩ ⟨_, ho2, rfl⟩ noFill_tuple_add seq_tuple_add PySem.F.slot_tuple_add PySem.F.entry_tuple_add (PySem.F.args_tuple_add_2 _ _)
      (tuple_addW1 t b vs.toArray ws.toArray n n2 dd dd2 sl sl2 (by simpa using hv) (by simp [hw])) ⟨ho, ho2, h1 hw⟩
  · refine concat_meets ⟨_, ho, rfl⟩ ⟨_, ho2, rfl⟩ noFill_tuple_add seq_tuple_add PySem.F.slot_tuple_add PySem.F.entry_tuple_add (PySem.F.args_tuple_add_2 _ _)
      (tuple_addW2 t b vs.toArray ws.toArray n n2 dd dd2 sl sl2 (by simpa using hv) (by simpa using hw) (by rw [List.size_toArray, List.size_toArray]; exact hsz)) ⟨ho, ho2, ?_⟩
    rw [e]
    exact h2 hw

noncomputable def sIx (n d : Nat) : Option Int → Nat
  | none => d
  | some v => if v < 0 then (v + (n : Int)).toNat else min v.toNat n
theorem sIx_none (n d : Nat) : sIx n d none = d := rfl
theorem sIx_nat (n d k : Nat) : sIx n d (some (k : Int)) = min k n := by
  show (if (k : Int) < 0 then ((k : Int) + (n : Int)).toNat else min (k : Int).toNat n) = min k n
  rw [if_neg (by omega), Int.toNat_natCast]
theorem sIx_le (n d : Nat) (hd : d ≤ n) (o : Option Int) : sIx n d o ≤ n := by
  cases o with
  | none => exact hd
  | some v =>
    show (if v < 0 then (v + (n : Int)).toNat else min v.toNat n) ≤ n
    by_cases hv : v < 0
    · rw [if_pos hv]; omega
    · rw [if_neg hv]; exact Nat.min_le_right _ _
theorem clip_eq (v : Int) (n d : Nat) : (if v < 0 then max (v + (n : Int)) 0 else min v (n : Int)) = ((sIx n d (some v) : Nat) : Int) := by
  show (if v < 0 then max (v + (n : Int)) 0 else min v (n : Int)) = (((if v < 0 then (v + (n : Int)).toNat else min v.toNat n) : Nat) : Int)
  by_cases hv : v < 0
  · simp only [if_pos hv]; omega
  · simp only [if_neg hv]; omega
theorem adjust_gen (lo hi : Option Int) (n : Nat) : Builtin.Slice.sliceAdjust lo hi 1 (n : Int) = (((sIx n 0 lo : Nat) : Int), ((sIx n n hi : Nat) : Int)) := by
  have h1 : ¬ ((1 : Int) < 0) := by omega
  unfold Builtin.Slice.sliceAdjust
  simp only [h1, if_false]
  refine Prod.ext ?_ ?_
  · cases lo with
    | none => rfl
    | some v => exact clip_eq v n 0
  · cases hi with
    | none => rfl
    | some v => exact clip_eq v n n
theorem places_gen (i j : Nat) : Builtin.Slice.slicePlaces (i : Int) (j : Int) 1 = j - i := by
  unfold Builtin.Slice.slicePlaces
  have h1 : (1 : Int) > 0 := by omega
  simp only [h1, if_true, Int.ediv_one]
  split <;> omega
theorem slicePart_ {v : Value} {o : Option Int} {Q : Option Int → Shared → Prop} (p : IsPart v o) (h : Q o s) : wpAny (model prog w) A (Builtin.Slice.slicePartIndex v) Q E s := by
  cases p with
  | none => exact slicePart_none h
  | int i t => exact slicePart_int h
theorem sliceApplied_gen {sl : Addr} {vl vu : Value} {lo hi : Option Int} {n : Nat} {Q : Int × Int × Nat → Shared → Prop} (hs : s.heap.IsSliceOf sl vl vu .none) (pl : IsPart vl lo) (pu : IsPart vu hi)
    (h : Q (((sIx n 0 lo : Nat) : Int), 1, sIx n n hi - sIx n 0 lo) s) : wpAny (model prog w) A (Builtin.Slice.sliceApplied (.ref sl) (pure (n : Int))) Q E s := by
  obtain ⟨os, hos, hcs, hds⟩ := id hs
  unfold Builtin.Slice.sliceApplied Builtin.Slice.sliceFields
  refine wpAny_bind (wpAny_bind (wpAny_field hos hds (x := vl) rfl (wpAny_bind (wpAny_field hos hds (x := vu) rfl (wpAny_bind (wpAny_field hos hds (x := .none) rfl (wpAny_pure ?_)))))))
  refine wpAny_bind (slicePart_none ?_)
  show wpAny _ _ (if ((1 : Int) == 0) = true then _ else _) _ _ s
  rw [if_neg (by decide)]
  refine wpAny_bind (slicePart_ pl (wpAny_bind (slicePart_ pu (wpAny_bind (wpAny_pure ?_)))))
  show wpAny _ _ (match Builtin.Slice.sliceAdjust lo hi 1 (n : Int) with | (lo, hi) => pure (lo, (1 : Int), Builtin.Slice.slicePlaces lo hi 1)) _ _ s
  rw [adjust_gen lo hi n]
  show wpAny _ _ (pure (((sIx n 0 lo : Nat) : Int), (1 : Int), Builtin.Slice.slicePlaces ((sIx n 0 lo : Nat) : Int) ((sIx n n hi : Nat) : Int) 1)) _ _ s
  rw [places_gen]
  exact wpAny_pure h
theorem pick_gen (xs : Array Value) (i k : Nat) : ((List.range k).filterMap fun (m : Nat) => xs[((i : Int) + (m : Int) * 1).toNat]?).toArray = ((xs.toList.drop i).take k).toArray := by
  have e : (fun (m : Nat) => xs[((i : Int) + (m : Int) * 1).toNat]?) = fun m => xs[i + m]? := by
    funext m
    have : ((i : Int) + (m : Int) * 1).toNat = i + m := by omega
    rw [this]
  rw [e]
  have := pick_run xs i k
  rw [List.filterMap_map] at this
  have e2 : ((fun x => xs[x]?) ∘ fun x => i + x) = fun m => xs[i + m]? := rfl
  rw [e2] at this
  rw [this]

theorem getItem_tuple_cut {t sl : Addr} {items : Array Value} {vl vu : Value} {lo hi : Option Int} {Q : Value → Shared → Prop} (ht : IsTup s.heap t items) (hs : s.heap.IsSliceOf sl vl vu .none) (pl : IsPart vl lo) (pu : IsPart vu hi)
    (hw : ¬ (sIx items.size 0 lo = 0 ∧ sIx items.size items.size hi = items.size))
    (h : Q (.ref s.heap.objs.size) { s with heap := s.heap.push { cls := .type "tuple", data := .seq ((items.toList.drop (sIx items.size 0 lo)).take (sIx items.size items.size hi - sIx items.size 0 lo)).toArray } })
    (hsz : items.size ≤ sizeLine) : wpAny (model prog w) A (getItem (.ref t) (.ref sl)) Q E s := by
  have htake : sizeOk (.seq ((items.toList.drop (sIx items.size 0 lo)).take (sIx items.size items.size hi - sIx items.size 0 lo)).toArray) := by
    show ((items.toList.drop (sIx items.size 0 lo)).take (sIx items.size items.size hi - sIx items.size 0 lo)).toArray.size ≤ sizeLine
    rw [List.size_toArray, List.length_take, List.length_drop, Array.length_toList]
    omega
  have hj : sIx items.size items.size hi ≤ items.size := sIx_le _ _ (Nat.le_refl _) hi
  obtain ⟨os, hos, hcs, hds⟩ := id hs
  have hTs : s.TypeIs (.ref sl) "slice" := ⟨os, hos, hcs⟩
  unfold getItem
  try with_reducible refine wpAny_holding ?_
  first | refine wpAny_bind (wpAny_pure ?_) | skip
  refine wpAny_bind (wpAny_sequenceKey ht.typeIs (by decide) ?_)
  refine wpAny_bind (wpAny_callSpecial?_slot (name := Str.ofString "__getitem__") ht.typeIs PyProof.Rows.slot_tuple_getitem
    (wpAny_call_entry PyProof.Rows.slot_tuple_getitem ht.typeIs entry_tuple_getitem ?_ (args_tuple_getitem _ _)))
  show wpAny _ _ (Builtin.Tuple.tupleItemsOf (.ref t) >>= _) _ _ s
  refine wpAny_bind (tupleItemsOf_ ht ?_)
  refine wpAny_bind (wpAny_typeOf hTs ?_)
  rw [if_pos (by decide)]
  refine wpAny_bind (sliceApplied_gen hs pl pu ?_)
  have hno : ¬ ((((sIx items.size 0 lo : Nat) : Int) == 0 && (1 : Int) == 1 && (sIx items.size items.size hi - sIx items.size 0 lo) == items.size) = true) := by
    intro q
    rw [Bool.and_eq_true, Bool.and_eq_true] at q
    have q1 : ((sIx items.size 0 lo : Nat) : Int) = 0 := eq_of_beq q.1.1
    have q2 : sIx items.size items.size hi - sIx items.size 0 lo = items.size := eq_of_beq q.2
    exact hw ⟨by omega, by omega⟩
  show wpAny _ _ (if (((sIx items.size 0 lo : Nat) : Int) == 0 && (1 : Int) == 1 && (sIx items.size items.size hi - sIx items.size 0 lo) == items.size) = true then _ else _) _ _ s
  rw [if_neg hno, pick_gen]
  first
    | exact wpAny_bind (m := Builtin.Tuple.tupleExact _) (wpAny_newObj_type (wpAny_pure ⟨_, rfl, wpAny_pure h⟩) htake)
    | exact wpAny_bind (m := Builtin.Tuple.tupleExact _) (wpAny_newObj_type (wpAny_bind (wpAny_pure (wpAny_pure ⟨_, rfl, wpAny_pure h⟩))) htake)
    | exact wpAny_bind (wpAny_bind (m := Builtin.Tuple.tupleExact _) (wpAny_newObj_type (wpAny_pure (wpAny_pure ⟨_, rfl, wpAny_pure h⟩)) htake))
    | exact wpAny_bind (wpAny_bind (m := Builtin.Tuple.tupleExact _) (wpAny_newObj_type (wpAny_pure ⟨_, rfl, wpAny_pure h⟩) htake))
end
end HT

namespace L2
open PySem PySem.Spec PyProof.Rows

noncomputable abbrev TO := St → Hp → (Option Int → Hp → Prop) → Prop
noncomputable def PO (X : Cx) (e : Option Expr) (t : TO) : Prop :=
  ∀ (pins : List (Addr × Obj)) (s : Shared) (σ : St) (H : Hp) (Q : Option Int → Hp → Prop), Inv X pins σ H s → t σ H Q →
    wpAny (model X.prog X.w) X.A (evalPart e X.env) (fun u s' => ∃ o H', Inv X pins σ H' s' ∧ IsPart u o ∧ Q o H') X.xe s
noncomputable def tNoPart : TO := fun _ H Q => Q none H
noncomputable def tPart (t : TE) : TO := fun σ H Q => t σ H fun x H1 => ∃ i, x = .int i ∧ Q (some i) H1

theorem intsAre_of {ns : List Int} : ∀ {us : List Value}, Vals (ns.map V.int) us → IntsAre us ns := by
  induction ns with
  | nil => intro us r; rw [List.map_nil] at r; cases r; exact .nil
  | cons n ns ih =>
    intro us r
    rw [List.map_cons] at r
    cases r with
    | cons r1 r2 =>
      obtain ⟨t, e⟩ := r1
      subst e
      exact .cons n t (ih r2)

section
variable {X : Cx} {e : Expr} {te : TE} {lo hi : Option Expr} {tl th : TO} {pos p2 : Pos}

theorem po_none : PO X none tNoPart := by
  intro pins s σ H Q I h
  rw [evalPart_none]
  exact wpAny_pure ⟨none, H, I, .none, h⟩
theorem po_some (h : PE X e te) : PO X (some e) (tPart te) := by
  intro pins s σ H Q I hw
  rw [evalPart_some]
  refine thn (h pins s σ H _ I hw) fun u s1 ⟨x, H1, I1, r1, q1⟩ => ?_
  obtain ⟨i, rfl, q⟩ := q1
  obtain ⟨t, rfl⟩ := r1
  exact ⟨some i, H1, I1, .int i t, q⟩

noncomputable def SlR (X : Cx) (r : V → Option Int → Option Int → Hp → VK → Prop) : Prop :=
  ∀ (pins : List (Addr × Obj)) (s : Shared) (σ : St) (H : Hp) (x : V) (v vl vu : Value) (lo hi : Option Int) (sl : Addr) (Q : VK), Inv X pins σ H s → RelV x v → s.heap.IsSliceOf sl vl vu .none → IsPart vl lo → IsPart vu hi → r x lo hi H Q →
    ∃ T id, typeLookup (.type T) "__getitem__" = pure (some (.builtin id)) ∧ s.TypeIs v T ∧ wpAny (model X.prog X.w) X.A (getItem v (.ref sl)) (EP X pins σ Q) X.xe s
noncomputable def tSl (r : V → Option Int → Option Int → Hp → VK → Prop) (te : TE) (tl th : TO) : TE := fun σ H Q => te σ H fun x H1 => tl σ H1 fun l H2 => th σ H2 fun u H3 => r x l u H3 Q
theorem pe_slice {r : V → Option Int → Option Int → Hp → VK → Prop} (hr : SlR X r) (he : PE X e te) (hl : PO X lo tl) (hu : PO X hi th) : PE X (.Subscript e (.Slice lo hi none p2) pos) (tSl r te tl th) := by
  intro pins s σ H Q I h
  refine Subscript_ (thn (he pins s σ H _ I h) fun v s1 ⟨x, H1, I1, r1, q1⟩ => ?_)
  refine wpAny_Slice (thn (hl pins s1 σ H1 _ I1 q1) fun vl s2 ⟨l, H2, I2, pl, q2⟩ => thn (hu pins s2 σ H2 _ I2 q2) fun vu s3 ⟨u, H3, I3, pu, q3⟩ => ?_)
  rw [evalPart_none]
  refine wpAny_pure ?_
  have I4 : Inv X pins σ H3 { s3 with heap := s3.heap.push { cls := .type "slice", data := .fields #[vl, vu, .none] } } := I3.kept (t' := s3.toks) fun b ob q => Heap.get?_push_of_some _ q
  obtain ⟨T, id, hT, ht, hg⟩ := hr pins { s3 with heap := s3.heap.push { cls := .type "slice", data := .fields #[vl, vu, .none] } } σ H3 x v vl vu l u s3.heap.objs.size Q I4 r1 (Heap.IsSliceOf.new ..) pl pu q3
  show wpAny (model X.prog X.w) X.A (subscriptTail e (.Slice lo hi none p2) v (.ref s3.heap.objs.size)) (EP X pins σ Q) X.xe { s3 with heap := s3.heap.push { cls := .type "slice", data := .fields #[vl, vu, .none] } }
  exact tail_any (ops := [.ref s3.heap.objs.size, v]) ht hT hg (by with_unfolding_all rfl)

noncomputable def cutV (xs : List V) (lo hi : Option Int) : List V := (xs.drop (HT.sIx xs.length 0 lo)).take (HT.sIx xs.length xs.length hi - HT.sIx xs.length 0 lo)
theorem cutV_length (xs : List V) (lo hi : Option Int) : (cutV xs lo hi).length ≤ xs.length := by
  unfold cutV
  rw [List.length_take, List.length_drop]
  omega
noncomputable def rSlT (K : PySem.W.Frag) : V → Option Int → Option Int → Hp → VK → Prop := fun x lo hi H Q => ∃ a xs, x = .ref a ∧ SqT K H a xs ∧
  ¬ (HT.sIx xs.length 0 lo = 0 ∧ HT.sIx xs.length xs.length hi = xs.length) ∧ ∀ p, H p = none → Q (.ref p) (upd H p (.tup (cutV xs lo hi)))
theorem sl_tup : SlR X (rSlT X.K) := by
  intro pins s σ H x v vl vu lo hi sl Q I rx hs pl pu h
  obtain ⟨a, xs, rfl, hx, hw, q⟩ := h
  cases rx
  obtain ⟨its, r, ht, hz⟩ := I.tuple hx
  have hlen : its.toArray.size = xs.length := by rw [List.size_toArray]; exact r.length.symm
  refine ⟨"tuple", _, PyProof.Rows.slot_tuple_getitem.lookup, ht.typeIs, ?_⟩
  refine HT.getItem_tuple_cut ht hs pl pu (by rw [hlen]; exact hw) ?_ (by rw [hlen]; exact hz)
  rw [hlen]
  refine ⟨.ref s.heap.objs.size, _, I.laid (t' := s.toks) (o := .tup (cutV xs lo hi)) (fun b ob q => Heap.get?_push_of_some _ q) (Nat.le_refl _) ?_, rfl, q _ (I.hok.fresh (Nat.le_refl _))⟩
  exact ⟨Nat.le_trans (cutV_length xs lo hi) hz, _, (r.drop (HT.sIx xs.length 0 lo)).take (HT.sIx xs.length xs.length hi - HT.sIx xs.length 0 lo), IsTupN.new _ _⟩

noncomputable def rLtT (K : PySem.W.Frag) : R2 := fun x y H Q => ∃ a b ns ms, x = .ref a ∧ y = .ref b ∧ SqT K H a (ns.map V.int) ∧ SqT K H b (ms.map V.int) ∧ Q (.bl (HT.lexLt ns ms)) H
theorem op_ltT (hu : X.A.units < cLine) : OpR X (compareOp .Lt) (rLtT X.K) := by
  intro pins s σ H x y v u Q I rx ry h
  obtain ⟨a, b, ns, ms, rfl, rfl, ha, hb, q⟩ := h
  cases rx
  cases ry
  obtain ⟨its, r1, p1, _⟩ := I.tuple ha
  obtain ⟨its2, r2, p2, _⟩ := I.tuple hb
  have i1 : IntsAre its.toArray.toList ns := intsAre_of r1
  have i2 : IntsAre its2.toArray.toList ms := intsAre_of r2
  exact HT.lt_tupInts p1 p2 i1 i2 hu ⟨.bl (HT.lexLt ns ms), H, I, rfl, q⟩
noncomputable def rCatT (K : PySem.W.Frag) : R2 := fun x y H Q => ∃ a b xs ys, x = .ref a ∧ y = .ref b ∧ SqT K H a xs ∧ SqT K H b ys ∧ xs ≠ [] ∧ xs.length + ys.length ≤ sizeLine ∧
  (ys = [] → Q (.ref a) H) ∧ (ys ≠ [] → ∀ p, H p = none → Q (.ref p) (upd H p (.tup (xs ++ ys))))
theorem Vals.nil_iff {xs : List V} {us : List Value} (r : Vals xs us) : us = [] ↔ xs = [] := by
  cases r with
  | nil => simp
  | cons _ _ => simp
theorem op_catT : OpR X (binaryOp .Add) (rCatT X.K) := by
  intro pins s σ H x y v u Q I rx ry h
  obtain ⟨a, b, xs, ys, rfl, rfl, ha, hb, hx, hz, q1, q2⟩ := h
  cases rx
  cases ry
  obtain ⟨its, r1, p1, _⟩ := I.tuple ha
  obtain ⟨its2, r2, p2, _⟩ := I.tuple hb
  refine HT.cat_tup p1 p2 (fun z => hx (r1.nil_iff.mp z)) (fun z => ⟨.ref a, H, I, rfl, q1 (r2.nil_iff.mp z)⟩) (fun z => ?_) (by rw [← r1.length, ← r2.length]; exact hz)
  refine ⟨.ref s.heap.objs.size, _, I.laid (t' := s.toks) (o := .tup (xs ++ ys)) (fun b ob q => Heap.get?_push_of_some _ q) (Nat.le_refl _) ?_, rfl, q2 (fun w => z (r2.nil_iff.mpr w)) _ (I.hok.fresh (Nat.le_refl _))⟩
  exact ⟨by rw [List.length_append]; exact hz, _, r1.append r2, IsTupN.new _ _⟩
end
end L2

namespace L2
open PySem PySem.Spec PyProof.Rows

noncomputable def ixN (n : Nat) (i : Int) : Option Nat := if 0 ≤ i then (if i < n then some i.toNat else none) else if -(n : Int) ≤ i then some (i + n).toNat else none
noncomputable def atI {α : Type} (xs : List α) (i : Int) : Option α := (ixN xs.length i).bind fun j => xs[j]?
theorem ixN_seq {n : Nat} {i : Int} {j : Nat} (h : ixN n i = some j) : seqIndex? i n = some j ∧ j < n ∧ -(n : Int) ≤ i ∧ i < n := by
  unfold ixN at h
  by_cases h0 : 0 ≤ i
  · rw [if_pos h0] at h
    by_cases h1 : i < n
    · rw [if_pos h1] at h
      have e : i.toNat = j := Option.some.inj h
      exact ⟨by rw [seqIndex_of h0 h1, e], by omega, by omega, h1⟩
    · rw [if_neg h1] at h; cases h
  · rw [if_neg h0] at h
    by_cases h1 : -(n : Int) ≤ i
    · rw [if_pos h1] at h
      have e : (i + n).toNat = j := Option.some.inj h
      exact ⟨by rw [seqIndex_neg (by omega) h1, e], by omega, h1, by omega⟩
    · rw [if_neg h1] at h; cases h
theorem atI_get {α : Type} {xs : List α} {i : Int} {v : α} (h : atI xs i = some v) : ∃ j, seqIndex? i xs.length = some j ∧ xs[j]? = some v ∧ j < xs.length ∧ -(xs.length : Int) ≤ i ∧ i < xs.length := by
  unfold atI at h
  cases e : ixN xs.length i with
  | none => rw [e] at h; cases h
  | some j =>
    rw [e] at h
    obtain ⟨h1, h2, h3, h4⟩ := ixN_seq e
    exact ⟨j, h1, h, h2, h3, h4⟩
theorem atI_nat {α : Type} {xs : List α} {j : Nat} {v : α} (h : xs[j]? = some v) : atI xs (j : Int) = some v := by
  have hj : j < xs.length := (List.getElem?_eq_some_iff.mp h).1
  have e : ixN xs.length (j : Int) = some j := by
    unfold ixN
    rw [if_pos (by omega), if_pos (by omega)]; simp
  unfold atI; rw [e]; exact h
theorem atI_last {α : Type} (xs : List α) (v : α) : atI (xs ++ [v]) (-1) = some v := by
  have hl : (xs ++ [v]).length = xs.length + 1 := by simp
  have e : ixN (xs ++ [v]).length (-1) = some xs.length := by
    unfold ixN
    rw [hl, if_neg (by decide), if_pos (by omega)]
    congr 1
    omega
  unfold atI
  rw [e]
  show (xs ++ [v])[xs.length]? = some v
  simp

noncomputable def PlainIx (b : Expr) : Prop := ∀ o i, subscripted b false o i = operate [o, i] (getItem o i)
noncomputable def IxR (X : Cx) (r : R2) : Prop :=
  ∀ (value slice : Expr) (pins : List (Addr × Obj)) (s : Shared) (σ : St) (H : Hp) (x y : V) (v u : Value) (Q : VK), Inv X pins σ H s → RelV x v → RelV y u → r x y H Q →
    subscripted slice false v u = operate [v, u] (getItem v u) → wpAny (model X.prog X.w) X.A (subscriptTail value slice v u) (EP X pins σ Q) X.xe s
noncomputable def MtR (X : Cx) (id : String) (r : V → List V → Hp → VK → Prop) : Prop :=
  ∀ (pins : List (Addr × Obj)) (s : Shared) (σ : St) (H : Hp) (x : V) (xs : List V) (v : Value) (us : List Value) (Q : VK), Inv X pins σ H s → RelV x v → Vals xs us → r x xs H Q →
    wpAny (model X.prog X.w) X.A (call (.builtin id) (v :: us)) (EP X pins σ Q) X.xe s
section
variable {X : Cx} {a b : Expr} {ta tb : TE} {pos : Pos}
theorem pe_ix {r : R2} (hr : IxR X r) (ha : PE X a ta) (hb : PE X b tb) (hs : PlainIx b) : PE X (.Subscript a b pos) (tOp r ta tb) := by
  intro pins s σ H Q I h
  exact Subscript_ (binT ha hb I h fun v u s2 x y H2 I2 rx ry q => hr a b pins s2 σ H2 x y v u Q I2 rx ry q (hs _ _))

noncomputable def rIxL (K : PySem.W.Frag) : R2 := fun x y H Q => ∃ p xs i v, x = .ref p ∧ y = .int i ∧ SqL K H p xs ∧ atI xs i = some v ∧ Q v H
noncomputable def rIxT (K : PySem.W.Frag) : R2 := fun x y H Q => ∃ p xs i v, x = .ref p ∧ y = .int i ∧ SqT K H p xs ∧ atI xs i = some v ∧ Q v H
noncomputable def rIxS : R2 := fun x y H Q => ∃ z i c, x = .str z ∧ y = .int i ∧ z.length ≤ sizeLine ∧ atI z.cps.toList i = some c ∧ Q (.str ⟨#[c]⟩) H
theorem ix_list : IxR X (rIxL X.K) := by
  intro value slice pins s σ H x y v u Q I rx ry h hs
  obtain ⟨p, xs, i, z, rfl, rfl, hq, he, q⟩ := h
  cases rx
  obtain ⟨t, rfl⟩ := ry
  obtain ⟨its, r, pl, hz⟩ := I.list hq
  obtain ⟨j, h1, h2, h3, h4, h5⟩ := atI_get he
  obtain ⟨w, ew, rw'⟩ := r.get h2
  have hl := r.length
  have hn := line63
  have fin : EP X pins σ Q w s := ⟨z, H, I, rw', q⟩
  by_cases h0 : 0 ≤ i
  · have hj : i.toNat = j := by
      rw [seqIndex_of h0 h5] at h1
      exact Option.some.inj h1
    exact item_listR pl.isList h0 (by omega) (by rw [hj]; simpa using ew) fin hs
  · have hj : (i + (its.toArray.size : Int)).toNat = j := by
      rw [seqIndex_neg (by omega) h4] at h1
      rw [List.size_toArray, ← hl]
      exact Option.some.inj h1
    exact subscriptTail_builtinR (x := w) pl.isList.typeIs slot_list_getitem.lookup
      (wpAny_getItem_list_neg (Q := fun r s' => r = w ∧ EP X pins σ Q r s') pl.isList (by omega) (by rw [List.size_toArray] <;> omega) (by omega) (by rw [hj]; simpa using ew) ⟨rfl, fin⟩) hs
theorem ix_tup : IxR X (rIxT X.K) := by
  intro value slice pins s σ H x y v u Q I rx ry h hs
  obtain ⟨p, xs, i, z, rfl, rfl, hq, he, q⟩ := h
  cases rx
  obtain ⟨t, rfl⟩ := ry
  obtain ⟨its, r, pl, hz⟩ := I.tuple hq
  obtain ⟨j, h1, h2, h3, h4, h5⟩ := atI_get he
  obtain ⟨w, ew, rw'⟩ := r.get h2
  have hl := r.length
  have hn := line63
  have fin : EP X pins σ Q w s := ⟨z, H, I, rw', q⟩
  exact subscriptTail_builtinR (x := w) pl.typeIs slot_tuple_getitem.lookup
    (getItem_tuple (j := j) (Q := fun r s' => r = w ∧ EP X pins σ Q r s') pl (by omega) (by omega) (by rw [List.size_toArray, ← hl]; exact h1) (by simpa using ew) ⟨rfl, fin⟩) hs
theorem ix_str : IxR X rIxS := by
  intro value slice pins s σ H x y v u Q I rx ry h hs
  obtain ⟨z, i, c, rfl, rfl, hz, he, q⟩ := h
  obtain ⟨t, rfl⟩ := rx
  obtain ⟨t', rfl⟩ := ry
  obtain ⟨j, h1, h2, h3, h4, h5⟩ := atI_get he
  have hl : z.cps.toList.length = z.length := by simp [Str.length]
  rw [hl] at h1 h4 h5
  have hn := line63
  exact tail_any (typeIs_str s z t) slot_str_getitem.lookup (getItem_str (c := c) (by
    have e1 : decide (i < -(2 ^ 63 : Int)) = false := decide_eq_false (by omega)
    have e2 : decide (i ≥ 2 ^ 63) = false := decide_eq_false (by omega)
    rw [e1, e2, Bool.or_false]) (by rw [h1]; simpa using h2) ⟨.str ⟨#[c]⟩, H, I.tok _, ⟨_, rfl⟩, q⟩) hs
theorem slice_bounds (lo hi : Option Int) (n : Nat) : (sliceBounds lo hi none n).1 = ((HT.sIx n 0 lo : Nat) : Int) ∧ (sliceBounds lo hi none n).2.1 = ((HT.sIx n n hi : Nat) : Int) ∧ (sliceBounds lo hi none n).2.2 = 1 := by
  refine ⟨?_, ?_, rfl⟩
  · cases lo with
    | none => simp [sliceBounds, HT.sIx]
    | some i =>
      simp only [sliceBounds, HT.sIx, Option.getD_none, show (1 : Int) > 0 by decide, if_true]
      by_cases h : i < 0
      · simp only [h, if_true] <;> omega
      · simp only [h, if_false] <;> omega
  · cases hi with
    | none => simp [sliceBounds, HT.sIx]
    | some i =>
      simp only [sliceBounds, HT.sIx, Option.getD_none, show (1 : Int) > 0 by decide, if_true]
      by_cases h : i < 0
      · simp only [h, if_true] <;> omega
      · simp only [h, if_false] <;> omega
theorem slicePick_cut (its : List Value) (lo hi : Option Int) : slicePick its.toArray lo hi none = ((its.drop (HT.sIx its.length 0 lo)).take (HT.sIx its.length its.length hi - HT.sIx its.length 0 lo)).toArray := by
  obtain ⟨h1, h2, h3⟩ := slice_bounds lo hi its.toArray.size
  unfold slicePick
  rw [h1, h2, h3]
  simp only [sliceRange_one, pick_run, List.size_toArray] <;> rfl
noncomputable def rSlL (K : PySem.W.Frag) : V → Option Int → Option Int → Hp → VK → Prop := fun x lo hi H Q => ∃ a xs, x = .ref a ∧ SqL K H a xs ∧ ∀ p, H p = none → Q (.ref p) (upd H p (.lst (cutV xs lo hi)))
theorem sl_list : SlR X (rSlL X.K) := by
  intro pins s σ H x v vl vu lo hi sl Q I rx hs pl pu h
  obtain ⟨a, xs, rfl, hx, q⟩ := h
  cases rx
  obtain ⟨its, r, ht, hz⟩ := I.list hx
  have hlen := r.length
  refine ⟨"list", _, slot_list_getitem.lookup, ht.isList.typeIs, ?_⟩
  refine wpAny_getItem_list_slice ht.isList hs pl pu .none (by simp) ?_ (by rw [List.size_toArray] <;> omega)
  rw [slicePick_cut, ← hlen]
  refine ⟨.ref s.heap.objs.size, _, I.laid (t' := s.toks) (o := .lst (cutV xs lo hi)) (fun b ob q => Heap.get?_push_of_some _ q) (Nat.le_refl _) ?_, rfl, q _ (I.hok.fresh (Nat.le_refl _))⟩
  exact ⟨Nat.le_trans (cutV_length xs lo hi) hz, _, 0, (r.drop (HT.sIx xs.length 0 lo)).take (HT.sIx xs.length xs.length hi - HT.sIx xs.length 0 lo), Heap.get?_push_size _ rfl⟩

noncomputable def flatV : V → Bool
  | .non => true
  | .bl _ => true
  | .int _ => true
  | .str _ => true
  | _ => false
noncomputable def eqV : V → V → Bool
  | .non, .non => true
  | .bl a, .bl b => a == b
  | .bl a, .int b => (if a then 1 else 0) == b
  | .int a, .bl b => a == (if b then 1 else 0)
  | .int a, .int b => a == b
  | .str a, .str b => a == b
  | _, _ => false
theorem eqAt_V {A : Around} {s : Shared} {y x : V} {u v : Value} (ry : RelV y u) (rx : RelV x v) (fy : flatV y = true) (fx : flatV x = true) : SeqAt.EqAt A s u v (eqV y x) := by
  cases y with
  | non =>
    cases ry
    cases x with
    | non => cases rx; exact SeqAt.EqAt.same _
    | bl b => cases rx; exact SeqAt.EqAt.none_bool b
    | int b => obtain ⟨t, rfl⟩ := rx; exact SeqAt.EqAt.none_int b t
    | str b => obtain ⟨t, rfl⟩ := rx; exact SeqAt.EqAt.none_str b t
    | _ => exact absurd (show false = true from fx) Bool.false_ne_true
  | bl a =>
    cases ry
    cases x with
    | non => cases rx; exact SeqAt.EqAt.bool_none a
    | bl b => cases rx; exact SeqAt.EqAt.bool_bool a b
    | int b => obtain ⟨t, rfl⟩ := rx; exact SeqAt.EqAt.bool_int a b t
    | str b => obtain ⟨t, rfl⟩ := rx; exact SeqAt.EqAt.bool_str a b t
    | _ => exact absurd (show false = true from fx) Bool.false_ne_true
  | int a =>
    obtain ⟨t', rfl⟩ := ry
    cases x with
    | non => cases rx; exact SeqAt.EqAt.int_none a t'
    | bl b => cases rx; exact SeqAt.EqAt.int_bool a t' b
    | int b => obtain ⟨t, rfl⟩ := rx; exact SeqAt.EqAt.int_int a t' b t
    | str b => obtain ⟨t, rfl⟩ := rx; exact SeqAt.EqAt.int_str a t' b t
    | _ => exact absurd (show false = true from fx) Bool.false_ne_true
  | str a =>
    obtain ⟨t', rfl⟩ := ry
    cases x with
    | non => cases rx; exact SeqAt.EqAt.str_none a t'
    | bl b => cases rx; exact SeqAt.EqAt.str_bool a t' b
    | int b => obtain ⟨t, rfl⟩ := rx; exact SeqAt.EqAt.str_int a t' b t
    | str b => obtain ⟨t, rfl⟩ := rx; exact SeqAt.EqAt.str_str a t' b t
    | _ => exact absurd (show false = true from fx) Bool.false_ne_true
  | _ => exact absurd (show false = true from fy) Bool.false_ne_true
noncomputable def eqU (x : V) (u : Value) : Bool := match u with
  | .none => eqV .non x
  | .bool b => eqV (.bl b) x
  | .int i _ => eqV (.int i) x
  | .str z _ => eqV (.str z) x
  | _ => false
theorem eqU_of {x y : V} {u : Value} (r : RelV y u) (f : flatV y = true) : eqU x u = eqV y x := by
  cases y with
  | non => cases r; rfl
  | bl b => cases r; rfl
  | int i => obtain ⟨t, rfl⟩ := r; rfl
  | str z => obtain ⟨t, rfl⟩ := r; rfl
  | _ => exact absurd (show false = true from f) Bool.false_ne_true
theorem any_eqU {x : V} : ∀ {xs : List V} {us : List Value}, Vals xs us → xs.all flatV = true → us.any (eqU x) = xs.any fun y => eqV y x
  | _, _, .nil, _ => rfl
  | y :: xs, u :: us, .cons r t, f => by
    rw [List.all_cons, Bool.and_eq_true] at f
    rw [List.any_cons, List.any_cons, eqU_of r f.1, any_eqU t f.2]
theorem mem_eqAt {A : Around} {s : Shared} {x : V} {v : Value} (rx : RelV x v) (fx : flatV x = true) : ∀ {xs : List V} {us : List Value}, Vals xs us → xs.all flatV = true → ∀ u ∈ us, SeqAt.EqAt A s u v (eqU x u)
  | _, _, .nil, _ => fun u hu => by cases hu
  | y :: xs, u :: us, .cons r t, f => fun u' hu => by
    rw [List.all_cons, Bool.and_eq_true] at f
    rcases List.mem_cons.mp hu with rfl | hu
    · rw [eqU_of r f.1]; exact eqAt_V r rx f.1 fx
    · exact mem_eqAt rx fx t f.2 u' hu
noncomputable def inV (x : V) (xs : List V) : Bool := xs.any fun y => eqV y x
noncomputable def rIn (K : PySem.W.Frag) (neg : Bool) : R2 := fun x y H Q => ∃ p xs, y = .ref p ∧ (SqL K H p xs ∨ SqT K H p xs) ∧ flatV x = true ∧ xs.all flatV = true ∧ Q (.bl (if neg then !inV x xs else inV x xs)) H
theorem op_in_seq : OpR X (compareOp .In) (rIn X.K false) := by
  intro pins s σ H x y v u Q I rx ry h
  obtain ⟨p, xs, rfl, hq, fx, fs, q⟩ := h
  cases ry
  rcases hq with hq | hq
  · obtain ⟨its, r, pl, hz⟩ := I.list hq
    refine SeqAt.in_listAt (eqU x) pl.isList (fun w hw => mem_eqAt rx fx r fs w (by simpa using hw)) ⟨.bl _, H, I, rfl, ?_⟩
    rw [show its.toArray.any (eqU x) = its.any (eqU x) by simp, any_eqU r fs]
    exact q
  · obtain ⟨its, r, pl, hz⟩ := I.tuple hq
    refine SeqAt.in_tupleAt (eqU x) pl (fun w hw => mem_eqAt rx fx r fs w (by simpa using hw)) ⟨.bl _, H, I, rfl, ?_⟩
    rw [show its.toArray.any (eqU x) = its.any (eqU x) by simp, any_eqU r fs]
    exact q
theorem call_len_seq : CallR X (.builtin "len") (fun xs H Q => ∃ p ys, xs = [.ref p] ∧ (SqL X.K H p ys ∨ SqT X.K H p ys) ∧ Q (.int ys.length) H) := by
  intro pins s σ H xs us Q I r h
  obtain ⟨p, ys, rfl, hq, q⟩ := h
  obtain ⟨u, rfl, rx⟩ := vals1 r
  cases rx
  have hn := line63
  rcases hq with hq | hq
  · obtain ⟨its, r', pl, hz⟩ := I.list hq
    have hlen := r'.length
    exact Calls.call_len_list pl.isList (by simp only [List.size_toArray] <;> omega) ⟨.int ys.length, H, I.tok _, ⟨s.toks + 1, by rw [List.size_toArray, hlen]⟩, q⟩
  · obtain ⟨its, r', pl, hz⟩ := I.tuple hq
    have hlen := r'.length
    exact len_tuple pl (by simp only [List.size_toArray] <;> omega) ⟨.int ys.length, H, I.tok _, ⟨s.toks + 1, by rw [List.size_toArray, hlen]⟩, q⟩
theorem call_len_str : CallR X (.builtin "len") (fun xs H Q => ∃ z, xs = [.str z] ∧ z.length ≤ sizeLine ∧ Q (.int z.length) H) := by
  intro pins s σ H xs us Q I r h
  obtain ⟨z, rfl, hz, q⟩ := h
  obtain ⟨u, rfl, t, rfl⟩ := vals1 r
  have hn := line63
  exact len_str (by omega) ⟨.int z.length, H, I.tok _, ⟨_, rfl⟩, q⟩
theorem call_list_of : CallR X (.type "list") (fun xs H Q => ∃ p ys, xs = [.ref p] ∧ (SqL X.K H p ys ∨ SqT X.K H p ys) ∧ ∀ l, H l = none → Q (.ref l) (upd H l (.lst ys))) := by
  intro pins s σ H xs us Q I r h
  obtain ⟨p, ys, rfl, hq, q⟩ := h
  obtain ⟨u, rfl, rx⟩ := vals1 r
  cases rx
  have fin : ∀ (its : List Value), Vals ys its → ys.length ≤ sizeLine → ∀ (h' : Heap) (c' : Nat), (∀ b o', s.heap.get? b = some o' → h'.get? b = some o') →
      h'.get? s.heap.objs.size = some { cls := .type "list", dict := none, data := .seq its.toArray c', slots := #[] } → EP X pins σ Q (.ref s.heap.objs.size) { s with heap := h' } := fun its r' hz h' c' kp e =>
    ⟨.ref s.heap.objs.size, _, I.laid (t' := s.toks) kp (Nat.le_refl _) (show ObjOk X.prog X.w _ h' _ (.lst ys) from ⟨hz, its, c', r', e⟩), rfl, q _ (I.hok.fresh (Nat.le_refl _))⟩
  rcases hq with hq | hq
  · obtain ⟨its, r', pl, hz⟩ := I.list hq
    have hlen := r'.length
    obtain ⟨o, ho, hc, n, hd⟩ := pl.isList
    exact call_list_seq p (.inl rfl) ho hc hd (fun h' c' kp e => fin its r' hz h' c' kp e) (by simp only [List.size_toArray] <;> omega)
  · obtain ⟨its, r', pl, hz⟩ := I.tuple hq
    have hlen := r'.length
    obtain ⟨o, ho, hc, n, hd⟩ := pl
    exact call_list_seq p (.inr rfl) ho hc hd (fun h' c' kp e => fin its r' hz h' c' kp e) (by simp only [List.size_toArray] <;> omega)
theorem call_tuple_of : CallR X (.type "tuple") (fun xs H Q => ∃ p ys, xs = [.ref p] ∧ ((SqL X.K H p ys ∧ ∀ l, H l = none → Q (.ref l) (upd H l (.tup ys))) ∨ (SqT X.K H p ys ∧ Q (.ref p) H))) := by
  intro pins s σ H xs us Q I r h
  obtain ⟨p, ys, rfl, h⟩ := h
  obtain ⟨u, rfl, rx⟩ := vals1 r
  cases rx
  rcases h with ⟨hq, q⟩ | ⟨hq, q⟩
  · obtain ⟨its, r', pl, hz⟩ := I.list hq
    have hlen := r'.length
    refine call_tuple_list pl.isList (fun h' kp => ?_) (by simp only [List.size_toArray] <;> omega)
    have I1 : Inv X pins σ H { s with heap := h' } := I.kept (t' := s.toks) kp
    have I2 : Inv X pins σ (upd H h'.objs.size (.tup ys)) { s with heap := h'.push { cls := .type "tuple", data := .seq its.toArray } } :=
      I1.laid (t' := s.toks) (fun b o e => Heap.get?_push_of_some _ e) (Nat.le_refl _) (show ObjOk X.prog X.w _ _ _ (.tup ys) from ⟨hz, its, r', IsTupN.new _ _⟩)
    exact ⟨.ref h'.objs.size, _, I2, rfl, q _ (I1.hok.fresh (Nat.le_refl _))⟩
  · obtain ⟨its, r', pl, hz⟩ := I.tuple hq
    exact call_tuple_same pl ⟨.ref p, H, I, rfl, q⟩

noncomputable def tyV (K : PySem.W.Frag) (T : String) (x : V) (H : Hp) : Prop := match x with
  | .str _ => T = "str"
  | .int _ => T = "int"
  | .ref p => (T = "list" ∧ ∃ xs, SqL K H p xs) ∨ (T = "tuple" ∧ ∃ o, K.lookup p = some o ∧ o.cls = .type "tuple" ∧ o.dict = none) ∨
      (T = "dict" ∧ ((∃ kvs, H p = some (.dK kvs)) ∨ ∃ kvs, H p = some (.dT kvs))) ∨ (T = "set" ∧ ∃ S n, H p = some (.set S n))
  | _ => False
theorem tyV_is {pins : List (Addr × Obj)} {σ : St} {H : Hp} {s : Shared} {T : String} {x : V} {v : Value} (I : Inv X pins σ H s) (r : RelV x v) (ty : tyV X.K T x H) :
    s.TypeIs v T ∧ ∀ a, v = .ref a → ∃ ob, s.heap.get? a = some ob ∧ ob.dict = none := by
  cases x with
  | str z =>
    obtain ⟨t, rfl⟩ := r
    cases (show T = "str" from ty)
    exact ⟨typeIs_str s z t, fun _ e => nomatch e⟩
  | int i =>
    obtain ⟨t, rfl⟩ := r
    cases (show T = "int" from ty)
    exact ⟨typeIs_int s i t, fun _ e => nomatch e⟩
  | ref p =>
    cases r
    rcases ty with ⟨rfl, xs, hq⟩ | ⟨rfl, o, hk, hc, hd⟩ | ⟨rfl, hk⟩ | ⟨rfl, S, n, hk⟩
    · obtain ⟨its, _, pl, _⟩ := I.list hq
      refine ⟨pl.isList.typeIs, fun a e => ?_⟩
      cases e
      obtain ⟨o, n, e, c, hd, _⟩ := pl
      exact ⟨o, e, hd⟩
    · refine ⟨⟨o, I.kIn p o hk, hc⟩, fun a e => ?_⟩
      cases e
      exact ⟨o, I.kIn _ o hk, hd⟩
    · have z : ∃ o, s.heap.get? p = some o ∧ o.ExactDict := by
        rcases hk with ⟨kvs, hk⟩ | ⟨kvs, hk⟩
        · obtain ⟨_, _, _, _, o, _, _, e, ex, _⟩ := I.hok p _ hk
          exact ⟨o, e, ex⟩
        · obtain ⟨_, _, _, _, o, _, _, e, ex, _⟩ := I.hok p _ hk
          exact ⟨o, e, ex⟩
      obtain ⟨o, e, ex⟩ := z
      refine ⟨⟨o, e, ex.1⟩, fun a e2 => ?_⟩
      cases e2
      exact ⟨o, e, ex.2.1⟩
    · obtain ⟨o, _, _, _, e, ex, _⟩ := I.hok p _ hk
      refine ⟨⟨o, e, ex.1⟩, fun a e2 => ?_⟩
      cases e2
      exact ⟨o, e, ex.2.1⟩
  | _ => exact False.elim ty
noncomputable def tBM0 (K : PySem.W.Frag) (T : String) (r : V → List V → Hp → VK → Prop) (to : TE) : TE := fun σ H Q => to σ H fun x H1 => tyV K T x H1 ∧ r x [] H1 Q
noncomputable def tBM (K : PySem.W.Frag) (T : String) (r : V → List V → Hp → VK → Prop) (to : TE) (t : TA) : TE := fun σ H Q => to σ H fun x H1 => tyV K T x H1 ∧ t σ H1 fun xs H2 => r x xs H2 Q
variable {o e : Expr} {es : List Expr} {to : TE} {t : TA} {name : Str} {apos cpos : Pos} {T id : String} {r : V → List V → Hp → VK → Prop}
theorem pe_bm0 (pa : PlainAttrs T) (slot : Slot T name id) (hty : typeOf (.builtin id) = pure (.type "method_descriptor")) (hm : MtR X id r) (ho : PE X o to)
    (hbase : attributeBase o name X.env (eval o X.env) = eval o X.env := by rfl) (hline : (apos.endLine == cpos.line) = true := by rfl) : PE X (.Call (.Attribute o name apos) [] [] cpos) (tBM0 X.K T r to) := by
  intro pins s σ H Q I h
  refine wpAny_Call_method0_late hbase hline (thn (ho pins s σ H _ I h) fun v s1 ⟨x, H1, I1, r1, ty, q1⟩ => ?_)
  obtain ⟨h1, h2⟩ := tyV_is I1 r1 ty
  exact ⟨T, id, pa, slot, hty, h1, h2, Calls.callWith_builtin rfl (PySem.evalArgs_none (hm pins s1 σ H1 x [] v [] Q I1 r1 .nil q1))⟩
theorem pe_bm (pa : PlainAttrs T) (slot : Slot T name id) (hty : typeOf (.builtin id) = pure (.type "method_descriptor")) (hm : MtR X id r) (ho : PE X o to) (ha : PA X (e :: es) t)
    (hbase : attributeBase o name X.env (eval o X.env) = eval o X.env := by rfl)
    (hfew : ((backTo cpos (starEach (e :: es) X.env)).all (fun x => !x.1) && (backToKw cpos (keywordEach [] X.env)).all (fun x => x.1.isSome)
      && decide ((e :: es).length + ([] : List Keyword).length + (if ([] : List Keyword).isEmpty then 0 else 1) < 30)) = true := by rfl)
    (hline : (apos.endLine == cpos.line) = true := by rfl) (hs : starEach (e :: es) X.env = (false, eval e X.env) :: starEach es X.env := by rfl) (hplain : (backTo cpos (starEach es X.env)).any (·.1) = false := by rfl) :
    PE X (.Call (.Attribute o name apos) (e :: es) [] cpos) (tBM X.K T r to t) := by
  intro pins s σ H Q I h
  refine wpAny_Call_method_late hbase hfew hline rfl (thn (ho pins s σ H _ I h) fun v s1 ⟨x, H1, I1, r1, ty, q1⟩ => ?_)
  obtain ⟨h1, h2⟩ := tyV_is I1 r1 ty
  refine ⟨T, id, pa, slot, hty, h1, h2, ?_⟩
  have hA := ha cpos pins s1 σ H1 _ I1 q1
  rw [hs] at hA ⊢
  refine Calls.callWith_builtin (by show (false || (backTo cpos (starEach es X.env)).any (·.1)) = false; rw [hplain] <;> rfl) (Calls.evalArgs_plain ?_)
  exact thn hA fun us s2 ⟨vs, H2, I2, r2, q2⟩ => hm pins s2 σ H2 x vs v us Q I2 r1 r2 q2
end
end L2

namespace L2
open PySem PySem.Spec PyProof.Rows

noncomputable def MtM (X : Cx) (id : String) (r : V → List V → Hp → VK → Prop) : Prop :=
  ∀ (pins : List (Addr × Obj)) (s : Shared) (σ : St) (H : Hp) (x : V) (xs : List V) (v : Value) (us : List Value) (Q : VK), Inv X pins σ H s → RelV x v → Vals xs us → r x xs H Q →
    wpAny (model X.prog X.w) X.A (call (.builtin id) (v :: us)) (EP X pins σ Q) X.xe s

theorem Vals.one : ∀ {x : V} {us : List Value}, Vals [x] us → ∃ u, us = [u] ∧ RelV x u := by
  intro x us h
  cases h with
  | cons r q =>
    cases q
    exact ⟨_, rfl, r⟩
theorem Vals.two : ∀ {x y : V} {us : List Value}, Vals [x, y] us → ∃ u v, us = [u, v] ∧ RelV x u ∧ RelV y v := by
  intro x y us h
  cases h with
  | cons r q =>
    obtain ⟨v, rfl, z⟩ := Vals.one q
    exact ⟨_, _, rfl, r, z⟩
theorem Vals.zero : ∀ {us : List Value}, Vals [] us → us = []
  | _, .nil => rfl
theorem Vals.dropLast {xs : List V} {us : List Value} (h : Vals xs us) : Vals xs.dropLast us.dropLast := by
  induction h with
  | nil => exact .nil
  | cons r t ih =>
    cases t with
    | nil => exact .nil
    | cons q t' => exact .cons r ih
theorem erase_last {α : Type} (l : List α) : l.eraseIdx (l.length - 1) = l.dropLast := by
  induction l with
  | nil => rfl
  | cons a r ih =>
    cases r with
    | nil => rfl
    | cons b r =>
      have e : (a :: b :: r).length - 1 = ((b :: r).length - 1) + 1 := by
        have h1 : (a :: b :: r).length = r.length + 2 := rfl
        have h2 : (b :: r).length = r.length + 1 := rfl
        omega
      rw [e, List.eraseIdx_cons_succ, ih]
      all_goals rfl
section
variable {X : Cx} {pins : List (Addr × Obj)} {σ : St} {H : Hp} {s : Shared} {l b : Addr} {xs ys zs : List V}

theorem Inv.lset {its its' : List Value} {n : Nat} {f : Array Value → Array Value} {t' : Nat} (I : Inv X pins σ H s) (hH : H l = some (.lst xs))
    (e : s.heap.get? l = some { cls := .type "list", data := .seq its.toArray n }) (hf : f its.toArray = its'.toArray) (hv : Vals ys its') (hz : ys.length ≤ sizeLine) :
    Inv X pins σ (upd H l (.lst ys)) { s with heap := s.heap.update l (Obj.mapSeq f), toks := t' } := by
  have q := PySem.IsL.update e f
  rw [hf] at q
  refine I.write (x := l) (e := l) (by rw [hH]; exact trivial) (.inl rfl) (fun b' u hb hu => (Heap.get?_update_other s.heap (Obj.mapSeq f) (Ne.symm hb)).trans hu) ⟨_, q⟩ ?_
  exact ⟨hz, its', _, hv, q⟩
theorem Inv.lnew {its : List Value} {t' : Nat} (I : Inv X pins σ H s) (hv : Vals ys its) (hz : ys.length ≤ sizeLine) :
    Inv X pins σ (upd H s.heap.objs.size (.lst ys)) { s with heap := s.heap.push { cls := .type "list", data := .seq its.toArray }, toks := t' } :=
  I.laid (fun _ _ q => Heap.get?_push_of_some _ q) (Nat.le_refl _) ⟨hz, its, 0, hv, Heap.get?_push_size _ rfl⟩
theorem Inv.fresh (I : Inv X pins σ H s) : H s.heap.objs.size = none := I.hok.fresh (Nat.le_refl _)
theorem Inv.lstM (I : Inv X pins σ H s) (hH : H l = some (.lst xs)) : xs.length ≤ sizeLine ∧ ∃ (its : List Value) (n : Nat), Vals xs its ∧ xs.length = its.length ∧ s.heap.get? l = some { cls := .type "list", data := .seq its.toArray n } := by
  obtain ⟨z, its, n, r, e⟩ := I.hok l _ hH
  exact ⟨z, its, n, r, r.length, e⟩

end

section
variable {X : Cx}

noncomputable def rAppend : V → List V → Hp → VK → Prop := fun x vs H Q => ∃ l xs y, x = .ref l ∧ vs = [y] ∧ H l = some (.lst xs) ∧ xs.length < sizeLine ∧ Q .non (upd H l (.lst (xs ++ [y])))
theorem mt_append : MtM X "list.append" rAppend := by
  intro pins s σ H x vs v us Q I rx rv h
  obtain ⟨l, xs, y, rfl, rfl, hH, hz, q⟩ := h
  cases rx
  obtain ⟨u, rfl, ru⟩ := rv.one
  obtain ⟨z, its, n, r, hl, e⟩ := I.lstM hH
  refine call_meets F.slot_list_append ⟨_, e, rfl⟩ F.entry_list_append (F.args_list_append_2 _ _) (PySem.list_append l its.toArray n u (by rw [List.size_toArray]; omega)) ⟨e, ?_⟩
  refine ⟨.non, _, I.lset (its' := its ++ [u]) hH e (by simp) (r.append (.cons ru .nil)) ?_, rfl, q⟩
  rw [List.length_append, List.length_singleton]
  omega

noncomputable def rPop : V → List V → Hp → VK → Prop := fun x vs H Q => ∃ l xs y, x = .ref l ∧ vs = [] ∧ H l = some (.lst xs) ∧ xs[xs.length - 1]? = some y ∧ Q y (upd H l (.lst xs.dropLast))
theorem mt_pop : MtM X "list.pop" rPop := by
  intro pins s σ H x vs v us Q I rx rv h
  obtain ⟨l, xs, y, rfl, rfl, hH, hy, q⟩ := h
  cases rx
  have hus := rv.zero
  subst hus
  obtain ⟨z, its, n, r, hl, e⟩ := I.lstM hH
  obtain ⟨u, hu, ru⟩ := r.get hy
  have hy' : its.toArray[its.toArray.size - 1]? = some u := by
    show its.toArray[its.length - 1]? = some u
    rw [← Array.getElem?_toList, ← hl]
    exact hu
  refine call_meets F.slot_list_pop ⟨_, e, rfl⟩ F.entry_list_pop (F.args_list_pop_1 _) (MeetsSeq.list_pop_last l its.toArray n u hy' (by rw [List.size_toArray]; omega)) ⟨e, ?_⟩
  refine ⟨y, _, I.lset (its' := its.dropLast) hH e ?_ r.dropLast ?_, ru, q⟩
  · show its.toArray.eraseIdxIfInBounds (its.toArray.size - 1) = its.dropLast.toArray
    rw [List.size_toArray, List.eraseIdxIfInBounds_toArray, erase_last]
  · rw [List.length_dropLast]
    omega

noncomputable def rCat : R2 := fun x y H Q => ∃ l b xs zs, x = .ref l ∧ y = .ref b ∧ H l = some (.lst xs) ∧ H b = some (.lst zs) ∧ xs.length + zs.length ≤ sizeLine ∧ ∀ p, H p = none → Q (.ref p) (upd H p (.lst (xs ++ zs)))
theorem op_cat : OpR X (binaryOp .Add) rCat := by
  intro pins s σ H x y v u Q I rx ry h
  obtain ⟨l, b, xs, zs, rfl, rfl, hH, hB, hz, q⟩ := h
  cases rx
  cases ry
  obtain ⟨z, its, n, r, hl, e⟩ := I.lstM hH
  obtain ⟨z2, its2, n2, r2, hl2, e2⟩ := I.lstM hB
  refine PySem.P.add_list e e2 ?_ (by rw [List.size_toArray, List.size_toArray]; omega)
  have ea : its.toArray ++ its2.toArray = (its ++ its2).toArray := by simp
  rw [ea]
  exact ⟨.ref _, _, I.lnew (t' := s.toks) (r.append r2) (by rw [List.length_append]; omega), rfl, q _ I.fresh⟩
end

section
variable {prog : Program} {w : World} {A : Around} {E : Value → Shared → Prop} {s : Shared}
set_option maxRecDepth 100000 in
end

section
variable {X : Cx}
end
end L2

namespace L2
open PySem PySem.Spec PyProof.Rows

section
variable {κ : Type} [DecidableEq κ]
noncomputable def valV (kvs : List (κ × V)) (k : κ) : Option V := (kvs.find? fun kv => decide (kv.1 = k)).map (·.2)
noncomputable def putK (kvs : List (κ × V)) (k : κ) (v : V) : List (κ × V) :=
  if (kvs.any fun kv => decide (kv.1 = k)) = true then kvs.map (fun kv => if kv.1 = k then (kv.1, v) else kv) else kvs ++ [(k, v)]
theorem valV_pos {p : κ × V} {r : List (κ × V)} {k : κ} (e : p.1 = k) : valV (p :: r) k = some p.2 := by simp [valV, List.find?_cons, e]
theorem valV_neg {p : κ × V} {r : List (κ × V)} {k : κ} (e : ¬ p.1 = k) : valV (p :: r) k = valV r k := by simp [valV, List.find?_cons, e]
theorem valV_any (k : κ) : ∀ kvs : List (κ × V), (kvs.any fun kv => decide (kv.1 = k)) = (valV kvs k).isSome
  | [] => rfl
  | p :: r => by
    rw [List.any_cons]
    by_cases e : p.1 = k
    · simp only [valV_pos e, decide_eq_true e, Bool.true_or, Option.isSome_some]
    · rw [valV_neg e, decide_eq_false e, Bool.false_or]; exact valV_any k r
theorem valV_map (k j : κ) (y : V) : ∀ kvs : List (κ × V), valV (kvs.map fun kv => if kv.1 = k then (kv.1, y) else kv) j = (valV kvs j).map fun x => if j = k then y else x
  | [] => rfl
  | p :: r => by
    have ih := valV_map k j y r
    rw [List.map_cons]
    by_cases h : p.1 = k
    · rw [if_pos h]
      by_cases e : p.1 = j
      · rw [valV_pos (p := (p.1, y)) e, valV_pos e, Option.map_some, if_pos (e.symm.trans h)]
      · rw [valV_neg (p := (p.1, y)) e, valV_neg e, ih]
    · rw [if_neg h]
      by_cases e : p.1 = j
      · rw [valV_pos (p := p) e, valV_pos e, Option.map_some, if_neg (fun z => h (e.trans z))]
      · rw [valV_neg (p := p) e, valV_neg e, ih]
theorem valV_snoc (k j : κ) (y : V) : ∀ kvs : List (κ × V), valV kvs k = none → valV (kvs ++ [(k, y)]) j = if j = k then some y else valV kvs j
  | [], _ => by
    by_cases e : k = j
    · rw [if_pos e.symm]; exact valV_pos (p := (k, y)) e
    · rw [if_neg (fun z => e z.symm)]; exact valV_neg (p := (k, y)) e
  | p :: r, hn => by
    rw [List.cons_append]
    have hk : ¬ p.1 = k := fun z => by rw [valV_pos z] at hn; cases hn
    rw [valV_neg hk] at hn
    have ih := valV_snoc k j y r hn
    by_cases e : p.1 = j
    · rw [valV_pos e, valV_pos e, if_neg (fun z => hk (e.trans z))]
    · rw [valV_neg e, valV_neg e, ih]
theorem valV_put (kvs : List (κ × V)) (k j : κ) (y : V) : valV (putK kvs k y) j = if j = k then some y else valV kvs j := by
  unfold putK
  by_cases a : (kvs.any fun kv => decide (kv.1 = k)) = true
  · rw [if_pos a, valV_map]
    rw [valV_any] at a
    by_cases e : j = k
    · obtain ⟨x, hx⟩ := Option.isSome_iff_exists.mp a
      rw [if_pos e, e, hx, Option.map_some, if_pos rfl]
    · rw [if_neg e]
      cases valV kvs j with
      | none => rfl
      | some x => rw [Option.map_some, if_neg e]
  · rw [if_neg a]
    refine valV_snoc k j y kvs ?_
    rw [valV_any] at a
    cases q : valV kvs k with
    | none => rfl
    | some x => rw [q] at a; exact (a rfl).elim
theorem length_putK (kvs : List (κ × V)) (k : κ) (v : V) : (putK kvs k v).length ≤ kvs.length + 1 := by
  unfold putK
  split
  · rw [List.length_map]; omega
  · rw [List.length_append, List.length_cons, List.length_nil]; omega
theorem putK_new {kvs : List (κ × V)} {k : κ} (v : V) (h : valV kvs k = none) : putK kvs k v = kvs ++ [(k, v)] := by
  unfold putK
  rw [valV_any, h]
  exact if_neg (by decide)

theorem RelO.isSome_eq {o : Option V} {u : Option Value} (r : RelO o u) : o.isSome = u.isSome := by
  cases o with
  | none => cases u with
    | none => rfl
    | some _ => exact (show False from r).elim
  | some _ => cases u with
    | none => exact (show False from r).elim
    | some _ => rfl
theorem KV.val {kvs : List (κ × V)} {vs : List (κ × Value)} (r : KV kvs vs) (k : κ) : RelO (valV kvs k) (valueAt vs k) := by
  unfold KV at r
  induction r with
  | nil => exact True.intro
  | @cons p q ps qs h t ih =>
    obtain ⟨h1, h2⟩ := h
    by_cases e : p.1 = k
    · have e' : q.1 = k := h1.symm.trans e
      have b : valueAt (q :: qs) k = some q.2 := by simp [valueAt, List.find?_cons, e']
      rw [valV_pos e, b]; exact h2
    · have e' : ¬ q.1 = k := fun z => e (h1.trans z)
      have b : valueAt (q :: qs) k = valueAt qs k := by simp [valueAt, List.find?_cons, e']
      rw [valV_neg e, b]; exact ih
theorem KV.any {kvs : List (κ × V)} {vs : List (κ × Value)} (r : KV kvs vs) (k : κ) : (kvs.any fun kv => decide (kv.1 = k)) = vs.any fun kv => decide (kv.1 = k) := by
  unfold KV at r
  induction r with
  | nil => rfl
  | cons h t ih => rw [List.any_cons, List.any_cons, ih, h.1]
theorem KV.repl {kvs : List (κ × V)} {vs : List (κ × Value)} (r : KV kvs vs) (k : κ) {y : V} {u : Value} (ry : RelV y u) :
    KV (kvs.map fun kv => if kv.1 = k then (kv.1, y) else kv) (vs.map fun kv => if kv.1 = k then (kv.1, u) else kv) := by
  unfold KV at r ⊢
  induction r with
  | nil => exact .nil
  | @cons p q ps qs h t ih =>
    rw [List.map_cons, List.map_cons]
    refine .cons ?_ ih
    obtain ⟨h1, h2⟩ := h
    by_cases e : p.1 = k
    · rw [if_pos e, if_pos (h1.symm.trans e)]; exact ⟨h1, ry⟩
    · rw [if_neg e, if_neg (fun z => e (h1.trans z))]; exact ⟨h1, h2⟩
theorem KV.put {kvs : List (κ × V)} {vs : List (κ × Value)} (r : KV kvs vs) (k : κ) {y : V} {u : Value} (ry : RelV y u) : KV (putK kvs k y) (stored vs k u) := by
  unfold putK stored
  rw [r.any k]
  by_cases e : (vs.any fun kv => decide (kv.1 = k)) = true
  · rw [if_pos e, if_pos e]; exact r.repl k ry
  · rw [if_neg e, if_neg e]; exact Paired.snoc r ⟨rfl, ry⟩
theorem KV.length {kvs : List (κ × V)} {vs : List (κ × Value)} (r : KV kvs vs) : kvs.length = vs.length := Paired.length r
end


theorem kV_is {P : Program} {w : World} {k : Key} {u : Value} (r : RelV (kV k) u) : (mixKind P w).is k u = true := by
  cases k with
  | inl i => obtain ⟨t, e⟩ := (show ∃ t, u = Value.int i t from r); subst e; exact mixKind_int P w i t
  | inr x => obtain ⟨t, e⟩ := (show ∃ t, u = Value.str x t from r); subst e; exact mixKind_str P w x t
theorem items_are {P : Program} {w : World} : ∀ {ks : List Key} {us : List Value}, Vals (ks.map kV) us → ItemsAre (mixKind P w) ks us
  | [], _, r => by rw [List.map_nil] at r; cases r; exact .nil
  | k :: ks, _, r => by
    rw [List.map_cons] at r
    cases r with
    | cons h t => exact .cons (kV_is h) (items_are t)

noncomputable abbrev KT (H : Hp) : List (List Key × V) → List (List Key × Addr × Value) → Prop := Paired fun p q => p.1 = q.1 ∧ H q.2.1 = some (.tup (p.1.map kV)) ∧ RelV p.2 q.2.2
theorem KT.val {H : Hp} {kvs : List (List Key × V)} {xs : List (List Key × Addr × Value)} (r : KT H kvs xs) (k : List Key) : RelO (valV kvs k) ((atKey xs k).map (·.2)) := by
  induction r with
  | nil => exact True.intro
  | @cons p q ps qs h t ih =>
    obtain ⟨h1, _, h2⟩ := h
    by_cases e : p.1 = k
    · have e' : q.1 = k := h1.symm.trans e
      have b : atKey (q :: qs) k = some q.2 := by simp [atKey, List.find?_cons, e']
      rw [valV_pos e, b]; exact h2
    · have e' : ¬ q.1 = k := fun z => e (h1.trans z)
      have b : atKey (q :: qs) k = atKey qs k := by simp [atKey, List.find?_cons, e']
      rw [valV_neg e, b]; exact ih
theorem KT.repl {H : Hp} {kvs : List (List Key × V)} {xs : List (List Key × Addr × Value)} (r : KT H kvs xs) (k : List Key) {y : V} {u : Value} (ry : RelV y u) :
    KT H (kvs.map fun kv => if kv.1 = k then (kv.1, y) else kv) (xs.map (putAt k u)) := by
  induction r with
  | nil => exact .nil
  | @cons p q ps qs h t ih =>
    rw [List.map_cons, List.map_cons]
    refine .cons ?_ ih
    obtain ⟨h1, h2, h3⟩ := h
    unfold putAt
    by_cases e : p.1 = k
    · rw [if_pos e, if_pos (h1.symm.trans e)]; exact ⟨h1, h2, ry⟩
    · rw [if_neg e, if_neg (fun z => e (h1.trans z))]; exact ⟨h1, h2, h3⟩
theorem KT.put {H : Hp} {kvs : List (List Key × V)} {xs : List (List Key × Addr × Value)} (r : KT H kvs xs) (k : List Key) {b : Addr} {y : V} {u : Value} (hb : H b = some (.tup (k.map kV))) (ry : RelV y u) :
    KT H (putK kvs k y) (storedH xs k b u) := by
  have e : (kvs.any fun kv => decide (kv.1 = k)) = (atKey xs k).isSome := by
    rw [valV_any, (r.val k).isSome_eq, Option.isSome_map]
  unfold putK storedH
  rw [e]
  by_cases q : (atKey xs k).isSome = true
  · rw [if_pos q, if_pos q]; exact r.repl k ry
  · rw [if_neg q, if_neg q]; exact Paired.snoc r ⟨rfl, hb, ry⟩
theorem KT.keeps {H H' : Hp} {kvs : List (List Key × V)} {xs : List (List Key × Addr × Value)} (r : KT H kvs xs) (ht : ∀ b ys, H b = some (.tup ys) → H' b = some (.tup ys)) : KT H' kvs xs :=
  Paired.mapP r fun _ _ z => ⟨z.1, ht _ _ z.2.1, z.2.2⟩

section
variable {P : Program} {w : World} {H : Hp} {h : Heap} {a : Addr}
theorem rd_of {u : HO} (ok : HOk P w H h) (e : Rd H a u) : ObjOk P w H h a u := e.ok ok
theorem dk_rd {kvs : List (Key × V)} (ok : HOk P w H h) (e : Rd H a (.dK kvs)) : kvs.length ≤ sizeLine ∧ (a == sysModules) = false ∧ ∃ vs, KV kvs vs ∧ h.DictOf (mixKind P w) a vs :=
  show ObjOk P w H h a (.dK kvs) from rd_of ok e
theorem dk_of {kvs : List (Key × V)} (ok : HOk P w H h) (e : H a = some (.dK kvs)) : kvs.length ≤ sizeLine ∧ (a == sysModules) = false ∧ ∃ vs, KV kvs vs ∧ h.DictOf (mixKind P w) a vs := dk_rd ok (.inl e)
theorem key_of {ks : List Key} (ok : HOk P w H h) (e : H a = some (.tup (ks.map kV))) : (tupleKind (mixKind P w)).is h ks a := by
  obtain ⟨_, its, r, o, h1, h2, ⟨n, h3⟩, _⟩ := (show ObjOk P w H h a (.tup (ks.map kV)) from ok a _ e)
  exact ⟨o, its.toArray, n, h1, h2, h3, by simpa using items_are r⟩
theorem dt_rd {kvs : List (List Key × V)} (ok : HOk P w H h) (e : Rd H a (.dT kvs)) : kvs.length ≤ sizeLine ∧ (a == sysModules) = false ∧
    ∃ xs, KT H kvs xs ∧ h.DictOfH (tupleKind (mixKind P w)) a xs := by
  obtain ⟨z, y, xs, r, o, es, ep, h1, h2, h3, h4, h5⟩ := (show ObjOk P w H h a (.dT kvs) from rd_of ok e)
  refine ⟨z, y, xs, r, o, es, ep, h1, h2, h3, h4, fun x hx => ?_, h5⟩
  have all : ∀ {l : List (List Key × V)} {m : List (List Key × Addr × Value)}, KT H l m → ∀ x ∈ m, (tupleKind (mixKind P w)).is h x.1 x.2.1 := by
    intro l m q
    induction q with
    | nil => intro x hx; exact nomatch hx
    | @cons p q ps qs hq t ih =>
      intro x hx
      rcases List.mem_cons.mp hx with e | hx
      · subst e
        exact key_of ok (by rw [← hq.1]; exact hq.2.1)
      · exact ih x hx
  exact all r x hx
theorem dt_of {kvs : List (List Key × V)} (ok : HOk P w H h) (e : H a = some (.dT kvs)) : kvs.length ≤ sizeLine ∧ (a == sysModules) = false ∧
    ∃ xs, KT H kvs xs ∧ h.DictOfH (tupleKind (mixKind P w)) a xs := dt_rd ok (.inl e)
end

noncomputable def DGet (H : Hp) (a : Addr) (y : V) (r : Option V) : Prop :=
  (∃ kvs k, Rd H a (.dK kvs) ∧ y = kV k ∧ r = valV kvs k) ∨ ∃ kvs k b, Rd H a (.dT kvs) ∧ y = .ref b ∧ H b = some (.tup (k.map kV)) ∧ r = valV kvs k
noncomputable def DPut (H : Hp) (a : Addr) (y v : V) (H' : Hp) : Prop :=
  (∃ kvs k, H a = some (.dK kvs) ∧ y = kV k ∧ kvs.length < sizeLine ∧ H' = upd H a (.dK (putK kvs k v))) ∨
  ∃ kvs k b, H a = some (.dT kvs) ∧ y = .ref b ∧ H b = some (.tup (k.map kV)) ∧ kvs.length < sizeLine ∧ H' = upd H a (.dT (putK kvs k v))
theorem DGet.k {H : Hp} {a : Addr} {kvs : List (Key × V)} {k : Key} (e : H a = some (.dK kvs)) : DGet H a (kV k) (valV kvs k) := .inl ⟨kvs, k, .inl e, rfl, rfl⟩
theorem DPut.k {H : Hp} {a : Addr} {kvs : List (Key × V)} {k : Key} {v : V} (e : H a = some (.dK kvs)) (hl : kvs.length < sizeLine) : DPut H a (kV k) v (upd H a (.dK (putK kvs k v))) := .inl ⟨kvs, k, e, rfl, hl, rfl⟩
section
variable {X : Cx} {pins : List (Addr × Obj)} {σ : St} {H : Hp} {s : Shared} {a : Addr} {y v : V} {u r : Value} {o : Option V} {A : Around} {E : Value → Shared → Prop}

theorem Inv.big (I : Inv X pins σ H s) : sysModules < s.heap.objs.size := by
  have h : mainGlobals < s.heap.objs.size := (I.mod.glob.keeps I.bk).lt
  exact Nat.lt_trans (by decide) h

theorem d_getItem {Q : Value → Shared → Prop} (hu : A.units + 1 < cLine) (I : Inv X pins σ H s) (g : DGet H a y (some v)) (ry : RelV y u) (h : ∀ w' s', Inv X pins σ H s' → RelV v w' → Q w' s') :
    wpAny (model X.prog X.w) A (getItem (.ref a) u) Q E s := by
  rcases g with ⟨kvs, k, e, ey, l⟩ | ⟨kvs, k, b, e, ey, eb, l⟩
  · subst ey
    obtain ⟨z, hd, vs, rel, dd⟩ := dk_rd I.hok e
    obtain ⟨w', hw, rw'⟩ := RelO.some_of (v := v) (o := valueAt vs k) (by rw [l]; exact rel.val k)
    exact wpAny_getItem_of (kV_is ry) dd.mapOf hw (h w' _ (I.tok _) rw')
  · subst ey
    cases (show u = Value.ref b from ry)
    obtain ⟨z, hd, xs, rel, dd⟩ := dt_rd I.hok e
    obtain ⟨w', hw, rw'⟩ := RelO.some_of (v := v) (o := (atKey xs k).map (·.2)) (by rw [l]; exact rel.val k)
    obtain ⟨p, hp, hp2⟩ := Option.map_eq_some_iff.mp hw
    refine wpAny_getItem_heap (tupleKind_room_in1 hu) (key_of I.hok eb) dd hp ?_
    rw [hp2]
    exact h w' _ (I.tok _) rw'
theorem d_write {h' : Heap} {t' : Nat} {ob : HO} (I : Inv X pins σ H s) (mu : Mut (H a)) (hs : Heap.SameBut a s.heap h') (he : ∃ q, h'.get? a = some q) (new : ObjOk X.prog X.w (upd H a ob) h' a ob) :
    Inv X pins σ (upd H a ob) { s with heap := h', toks := t' } :=
  I.write (x := a) (e := a) mu (.inl rfl) (fun b q hb z => (hs.2 b hb).trans z) he new
theorem dk_new {P : Program} {w : World} {H' : Hp} {h' : Heap} {kvs : List (Key × V)} {vs : List (Key × Value)} (z : kvs.length ≤ sizeLine) (hd : (a == sysModules) = false) (rel : KV kvs vs) (dd : h'.DictOf (mixKind P w) a vs) :
    ObjOk P w H' h' a (.dK kvs) := ⟨z, hd, vs, rel, dd⟩
theorem d_setItem {H' : Hp} {Q : Unit → Shared → Prop} (hu : A.units + 1 < cLine) (I : Inv X pins σ H s) (g : DPut H a y v H') (ry : RelV y u) (rv : RelV v r) (h : ∀ s', Inv X pins σ H' s' → Q () s') :
    wpAny (model X.prog X.w) A (setItem (.ref a) u r) Q E s := by
  rcases g with ⟨kvs, k, e, ey, l, eH⟩ | ⟨kvs, k, b, e, ey, eb, l, eH⟩
  · subst ey eH
    obtain ⟨z, hd, vs, rel, dd⟩ := dk_of I.hok e
    have hz : vs.length ≤ sizeLine := by rw [← rel.length]; exact z
    have hl : (putK kvs k v).length ≤ sizeLine := by have := length_putK kvs k v; omega
    refine wpAny_setItem_pairs (hsz := hz) (kV_is ry) dd fun h' dd' hs => h _ ?_
    have he : ∃ q, h'.get? a = some q := let ⟨q, _, _, hq, _⟩ := dd'; ⟨q, hq⟩
    exact d_write I (by rw [e]; exact True.intro) hs he (dk_new hl hd (rel.put k rv) dd')
  · subst ey eH
    cases (show u = Value.ref b from ry)
    obtain ⟨z, hd, xs, rel, dd⟩ := dt_of I.hok e
    have hz : xs.length ≤ sizeLine := by rw [← Paired.length rel]; exact z
    have hl : (putK kvs k v).length ≤ sizeLine := by have := length_putK kvs k v; omega
    refine wpAny_setItem_heap (hsz := hz) (tupleKind_room_in1 hu) (key_of I.hok eb) dd fun h' dd' hs => h _ ?_
    obtain ⟨q, es, ep, hq, h2, h3, h4, _, h5⟩ := dd'
    refine d_write I (by rw [e]; exact True.intro) hs ⟨q, hq⟩ ⟨hl, hd, _, (rel.put k eb rv).keeps fun c ys ec => ?_, q, es, ep, hq, h2, h3, h4, h5⟩
    rw [upd_ne (ne_of ec e (fun z => nomatch z))]
    exact ec
end

section
variable {X : Cx} {pins : List (Addr × Obj)} {σ : St} {H : Hp} {s : Shared} {a : Addr} {kvs : List (Key × V)} {k : Key} {u : Value} {A : Around} {E : Value → Shared → Prop}
end


noncomputable def NoSl (i : Expr) : Prop := ∀ ov iv, subscripted i false ov iv = operate [ov, iv] (getItem ov iv)
theorem subD_of {prog : Program} {w : World} {A : Around} {E : Value → Shared → Prop} {s : Shared} {env : Env} {value slice : Expr} {pos : Pos} {T id : String} {Q : Value → Shared → Prop}
    (hl : typeLookup (.type T) "__getitem__" = pure (some (.builtin id))) (hs : NoSl slice)
    (h : wpAny (model prog w) A (eval value env) (fun o s₁ => wpAny (model prog w) A (eval slice env) (fun i s₂ => s₂.TypeIs o T ∧ wpAny (model prog w) A (getItem o i) Q E s₂) E s₁) E s) :
    wpAny (model prog w) A (eval (.Subscript value slice pos) env) Q E s := by
  refine Subscript_ (wpAny_mono h (fun o s₁ h₁ => wpAny_mono h₁ (fun i s₂ h₂ => ?_) fun _ _ x => x) fun _ _ x => x)
  obtain ⟨hT, h₂⟩ := h₂
  unfold subscriptTail
  refine wpAny_bind ?_
  rw [getitemInPython_of_ne hT.not_modules]
  refine wpAny_bind (wpAny_specialOf hT hl ?_)
  have fin : wpAny (model prog w) A (subscripted slice false o i) (fun r s₃ => wpAny (model prog w) A (letTemporaryGo value o r >>= fun _ => pure r) Q E s₃) E s₂ := by
    rw [hs o i]
    exact wpAny_operating (wpAny_mono h₂ (fun r s₃ h₃ => wpAny_bind (wpAny_letTemporaryGo (wpAny_pure h₃))) fun _ _ x => x)
  first
    | exact wpAny_pure (wpAny_bind fin)
    | exact wpAny_bind (wpAny_pure (wpAny_bind fin))
    | exact wpAny_bind fin

theorem dict_typeIs {X : Cx} {pins : List (Addr × Obj)} {σ : St} {H : Hp} {s : Shared} {a : Addr} {y : V} {o : Option V} (I : Inv X pins σ H s) (g : DGet H a y o) : s.TypeIs (.ref a) "dict" := by
  rcases g with ⟨kvs, k, e, _, _⟩ | ⟨kvs, k, b, e, _, _, _⟩
  · obtain ⟨_, _, vs, _, dd⟩ := dk_rd I.hok e
    exact dd.typeIs
  · obtain ⟨_, _, xs, _, dd⟩ := dt_rd I.hok e
    exact dd.typeIs
noncomputable def tDGet (td ty : TE) : TE := fun σ H Q => td σ H fun x H1 => ty σ H1 fun y H2 => ∃ a v, x = .ref a ∧ DGet H2 a y (some v) ∧ Q v H2
noncomputable def sDPut (td ty tv : TE) : TS := fun D σ H => tv σ H fun v H1 => td σ H1 fun x H2 => ty σ H2 fun y H3 => ∃ a H4, x = .ref a ∧ DPut H3 a y v H4 ∧ D.nx σ H4
section
variable {X : Cx} {o i e value : Expr} {pos pos' tpos : Pos} {td ty tv : TE}
theorem pe_dget (hu : X.A.units + 1 < cLine) (ho : PE X o td) (hi : PE X i ty) (hs : NoSl i) : PE X (.Subscript o i pos) (tDGet td ty) := by
  intro pins s σ H Q I h
  refine subD_of PySem.F.slot_dict_getitem.lookup hs (thn (ho pins s σ H _ I h) fun u s1 ⟨x, H1, I1, rx, q1⟩ => thn (hi pins s1 σ H1 _ I1 q1) fun iv s2 ⟨y, H2, I2, ry, a, v, ex, g, q2⟩ => ?_)
  subst ex
  obtain rfl : u = Value.ref a := rx
  exact ⟨dict_typeIs I2 g, d_getItem hu I2 g ry fun w' s3 I3 rw' => ⟨v, H2, I3, rw', q2⟩⟩
theorem ps_dput (hu : X.A.units + 1 < cLine) (ho : PE X o td) (hi : PE X i ty) (hv : PE X value tv) (hs : swapsWith value (some (.Subscript o i pos')) pos.line X.env = pure false) :
    PS X (.Assign [.Subscript o i pos'] value pos) (sDPut td ty tv) := by
  intro pins s σ H D I h
  refine wpAny_Assign_Subscript (thn (hv pins s σ H _ I h) fun r s1 ⟨v, H1, I1, rv, q1⟩ => thn (ho pins s1 σ H1 _ I1 q1) fun u s2 ⟨x, H2, I2, rx, q2⟩ => thn (hi pins s2 σ H2 _ I2 q2) fun iv s3 ⟨y, H3, I3, ry, a, H4, ex, g, q3⟩ => ?_) hs
  subst ex
  obtain rfl : u = Value.ref a := rx
  exact d_setItem hu I3 g ry rv fun s4 I4 => ⟨σ, H4, I4, q3⟩
end


theorem dk_empty {P : Program} {w : World} {H : Hp} (h : Heap) (hb : sysModules < h.objs.size) : ObjOk P w H (h.push { cls := .type "dict", data := .dict #[] }) h.objs.size (.dK []) :=
  ⟨Nat.zero_le _, beq_eq_false_iff_ne.mpr (Ne.symm (Nat.ne_of_lt hb)), [], .nil, Heap.DictOf.new h⟩
noncomputable def tDNewK : TE := fun _ H Q => ∀ p, H p = none → Q (.ref p) (upd H p (.dK []))
section
variable {X : Cx} {pos : Pos}
theorem pe_dnewK : PE X (.Dict [] [] pos) tDNewK := fun pins s σ H Q I h =>
  wpAny_Dict_empty ⟨.ref s.heap.objs.size, _, I.laid (a := s.heap.objs.size) (o := .dK []) (t' := s.toks) (fun _ _ q => Heap.get?_push_of_some _ q) (Nat.le_refl _) (dk_empty s.heap I.big), rfl, h _ (I.hok.fresh (Nat.le_refl _))⟩
end

section
variable {X : Cx} {pins : List (Addr × Obj)} {σ : St} {H : Hp} {s : Shared} {a : Addr} {y d : V} {u r : Value} {o : Option V} {A : Around} {E : Value → Shared → Prop}
end

section
variable {X : Cx} {o e f : Expr} {apos cpos : Pos} {td ty tx : TE}
end

section
variable {X : Cx} {pins : List (Addr × Obj)} {σ : St} {H : Hp} {s : Shared} {a : Addr} {kvs : List (Key × V)} {A : Around} {E : Value → Shared → Prop}
end


section
variable {X : Cx} {pins : List (Addr × Obj)} {σ : St} {H : Hp} {s : Shared} {a : Addr} {y : V} {u : Value} {A : Around} {E : Value → Shared → Prop}
end
end L2

namespace Att
open PySem PySem.W PySem.Calls PyProof.Rows

theorem ints_of_wellAll {P : Params} {h : Heap} : ∀ (ns : List Int) (vs : List Value), WellAll P h vs (ns.map WData.int) → IntsAre vs ns := by
  intro ns
  induction ns with
  | nil =>
    intro vs w
    rw [List.map_nil] at w
    cases w
    exact .nil
  | cons n ns ih =>
    intro vs w
    rw [List.map_cons] at w
    cases w with
    | cons a b =>
      cases a
      exact .cons _ _ (ih _ b)

theorem script_of {l : OpenLaw} {n : Nat} (hn : l.most = some n) {P : Params} {h : Heap} {args : List WData} {vals : List Value}
    (hpre : l.row.toRowW.claim.pre args = true) (hwl : WellAll P h vals args) :
    ∃ a vs ns, vals = [Value.ref a] ∧ args = [WData.list (ns.map WData.int)] ∧ h.get? a = some { cls := .type "list", data := .seq vs.toArray } ∧ IntsAre vs ns ∧ ns.length ≤ n := by
  have hsh : WShape.hasAll [] args [.list .int] = true := (pre_splitW hpre).1
  have hc : l.pre.holds [] { args := args } = true := (pre_splitW hpre).2
  obtain ⟨d, r, rfl, h1, h2⟩ := hasAllW_cons hsh
  obtain rfl := hasAllW_nil h2
  obtain ⟨xs, rfl, h3⟩ := hasW_list h1
  obtain ⟨ns, rfl⟩ := items_int h3
  have hlen : ns.length ≤ n := by
    unfold OpenLaw.pre at hc
    have h4 : (WTm.not (.lt (.lit (.int (n : Int))) (.len (.arg 0)))).holds [] { args := [.list (ns.map .int)] } = true := by
      have h4 := (holds_andW hc).1
      rw [hn] at h4
      exact h4
    have h5 := condW_of h4 (w_not (w_lt w_lit (w_len_list (w_arg rfl))))
    rw [List.length_map] at h5
    refine Nat.le_of_not_lt fun q => ?_
    have q' : (n : Int) < ((ns.length : Nat) : Int) := by omega
    first
      | (rw [decide_eq_true q'] at h5; exact absurd h5 (by decide))
      | (simp at h5; omega)
  cases hwl with
  | cons w1 w2 =>
    cases w2
    cases w1 with
    | list ho hall => exact ⟨_, _, ns, rfl, rfl, ho, ints_of_wellAll ns _ hall, hlen⟩

theorem post_true (l : OpenLaw) (args : List WData) : l.row.toRowW.claim.post args (.bool true) args = true :=
  postW_of (r := l.row.toRowW) (X := (true == true))
    (show WShape.has [] (.bool true) .bool = true by first | rfl | decide | simp [WShape.has, WShape.arms, WShape.armsAll])
    (show (WTm.eq .res (.lit (.bool true))).value [] { args := args, res := some (.bool true), after := args } = some (.bool (true == true)) from w_eq_bool (w_res rfl) w_lit) rfl

theorem attach_call {l : OpenLaw} {n : Nat} {q : Program} {loose : List Str} {XP : (Str → Option Value) → Heap → Prop} {YP : World → Heap → Prop} {d : DefRec}
    (hn : l.most = some n) (hdf : d.params.defaults = [])
    (call : ∀ (w : World) (s₀ s₁ : Shared) (mg mb : Str → Option Value) (fa : Addr) (o : Obj) (pm cd doc : Value) (a : Addr) (vs : List Value) (ns : List Int),
      Ground q loose [] XP w s₀ mg mb s₁.heap → YP w s₁.heap →
      s₁.heap.get? fa = some o → o.data = .func (docDef d.name d.params d.body d.scope pm cd doc) → s₁.heap.CodeRec cd d.name → mg d.name = some (.ref fa) →
      s₁.heap.get? a = some { cls := .type "list", data := .seq vs.toArray } → IntsAre vs ns → ns.length ≤ n → s₁.gens = #[] →
      codeAny (model l.prog w) callerA (.call (.ref fa) ⟨[.ref a], []⟩) (fun r s' => r = .ok (.ret (.bool true)) ∧ OldK s₁.heap s'.heap ∧ s'.os = s₁.os ∧ AllBare s'.gens) s₁) :
    WalkO q loose XP YP l.row.toRowW d [] (fun f vs => PySem.call f vs) := by
  intro w s₀ s₁ mg mb G Y fa o pm cd doc dV kV ho hd hcd hD hmg hg args vals as hpre hlay hrd hwl hlo
  obtain rfl : dV = .none := Dflts.none hD hdf
  obtain rfl : kV = .none := Dflts.noKw hD
  obtain ⟨a, vs, ns, rfl, rfl, hobj, hints, hlen⟩ := script_of hn hpre hwl
  refine enter_call (codeAny_mono (call w s₀ s₁ mg mb fa o pm cd doc a vs ns G Y ho (fd_plain hd) hcd hmg hobj hints hlen hg) fun r s' hq => ?_)
  obtain ⟨rfl, h2, h3, h4⟩ := hq
  exact ⟨.inl ⟨.bool true, .bool true, [], rfl, fun _ => rfl, .bool true, post_true l _, fun _ => ⟨List.Pairwise.nil, fun _ hm => (nomatch hm)⟩⟩, h2, h3, h4⟩

section
variable {prog : Program} {w : World} {A : Around} {E : Value → Shared → Prop} {s : Shared} {K : Frag}

end
end Att

namespace L2
open PySem PySem.Spec PyProof.Rows

theorem vals_ints : ∀ {vs : List Value} {ns : List Int}, IntsAre vs ns → Vals (ns.map V.int) vs
  | _, _, .nil => .nil
  | _, _, .cons n t h => .cons ⟨t, rfl⟩ (vals_ints h)

noncomputable def Only (H : Hp) : Prop := ∀ b, H b = none ∨ ∃ o xs, H b = some (.frz o (.lst xs))

theorem law_call {P : Program} {w : World} {K : PySem.W.Frag} {mg mb : Str → Option Value} {CX : CXT} {k : Nat} {fa a : Addr} {fd : FuncData} {x : Str} {sp : Sp} {s₁ : Shared} {vs : List Value} {ns : List Int}
    (KX : K.In s₁.heap) (hns : s₁.heap.Ns mainGlobals mg) (hb : s₁.heap.Ns builtinsNs mb) (hbb : ∀ x : Str, x ≠ "__name__" → mb x = bootBuiltins x) (hlim : s₁.heap.NoLimit) (hg : s₁.gens = #[])
    (ha : s₁.heap.get? a = some { cls := .type "list", data := .seq vs.toArray }) (hi : IntsAre vs ns) (hl : ns.length ≤ sizeLine) (hr : Room k callerA)
    (F : ∀ base : Heap, K.In base → base.Ns mainGlobals mg → FnOk P w K mg base CX k fa fd [x] sp) (hbind : ∀ (s : Shared) (u : Value), BindsTo s fd ⟨[u], []⟩ [(x, u)])
    (hsp : ∀ H : Hp, Only H → SqL K H a (ns.map V.int) → sp [.ref a] H (fun v _ => v = .bl true) fun _ _ _ => False)
    (hCX : ∀ H e s', CX [] H s₁ (fun _ _ _ => False) e s' → False) :
    codeAny (model P w) callerA (.call (.ref fa) ⟨[.ref a], []⟩) (fun r s' => r = .ok (.ret (.bool true)) ∧ OldK s₁.heap s'.heap ∧ s'.os = s₁.os ∧ AllBare s'.gens) s₁ := by
  have rv := vals_ints hi
  have lenV := hi.length
  -- from an abstract heap in which nothing but the script may be tracked
  have core : ∀ H : Hp, Only H → SqL K H a (ns.map V.int) → HOk P w H s₁.heap → (∀ b, H b ≠ none → b = a) → (H a ≠ none → K.lookup a = none) →
      codeAny (model P w) callerA (.call (.ref fa) ⟨[.ref a], []⟩) (fun r s' => r = .ok (.ret (.bool true)) ∧ OldK s₁.heap s'.heap ∧ s'.os = s₁.os ∧ AllBare s'.gens) s₁ := by
    intro H hO hS hok hA hK
    have base_of : ∀ {b : Addr} {o : Obj}, s₁.heap.get? b = some o → H b = none → (hidT s₁.heap H).get? b = some o := fun e n => hidT_get e n
    have noA : ∀ {b : Addr} {o : Obj} {es : Array DictEntry} {ep : Nat}, s₁.heap.get? b = some o → o.data = .dict es ep → H b = none := fun {b o es ep} e d => by
      cases q : H b with
      | none => rfl
      | some u =>
        have e' : b = a := hA b (by rw [q]; simp)
        subst e'
        rw [ha] at e; cases e
        have d' : Data.seq vs.toArray _ = Data.dict es ep := d
        cases d'
    have nsK : ∀ {b : Addr} {m : Str → Option Value}, s₁.heap.Ns b m → (hidT s₁.heap H).Ns b m := fun {b m} ⟨o, es, ep, e, d, r⟩ => ⟨o, es, ep, base_of e (noA e d), d, r⟩
    have hKb : K.In (hidT s₁.heap H) := fun b o e => base_of (KX b o e) (by
      cases q : H b with
      | none => rfl
      | some u =>
        have e' : b = a := hA b (by rw [q]; simp)
        subst e'
        rw [hK (by rw [q]; simp)] at e; cases e)
    have hM : Mod K mg (hidT s₁.heap H) := ⟨hKb, nsK hns, ⟨mb, nsK hb, hbb⟩, let ⟨mc, h1, h2⟩ := hlim; ⟨mc, nsK h1, h2⟩⟩
    have e0 : Env0 P w K mg (hidT s₁.heap H) callerA [] s₁ H := ⟨rfl, hM, fun b o e => of_hidT e, Nat.le_of_eq (hidT_size _ _), trivial, fun b hb => absurd (show b ∈ ([] : List Addr) from hb) (by simp), hok, .of_eq hg⟩
    refine codeAny_mono ((F _ hKb (nsK hns)).run callerA [] s₁ H ⟨[.ref a], []⟩ [.ref a] [.ref a] _ _ hr e0 (hbind s₁ (.ref a)) (.cons rfl .nil) (hsp H hO hS)) fun r s' h => ?_
    cases r with
    | error e => exact (hCX H e s' h).elim
    | ok fl =>
      cases fl with
      | next => exact False.elim h
      | brk => exact False.elim h
      | cont => exact False.elim h
      | ret u =>
        obtain ⟨v, H', os, bare, un, hok', r', q⟩ := h
        have q' : v = .bl true := q
        subst q'
        obtain rfl : u = Value.bool true := r'
        refine ⟨rfl, OldK.of_keep fun b o e => ?_, os, bare⟩
        cases q : H b with
        | none => exact un.keep b o e q (by intro z; exact absurd (show b ∈ ([] : List Addr) from z) (by simp)) (by simp)
        | some u =>
          rcases hO b with z | ⟨ob, xs, z⟩
          · rw [q] at z; cases z
          · have z2 := un.frzs b ob _ z
            obtain ⟨e1, _⟩ := hok b _ z
            obtain ⟨e2, _⟩ := hok' b _ z2
            rw [e] at e1; cases e1
            exact e2
  cases hk : K.lookup a with
  | some o =>
    -- the script is one of the module's own objects
    have e := KX a o hk
    rw [ha] at e
    cases e
    refine core (fun _ => none) (fun _ => .inl rfl) (.inr ⟨_, vs.toArray, _, hk, rfl, rfl, rfl, by rw [List.size_toArray, lenV]; exact hl, by simpa using rv⟩) (fun b u z => by have z' : (none : Option HO) = some u := z; cases z') (fun b z => absurd rfl z) fun z => absurd rfl z
  | none =>
    refine core (fun b => if b = a then some (.frz { cls := .type "list", data := .seq vs.toArray } (.lst (ns.map V.int))) else none) (fun b => ?_) (.inl (.inr ⟨{ cls := .type "list", data := .seq vs.toArray }, if_pos rfl⟩)) (fun b u z => ?_) (fun b z => ?_) fun _ => hk
    · by_cases hb : b = a
      · exact .inr ⟨_, _, if_pos hb⟩
      · exact .inl (if_neg hb)
    · by_cases hb : b = a
      · have z' := (if_pos hb).symm.trans z
        cases z'
        subst hb
        exact ⟨ha, by rw [List.length_map]; exact hl, vs, _, rv, ha⟩
      · have z' := (if_neg hb).symm.trans z
        cases z'
    · by_cases hb : b = a
      · exact hb
      · exact absurd (if_neg hb) z
end L2

namespace L2
open PySem PySem.Spec PyProof.Rows

theorem walk_of {l : PySem.W.OpenLaw} {n k : Nat} {q : Program} {loose : List Str} {XP : (Str → Option Value) → Heap → Prop} {YP : World → Heap → Prop} {d : DefRec} {K : Params → PySem.W.Frag} {CX : World → CXT} {sp : World → Sp} {x : Str}
    (hn : l.most = some n) (hn2 : n ≤ sizeLine) (hdf : d.params.defaults = []) (hr : Room k callerA)
    (hY : ∀ (w : World) (h : Heap), YP w h → (K w.params).In h)
    (F : ∀ (w : World) (mg : Str → Option Value) (fa : Addr) (h : Heap), (K w.params).In h → h.Ns mainGlobals mg → mg d.name = some (.ref fa) →
      ∃ fd : FuncData, (∀ (s : Shared) (u : Value), BindsTo s fd ⟨[u], []⟩ [(x, u)]) ∧
        ∀ base : Heap, (K w.params).In base → base.Ns mainGlobals mg → FnOk l.prog w (K w.params) mg base (CX w) k fa fd [x] (sp w))
    (hsp : ∀ (w : World) (H : Hp) (a : Addr) (ns : List Int), ns.length ≤ n → Only H → SqL (K w.params) H a (ns.map V.int) → sp w [.ref a] H (fun v _ => v = .bl true) fun _ _ _ => False)
    (hCX : ∀ (w : World) (H : Hp) (s : Shared) (e : Value) (s' : Shared), CX w [] H s (fun _ _ _ => False) e s' → False) :
    PySem.W.WalkO q loose XP YP l.row.toRowW d [] (fun f vs => PySem.call f vs) := by
  refine Att.attach_call hn hdf fun w s₀ s₁ mg mb fa o pm cd doc a vs ns G Y ho hd hcd hmg hobj hints hlen hg => ?_
  have KX := hY w _ Y
  obtain ⟨fd, hb, hF⟩ := F w mg fa _ KX G.T.g hmg
  exact law_call KX G.T.g G.T.b G.T.builtins G.T.nolimit hg hobj hints (Nat.le_trans hlen hn2) hr hF hb (fun H hO hS => hsp w H a ns hlen hO hS) fun H e s' => hCX w H s₁ e s'
end L2


namespace L2
open PySem PySem.Spec PyProof.Rows

noncomputable def inClass (s : Stmt) (j : Nat) : Stmt := match s with
  | .ClassDef _ _ _ body _ _ _ _ _ _ _ => body.getD j (.Pass ⟨0, 0, 0, 0⟩)
  | _ => .Pass ⟨0, 0, 0, 0⟩
noncomputable def defArgs (s : Stmt) : Arguments := match s with
  | .FunctionDef _ a _ _ _ _ _ _ _ _ => a
  | _ => { posonlyargs := [], args := [], vararg := none, kwonlyargs := [], kw_defaults := [], kwarg := none, defaults := [] }
noncomputable def defBody (s : Stmt) : List Stmt := match s with
  | .FunctionDef _ _ b _ _ _ _ _ _ _ => b
  | _ => []
noncomputable def defScope (s : Stmt) : Scope := match s with
  | .FunctionDef _ _ _ _ _ _ sc _ _ _ => sc
  | _ => { kind := .function, names := [], isGenerator := false, isCoroutine := false }

noncomputable abbrev CX0 : CXT := fun _ _ _ _ _ _ => False
noncomputable abbrev E0 : XK := fun _ _ _ => False
theorem pass0 {X : Cx} : Passes CX0 X E0 := fun _ _ _ _ _ _ _ h => h.elim

structure Fun (K : PySem.W.Frag) (x qual : Str) (st : Stmt) (f : Addr) (fd : FuncData) : Prop where
  ex : ∃ (oc : Value) (od : Option Addr) (kV doc pm : Value) (an : Option Addr) (cdv ct : Value) (osl : Array (Option Value)),
    fd = PySem.W.fnOf x qual (defArgs st) (defBody st) (defScope st) .none kV doc pm an cdv ct ∧ K.lookup f = some ⟨oc, od, .func fd, osl⟩ ∧ PySem.W.codeIn K cdv qual = true
  kp : PySem.W.keepIn K (.ref f) = true
section
variable {P : Program} {w : World} {K : PySem.W.Frag} {mg : Str → Option Value} {base : Heap}
theorem Fun.ok {x qual : Str} {st : Stmt} {f : Addr} {fd : FuncData} {N ps : List Str} {k : Nat} {sp : Sp} (F : Fun K x qual st f fd) (S : FnScope N ps (defScope st)) (len : ∀ vs H Q E, sp vs H Q E → vs.length = ps.length)
    (hbody : ∀ (cdv : Value) (A : Around) (outer : List Env) (s : Shared) (H : Hp) (vs : List V) (Q : VK) (E : XK), Room k (A.deeper (envOfC qual (defScope st) s.heap.objs.size f cdv)) → sp vs H Q E →
      ∃ t, PSs (cxOf CX0 P w K mg base N qual (defScope st) f cdv A outer s H E).nox (defBody st) t ∧ t { nx := fun _ H' => Q .non H', rt := Q } (start N vs) H) : FnOk P w K mg base CX0 (k + 1) f fd ps sp := by
  obtain ⟨oc, od, kV, doc, pm, an, cdv, ct, osl, rfl, lk, hcd⟩ := F.ex
  refine fn_of lk hcd S len fun A outer s H vs Q E hr hsp => ?_
  obtain ⟨t, h, q⟩ := hbody cdv A outer s H vs Q E hr hsp
  exact ⟨t, h.nox, q⟩
theorem Fun.binds {x qual : Str} {st : Stmt} {f : Addr} {fd : FuncData} {ps : List Str} (F : Fun K x qual st f fd)
    (h : ∀ (kV doc pm : Value) (an : Option Addr) (cdv ct : Value) (us : List Value), us.length = ps.length → bindArgs (PySem.W.fnOf x qual (defArgs st) (defBody st) (defScope st) .none kV doc pm an cdv ct) ⟨us, []⟩ = pure (ps.zip us)) : Binds K fd ps [] := by
  obtain ⟨oc, od, kV, doc, pm, an, cdv, ct, osl, rfl, lk, hcd⟩ := F.ex
  exact .all (h kV doc pm an cdv ct)
theorem fun_mk {x qual : Str} {st : Stmt} {f : Addr} {oc : Value} {od an : Option Addr} {osl : Array (Option Value)} {kV doc pm cdv ct : Value} (l : K.lookup f = some ⟨oc, od, .func (PySem.W.fnOf x qual (defArgs st) (defBody st) (defScope st) .none kV doc pm an cdv ct), osl⟩)
    (c : PySem.W.codeIn K cdv qual = true) (k : PySem.W.keepIn K (.ref f) = true) : Fun K x qual st f (PySem.W.fnOf x qual (defArgs st) (defBody st) (defScope st) .none kV doc pm an cdv ct) := ⟨⟨oc, od, kV, doc, pm, an, cdv, ct, osl, rfl, l, c⟩, k⟩
end
theorem hu_of {A : Around} {k : Nat} (hr : Room k A) : A.units + 1 < cLine := Nat.lt_of_le_of_lt (Nat.add_le_add_left (by decide : 1 ≤ 64) _) hr.units
section
variable {X : Cx}
theorem pv (i : Nat) {x : Str} {pos : Pos} (hN : X.N[i]? = some x := by rfl) (hv : Vis X.env.scope x := by first | exact Or.inl rfl | exact Or.inr (Or.inl rfl) | exact Or.inr (Or.inr rfl)) (hd : (x == ("__debug__" : Str)) = false := by decide)
    (hcd : (x == ("__classdict__" : Str)) = false := by decide) : PE X (.Name x pos) (tVar i) := pe_var hN hv hd hcd
end

theorem iteF {A B : Prop} (h : B) : if false = true then A else B := by
  rw [if_neg Bool.false_ne_true]
  exact h
theorem iteT {A B : Prop} (h : A) : if true = true then A else B := by
  rw [if_pos rfl]
  exact h
theorem ite2 {c A B : Prop} [Decidable c] (h1 : c → A) (h2 : ¬ c → B) : if c then A else B := by
  by_cases h : c
  · rw [if_pos h]
    exact h1 h
  · rw [if_neg h]
    exact h2 h
noncomputable def Same (H H' : Hp) : Prop := ∀ b o, H b = some o → H' b = some o
theorem Same.refl (H : Hp) : Same H H := fun _ _ h => h
theorem Same.trans {H H1 H2 : Hp} (a : Same H H1) (b : Same H1 H2) : Same H H2 := fun c o h => b c o (a c o h)
theorem Same.free {H H' : Hp} (e : Same H H') {l : Addr} (h : H' l = Option.none) : H l = Option.none := by
  cases q : H l with
  | none => rfl
  | some o =>
    rw [e l o q] at h
    cases h
theorem Same.seq {K : PySem.W.Frag} {H H' : Hp} {a : Addr} {xs : List V} (e : Same H H') (h : SqL K H a xs) : SqL K H' a xs := by
  rcases h with (h | ⟨o, h⟩) | h
  · exact .inl (.inl (e _ _ h))
  · exact .inl (.inr ⟨o, e _ _ h⟩)
  · exact .inr h

section
variable {κ : Type} [DecidableEq κ]
end
end L2


set_option Elab.async false
set_option linter.all false
set_option maxRecDepth 100000
set_option maxHeartbeats 4000000
namespace L2
open PySem PySem.Spec PyProof.Rows

theorem clos_aux (env : Env) : ∀ (l : List (Str × NameKind)) (cs : List (Str × Addr)), (∀ n, (n, NameKind.free) ∈ l → ∃ c, env.cells.lookup n = some c) → (∀ x c, cs.lookup x = some c → env.cells.lookup x = some c) →
    ∃ cl, (forIn l cs fun x s => if (x.snd == NameKind.free) = true then do let c ← cellOf env x.fst; pure (ForInStep.yield ((x.fst, c) :: s)) else pure (ForInStep.yield s)) = (pure cl : Sem (List (Str × Addr))) ∧
      (∀ x c, cl.lookup x = some c → env.cells.lookup x = some c) ∧ (∀ n, (n, NameKind.free) ∈ l → ∃ c, cl.lookup n = some c) ∧ ∀ n c, cs.lookup n = some c → ∃ c', cl.lookup n = some c'
  | [], cs, _, h => ⟨cs, rfl, h, (fun _ z => nomatch z), (fun n c e => ⟨c, e⟩)⟩
  | (n, k) :: r, cs, hf, h => by
    by_cases hk : k = .free
    · subst hk
      obtain ⟨c, hc⟩ := hf n List.mem_cons_self
      have e : cellOf env n = pure c := by unfold cellOf; rw [hc]
      obtain ⟨cl, e1, h1, h2, h3⟩ := clos_aux env r ((n, c) :: cs) (fun m hm => hf m (List.mem_cons_of_mem _ hm)) (fun x c' q => by
        rw [List.lookup_cons] at q
        by_cases hx : x = n
        · subst hx; simp at q; subst q; exact hc
        · have : (x == n) = false := by simpa using hx
          rw [this] at q; exact h x c' q)
      refine ⟨cl, ?_, h1, fun m hm => ?_, fun m c' q => ?_⟩
      · rw [List.forIn_cons]
        show ((do let c ← cellOf env n; pure (ForInStep.yield ((n, c) :: cs))) >>= _) = _
        rw [e]
        exact e1
      · rcases List.mem_cons.mp hm with z | z
        · cases z; exact h3 n c (by simp)
        · exact h2 m z
      · by_cases hx : m = n
        · subst hx; exact h3 m c (by simp)
        · have : (m == n) = false := by simpa using hx
          exact h3 m c' (by rw [List.lookup_cons, this]; exact q)
    · have hb : (k == NameKind.free) = false := by simpa using hk
      obtain ⟨cl, e1, h1, h2, h3⟩ := clos_aux env r cs (fun m hm => hf m (List.mem_cons_of_mem _ hm)) h
      refine ⟨cl, ?_, h1, fun m hm => ?_, h3⟩
      · rw [List.forIn_cons]
        dsimp only
        rw [hb]
        exact e1
      · rcases List.mem_cons.mp hm with z | z
        · cases z; exact absurd rfl hk
        · exact h2 m z

theorem closureFor_of {scope : Scope} {env : Env} (h : ∀ n, (n, NameKind.free) ∈ scope.names → ∃ c, env.cells.lookup n = some c) :
    ∃ cl, closureFor scope env = pure cl ∧ (∀ x c, cl.lookup x = some c → env.cells.lookup x = some c) ∧ ∀ n, (n, NameKind.free) ∈ scope.names → ∃ c, cl.lookup n = some c := by
  obtain ⟨cl, e, h1, h2, _⟩ := clos_aux env scope.names [] h (fun _ _ z => by simp at z)
  refine ⟨cl, ?_, h1, h2⟩
  simp only [closureFor]
  rw [e]
  rfl

noncomputable def compCx (X : Cx) (scope : Scope) (N' : List Str) (cl : List (Str × Addr)) (C : Addr) (s : Shared) (H : Hp) (fp : List Addr) (pins : List (Addr × Obj)) : Cx where
  prog := X.prog
  w := X.w
  K := X.K
  mg := X.mg
  base := X.base
  A := X.A
  N := N'
  s₀ := s
  H₀ := H
  env := compEnvC scope cl C X.env
  outer := X.stack
  stack := X.stack
  ex := fp
  calm := X.calm
  fn := fun _ => false
  pn := X.pn ++ pins
  xe := fun _ _ => False

structure CompScope (sc : Scope) (out : Scope) : Prop where
  kind : sc.kind = .function
  cell : ∀ y ∈ sc.names, y.2 ≠ .cell
  loc : ∀ y ∈ sc.names, y.2 = .local → sc.names.lookup y.1 = some .local
  free : ∀ y ∈ sc.names, y.2 = .free → out.names.lookup y.1 = some .cell ∨ out.names.lookup y.1 = some .free

noncomputable def inSt (ρ : List (Option Nat)) (σ : St) : St := ρ.map fun o => match o with | some i => (σ[i]?).getD none | none => none
noncomputable def SlotOk (sc : Scope) (env : Env) (N N' : List Str) (ρ : List (Option Nat)) : Prop :=
  ρ.length = N'.length ∧ ∀ (j i : Nat) (x : Str), ρ[j]? = some (some i) → N'[j]? = some x → N[i]? = some x ∧ Vis env.scope x ∧ (x, NameKind.free) ∈ sc.names

theorem lookup_relabel {names : List (Str × NameKind)} {env : Env} {x : Str} {k : NameKind} (h : (names.map fun (n, k) => if (k == NameKind.free && env.scope.kind == .function && env.kindOf n == some .cell) then (n, NameKind.cell) else (n, k)).lookup x = some k)
    (hk : k = .cell ∨ k = .free) (hc : ∀ y ∈ names, y.2 ≠ .cell) : (x, NameKind.free) ∈ names := by
  induction names with
  | nil => simp at h
  | cons p r ih =>
    obtain ⟨n, k'⟩ := p
    by_cases hx : x = n
    · subst hx
      have hk' : k' = .free := by
        by_cases hc' : (k' == NameKind.free && env.scope.kind == .function && env.kindOf x == some .cell) = true
        · simp only [Bool.and_eq_true, beq_iff_eq] at hc'
          exact hc'.1.1
        · simp only [List.map_cons] at h
          rw [if_neg hc'] at h
          simp at h
          subst h
          rcases hk with z | z
          · exact absurd z (hc (x, k') List.mem_cons_self)
          · exact z
      rw [hk']; exact List.mem_cons_self
    · have hb : (x == n) = false := by simpa using hx
      refine List.mem_cons_of_mem _ (ih ?_ fun y hy => hc y (List.mem_cons_of_mem _ hy))
      simp only [List.map_cons] at h
      by_cases hc' : (k' == NameKind.free && env.scope.kind == .function && env.kindOf n == some .cell) = true
      · rw [if_pos hc', List.lookup_cons, hb] at h; exact h
      · rw [if_neg hc', List.lookup_cons, hb] at h; exact h

theorem lookup_relabel_free : ∀ {names : List (Str × NameKind)} {env : Env} {x : Str}, (x, NameKind.free) ∈ names → (names.map fun (n, k) => if (k == NameKind.free && env.scope.kind == .function && env.kindOf n == some .cell) then (n, NameKind.cell) else (n, k)).lookup x = some .cell ∨
    (names.map fun (n, k) => if (k == NameKind.free && env.scope.kind == .function && env.kindOf n == some .cell) then (n, NameKind.cell) else (n, k)).lookup x = some .free ∨ names.lookup x ≠ some .free := by
  intro names env x hm
  by_cases hl : names.lookup x = some .free
  · induction names with
    | nil => simp at hl
    | cons p r ih =>
      obtain ⟨n, k'⟩ := p
      by_cases hx : x = n
      · subst hx
        simp at hl
        subst hl
        by_cases hc' : (NameKind.free == NameKind.free && env.scope.kind == .function && env.kindOf x == some .cell) = true
        · left; simp only [List.map_cons]; rw [if_pos hc']; simp
        · right; left; simp only [List.map_cons]; rw [if_neg hc']; simp
      · have hb : (x == n) = false := by simpa using hx
        rw [List.lookup_cons, hb] at hl
        have hm' : (x, NameKind.free) ∈ r := by
          rcases List.mem_cons.mp hm with z | z
          · cases z; exact absurd rfl hx
          · exact z
        have q := ih hm' hl
        simp only [List.map_cons]
        by_cases hc' : (k' == NameKind.free && env.scope.kind == .function && env.kindOf n == some .cell) = true
        · rw [if_pos hc', List.lookup_cons, hb, List.lookup_cons, hb]; exact q
        · rw [if_neg hc', List.lookup_cons, hb, List.lookup_cons, hb]; exact q
  · exact .inr (.inr hl)

section
variable {X : Cx} {pins : List (Addr × Obj)} {σ : St} {H : Hp} {s : Shared} {scope : Scope} {N' : List Str} {ρ : List (Option Nat)} {cl : List (Str × Addr)} {fp : List Addr} {C D : Addr}

theorem comp_ok (I : Inv X pins σ H s) (S : CompScope scope X.env.scope) (hf : ∀ b ∈ fp, FpOk X pins H b) (h1 : ∀ x c, cl.lookup x = some c → X.env.cells.lookup x = some c) (h2 : ∀ n, (n, NameKind.free) ∈ scope.names → ∃ c, cl.lookup n = some c)
    (hC : s.heap.objs.size ≤ C) (hfs : ∀ b ∈ fp, b < s.heap.objs.size) : (compCx X scope N' cl C s H fp pins).Ok where
  mod := I.ok.mod
  kind := S.kind
  glob := I.ok.glob
  blt := I.ok.blt
  above := hC
  inj := fun x y c e1 e2 => I.ok.inj x y c (h1 x c e1) (h1 y c e2)
  has := fun x hk => h2 x (by
    rcases hk with hk | hk
    · exact lookup_relabel (env := X.env) hk (.inl rfl) S.cell
    · exact lookup_relabel (env := X.env) hk (.inr rfl) S.cell)
  cab := fun _ _ z => nomatch z
  hd := I.ok.hd
  frames := I.ok.frames
  stk := .inl rfl
  exf := fun b hb => ⟨Nat.ne_of_lt (Nat.lt_of_lt_of_le (hfs b hb) hC), fun x c e => (hf b hb).2.2.2.2.1 x c (h1 x c e)⟩
  bs := I.bs
  bsz := Nat.le_trans I.ok.bsz I.sz
  noex := fun b o e hb => by
    rcases (hf b hb).2.2.2.1 with z | z
    · exact I.ok.noex b o e z
    · exact absurd (Nat.lt_of_lt_of_le (Nat.lt_of_lt_of_le (Heap.lt_size e) I.ok.bsz) z) (Nat.lt_irrefl _)
  exfs := fun b hb z => by
    rcases List.mem_cons.mp (I.stkSub b z) with q | q
    · exact (hf b hb).2.1 q
    · exact (hf b hb).2.2.1 q
  funs := I.stack
  frf := I.stkFree

theorem comp_start {h₁ : Heap} {tk : Nat} (I : Inv X pins σ H s) (S : CompScope scope X.env.scope) (hρ : SlotOk scope X.env X.N N' ρ) (hf : ∀ b ∈ fp, FpOk X pins H b) (h1 : ∀ x c, cl.lookup x = some c → X.env.cells.lookup x = some c)
    (h2 : ∀ n, (n, NameKind.free) ∈ scope.names → ∃ c, cl.lookup n = some c) (hC : s.heap.objs.size ≤ C) (hfs : ∀ b ∈ fp, b < s.heap.objs.size) (hn : h₁.Ns C (fun _ => none)) (hk : ∀ b o, s.heap.get? b = some o → h₁.get? b = some o)
    (hl : ∀ x, (x, NameKind.free) ∈ scope.names → scope.names.lookup x = some .free) :
    Inv (compCx X scope N' cl C s H fp pins) [] (inSt ρ σ) H { s with heap := h₁, toks := tk } where
  ok := comp_ok I S hf h1 h2 hC hfs
  os := rfl
  bare := I.bare
  base := Un.kept hk
  loc := by
    refine ⟨_, hn, fun j x v e1 e2 hv => ?_⟩
    obtain ⟨m, hm, hl'⟩ := I.loc
    unfold inSt at e2
    rw [List.getElem?_map] at e2
    cases hr : ρ[j]? with
    | none => rw [hr] at e2; simp at e2
    | some o =>
      cases o with
      | none => rw [hr] at e2; simp at e2
      | some i =>
        rw [hr] at e2
        obtain ⟨q1, q2, q3⟩ := hρ.2 j i x hr e1
        have e3 : σ[i]? = some (some v) := by
          cases hσ : σ[i]? with
          | none => simp [hσ] at e2
          | some z => simp [hσ] at e2; rw [e2]
        obtain ⟨u, r, lk⟩ := hl' i x v q1 e3 q2
        refine ⟨u, r, ?_⟩
        obtain ⟨c, hc⟩ := h2 x q3
        have hkind : (relabel scope X.env).names.lookup x = some .cell ∨ (relabel scope X.env).names.lookup x = some .free := by
          rcases lookup_relabel_free (env := X.env) q3 with z | z | z
          · exact .inl z
          · exact .inr z
          · exact absurd (hl x q3) z
        refine .inr ⟨hkind, c, hc, ?_⟩
        rcases lk with ⟨k, _⟩ | ⟨_, c', e', z⟩
        · rcases S.free (x, .free) q3 rfl with z | z
          · have k' : X.env.scope.names.lookup x = some .local := k
            rw [z] at k'; cases k'
          · have k' : X.env.scope.names.lookup x = some .local := k
            rw [z] at k'; cases k'
        · have := h1 x c hc
          rw [e'] at this; cases this
          obtain ⟨o, ho, hd⟩ := z
          exact ⟨o, hk _ _ ho, hd⟩
  cell := fun x c e => by
    obtain ⟨v, o, ho, hd⟩ := I.cell x c (h1 x c e)
    exact ⟨v, o, hk _ _ ho, hd⟩
  free := I.hok.fresh hC
  freeC := fun x c e => I.freeC x c (h1 x c e)
  pin := fun p hp => by
    have hp' : p ∈ X.pn ++ pins := by simpa [compCx] using hp
    obtain ⟨e, n, ne, nf, d⟩ := I.pin p hp'
    refine ⟨hk _ _ e, n, Nat.ne_of_lt (Nat.lt_of_lt_of_le (Heap.lt_size e) hC), fun z => ?_, d⟩
    rcases List.mem_cons.mp (I.stkSub p.1 z) with q | q
    · exact ne q
    · exact nf q
  hok := I.hok.kept hk
  len := by
    show (inSt ρ σ).length = N'.length
    unfold inSt
    rw [List.length_map]; exact hρ.1
end

theorem HOk.track {P : Program} {w : World} {H : Hp} {h : Heap} {D : Addr} {o : HO} (x : HOk P w H h) (n : H D = none) (new : ObjOk P w (upd H D o) h D o) : HOk P w (upd H D o) h := fun b u e => by
  by_cases hb : b = D
  · subst hb; rw [upd_same] at e; cases e; exact new
  · rw [upd_ne hb] at e
    exact (x b u e).stay (fun c v _ q => q) (fun c q => by rw [upd_ne (ne_of_none q n)]; exact q) fun c xs q => by rw [upd_ne (ne_of_none q n)]; exact q

section
variable {prog : Program} {w : World} {A : Around} {R : Result → Shared → Prop} {s : Shared}
theorem compLoop_gen {elt target iter : Expr} {ifs : List Expr} {scope : Scope} {pos : Pos} {it acc : Value} {env : Env} (I : Nat → Shared → Prop)
    (turn : ∀ n s, I n s → wpAny (model prog w) A (pyNext it) (fun r s₁ => match r with
      | none => R (.ok .next) s₁
      | some v => wpAny (model prog w) A (letOwnedTupleGo target it v) (fun _ s₁' => wpAny (model prog w) A (assign target env v) (fun _ s₂ =>
          wpAny (model prog w) A (forIn ifs true fun c r => if r = true then do let ok ← isTrue c env (eval c env); pure (ForInStep.yield ok) else pure (ForInStep.yield r)) (fun ok s₃ =>
            if ok = true then wpAny (model prog w) A (eval elt env) (fun x s₄ =>
              wpAny (model prog w) A (call (.builtin "list.append") [acc, x]) (fun _ s₅ => ∃ m, m < n ∧ I m s₅) (fun _ _ => False) s₄) (fun _ _ => False) s₃
            else ∃ m, m < n ∧ I m s₃) (fun _ _ => False) s₂) (fun _ _ => False) s₁') (fun _ _ => False) s₁) (fun _ _ => False) s)
    (n : Nat) (h : I n s) :
    codeAny (model prog w) A (.compLoop (.ListComp elt [⟨target, iter, ifs, 0⟩] scope pos) 0 it acc env) R s := by
  refine codeAny_loop rfl I (fun n s hI => ?_) n h
  show wpAny _ A ((compTurn (.ListComp elt [⟨target, iter, ifs, 0⟩] scope pos) 0 it acc env).onRaise (fun x => do noteFrame x env; theTreesLotGoes x)) _ _ s
  refine wpAny_noted ?_
  rw [compTurn_list]
  refine wpAny_bind (wpAny_standAt (wpAny_bind (wpAny_mono (turn n s hI) (fun r s₁ h₁ => ?_) fun _ _ h' => h'.elim)))
  cases r with
  | none => exact wpAny_pure h₁
  | some v =>
    refine wpAny_bind (wpAny_mono h₁ (fun _ s₁' h₁ => ?_) fun _ _ h' => h'.elim)
    refine wpAny_bind (wpAny_mono h₁ (fun _ s₂ h₂ => wpAny_bind (wpAny_mono h₂ (fun ok s₃ h₃ => ?_) fun _ _ h' => h'.elim)) fun _ _ h' => h'.elim)
    cases ok with
    | false => exact wpAny_pure ⟨rfl, h₃⟩
    | true =>
      exact wpAny_bind (wpAny_bind (wpAny_mono h₃ (fun x s₄ h₄ => wpAny_bind (wpAny_mono h₄ (fun _ s₅ h₅ => wpAny_pure (wpAny_pure ⟨rfl, h₅⟩)) fun _ _ h' => h'.elim)) fun _ _ h' => h'.elim))
end

noncomputable def PTs (X : Cx) (ifs : List Expr) (t : TT) : Prop :=
  ∀ (pins : List (Addr × Obj)) (s : Shared) (σ : St) (H : Hp) (Q : Bool → Hp → Prop), Inv X pins σ H s → t σ H Q →
    wpAny (model X.prog X.w) X.A (forIn ifs true fun c r => if r = true then do let ok ← isTrue c X.env (eval c X.env); pure (ForInStep.yield ok) else pure (ForInStep.yield r)) (TP X pins σ Q) X.xe s
noncomputable def tYes : TT := fun _ H Q => Q true H
theorem pts_nil {X : Cx} : PTs X [] tYes := fun _ _ _ H _ I h => wpAny_tests_nil ⟨H, I, h⟩
theorem pts_one {X : Cx} {c : Expr} {t : TT} (h : PT X c t) : PTs X [c] t := fun pins s σ H Q I hw => wpAny_tests_one (h pins s σ H Q I hw)

noncomputable def Outs (ρ : List (Option Nat)) (σ σ2 : St) : Prop := σ2.length = ρ.length ∧ ∀ (j : Nat) v, (inSt ρ σ)[j]? = some (some v) → σ2[j]? = some (some v)
noncomputable def CompW (ρ : List (Option Nat)) (g : TG) (tt : TT) (te : TE) (σ : St) (Q : VK) (J : It) (H1 : Hp) : Prop := ∃ W : Nat → Nat → List V → Hp → Prop, (∃ m, W 0 m [] H1) ∧ ∀ i m ys H', W i m ys H' →
  (J.stop i H' ∧ ys.length ≤ sizeLine ∧ ∀ p, H' p = none → Q (.ref p) (upd H' p (.lst ys))) ∨
  (J.go i H' ∧ ys.length < sizeLine ∧ ∃ N : List V → Hp → Prop, (∀ ys' H'', N ys' H'' → ∃ m', m' < m ∧ W (i + 1) m' ys' H'') ∧ ∀ x H2, J.yld i H' x H2 → g x (inSt ρ σ) H2 fun σ2 H3 => Outs ρ σ σ2 ∧ tt σ2 H3 fun ok H4 => if ok = true then te σ2 H4 fun v H5 => N (ys ++ [v]) H5 else N ys H4)
noncomputable def tComp (ρ : List (Option Nat)) (wi : TI) (g : TG) (tt : TT) (te : TE) : TE := fun σ H Q => wi σ H fun J H1 => CompW ρ g tt te σ Q J H1

theorem comp_run {X : Cx} {elt iter tg : Expr} {ifs : List Expr} {scope : Scope} {pos : Pos} {N' : List Str} {ρ : List (Option Nat)} {wi : TI} {g : TG} {tt : TT} {te : TE} {cl : List (Str × Addr)} {RR : Value → Addr → Result → Shared → Prop} (hc : X.calm = true) (hi : PI X tg iter wi) (S : CompScope scope X.env.scope) (hρ : SlotOk scope X.env X.N N' ρ)
    (hl : ∀ x, (x, NameKind.free) ∈ scope.names → scope.names.lookup x = some .free)
    (inner : ∀ (cl : List (Str × Addr)) (C : Addr) (s : Shared) (H : Hp) (fp : List Addr) (pins : List (Addr × Obj)), PG (compCx X scope N' cl C s H fp pins) tg g ∧ PTs (compCx X scope N' cl C s H fp pins) ifs tt ∧ PE (compCx X scope N' cl C s H fp pins) elt te)
    {pins : List (Addr × Obj)} {s : Shared} {σ : St} {H : Hp} {Q : VK} (I : Inv X pins σ H s) (h : tComp ρ wi g tt te σ H Q)
    (h1 : ∀ x c, cl.lookup x = some c → X.env.cells.lookup x = some c) (h2 : ∀ n, (n, NameKind.free) ∈ scope.names → ∃ c, cl.lookup n = some c)
    (fin : ∀ D C s' H' m, Inv X pins σ H' s' → Q (.ref D) H' → s'.heap.Ns C m → FpOk X pins H' C → RR (.ref D) C (.ok .next) s') :
    wpAny (model X.prog X.w) X.A (eval iter X.env) (fun x s₁ => wpAny (model X.prog X.w) X.A (pyIter x) (fun it s₂ => wpAny (model X.prog X.w) X.A (newList []) (fun acc s₃ =>
      wpAny (model X.prog X.w) X.A (newFunctionEnv scope X.env.globals cl [] X.env.qual none .none (some X.env)) (fun cenv s₄ =>
        codeAny (model X.prog X.w) X.A (.compStart (.ListComp elt [⟨tg, iter, ifs, 0⟩] scope pos) 0 it acc { cenv with scope := relabel scope X.env }) (RR acc cenv.locals) s₄) X.xe s₃) X.xe s₂) X.xe s₁) X.xe s := by
  refine thn (hi pins s σ H _ I h) fun v s1 h1' => thn h1' fun itv s2 hx => ?_
  obtain ⟨it, fp, tn, J, H2, e, I2, T, st2, f2, W, ⟨m0, w0⟩, turn⟩ := hx
  subst e
  have hfs : ∀ b ∈ fp, b < s2.heap.objs.size := fun b hb => by
    obtain ⟨o, e, _⟩ := T.obj _ _ st2 b hb
    exact Heap.lt_size e
  refine wpAny_newObj_type (wpAny_newFunctionEnv S.cell (by intro y hy; simp at hy) (fun h₁ hns₁ hsb₁ => ?_) S.kind)
  dsimp only at hns₁ hsb₁ ⊢
  generalize hH2 : s2.heap.push { cls := .type "list", dict := none, data := .seq ([] : List Value).toArray } = G at hns₁ hsb₁ ⊢
  have hC : G.objs.size = s2.heap.objs.size + 1 := by rw [← hH2, Heap.size_push]
  have hDC : s2.heap.objs.size ≠ G.objs.size := by rw [hC]; exact Nat.ne_of_lt (Nat.lt_succ_self _)
  have hCle : s2.heap.objs.size ≤ G.objs.size := by rw [hC]; exact Nat.le_succ _
  have old : ∀ b o, s2.heap.get? b = some o → h₁.get? b = some o := fun b o e => hsb₁.extBut b o (Nat.ne_of_lt (Nat.lt_of_lt_of_le (Heap.lt_size e) hCle)) (Heap.get?_push_of_some _ (hH2 ▸ Heap.get?_push_of_some _ e))
  have hacc : h₁.get? s2.heap.objs.size = some { cls := .type "list", dict := none, data := .seq ([] : List Value).toArray } := hsb₁.extBut _ _ hDC (Heap.get?_push_of_some _ (hH2 ▸ Heap.get?_push_size _ rfl))
  have hns₂ : h₁.Ns G.objs.size (fun _ => none) := hns₁
  generalize hXX : compCx X scope N' cl G.objs.size s2 H2 fp pins = XX at *
  have IN : ∀ (tk : Nat), Inv XX [] (inSt ρ σ) H2 { s2 with heap := h₁, toks := tk } := fun tk => hXX ▸ comp_start (N' := N') I2 S hρ f2 h1 h2 hCle hfs hns₂ old hl
  obtain ⟨pg, pt, pe⟩ := inner cl G.objs.size s2 H2 fp pins
  rw [hXX] at pg pt pe
  have eP : XX.prog = X.prog := by rw [← hXX]; rfl
  have eW : XX.w = X.w := by rw [← hXX]; rfl
  have eK : XX.K = X.K := by rw [← hXX]; rfl
  have eA : XX.A = X.A := by rw [← hXX]; rfl
  have eE : XX.env = compEnvC scope cl G.objs.size X.env := by rw [← hXX]; rfl
  have eL : XX.env.locals = G.objs.size := by rw [eE]; rfl
  have ec : XX.calm = true := by rw [← hXX]; exact hc
  have ex : XX.xe = fun _ _ => False := by rw [← hXX]; rfl
  have es0 : XX.s₀ = s2 := by rw [← hXX]; rfl
  have eex : XX.ex = fp := by rw [← hXX]; rfl
  have efs : XX.fs = frs X.stack := by rw [← hXX]; rfl
  have eH0 : XX.H₀ = H2 := by rw [← hXX]; rfl
  have epn : XX.pn = X.pn ++ pins := by rw [← hXX]; rfl
  have ecl : XX.env.cells = cl := by rw [eE]; rfl
  -- what stays true of the iterator's records
  have stat : ∀ {H' : Hp} {ps : List (Addr × Obj)}, (∀ b ∈ fp, H' b = none) → (∀ p ∈ ps, p.1 = s2.heap.objs.size) → ∀ b ∈ fp, FpOk XX ps H' b := fun {H' ps} hn hp b hb => by
    refine ⟨hn b hb, ?_, ?_, ?_, ?_, ?_⟩
    · rw [eL]; exact Nat.ne_of_lt (Nat.lt_of_lt_of_le (hfs b hb) hCle)
    · rw [efs]
      intro z
      rcases List.mem_cons.mp (I2.stkSub b z) with q | q
      · exact (f2 b hb).2.1 q
      · exact (f2 b hb).2.2.1 q
    · rw [eex]; exact .inl hb
    · rw [ecl]; exact fun x c e => (f2 b hb).2.2.2.2.1 x c (h1 x c e)
    · intro p hp' z
      rw [epn] at hp'
      rcases List.mem_append.mp hp' with q | q
      · exact (f2 b hb).2.2.2.2.2 p q z
      · rw [hp p q] at z
        exact absurd (hfs b hb) (by rw [z]; exact Nat.lt_irrefl _)
  have nofsD : s2.heap.objs.size ∉ XX.fs := by
    rw [efs]; intro z
    rcases List.mem_cons.mp (I2.stkSub _ z) with q | q
    · exact absurd I2.lt (by rw [← q]; exact Nat.lt_irrefl _)
    · exact I2.nofs (Nat.le_refl _) q
  have pinD : ∀ {σ' : St} {H' : Hp} {s' : Shared} {its : List Value} {n : Nat}, Inv XX [] σ' H' s' → H' s2.heap.objs.size = none → s'.heap.get? s2.heap.objs.size = some { cls := .type "list", data := .seq its.toArray n } →
      Inv XX [(s2.heap.objs.size, { cls := .type "list", data := .seq its.toArray n })] σ' H' s' := fun {σ' H' s' its n} I' hn ho => I'.pins_of fun p hp => by
    have e : p = (s2.heap.objs.size, { cls := .type "list", data := .seq its.toArray n }) := by simpa using hp
    subst e
    refine ⟨ho, hn, by rw [eL]; exact hDC, nofsD, fun v z => ?_⟩
    have z' : Data.seq its.toArray n = Data.cell v := z
    cases z'
  have loop : ∀ s₃ : Shared, (∃ tk, s₃ = { s2 with heap := h₁, toks := tk }) →
      codeAny (model X.prog X.w) X.A (.compLoop (.ListComp elt [⟨tg, iter, ifs, 0⟩] scope pos) 0 (.ref it) (.ref s2.heap.objs.size) (compEnvC scope cl G.objs.size X.env)) (RR (.ref s2.heap.objs.size) G.objs.size) s₃ := by
    rintro s₃ ⟨tk, rfl⟩
    refine compLoop_gen (fun n s' => ∃ i ys its k H', Inv XX [] (inSt ρ σ) H' s' ∧ tn i s'.heap ∧ (∀ b ∈ fp, H' b = none) ∧ H' s2.heap.objs.size = none ∧ Vals ys its ∧
      s'.heap.get? s2.heap.objs.size = some { cls := .type "list", data := .seq its.toArray k } ∧ W i n ys H') ?_ m0
      ⟨0, [], [], 0, H2, IN tk, T.keep _ _ _ st2 fun b _ o e => old b o e, fun b hb => (f2 b hb).1, I2.hok.fresh (Nat.le_refl _), .nil, hacc, w0⟩
    rintro n s3 ⟨i, ys, its, k, H3, I3, st3, fr3, hD3, rv, ho3, w3⟩
    rcases turn i n ys H3 w3 with ⟨stop, hz, qn⟩ | ⟨go, hz, N, hN, step⟩
    · have I3p := pinD I3 hD3 ho3
      have q := T.done XX eP eW eK ec i _ s3 (inSt ρ σ) H3 (fun _ _ => False) I3p (stat fr3 (by simp)) st3 stop
      rw [eA] at q
      refine thn q fun r s4 ⟨hr, I4⟩ => ?_
      subst hr
      have ho4 := (I4.pin (s2.heap.objs.size, { cls := .type "list", data := .seq its.toArray k }) (by simp)).1
      obtain ⟨m, hm, _⟩ := I4.loc
      rw [eL] at hm
      have hun : Un (frs X.stack) fp H2 (upd H3 s2.heap.objs.size (.lst ys)) s2.heap s4.heap := by
        have u := I4.base
        rw [efs, eex, eH0, es0] at u
        refine ⟨u.keep, u.slot, fun b o e n hx => ?_, u.there, fun b xs e => ?_, fun b o xs e => ?_, fun b ps e => ?_⟩
        · rw [upd_ne (Nat.ne_of_lt (Heap.lt_size e))]; exact u.free b o e n hx
        · have q := u.tups b xs e
          rw [upd_ne (ne_of_none q hD3)]; exact q
        · have q := u.frzs b o xs e
          rw [upd_ne (ne_of_none q hD3)]; exact q
        · obtain ⟨more, q⟩ := u.tbls b ps e
          exact ⟨more, by rw [upd_ne (ne_of_none q hD3)]; exact q⟩
      have hok : HOk X.prog X.w (upd H3 s2.heap.objs.size (.lst ys)) s4.heap := by
        have q := I4.hok
        rw [eP, eW] at q
        exact q.track hD3 ⟨hz, its, k, rv, ho4⟩
      have hfr : ∀ b ∈ fp, (b ∈ X.ex ∨ X.s₀.heap.objs.size ≤ b) ∧ b ≠ X.env.locals ∧ (∀ x c, X.env.cells.lookup x = some c → c ≠ b) ∧ ∀ p ∈ X.pn ++ pins, p.1 ≠ b := fun b hb => ⟨(f2 b hb).2.2.2.1, (f2 b hb).2.1, (f2 b hb).2.2.2.2.1, (f2 b hb).2.2.2.2.2⟩
      have IO : Inv X pins σ (upd H3 s2.heap.objs.size (.lst ys)) s4 := I2.call' (by have := I4.os; rw [es0] at this; exact this) hun hok I4.bare hfr
      refine fin _ _ s4 _ m IO (qn _ hD3) hm (I2.fpOk hCle ?_)
      rw [upd_ne (Ne.symm hDC)]
      have := I4.free
      rw [eL] at this
      exact this
    · have I3p := pinD I3 hD3 ho3
      have q := T.item XX eP eW eK ec i _ s3 (inSt ρ σ) H3 (fun _ _ => False) I3p (stat fr3 (by simp)) st3 go
      rw [eA] at q
      refine thn q fun r s4 ⟨u, hr, h4⟩ => ?_
      subst hr
      refine thn h4 fun _ s5 ⟨x, H5, I5, r5, y5, st5, fr5⟩ => ?_
      have I5' := I5.pinned (stat fr5 (by simp)) (T.obj _ _ st5)
      have qa := pg _ s5 (inSt ρ σ) H5 x u _ I5' r5 (step x H5 y5)
      rw [eP, eW, eA, eE, ex] at qa
      refine thn qa fun _ s6 ⟨σ6, H6, I6, ⟨ou1, ou2⟩, q6⟩ => ?_
      have hw6 : (inSt ρ σ).length = σ6.length := by rw [ou1]; unfold inSt; rw [List.length_map]
      have qt := pt _ s6 σ6 H6 _ I6 q6
      rw [eP, eW, eA, eE, ex] at qt
      refine thn qt fun ok s7 ⟨H7, I7, q7⟩ => ?_
      have back : ∀ {s8 : Shared} {H8 : Hp}, Inv XX ([(s2.heap.objs.size, { cls := .type "list", data := .seq its.toArray k })] ++ pinsAt fp s5.heap) σ6 H8 s8 → tn (i + 1) s8.heap ∧ (∀ b ∈ fp, H8 b = none) ∧ H8 s2.heap.objs.size = none ∧
          s8.heap.get? s2.heap.objs.size = some { cls := .type "list", data := .seq its.toArray k } := fun {s8 H8} I8 => by
        refine ⟨T.keep _ _ _ st5 fun b hb o e => (I8.pin (b, o) (List.mem_append_right _ (List.mem_append_right _ (mem_pinsAt hb e)))).1, fun b hb => ?_, ?_, ?_⟩
        · obtain ⟨o, e, d⟩ := T.obj _ _ st5 b hb
          exact (I8.pin (b, o) (List.mem_append_right _ (List.mem_append_right _ (mem_pinsAt hb e)))).2.1
        · exact (I8.pin (s2.heap.objs.size, { cls := .type "list", data := .seq its.toArray k }) (by simp)).2.1
        · exact (I8.pin (s2.heap.objs.size, { cls := .type "list", data := .seq its.toArray k }) (by simp)).1
      cases ok with
      | false =>
        obtain ⟨m', hm, w7⟩ := hN _ _ q7
        obtain ⟨b1, b2, b3, b4⟩ := back I7
        exact ⟨m', hm, i + 1, ys, its, k, H7, (I7.pins_of (pins' := []) (fun _ z => nomatch z)).weak hw6 ou2, b1, b2, b3, rv, b4, w7⟩
      | true =>
        have qe := pe _ s7 σ6 H7 _ I7 q7
        rw [eP, eW, eA, eE, ex] at qe
        refine thn qe fun y s8 ⟨v8, H8, I8, r8, n8⟩ => ?_
        obtain ⟨m', hm, w8⟩ := hN _ _ n8
        obtain ⟨b1, b2, b3, b4⟩ := back I8
        have hlen := rv.length
        refine call_meets F.slot_list_append ⟨_, b4, rfl⟩ F.entry_list_append (F.args_list_append_2 _ _) (PySem.list_append s2.heap.objs.size its.toArray k y (by rw [List.size_toArray]; omega)) ⟨b4, ?_⟩
        have qL := PySem.IsL.update b4 (fun xs => xs.push y)
        have I8' : Inv XX [] σ6 H8 s8 := I8.pins_of (fun _ z => nomatch z)
        have I9 : Inv XX [] σ6 H8 { s8 with heap := s8.heap.update s2.heap.objs.size (Obj.mapSeq fun xs => xs.push y), toks := s8.toks } := I8'.turned (it := s2.heap.objs.size) (fun b o hb e => (Heap.get?_update_other s8.heap _ (Ne.symm hb)).trans e) b3
          (by rw [eL]; exact hDC) (.inr (by rw [es0]; exact Nat.le_refl _)) (by
            rw [ecl]; intro x c e z
            obtain ⟨v, qc⟩ := I2.cell x c (h1 x c e)
            exact absurd qc.lt (by rw [z]; exact Nat.lt_irrefl _)) (by
            intro p hp z
            have hp' : p ∈ X.pn ++ pins := by rw [epn] at hp; simpa using hp
            exact absurd (Heap.lt_size (I2.pin p hp').1) (by rw [z]; exact Nat.lt_irrefl _))
        have hnd : s2.heap.objs.size ∉ fp := fun z => Nat.lt_irrefl _ (hfs _ z)
        rw [show its.toArray.push y = (its ++ [y]).toArray by simp] at qL
        refine ⟨m', hm, i + 1, ys ++ [v8], its ++ [y], _, H8, I9.weak hw6 ou2, T.keep _ _ _ b1 fun b hb o e => (Heap.get?_update_other s8.heap _ (by rintro rfl; exact hnd hb)).trans e, b2, b3, rv.append (.cons r8 .nil), qL, w8⟩
  refine codeAny_compStart_list (loop _ ⟨_, rfl⟩) (T.self X.A 0 _ _ _ (T.keep _ _ _ st2 fun b _ o e => old b o e) (loop _ ⟨_, rfl⟩))
theorem pe_comp {X : Cx} {elt iter tg : Expr} {ifs : List Expr} {scope : Scope} {pos : Pos} (N' : List Str) (ρ : List (Option Nat)) {wi : TI} {g : TG} {tt : TT} {te : TE} (hc : X.calm = true) (hi : PI X tg iter wi) (S : CompScope scope X.env.scope) (hρ : SlotOk scope X.env X.N N' ρ)
    (hl : ∀ x, (x, NameKind.free) ∈ scope.names → scope.names.lookup x = some .free)
    (inner : ∀ (cl : List (Str × Addr)) (C : Addr) (s : Shared) (H : Hp) (fp : List Addr) (pins : List (Addr × Obj)), PG (compCx X scope N' cl C s H fp pins) tg g ∧ PTs (compCx X scope N' cl C s H fp pins) ifs tt ∧ PE (compCx X scope N' cl C s H fp pins) elt te)
    (hs : ∀ x, foldedSetIterable iter X.env x = pure x := by intro _; rfl) : PE X (.ListComp elt [⟨tg, iter, ifs, 0⟩] scope pos) (tComp ρ wi g tt te) := by
  intro pins s σ H Q I h
  obtain ⟨cl, hcl, h1, h2⟩ := closureFor_of (scope := scope) (env := X.env) (fun n hn => I.ok.has n (S.free (n, .free) hn rfl))
  rw [eval_ListComp]
  refine wpAny_comprehension_free (use := none) rfl hs hcl S.kind S.loc ?_
  refine comp_run (RR := fun acc C => compPost (model X.prog X.w) X.A X.xe none (EP X pins σ Q) acc C) hc hi S hρ hl inner I h h1 h2 ?_
  intro D C s' H' m I' q hm hf
  refine ⟨m, hm, fun h' sb => ⟨.ref D, H', ?_, rfl, q⟩⟩
  exact I'.turned (t' := s'.toks) (fun b o hb e => (sb.2 b hb).trans e) hf.1 hf.2.1 hf.2.2.2.1 hf.2.2.2.2.1 hf.2.2.2.2.2

theorem ps_setcomp {X : Cx} {elt iter tg : Expr} {ifs : List Expr} {scope : Scope} {pos pos' spos : Pos} {i : Nat} {x : Str} (N' : List Str) (ρ : List (Option Nat)) {wi : TI} {g : TG} {tt : TT} {te : TE} (hN : X.N.Nodup) (hix : X.N[i]? = some x) (hx : Loc X.env.scope x)
    (hc : X.calm = true) (hi : PI X tg iter wi) (S : CompScope scope X.env.scope) (hρ : SlotOk scope X.env X.N N' ρ)
    (hl : ∀ x, (x, NameKind.free) ∈ scope.names → scope.names.lookup x = some .free)
    (inner : ∀ (cl : List (Str × Addr)) (C : Addr) (s : Shared) (H : Hp) (fp : List Addr) (pins : List (Addr × Obj)), PG (compCx X scope N' cl C s H fp pins) tg g ∧ PTs (compCx X scope N' cl C s H fp pins) ifs tt ∧ PE (compCx X scope N' cl C s H fp pins) elt te)
    (hsw : swapsWith (.ListComp elt [⟨tg, iter, ifs, 0⟩] scope pos) (some (.Name x pos')) spos.line X.env = pure true := by rfl)
    (hs : ∀ x, foldedSetIterable iter X.env x = pure x := by intro _; rfl) (hf : X.fn x = true ∨ X.env.scope.names.lookup x = some .local := by first | exact .inl rfl | exact .inr rfl | assumption) :
    PS X (.Assign [.Name x pos'] (.ListComp elt [⟨tg, iter, ifs, 0⟩] scope pos) spos) (tAsg (tComp ρ wi g tt te) (gName i)) := by
  intro pins s σ H Dn I h
  obtain ⟨cl, hcl, h1, h2⟩ := closureFor_of (scope := scope) (env := X.env) (fun n hn => I.ok.has n (S.free (n, .free) hn rfl))
  rw [exec_Assign_Name_used _ _ _ _ hsw]
  refine wpAny_bind (wpAny_standAt (wpAny_bind ?_))
  show wpAny _ X.A (do let _ ← comprehension (.ListComp elt [⟨tg, iter, ifs, 0⟩] scope pos) scope X.env _ (newList []) false (eval iter X.env) (some (assign (.Name x pos') X.env))) _ _ s
  refine wpAny_bind (wpAny_mono (wpAny_comprehension_free (use := some (assign (.Name x pos') X.env)) (Q := fun _ s' => SP X pins Dn .next s') rfl hs hcl S.kind S.loc ?_) (fun _ s' hq => wpAny_pure (wpAny_pure hq)) fun _ _ e => e)
  refine comp_run (RR := fun acc C => compPost (model X.prog X.w) X.A X.xe (some (assign (.Name x pos') X.env)) (fun _ s' => SP X pins Dn .next s') acc C) hc hi S hρ hl inner I h h1 h2 ?_
  intro D C s' H' m I' q hm hfC
  obtain ⟨oC, es, ep, hoC, hr⟩ := id hm
  have pin : Inv X (pins ++ pinsAt [C] s'.heap) σ H' s' := I'.pinned (fun b hb => by
    have e : b = C := by simpa using hb
    subst e
    exact hfC) (fun b hb => by
    have e : b = C := by simpa using hb
    subst e
    exact ⟨oC, hoC, fun v z => by rw [hr.1] at z; cases z⟩)
  show wpAny _ X.A (assign (.Name x pos') X.env (.ref D)) _ _ _
  refine wpAny_assign_Name ?_
  refine store_ok (M := model X.prog X.w) (A := X.A) (E := X.xe) pin hN hix hx (v := .ref D) (u := .ref D) rfl (fun s'' I'' => ?_) hf
  have pC := (I''.pin (C, oC) (List.mem_append_right _ (List.mem_append_right _ (mem_pinsAt (by simp) hoC))))
  refine ⟨m, ⟨oC, es, ep, pC.1, hr⟩, fun h' sb => ⟨_, H', ?_, q⟩⟩
  have I2 : Inv X pins (σ.set i (some (.ref D))) H' s'' := I''.unpinned
  exact I2.turned (t' := s''.toks) (fun b o hb e => (sb.2 b hb).trans e) hfC.1 hfC.2.1 hfC.2.2.2.1 hfC.2.2.2.2.1 hfC.2.2.2.2.2

theorem inSt_cons (σ : St) (o : Option Nat) (ρ : List (Option Nat)) : inSt (o :: ρ) σ = (match o with | some i => (σ[i]?).getD none | none => none) :: inSt ρ σ := rfl
theorem outs1 {ρ : List (Option Nat)} {σ : St} (o : Option V) : Outs (none :: ρ) σ (o :: inSt ρ σ) := by
  refine ⟨by unfold inSt; simp, fun j v e => ?_⟩
  cases j with
  | zero => rw [inSt_cons] at e; simp at e
  | succ j => rw [inSt_cons] at e; simpa using e
theorem outs2 {ρ : List (Option Nat)} {σ : St} (o o' : Option V) : Outs (none :: none :: ρ) σ (o :: o' :: inSt ρ σ) := by
  refine ⟨by unfold inSt; simp, fun j v e => ?_⟩
  cases j with
  | zero => rw [inSt_cons] at e; simp at e
  | succ j =>
    rw [inSt_cons, inSt_cons] at e
    cases j with
    | zero => simp at e
    | succ j => simpa using e
theorem comp_by {J : It} {n : Nat} {X : Nat → V → Prop} {ρ : List (Option Nat)} {tt : TT} {te : TE} {σ : St} {H : Hp} {Q : VK} (Pv : Nat → List V → Hp → Prop) (h0 : Pv 0 [] H) (hlen : n ≤ sizeLine)
    (hy : ∀ i ys H, i ≤ n → Pv i ys H → ys.length ≤ i) (hgo : ∀ i ys H, i < n → Pv i ys H → J.go i H) (hyl : ∀ i ys H x H', i < n → Pv i ys H → J.yld i H x H' → H' = H ∧ X i x) (hst : ∀ ys H, Pv n ys H → J.stop n H)
    (hs : ∀ i x ys H, i < n → X i x → Pv i ys H → tt (some x :: inSt ρ σ) H fun ok H4 => if ok = true then te (some x :: inSt ρ σ) H4 fun v H5 => Pv (i + 1) (ys ++ [v]) H5 else Pv (i + 1) ys H4)
    (hd : ∀ ys H, Pv n ys H → ∀ p, H p = none → Q (.ref p) (upd H p (.lst ys))) :
    CompW (none :: ρ) (gName 0) tt te σ Q J H := by
  refine ⟨fun i m ys H => m = n - i ∧ i ≤ n ∧ Pv i ys H, ⟨n, by simp, Nat.zero_le _, h0⟩, ?_⟩
  rintro i m ys H ⟨rfl, hi, p⟩
  have hl := hy i ys H hi p
  by_cases hlt : i < n
  · refine .inr ⟨hgo i ys H hlt p, by omega, Pv (i + 1), fun ys' H'' p' => ⟨n - (i + 1), by omega, rfl, hlt, p'⟩, fun x H' y => ?_⟩
    obtain ⟨e, y2⟩ := hyl i ys H x H' hlt p y
    subst e
    exact ⟨outs1 _, hs i x ys _ hlt y2 p⟩
  · have e : i = n := by omega
    subst e
    exact .inl ⟨hst ys H p, by omega, hd ys H p⟩
theorem comp_tup {K : PySem.W.Frag} {a : Addr} {xs : List V} {ρ : List (Option Nat)} {tt : TT} {te : TE} {σ : St} {H : Hp} {Q : VK} (Pv : Nat → List V → Hp → Prop) (h0 : Pv 0 [] H) (hlen : xs.length ≤ sizeLine) (hl : ∀ i ys H, i ≤ xs.length → Pv i ys H → SqT K H a xs ∧ ys.length ≤ i)
    (hs : ∀ i x ys H, xs[i]? = some x → Pv i ys H → tt (some x :: inSt ρ σ) H fun ok H4 => if ok = true then te (some x :: inSt ρ σ) H4 fun v H5 => Pv (i + 1) (ys ++ [v]) H5 else Pv (i + 1) ys H4)
    (hd : ∀ ys H, Pv xs.length ys H → ∀ p, H p = none → Q (.ref p) (upd H p (.lst ys))) :
    CompW (none :: ρ) (gName 0) tt te σ Q (Itt K a) H :=
  comp_by (n := xs.length) (X := fun i x => xs[i]? = some x) Pv h0 hlen (fun i ys H hi p => (hl i ys H hi p).2) (fun i ys H hi p => ⟨xs, xs[i], (hl i ys H (Nat.le_of_lt hi) p).1, by simp [hi]⟩) (fun i ys H x H' hi p y => ⟨y.1, y.2 xs (hl i ys H (Nat.le_of_lt hi) p).1⟩)
    (fun ys H p => ⟨xs, (hl _ ys H (Nat.le_refl _) p).1, Nat.le_refl _⟩) (fun i x ys H _ e p => hs i x ys H e p) hd
theorem comp_list {K : PySem.W.Frag} {a : Addr} {xs : List V} {ρ : List (Option Nat)} {tt : TT} {te : TE} {σ : St} {H : Hp} {Q : VK} (Pv : Nat → List V → Hp → Prop) (h0 : Pv 0 [] H) (hlen : xs.length ≤ sizeLine) (hl : ∀ i ys H, i ≤ xs.length → Pv i ys H → SqL K H a xs ∧ ys.length ≤ i)
    (hs : ∀ i x ys H, xs[i]? = some x → Pv i ys H → tt (some x :: inSt ρ σ) H fun ok H4 => if ok = true then te (some x :: inSt ρ σ) H4 fun v H5 => Pv (i + 1) (ys ++ [v]) H5 else Pv (i + 1) ys H4)
    (hd : ∀ ys H, Pv xs.length ys H → ∀ p, H p = none → Q (.ref p) (upd H p (.lst ys))) :
    CompW (none :: ρ) (gName 0) tt te σ Q (Itl K a) H :=
  comp_by (n := xs.length) (X := fun i x => xs[i]? = some x) Pv h0 hlen (fun i ys H hi p => (hl i ys H hi p).2) (fun i ys H hi p => ⟨xs, xs[i], (hl i ys H (Nat.le_of_lt hi) p).1, by simp [hi]⟩) (fun i ys H x H' hi p y => ⟨y.1, y.2 xs (hl i ys H (Nat.le_of_lt hi) p).1⟩)
    (fun ys H p => ⟨xs, (hl _ ys H (Nat.le_refl _) p).1, Nat.le_refl _⟩) (fun i x ys H _ e p => hs i x ys H e p) hd
end L2

set_option Elab.async false
set_option linter.all false
set_option maxRecDepth 100000
set_option maxHeartbeats 4000000
namespace L2
open PySem PySem.Spec PyProof.Rows

noncomputable abbrev cds (x : Str) : List Nat := x.cps.toList
theorem cds_len (x : Str) : (cds x).length = x.length := by simp [cds, Str.length]
theorem cds_ext {x y : Str} (h : cds x = cds y) : x = y := StrLaws.mk_of_toList (x := x) h ▸ (StrLaws.mk_of_toList (x := y) rfl).symm
theorem cds_app (x y : Str) : cds (x ++ y) = cds x ++ cds y := by simp [cds, Str.cps_append]
theorem cds_mk (l : List Nat) : cds ⟨l.toArray⟩ = l := by simp [cds]
noncomputable def sOf (l : List Nat) : Str := ⟨l.toArray⟩
theorem cds_sOf (l : List Nat) : cds (sOf l) = l := by simp [cds, sOf]
theorem sOf_cds (x : Str) : sOf (cds x) = x := cds_ext (cds_sOf _)

noncomputable def cutC {α : Type} (xs : List α) (lo hi : Option Int) : List α := (xs.drop (HT.sIx xs.length 0 lo)).take (HT.sIx xs.length xs.length hi - HT.sIx xs.length 0 lo)
theorem clip_str (n : Nat) (i : Int) (k : Nat) : max 0 (min (if i < 0 then i + (n : Int) else i) (n : Int)) = ((HT.sIx n k (some i) : Nat) : Int) := by
  unfold HT.sIx
  dsimp only
  split <;> omega
theorem slice_ix (lo hi : Option Int) (n : Nat) : Builtin.Str.strSliceIndices lo hi 1 n = (List.range (HT.sIx n n hi - HT.sIx n 0 lo)).map (fun k => HT.sIx n 0 lo + k) := by
  have e : Builtin.Str.strSliceIndices lo hi 1 n = sliceRange ((HT.sIx n 0 lo : Nat) : Int) ((HT.sIx n n hi : Nat) : Int) 1 := by
    unfold Builtin.Str.strSliceIndices
    simp only [show ((1 : Int) > 0) = True by simp, if_true]
    congr 1
    · cases lo with
      | none => rfl
      | some i => exact clip_str n i 0
    · cases hi with
      | none => rfl
      | some i => exact clip_str n i n
  rw [e]
  unfold sliceRange
  simp only [show ((1 : Int) > 0) = True by simp, if_true]
  generalize HT.sIx n 0 lo = a
  generalize HT.sIx n n hi = b
  by_cases h : (a : Int) < b
  · rw [if_pos h, show (((b : Int) - a + 1 - 1) / 1).toNat = b - a by simp <;> omega]
    refine List.map_congr_left fun k _ => ?_
    omega
  · rw [if_neg h, show b - a = 0 by omega]
    rfl
theorem cds_slice (x : Str) (lo hi : Option Int) : cds (Txt.slice x lo hi) = cutC (cds x) lo hi := by
  unfold Txt.slice cutC
  have hl := cds_len x
  rw [hl, slice_ix]
  have b1 := HT.sIx_le x.length 0 (Nat.zero_le _) lo
  have b2 := HT.sIx_le x.length x.length (Nat.le_refl _) hi
  generalize HT.sIx x.length 0 lo = a at *
  generalize HT.sIx x.length x.length hi = b at *
  split
  · rename_i h
    have hb : b - a = x.length := by simpa using h
    have ha : a = 0 := by omega
    subst ha
    rw [List.drop_zero, hb, ← hl, List.take_length]
  · by_cases hab : a ≤ b
    · have q := StrLaws.picks (cds x) (b - a) a (by omega)
      have q2 : (List.filterMap (fun x_1 => x.cps[x_1]?) (List.map (fun k => a + k) (List.range (b - a)))) = List.filterMap (fun x_1 => (cds x)[x_1]?) (List.map (fun k => a + k) (List.range (b - a))) := by
        simp [cds]
      rw [cds_mk, q2, q]
    · rw [show b - a = 0 by omega]
      simp [cds]
section
variable {X : Cx}
noncomputable def rSlS : V → Option Int → Option Int → Hp → VK → Prop := fun x lo hi H Q => ∃ z, x = .str z ∧ z.length ≤ sizeLine ∧ Q (.str (sOf (cutC (cds z) lo hi))) H
theorem sl_str : SlR X rSlS := by
  intro pins s σ H x v vl vu lo hi sl Q I rx hs pl pu h
  obtain ⟨z, rfl, hz, q⟩ := h
  obtain ⟨t, rfl⟩ := rx
  rw [← cds_slice, sOf_cds] at q
  refine ⟨"str", _, F.slot_str_getitem.lookup, typeIs_str _ _ _, ?_⟩
  have go : ∀ (l u : Option (Int × Tok)), l.map (·.1) = lo → u.map (·.1) = hi → s.heap.IsSlice sl l u none → wpAny (model X.prog X.w) X.A (getItem (.str z t) (.ref sl)) (EP X pins σ Q) X.xe s := fun l u e1 e2 hS => by
    subst e1 e2
    exact wpAny_getItem_str_slice hS rfl (post_val_or_str ⟨Nat.le_trans (Txt.slice_le z _ _) hz, fun t' k => ⟨.str _, H, I.tok _, ⟨_, rfl⟩, q⟩⟩)
  cases pl with
  | none =>
    cases pu with
    | none => exact go none none rfl rfl hs
    | int j u => exact go none (some (j, u)) rfl rfl hs
  | int i t' =>
    cases pu with
    | none => exact go (some (i, t')) none rfl rfl hs
    | int j u => exact go (some (i, t')) (some (j, u)) rfl rfl hs

end

section
variable {X : Cx}
noncomputable def clsV : V → Option Value
  | .ty n => some (.type n)
  | .ref a => some (.ref a)
  | _ => none
theorem call_isi : CallR X (.builtin "isinstance") (fun xs H Q => ∃ x c t cv b, xs = [x, c] ∧ clsV c = some cv ∧ TyOf X.K H x t ∧ PySem.W.kitOne X.K t cv = some b ∧ Q (.bl b) H) := by
  intro pins s σ H xs us Q I r h
  obtain ⟨x, c, t, cv, b, rfl, rc, ty, e, q⟩ := h
  obtain ⟨u, w', rfl, rx, rw'⟩ := r.two
  have : w' = cv := by
    cases c with
    | ref a => cases rc; exact rw'
    | ty a => cases rc; exact rw'
    | _ => cases rc
  subst this
  exact isinst_ok I rx ty e fun tk => ⟨.bl b, H, I.tok _, rfl, q⟩
end
end L2

set_option Elab.async false
set_option linter.all false
set_option maxRecDepth 100000
set_option maxHeartbeats 4000000
namespace L2
open PySem PySem.Spec PyProof.Rows

noncomputable def compB (sc out : Scope) (N N' : List Str) (ρ : List (Option Nat)) : Bool :=
  decide (sc.kind = .function) && sc.names.all (fun y => decide (y.2 ≠ .cell)) && sc.names.all (fun y => decide (y.2 = .local → sc.names.lookup y.1 = some .local)) &&
  sc.names.all (fun y => decide (y.2 = .free → sc.names.lookup y.1 = some .free ∧ (out.names.lookup y.1 = some .cell ∨ out.names.lookup y.1 = some .free))) &&
  decide (ρ.length = N'.length) && decide N'.Nodup &&
  (ρ.zip N').all (fun p => match p.1 with | none => true | some i => decide (N[i]? = some p.2) && decide (out.names.lookup p.2 = some .local ∨ out.names.lookup p.2 = some .cell ∨ out.names.lookup p.2 = some .free) && sc.names.any (fun y => decide (y = (p.2, NameKind.free))))
structure CompF (sc : Scope) (env : Env) (N N' : List Str) (ρ : List (Option Nat)) : Prop where
  S : CompScope sc env.scope
  sl : SlotOk sc env N N' ρ
  hl : ∀ x, (x, NameKind.free) ∈ sc.names → sc.names.lookup x = some .free
  nd : N'.Nodup
theorem compF_of {sc : Scope} {env : Env} {N N' : List Str} {ρ : List (Option Nat)} (h : compB sc env.scope N N' ρ = true) : CompF sc env N N' ρ := by
  unfold compB at h
  simp only [Bool.and_eq_true, decide_eq_true_eq, List.all_eq_true] at h
  obtain ⟨⟨⟨⟨⟨⟨h1, h2⟩, h3⟩, h4⟩, h5⟩, h6⟩, h7⟩ := h
  refine ⟨⟨h1, h2, h3, fun y hy e => (h4 y hy e).2⟩, ⟨h5, fun j i x e1 e2 => ?_⟩, fun x hx => (h4 _ hx rfl).1, h6⟩
  have hm : (some i, x) ∈ ρ.zip N' := by
    refine List.mem_of_getElem? (i := j) ?_
    rw [List.getElem?_zip_eq_some]
    exact ⟨e1, e2⟩
  have q := h7 _ hm
  simp only [Bool.and_eq_true, decide_eq_true_eq, List.any_eq_true] at q
  obtain ⟨⟨q1, q2⟩, y, hy, e⟩ := q
  exact ⟨q1, q2, e ▸ hy⟩

theorem pe_compB {X : Cx} {elt iter tg : Expr} {ifs : List Expr} {scope : Scope} {pos : Pos} (N' : List Str) (ρ : List (Option Nat)) {wi : TI} {g : TG} {tt : TT} {te : TE} (hc : X.calm = true) (hi : PI X tg iter wi) (h : compB scope X.env.scope X.N N' ρ = true)
    (inner : ∀ (cl : List (Str × Addr)) (C : Addr) (s : Shared) (H : Hp) (fp : List Addr) (pins : List (Addr × Obj)), PG (compCx X scope N' cl C s H fp pins) tg g ∧ PTs (compCx X scope N' cl C s H fp pins) ifs tt ∧ PE (compCx X scope N' cl C s H fp pins) elt te)
    (hs : ∀ x, foldedSetIterable iter X.env x = pure x := by intro _; rfl) : PE X (.ListComp elt [⟨tg, iter, ifs, 0⟩] scope pos) (tComp ρ wi g tt te) :=
  have F := compF_of h
  pe_comp N' ρ hc hi F.S F.sl F.hl inner hs
theorem ps_setcompB {X : Cx} {elt iter tg : Expr} {ifs : List Expr} {scope : Scope} {pos pos' spos : Pos} {i : Nat} {x : Str} (N' : List Str) (ρ : List (Option Nat)) {wi : TI} {g : TG} {tt : TT} {te : TE} (hN : X.N.Nodup) (hix : X.N[i]? = some x) (hx : Loc X.env.scope x)
    (hc : X.calm = true) (hi : PI X tg iter wi) (h : compB scope X.env.scope X.N N' ρ = true)
    (inner : ∀ (cl : List (Str × Addr)) (C : Addr) (s : Shared) (H : Hp) (fp : List Addr) (pins : List (Addr × Obj)), PG (compCx X scope N' cl C s H fp pins) tg g ∧ PTs (compCx X scope N' cl C s H fp pins) ifs tt ∧ PE (compCx X scope N' cl C s H fp pins) elt te)
    (hsw : swapsWith (.ListComp elt [⟨tg, iter, ifs, 0⟩] scope pos) (some (.Name x pos')) spos.line X.env = pure true := by rfl)
    (hs : ∀ x, foldedSetIterable iter X.env x = pure x := by intro _; rfl) (hf : X.fn x = true ∨ X.env.scope.names.lookup x = some .local := by first | exact .inl rfl | exact .inr rfl | assumption) :
    PS X (.Assign [.Name x pos'] (.ListComp elt [⟨tg, iter, ifs, 0⟩] scope pos) spos) (tAsg (tComp ρ wi g tt te) (gName i)) :=
  have F := compF_of h
  ps_setcomp N' ρ hN hix hx hc hi F.S F.sl F.hl inner hsw hs hf

noncomputable def spLaw (K : PySem.W.Frag) : Sp := fun vs H Q _ => ∃ (a : Addr) (ns : List Int), vs = [.ref a] ∧ SqL K H a (ns.map V.int) ∧ ns.length ≤ 63 ∧ Only H ∧ ∀ H', Q (.bl true) H'
theorem law_walk {l : PySem.W.OpenLaw} {q : Program} {loose : List Str} {XP : (Str → Option Value) → Heap → Prop} {YP : World → Heap → Prop} {d : DefRec} {K : Params → PySem.W.Frag} {x : Str} (k : Nat) (hk : k ≤ 200) (hn : l.most = some 63) (hdf : d.params.defaults = [])
    (hY : ∀ (w : World) (h : Heap), YP w h → (K w.params).In h)
    (F : ∀ (w : World) (mg : Str → Option Value) (fa : Addr) (h : Heap), (K w.params).In h → h.Ns mainGlobals mg → mg d.name = some (.ref fa) →
      ∃ fd : FuncData, (∀ (s : Shared) (u : Value), BindsTo s fd ⟨[u], []⟩ [(x, u)]) ∧ ∀ base : Heap, (K w.params).In base → base.Ns mainGlobals mg → FnOk l.prog w (K w.params) mg base CX0 k fa fd [x] (spLaw (K w.params))) :
    PySem.W.WalkO q loose XP YP l.row.toRowW d [] (fun f vs => PySem.call f vs) :=
  L2.walk_of (n := 63) (k := k) (x := x) (CX := fun _ => CX0) (sp := fun w => spLaw (K w.params)) hn (by decide) hdf
    ⟨rfl, by have : callerA.depth + 605 < recursionLimit := by decide
             omega, by have : callerA.units + 3400 < cLine := by decide
                       omega, rfl⟩ hY F (fun _ H a ns hl hO hS => ⟨a, ns, rfl, hS, hl, hO, fun _ => rfl⟩) fun _ _ _ _ _ z => z
end L2
namespace L2
open PySem
noncomputable def mkSc (l : List (Str × NameKind)) : Scope := { kind := .function, names := l, isGenerator := false, isCoroutine := false, more := [] }
end L2

namespace L2
open PySem
theorem bt_len : bootBuiltins "len" = some (.builtin "len") := by decide +kernel
theorem bt_isinstance : bootBuiltins "isinstance" = some (.builtin "isinstance") := by decide +kernel
theorem bt_min : bootBuiltins "min" = some (.builtin "min") := by decide +kernel
theorem bt_max : bootBuiltins "max" = some (.builtin "max") := by decide +kernel
theorem bt_sum : bootBuiltins "sum" = some (.builtin "sum") := by decide +kernel
theorem bt_int : bootBuiltins "int" = some (.type "int") := by decide +kernel
theorem bt_bool : bootBuiltins "bool" = some (.type "bool") := by decide +kernel
theorem bt_list : bootBuiltins "list" = some (.type "list") := by decide +kernel
theorem bt_tuple : bootBuiltins "tuple" = some (.type "tuple") := by decide +kernel
theorem bt_dict : bootBuiltins "dict" = some (.type "dict") := by decide +kernel
end L2

set_option Elab.async false
set_option linter.all false
set_option maxRecDepth 100000
set_option maxHeartbeats 4000000
namespace L2
open PySem PySem.Spec PyProof.Rows

theorem szl {n : Nat} (h : n ≤ 1000000) : n ≤ sizeLine := by rw [sizeLine_eq]; omega
theorem szlt {n : Nat} (h : n < 1000000) : n < sizeLine := by rw [sizeLine_eq]; omega
theorem same_new {H : Hp} {p : Addr} (h : H p = none) (o : HO) : Same H (upd H p o) := fun b u q => by rw [upd_ne (ne_of_none q h)]; exact q
theorem Same.seqT {K : PySem.W.Frag} {H H' : Hp} {a : Addr} {xs : List V} (e : Same H H') (h : SqT K H a xs) : SqT K H' a xs := by
  rcases h with h | h
  · rcases h with h | ⟨o, h⟩
    · exact .inl (.inl (e _ _ h))
    · exact .inl (.inr ⟨o, e _ _ h⟩)
  · exact .inr h
theorem dT {p : Prop} [Decidable p] (h : decide p = true) : p := of_decide_eq_true h
theorem dF {p : Prop} [Decidable p] (h : ¬ decide p = true) : ¬ p := fun z => h (decide_eq_true z)

theorem cell_in {ns : List Int} {k : Int} (h0 : 0 ≤ k) (h : k < (ns.length : Int)) : atI (ns.map V.int) k = some (.int (ns.getD k.toNat 0)) := by
  have hk : k.toNat < ns.length := by omega
  have ek : k = ((k.toNat : Nat) : Int) := by omega
  have q : atI (ns.map V.int) ((k.toNat : Nat) : Int) = some (.int (ns.getD k.toNat 0)) := atI_nat (by rw [List.getElem?_map, List.getElem?_eq_getElem hk]; simp [List.getD_eq_getElem?_getD, hk])
  rw [← ek] at q
  exact q
noncomputable def isInt : V → Bool
  | .int _ => true
  | _ => false
noncomputable def plainV : V → Bool
  | .int _ => true
  | .bl _ => true
  | .non => true
  | .str _ => true
  | _ => false
noncomputable def spWhole : Sp := fun vs H Q _ => ∃ x, vs = [x] ∧ plainV x = true ∧ Q (.bl (isInt x)) H
theorem take_snoc {α : Type} {l : List α} {i : Nat} {c : α} (h : l[i]? = some c) : l.take (i + 1) = l.take i ++ [c] := by
  rw [List.take_succ, h]; rfl
end L2
namespace L2
open PySem
end L2
namespace L2
open PySem
theorem seq_any {t u : TS} {D : Ends} {σ : St} {H : Hp} (M : St → Hp → Prop) (hu : ∀ σ' H', M σ' H' → u D σ' H') (ht : (∀ σ' H', M σ' H' → u D σ' H') → t { D with nx := u D } σ H) : tSeq t u D σ H := ht hu
theorem ndF {p : Prop} [Decidable p] (h : p) : (!decide p) = false := by rw [decide_eq_true h]; rfl
theorem ndT {p : Prop} [Decidable p] (h : ¬ p) : (!decide p) = true := by rw [decide_eq_false h]; rfl
theorem iteE {b : Bool} {A B : Prop} {v : Bool} (e : b = v) (h : if v = true then A else B) : if b = true then A else B := by rw [e]; exact h
end L2
namespace L2
open PySem
theorem len_sOf (l : List Nat) : (sOf l).length = l.length := by rw [← cds_len, cds_sOf]
theorem len_app (x y : Str) : (x ++ y).length = x.length + y.length := Str.length_append x y
end L2

set_option Elab.async false
set_option linter.all false
set_option maxRecDepth 100000
set_option maxHeartbeats 4000000
namespace L2
open PySem PySem.Spec PyProof.Rows

inductive Tr where
  | v (x : V)
  | lst (l : List Tr)
  | tup (l : List Tr)
mutual
inductive TrIs (K : PySem.W.Frag) (H : Hp) : V → Tr → Prop
  | flat {x : V} : flatV x = true → TrIs K H x (.v x)
  | lst {p : Addr} {xs : List V} {l : List Tr} : SqL K H p xs → TrsIs K H xs l → TrIs K H (.ref p) (.lst l)
  | tup {p : Addr} {xs : List V} {l : List Tr} : SqT K H p xs → TrsIs K H xs l → TrIs K H (.ref p) (.tup l)
inductive TrsIs (K : PySem.W.Frag) (H : Hp) : List V → List Tr → Prop
  | nil : TrsIs K H [] []
  | cons {x : V} {t : Tr} {xs : List V} {l : List Tr} : TrIs K H x t → TrsIs K H xs l → TrsIs K H (x :: xs) (t :: l)
end
mutual
noncomputable def eqT : Tr → Tr → Bool
  | .v x, .v y => eqV x y
  | .lst l, .lst m => eqTs l m
  | .tup l, .tup m => eqTs l m
  | _, _ => false
noncomputable def eqTs : List Tr → List Tr → Bool
  | [], [] => true
  | x :: l, y :: m => eqT x y && eqTs l m
  | _, _ => false
end
mutual
noncomputable def simT : Tr → Tr → Bool
  | .v _, .v _ => true
  | .lst l, .lst m => simTs l m
  | .tup l, .tup m => simTs l m
  | _, _ => false
noncomputable def simTs : List Tr → List Tr → Bool
  | x :: l, y :: m => simT x y && simTs l m
  | _, _ => true
end
mutual
noncomputable def depT : Tr → Nat
  | .v _ => 0
  | .lst l => depTs l + 1
  | .tup l => depTs l + 1
noncomputable def depTs : List Tr → Nat
  | [] => 0
  | x :: l => max (depT x) (depTs l)
end
theorem eqV_refl {x : V} (h : flatV x = true) : eqV x x = true := by
  cases x <;> first | rfl | (simp [eqV]; done) | (simp [flatV] at h)
mutual
/-- a tree of flat values -/
noncomputable def okT : Tr → Bool
  | .v x => flatV x
  | .lst l => okTs l
  | .tup l => okTs l
noncomputable def okTs : List Tr → Bool
  | [] => true
  | x :: l => okT x && okTs l
end
mutual
theorem eqT_refl : ∀ t : Tr, okT t = true → eqT t t = true
  | .v x, h => by rw [eqT]; exact eqV_refl (by simpa [okT] using h)
  | .lst l, h => by rw [eqT]; exact eqTs_refl l (by simpa [okT] using h)
  | .tup l, h => by rw [eqT]; exact eqTs_refl l (by simpa [okT] using h)
theorem eqTs_refl : ∀ l : List Tr, okTs l = true → eqTs l l = true
  | [], _ => by rw [eqTs]
  | x :: l, h => by
    rw [okTs, Bool.and_eq_true] at h
    rw [eqTs, eqT_refl x h.1, eqTs_refl l h.2]; rfl
end
mutual
theorem simT_refl : ∀ t : Tr, simT t t = true
  | .v x => by rw [simT]
  | .lst l => by rw [simT]; exact simTs_refl l
  | .tup l => by rw [simT]; exact simTs_refl l
theorem simTs_refl : ∀ l : List Tr, simTs l l = true
  | [] => by simp [simTs]
  | x :: l => by rw [simTs, simT_refl x, simTs_refl l]; rfl
end
mutual
theorem TrIs.ok {K : PySem.W.Frag} {H : Hp} : ∀ {x : V} {t : Tr}, TrIs K H x t → okT t = true
  | _, _, h => by
    cases h with
    | flat h => rw [okT]; exact h
    | lst _ h => rw [okT]; exact h.ok
    | tup _ h => rw [okT]; exact h.ok
theorem TrsIs.ok {K : PySem.W.Frag} {H : Hp} : ∀ {xs : List V} {l : List Tr}, TrsIs K H xs l → okTs l = true
  | _, _, h => by
    cases h with
    | nil => rw [okTs]
    | cons h r => rw [okTs, h.ok, r.ok]; rfl
end
theorem TrsIs.length {K : PySem.W.Frag} {H : Hp} : ∀ {xs : List V} {l : List Tr}, TrsIs K H xs l → xs.length = l.length
  | _, _, h => by
    cases h with
    | nil => rfl
    | cons _ r => simp [r.length]
theorem eqTs_len : ∀ {l m : List Tr}, l.length ≠ m.length → eqTs l m = false
  | [], [], h => absurd rfl h
  | [], _ :: _, _ => by rw [eqTs] <;> simp
  | _ :: _, [], _ => by rw [eqTs] <;> simp
  | x :: l, y :: m, h => by
    rw [eqTs, eqTs_len (l := l) (m := m) (fun e => h (by simp [e])), Bool.and_false]
section
variable {X : Cx} {pins : List (Addr × Obj)} {σ : St} {H : Hp} {s : Shared}
mutual
theorem TrIs.inj (I : Inv X pins σ H s) : ∀ {t t' : Tr} {x : V}, TrIs X.K H x t → TrIs X.K H x t' → t = t'
  | _, _, _, h, h' => by
    cases h with
    | flat h =>
      cases h' with
      | flat _ => rfl
      | lst _ _ => cases h
      | tup _ _ => cases h
    | lst hq hr =>
      cases h' with
      | flat h => cases h
      | lst hq' hr' =>
        have e := I.list_inj hq hq'
        subst e
        rw [TrsIs.inj I hr hr']
      | tup hq' hr' =>
        obtain ⟨_, _, ⟨o, n, e1, c1, _⟩, _⟩ := I.list hq
        obtain ⟨_, _, ⟨o', e2, c2, _⟩, _⟩ := I.tuple hq'
        rw [e1] at e2; cases e2
        rw [c1] at c2; simp at c2
    | tup hq hr =>
      cases h' with
      | flat h => cases h
      | tup hq' hr' =>
        have e := I.tuple_inj hq hq'
        subst e
        rw [TrsIs.inj I hr hr']
      | lst hq' hr' =>
        obtain ⟨_, _, ⟨o, n, e1, c1, _⟩, _⟩ := I.list hq'
        obtain ⟨_, _, ⟨o', e2, c2, _⟩, _⟩ := I.tuple hq
        rw [e1] at e2; cases e2
        rw [c1] at c2; simp at c2
theorem TrsIs.inj (I : Inv X pins σ H s) : ∀ {l l' : List Tr} {xs : List V}, TrsIs X.K H xs l → TrsIs X.K H xs l' → l = l'
  | _, _, _, h, h' => by
    cases h with
    | nil =>
      cases h'
      rfl
    | cons h r =>
      cases h' with
      | cons h2 r2 => rw [TrIs.inj I h h2, TrsIs.inj I r r2]
end
theorem range_all_eq {α : Type} {e : Nat → Bool} {f : α → Bool} : ∀ {l : List α}, (∀ j x, l[j]? = some x → e j = f x) → (List.range l.length).all e = l.all f := by
  intro l h
  rw [Bool.eq_iff_iff]
  simp only [List.all_eq_true, List.mem_range]
  constructor
  · intro q x hx
    obtain ⟨i, hi, hx⟩ := List.mem_iff_getElem.mp hx
    rw [← h i x (by rw [List.getElem?_eq_getElem hi, hx])]
    exact q i hi
  · intro q i hi
    rw [h i l[i] (List.getElem?_eq_getElem hi)]
    exact q _ (List.getElem_mem hi)
theorem eqTs_zip : ∀ {l m : List Tr}, l.length = m.length → eqTs l m = (l.zip m).all fun p => eqT p.1 p.2
  | [], [], _ => by rw [eqTs]; rfl
  | [], _ :: _, h => by simp at h
  | _ :: _, [], h => by simp at h
  | x :: l, y :: m, h => by
    rw [eqTs, eqTs_zip (l := l) (m := m) (by simpa using h)]
    rfl
theorem TrsIs.at {K : PySem.W.Frag} {H : Hp} : ∀ {xs : List V} {l : List Tr} {j : Nat} {t : Tr}, TrsIs K H xs l → l[j]? = some t → ∃ x, xs[j]? = some x ∧ TrIs K H x t
  | _, _, _, _, .nil, h => by simp at h
  | _, _, 0, _, .cons h _, e => by simp at e; subst e; exact ⟨_, rfl, h⟩
  | _, _, j + 1, _, .cons _ r, e => by
    obtain ⟨x, h1, h2⟩ := r.at (j := j) (by simpa using e)
    exact ⟨x, by simpa using h1, h2⟩
theorem simTs_at : ∀ {l m : List Tr} {j : Nat} {t t' : Tr}, simTs l m = true → l[j]? = some t → m[j]? = some t' → simT t t' = true
  | [], _, _, _, _, _, h, _ => by simp at h
  | _ :: _, [], _, _, _, _, _, h => by simp at h
  | x :: l, y :: m, 0, t, t', h, e1, e2 => by
    simp at e1 e2; subst e1 e2
    rw [simTs, Bool.and_eq_true] at h; exact h.1
  | x :: l, y :: m, j + 1, t, t', h, e1, e2 => by
    rw [simTs, Bool.and_eq_true] at h
    exact simTs_at (j := j) h.2 (by simpa using e1) (by simpa using e2)
theorem depTs_at : ∀ {l : List Tr} {j : Nat} {t : Tr}, l[j]? = some t → depT t ≤ depTs l
  | [], _, _, h => by simp at h
  | x :: l, 0, t, h => by simp at h; subst h; rw [depTs]; omega
  | x :: l, j + 1, t, h => by
    have := depTs_at (l := l) (j := j) (t := t) (by simpa using h)
    rw [depTs]; omega
theorem items_eq {A : Around} {l m : List Tr} {xs ys : List V} {its jts : List Value} (hr : TrsIs X.K H xs l) (hr' : TrsIs X.K H ys m) (rv : Vals xs its) (rv' : Vals ys jts)
    (ih : ∀ (j : Nat) (t t' : Tr) (x y : V) (u v : Value), l[j]? = some t → m[j]? = some t' → TrIs X.K H x t → RelV x u → TrIs X.K H y t' → RelV y v → SeqAt.EqAt A.in1 s u v (eqT t t')) :
    ∀ j (h1 : j < its.toArray.size) (h2 : j < jts.toArray.size), SeqAt.EqAt A.in1 s its.toArray[j] jts.toArray[j] (match l[j]?, m[j]? with | some t, some t' => eqT t t' | _, _ => true) := by
  intro j h1 h2
  have l1 := hr.length; have l2 := hr'.length; have l3 := rv.length; have l4 := rv'.length
  rw [List.size_toArray] at h1 h2
  obtain ⟨t, ht⟩ : ∃ t, l[j]? = some t := ⟨l[j]'(by omega), List.getElem?_eq_getElem (by omega)⟩
  obtain ⟨t', ht'⟩ : ∃ t', m[j]? = some t' := ⟨m[j]'(by omega), List.getElem?_eq_getElem (by omega)⟩
  obtain ⟨x, hx, hxt⟩ := hr.at ht
  obtain ⟨y, hy, hyt⟩ := hr'.at ht'
  obtain ⟨u, hu, ru⟩ := rv.get hx
  obtain ⟨v, hv, rw'⟩ := rv'.get hy
  rw [ht, ht']
  have e1 : its.toArray[j] = u := by
    have := List.getElem?_eq_getElem (l := its) (i := j) h1
    rw [hu] at this
    simpa using (Option.some.inj this).symm
  have e2 : jts.toArray[j] = v := by
    have := List.getElem?_eq_getElem (l := jts) (i := j) h2
    rw [hv] at this
    simpa using (Option.some.inj this).symm
  rw [e1, e2]
  exact ih j t t' x y u v ht ht' hxt ru hyt rw'
theorem all_items {l m : List Tr} (h : l.length = m.length) : (List.range l.length).all (fun j => match l[j]?, m[j]? with | some t, some t' => eqT t t' | _, _ => true) = eqTs l m := by
  rw [eqTs_zip h]
  have e : l.length = (l.zip m).length := by rw [List.length_zip]; omega
  rw [e]
  refine range_all_eq fun j p hp => ?_
  obtain ⟨h1, h2⟩ := List.getElem?_zip_eq_some.mp hp
  rw [h1, h2]
theorem RcAt_lists {A : Around} {p q : Addr} {xs ys : List V} {l m : List Tr} (I : Inv X pins σ H s) (hu : A.units < cLine) (hq : SqL X.K H p xs) (hr : TrsIs X.K H xs l) (hq' : SqL X.K H q ys) (hr' : TrsIs X.K H ys m)
    (ih : ∀ (j : Nat) (t t' : Tr) (x y : V) (u v : Value), l[j]? = some t → m[j]? = some t' → TrIs X.K H x t → RelV x u → TrIs X.K H y t' → RelV y v → SeqAt.EqAt A.in1 s u v (eqT t t')) :
    SeqAt.RcAt A s (.ref p) (.ref q) (eqTs l m) ∧ SeqAt.RcNeAt A s (.ref p) (.ref q) (!eqTs l m) := by
  obtain ⟨its, rv, pl, _⟩ := I.list hq
  obtain ⟨jts, rv', pl', _⟩ := I.list hq'
  have l1 := hr.length; have l2 := hr'.length; have l3 := rv.length; have l4 := rv'.length
  by_cases hl : l.length = m.length
  · have e : its.toArray.size = l.length := by rw [List.size_toArray]; omega
    have a := SeqAt.RcAt.lists (A := A) pl.isList pl'.isList (by rw [List.size_toArray, List.size_toArray]; omega) hu (items_eq hr hr' rv rv' ih)
    have b := SeqAt.RcNeAt.lists (A := A) pl.isList pl'.isList (by rw [List.size_toArray, List.size_toArray]; omega) hu (items_eq hr hr' rv rv' ih)
    rw [e, all_items hl] at a b
    exact ⟨a, b⟩
  · rw [eqTs_len hl]
    have hne : (its.toArray.size != jts.toArray.size) = true := by
      rw [List.size_toArray, List.size_toArray]
      simp only [bne_iff_ne, ne_eq]; omega
    exact ⟨SeqAt.RcAt.lists_lengths pl.isList pl'.isList hne hu, SeqAt.RcNeAt.lists_lengths pl.isList pl'.isList hne hu⟩
theorem RcAt_tuples {A : Around} {p q : Addr} {xs ys : List V} {l m : List Tr} (I : Inv X pins σ H s) (hu : A.units < cLine) (hq : SqT X.K H p xs) (hr : TrsIs X.K H xs l) (hq' : SqT X.K H q ys) (hr' : TrsIs X.K H ys m)
    (ih : ∀ (j : Nat) (t t' : Tr) (x y : V) (u v : Value), l[j]? = some t → m[j]? = some t' → TrIs X.K H x t → RelV x u → TrIs X.K H y t' → RelV y v → SeqAt.EqAt A.in1 s u v (eqT t t')) :
    SeqAt.RcAt A s (.ref p) (.ref q) (eqTs l m) ∧ SeqAt.RcNeAt A s (.ref p) (.ref q) (!eqTs l m) := by
  obtain ⟨its, rv, pl, _⟩ := I.tuple hq
  obtain ⟨jts, rv', pl', _⟩ := I.tuple hq'
  have l1 := hr.length; have l2 := hr'.length; have l3 := rv.length; have l4 := rv'.length
  have a := SeqAt.RcAt.tuples (A := A) (show s.heap.IsTuple p its.toArray from pl) (show s.heap.IsTuple q jts.toArray from pl') hu (items_eq hr hr' rv rv' ih)
  have b := SeqAt.RcNeAt.tuples (A := A) (show s.heap.IsTuple p its.toArray from pl) (show s.heap.IsTuple q jts.toArray from pl') hu (items_eq hr hr' rv rv' ih)
  have e : ((List.range (min its.toArray.size jts.toArray.size)).all (fun j => match l[j]?, m[j]? with | some t, some t' => eqT t t' | _, _ => true) && its.toArray.size == jts.toArray.size) = eqTs l m := by
    by_cases hl : l.length = m.length
    · have e1 : min its.toArray.size jts.toArray.size = l.length := by rw [List.size_toArray, List.size_toArray]; omega
      have e2 : (its.toArray.size == jts.toArray.size) = true := by rw [List.size_toArray, List.size_toArray]; simp; omega
      rw [e1, e2, all_items hl, Bool.and_true]
    · have e2 : (its.toArray.size == jts.toArray.size) = false := by rw [List.size_toArray, List.size_toArray]; simp; omega
      rw [e2, eqTs_len hl, Bool.and_false]
  rw [e] at a b
  exact ⟨a, b⟩
theorem eqAt_T (I : Inv X pins σ H s) (n : Nat) : ∀ (A : Around) (t t' : Tr) (x y : V) (u v : Value), depT t ≤ n → A.units + n < cLine → simT t t' = true → TrIs X.K H x t → RelV x u → TrIs X.K H y t' → RelV y v → SeqAt.EqAt A s u v (eqT t t') := by
  induction n with
  | zero =>
    intro A t t' x y u v hd hu hs hx rx hy ry
    cases hx with
    | flat fx =>
      cases hy with
      | flat fy => rw [eqT]; exact eqAt_V rx ry fx fy
      | lst _ _ => simp [simT] at hs
      | tup _ _ => simp [simT] at hs
    | lst _ _ => simp [depT] at hd
    | tup _ _ => simp [depT] at hd
  | succ n ih =>
    intro A t t' x y u v hd hu hs hx rx hy ry
    cases hx with
    | flat fx =>
      cases hy with
      | flat fy => rw [eqT]; exact eqAt_V rx ry fx fy
      | lst _ _ => simp [simT] at hs
      | tup _ _ => simp [simT] at hs
    | @lst p xs l hq hr =>
      cases hy with
      | flat fy => simp [simT] at hs
      | tup _ _ => simp [simT] at hs
      | @lst q ys m hq' hr' =>
        cases rx; cases ry
        rw [depT] at hd
        rw [simT] at hs
        by_cases e : p = q
        · subst e
          have e1 := TrIs.inj I (TrIs.lst hq hr) (TrIs.lst hq' hr')
          rw [← e1, eqT_refl _ (TrIs.lst hq hr).ok]
          exact SeqAt.EqAt.same _
        · rw [eqT]
          refine SeqAt.EqAt.of_refs e (RcAt_lists I (by omega) hq hr hq' hr' fun j t t' x y u v h1 h2 h3 h4 h5 h6 => ?_).1
          exact ih A.in1 t t' x y u v (by have := depTs_at h1; omega) (by show A.units + 1 + n < cLine; omega) (simTs_at hs h1 h2) h3 h4 h5 h6
    | @tup p xs l hq hr =>
      cases hy with
      | flat fy => simp [simT] at hs
      | lst _ _ => simp [simT] at hs
      | @tup q ys m hq' hr' =>
        cases rx; cases ry
        rw [depT] at hd
        rw [simT] at hs
        by_cases e : p = q
        · subst e
          have e1 := TrIs.inj I (TrIs.tup hq hr) (TrIs.tup hq' hr')
          rw [← e1, eqT_refl _ (TrIs.tup hq hr).ok]
          exact SeqAt.EqAt.same _
        · rw [eqT]
          refine SeqAt.EqAt.of_refs e (RcAt_tuples I (by omega) hq hr hq' hr' fun j t t' x y u v h1 h2 h3 h4 h5 h6 => ?_).1
          exact ih A.in1 t t' x y u v (by have := depTs_at h1; omega) (by show A.units + 1 + n < cLine; omega) (simTs_at hs h1 h2) h3 h4 h5 h6
end

section
variable {X : Cx}
noncomputable def rEqX (K : PySem.W.Frag) (neg : Bool) : R2 := fun x y H Q => ∃ t t', TrIs K H x t ∧ TrIs K H y t' ∧ (∃ p, x = .ref p) ∧ (∃ p, y = .ref p) ∧ simT t t' = true ∧ depT t ≤ 60 ∧ Q (.bl (if neg then !eqT t t' else eqT t t')) H
theorem eqX_aux {neg : Bool} (hu : X.A.units + 64 < cLine) : OpR X (compareOp (if neg then .NotEq else .Eq)) (rEqX X.K neg) := by
  intro pins s σ H x y v u Q I rx ry h
  obtain ⟨t, t', hx, hy, ⟨p, rfl⟩, ⟨q, rfl⟩, hs, hd, q'⟩ := h
  cases rx; cases ry
  have done : ∀ l m, SeqAt.RcAt X.A s (.ref p) (.ref q) (eqTs l m) ∧ SeqAt.RcNeAt X.A s (.ref p) (.ref q) (!eqTs l m) → Q (.bl (if neg then !eqTs l m else eqTs l m)) H →
      wpAny (model X.prog X.w) X.A (compareOp (if neg then .NotEq else .Eq) (.ref p) (.ref q)) (EP X pins σ Q) X.xe s := fun l m hb hq => by
    cases neg with
    | false => exact hb.1 X.prog X.w X.xe _ ⟨.bl _, H, I, rfl, hq⟩
    | true => exact hb.2 X.prog X.w X.xe _ ⟨.bl _, H, I, rfl, hq⟩
  cases hx with
  | flat fx => cases fx
  | @lst _ xs l hq hr =>
    cases hy with
    | flat fy => cases fy
    | tup _ _ => simp [simT] at hs
    | @lst _ ys m hq' hr' =>
      rw [depT] at hd
      rw [simT] at hs
      rw [eqT] at q'
      refine done l m (RcAt_lists I (by omega) hq hr hq' hr' fun j t t' x y u v h1 h2 h3 h4 h5 h6 => ?_) q'
      exact eqAt_T I 60 X.A.in1 t t' x y u v (by have := depTs_at h1; omega) (by show X.A.units + 1 + 60 < cLine; omega) (simTs_at hs h1 h2) h3 h4 h5 h6
  | @tup _ xs l hq hr =>
    cases hy with
    | flat fy => cases fy
    | lst _ _ => simp [simT] at hs
    | @tup _ ys m hq' hr' =>
      rw [depT] at hd
      rw [simT] at hs
      rw [eqT] at q'
      refine done l m (RcAt_tuples I (by omega) hq hr hq' hr' fun j t t' x y u v h1 h2 h3 h4 h5 h6 => ?_) q'
      exact eqAt_T I 60 X.A.in1 t t' x y u v (by have := depTs_at h1; omega) (by show X.A.units + 1 + 60 < cLine; omega) (simTs_at hs h1 h2) h3 h4 h5 h6
theorem op_eqS (hu : X.A.units + 64 < cLine) : OpR X (compareOp .Eq) (rEqX X.K false) := eqX_aux (neg := false) hu
theorem op_neS (hu : X.A.units + 64 < cLine) : OpR X (compareOp .NotEq) (rEqX X.K true) := eqX_aux (neg := true) hu
theorem hu64 {A : Around} {k : Nat} (hr : Room k A) : A.units + 64 < cLine := by have := hr.un; omega
end
end L2

set_option Elab.async false
set_option linter.all false
set_option maxRecDepth 100000
set_option maxHeartbeats 4000000
namespace L2
open PySem PySem.Spec PyProof.Rows

section
variable {X : Cx}
end

theorem len_put {k : Key} {v : V} {kvs : List (Key × V)} : (putK kvs k v).length ≤ kvs.length + 1 := by
  unfold putK
  split
  · rw [List.length_map]; omega
  · rw [List.length_append]; simp
end L2

set_option Elab.async false
set_option linter.all false
set_option maxRecDepth 100000
set_option maxHeartbeats 4000000
namespace L2
open PySem PySem.Spec PyProof.Rows

noncomputable abbrev abc : Str := "abcdefghijklmnopqrstuvwxyz"
theorem cds_abc : cds abc = (List.range 26).map (97 + ·) := by decide +kernel
noncomputable def letC (x : Int) : Nat := 97 + (x % 26).toNat
theorem abc_at (x : Int) : atI (cds abc) (x % 26) = some (letC x) := by
  have h0 := Int.emod_nonneg x (show (26 : Int) ≠ 0 by decide)
  have h1 := Int.emod_lt_of_pos x (show (0 : Int) < 26 by decide)
  have e : x % 26 = (((x % 26).toNat : Nat) : Int) := by omega
  rw [e]
  refine atI_nat ?_
  rw [cds_abc, List.getElem?_map, List.getElem?_range (by omega)]
  rfl
theorem abc_len : abc.length ≤ sizeLine := szl (by decide +kernel)
noncomputable def resv : List (List Nat) := [cds "for", cds "end", cds "size"]
theorem in_resv (z : List Nat) : inV (.str (sOf z)) [.str "for", .str "end", .str "size"] = decide (z ∈ resv) := by
  have key : ∀ y : Str, eqV (.str y) (.str (sOf z)) = decide (z = cds y) := fun y => by
    show (y == sOf z) = _
    rw [Bool.eq_iff_iff]
    simp only [beq_iff_eq, decide_eq_true_eq]
    exact ⟨fun e => by rw [e, cds_sOf], fun e => by rw [e, sOf_cds]⟩
  unfold inV resv
  simp only [List.any_cons, List.any_nil, key, Bool.or_false]
  rw [Bool.eq_iff_iff]
  simp
theorem cut_to {α : Type} (l : List α) {k : Int} (h : 0 ≤ k) : cutC l none (some k) = l.take k.toNat := by
  unfold cutC
  have e : k = ((k.toNat : Nat) : Int) := by omega
  rw [HT.sIx_none, e, HT.sIx_nat, List.drop_zero, Nat.sub_zero]
  rw [show (((k.toNat : Nat) : Int)).toNat = k.toNat by omega]
  by_cases h : k.toNat ≤ l.length
  · rw [Nat.min_eq_left h]
  · rw [Nat.min_eq_right (by omega), List.take_of_length_le (by omega), List.take_of_length_le (by omega)]
theorem cut_from {α : Type} (l : List α) {i : Int} (hi : 0 ≤ i) : cutC l (some i) none = l.drop i.toNat := by
  unfold cutC
  have e1 : i = ((i.toNat : Nat) : Int) := by omega
  rw [e1, HT.sIx_nat, HT.sIx_none, show (((i.toNat : Nat) : Int)).toNat = i.toNat by omega]
  by_cases h : i.toNat ≤ l.length
  · rw [Nat.min_eq_left h, List.take_of_length_le (by rw [List.length_drop]; omega)]
  · rw [Nat.min_eq_right (by omega), Nat.sub_self, List.take_zero, List.drop_eq_nil_of_le (by omega)]
end L2
namespace L2
open PySem
end L2
namespace L2
open PySem
end L2
namespace L2
open PySem
end L2

set_option Elab.async false
set_option linter.all false
set_option maxRecDepth 100000
set_option maxHeartbeats 4000000
namespace L2
open PySem PySem.Spec PyProof.Rows

end L2

set_option Elab.async false
set_option linter.all false
set_option maxRecDepth 100000
set_option maxHeartbeats 4000000
namespace L2
open PySem PySem.Spec PyProof.Rows
noncomputable def spDInit (C : Addr) : Sp := fun vs H Q _ => ∃ (x dx : Addr) (v1 v2 v3 v4 v5 v6 v7 : V), vs = [.ref x, v1, v2, v3, v4, v5, v6, v7] ∧ H x = some (.ins C dx []) ∧ ∀ H', (∀ b o, H b = some o → b ≠ x → H' b = some o) → (∃ dx, H' x = some (.ins C dx [("names", v1), ("lows", v2), ("highs", v3), ("table", v4), ("spots", v5), ("term", v6), ("path", v7)])) → Q .non H'
theorem atI_neg {α : Type} (l : List α) (x : α) (m : List α) {n : Int} (hn : n = -((m.length : Int) + 1)) : atI (l ++ x :: m) n = some x := by
  unfold atI ixN
  have hl : (l ++ x :: m).length = l.length + (m.length + 1) := by rw [List.length_append]; rfl
  rw [hl, if_neg (by omega), if_pos (by omega)]
  show (l ++ x :: m)[(n + ((l.length + (m.length + 1) : Nat) : Int)).toNat]? = some x
  rw [show (n + ((l.length + (m.length + 1) : Nat) : Int)).toNat = l.length by omega, List.getElem?_append_right (Nat.le_refl _), Nat.sub_self]
  rfl
theorem cutV_neg (l m : List V) (hm : 0 < m.length) {n : Int} (hn : n = -(m.length : Int)) : cutV (l ++ m) none (some n) = l := by
  unfold cutV
  have hl : (l ++ m).length = l.length + m.length := List.length_append
  have e1 : HT.sIx (l ++ m).length 0 none = 0 := rfl
  have e2 : HT.sIx (l ++ m).length (l ++ m).length (some n) = l.length := by
    show (if n < 0 then (n + ((l ++ m).length : Int)).toNat else min n.toNat (l ++ m).length) = l.length
    rw [hl, if_pos (by omega)]
    omega
  rw [e1, e2, List.drop_zero, Nat.sub_zero, List.take_left']
  rfl
theorem if_any {tt : TT} {ta tb : TS} {D : Ends} {σ : St} {H : Hp} (M : Hp → Prop) (hb : ∀ H', M H' → tb D σ H') (h : (∀ H', M H' → tb D σ H') → tIfS tt ta tb D σ H) : tIfS tt ta tb D σ H := h hb
theorem snoc_of {α : Type} {l : List α} {n : Nat} (h : l.length = n + 1) : ∃ p x, l = p ++ [x] ∧ p.length = n := by
  have hne : l ≠ [] := fun e => by rw [e] at h; cases h
  exact ⟨l.dropLast, l.getLast hne, (List.dropLast_concat_getLast hne).symm, by rw [List.length_dropLast]; omega⟩
theorem made_same {H H2 : Hp} {x dx C : Addr} (hx : H x = none) (hdx : H dx = none) (k : ∀ b o, (upd (upd H dx (.own x)) x (.ins C dx [])) b = some o → b ≠ x → H2 b = some o) : Same H H2 := fun b o e => by
  have n1 := ne_of_none e hx
  have n2 := ne_of_none e hdx
  exact k b o (by rw [upd_ne n1, upd_ne n2]; exact e) n1
end L2

set_option Elab.async false
set_option linter.all false
set_option maxRecDepth 100000
set_option maxHeartbeats 4000000
namespace L2
open PySem PySem.Spec PyProof.Rows
section
variable {X : Cx} {pins : List (Addr × Obj)} {σ : St} {H : Hp} {s : Shared} {h' : Heap}
theorem Inv.turnedL {t' : Nat} {ch : List Addr} (I : Inv X pins σ H s) (k : ∀ b o, b ∉ ch → s.heap.get? b = some o → h'.get? b = some o) (hf : ∀ b ∈ ch, FpOk X pins H b) : Inv X pins σ H { s with heap := h', toks := t' } := by
  have nit : ∀ b u, H b = some u → b ∉ ch := fun b u e z => by rw [(hf b z).1] at e; cases e
  have hL : X.env.locals ∉ ch := fun z => (hf _ z).2.1 rfl
  refine I.step (g' := s.gens) (d' := s.drawn) (ch := ch) (fun b hb => ?_) (fun b o _ _ hc e _ => k b o hc e) (fun b o _ _ hc e _ => ⟨o.slots, k b o hc e⟩) (fun _ _ _ _ n => n)
    (fun b o hc e => ⟨o, k b o hc e⟩) (fun _ _ e => e) (fun _ _ _ e => e) (fun b ps e => ⟨#[], by rw [e]; simp⟩) (fun m hm => ?_) (fun b u e => ?_) I.bare
  · obtain ⟨f0, f1, f2, f3, f4, f5⟩ := hf b hb
    exact ⟨f3, f1, f4, f5⟩
  · obtain ⟨o, es, ep, ho, r⟩ := hm
    exact ⟨o, es, ep, k _ o hL ho, r⟩
  · refine (I.hok b u e).stay (fun c v hc q => k c v ?_ q) (fun _ q => q) fun _ _ q => q
    rcases hc with z | z
    · rw [z]; exact nit b u e
    · exact nit c _ z
end
noncomputable def Itz (K : PySem.W.Frag) (a b : Addr) : It :=
  ⟨fun i H => ∃ xs ys x y, SqL K H a xs ∧ SqL K H b ys ∧ xs[i]? = some x ∧ ys[i]? = some y, fun i H v H' => ∃ x y T, (∀ xs, SqL K H a xs → xs[i]? = some x) ∧ (∀ ys, SqL K H b ys → ys[i]? = some y) ∧ H T = none ∧ v = .ref T ∧ H' = upd H T (.tup [x, y]),
    fun i H => ∃ xs ys, SqL K H a xs ∧ SqL K H b ys ∧ (xs.length ≤ i ∨ ys.length ≤ i)⟩
theorem turn_zip {P : Program} {w : World} {K : PySem.W.Frag} {elts : List Expr} {x1 : Nat} {pos : Pos} (a b z TI TO i1 i2 : Addr) (D : ZipApart z TI TO i1 i2 a b) :
    Turn P w K (.Tuple elts x1 pos) (Itz K a b) [z, TI, TO, i1, i2] z (fun i h => IsZip h z TI TO .none ∧ IsPair h TI (.ref i1) (.ref i2) ∧ (∃ p q, IsPair h TO p q) ∧ h.IsListIter i1 a i ∧ h.IsListIter i2 b i) where
  mem := by simp
  obj := fun i h st c hc => by
    obtain ⟨hz, hTI, ⟨p, q, hTO⟩, h1, h2⟩ := st
    simp only [List.mem_cons, List.not_mem_nil, or_false] at hc
    rcases hc with rfl | rfl | rfl | rfl | rfl
    · exact ⟨_, hz, fun v z => by cases z⟩
    · exact ⟨_, hTI, fun v z => by cases z⟩
    · exact ⟨_, hTO, fun v z => by cases z⟩
    · obtain ⟨o, e, c, d⟩ := h1
      exact ⟨o, e, fun v z => by rw [d] at z; cases z⟩
    · obtain ⟨o, e, c, d⟩ := h2
      exact ⟨o, e, fun v z => by rw [d] at z; cases z⟩
  keep := fun i h h' st k => by
    obtain ⟨hz, hTI, ⟨p, q, hTO⟩, h1, h2⟩ := st
    exact ⟨k z (by simp) _ hz, k TI (by simp) _ hTI, ⟨p, q, k TO (by simp) _ hTO⟩, h1.at fun o e => k i1 (by simp) o e, h2.at fun o e => k i2 (by simp) o e⟩
  item := by
    intro X hP hw hK hc i pins s σ H E I hf st hg
    subst hP hw hK
    obtain ⟨xs, ys, x, y, hq1, hq2, hx, hy⟩ := hg
    obtain ⟨its1, rv1, p1, _⟩ := I.list hq1
    obtain ⟨its2, rv2, p2, _⟩ := I.list hq2
    obtain ⟨u, hu, ru⟩ := rv1.get hx
    obtain ⟨v, hv, rv⟩ := rv2.get hy
    obtain ⟨hz, hTI, ⟨pa, qa, hTO⟩, h1, h2⟩ := st
    refine wpAny_pyNext_zip_item D hz hTI hTO h1 h2 p1.isList p2.isList (x := u) (y := v) (by simpa using hu) (by simpa using hv) fun hh hz' hTO' h1' h2' hT hsz hk => ⟨_, rfl, ?_⟩
    refine wpAny_letOwnedTupleGo_zip hz' fun h3 hz3 hs3 => ?_
    have hTn : H s.heap.objs.size = none := I.hok.fresh (Nat.le_refl _)
    have lts : ∀ c ∈ [z, TI, TO, i1, i2], c < s.heap.objs.size := fun c hc => by
      simp only [List.mem_cons, List.not_mem_nil, or_false] at hc
      rcases hc with rfl | rfl | rfl | rfl | rfl
      · exact Heap.lt_size hz
      · exact Heap.lt_size hTI
      · exact Heap.lt_size hTO
      · obtain ⟨_, e, _⟩ := h1; exact Heap.lt_size e
      · obtain ⟨_, e, _⟩ := h2; exact Heap.lt_size e
    have I1 : Inv X pins σ (upd H s.heap.objs.size (.tup [x, y])) { s with heap := s.heap.push { cls := .type "tuple", data := .seq #[u, v] } } := I.laid (t' := s.toks) (o := .tup [x, y]) (fun b o e => Heap.get?_push_of_some _ e) (Nat.le_refl _) ⟨szl (by show 2 ≤ 1000000; decide), [u, v], .cons ru (.cons rv .nil), IsTupN.new _ _⟩
    have I2 : Inv X pins σ (upd H s.heap.objs.size (.tup [x, y])) { s with heap := h3 } := by
      refine Inv.turnedL (s := { s with heap := s.heap.push { cls := .type "tuple", data := .seq #[u, v] } }) (h' := h3) (ch := [z, TI, TO, i1, i2]) (t' := s.toks) I1 (fun b o hb q => ?_) (fun b hb => ?_)
      · simp only [List.mem_cons, List.not_mem_nil, or_false, not_or] at hb
        obtain ⟨n1, n2, n3, n4, n5⟩ := hb
        show h3.get? b = some o
        rw [hs3.2 b n1]
        rcases Heap.get?_push_cases q with ⟨rfl, rfl⟩ | q
        · exact hT
        · exact hk b o n1 n3 n4 n5 q
      · obtain ⟨f0, f1, f2, f3, f4, f5⟩ := hf b hb
        exact ⟨by rw [upd_ne (Nat.ne_of_lt (lts b hb))]; exact f0, f1, f2, f3, f4, f5⟩
    have k3 : ∀ c, c ≠ z → ∀ o, hh.get? c = some o → h3.get? c = some o := fun c hc o e => (hs3.2 c hc).trans e
    refine ⟨.ref s.heap.objs.size, _, I2, rfl, ⟨x, y, _, fun zs hy => by rw [I.list_inj hy hq1]; exact hx, fun zs hy' => by rw [I.list_inj hy' hq2]; exact hy, hTn, rfl, rfl⟩, ⟨hz3, k3 TI D.TIz _ (hk TI _ D.TIz D.TITO D.TIi1 D.TIi2 hTI), ⟨u, v, k3 TO D.TOz _ hTO'⟩, h1'.at (k3 i1 D.i1z), h2'.at (k3 i2 D.i2z)⟩, fun b hb => ?_⟩
    rw [upd_ne (Nat.ne_of_lt (lts b hb))]
    exact (hf b hb).1
  done := by
    intro X hP hw hK hc i pins s σ H E I hf st hg
    subst hP hw hK
    obtain ⟨xs, ys, hq1, hq2, hl⟩ := hg
    obtain ⟨its1, rv1, p1, _⟩ := I.list hq1
    obtain ⟨its2, rv2, p2, _⟩ := I.list hq2
    obtain ⟨hz, hTI, ⟨pa, qa, hTO⟩, h1, h2⟩ := st
    have hl1 := rv1.length
    have hl2 := rv2.length
    refine wpAny_pyNext_zip_end (I.ok.hd hc) D hz hTI hTO h1 h2 p1.isList p2.isList (hl.imp (fun z => by simp; omega) (fun z => by simp; omega)) fun h' hk => ⟨rfl, ?_⟩
    refine I.turnedL (ch := [z, TI, TO, i1, i2]) (t' := s.toks) (fun b o hb q => ?_) hf
    simp only [List.mem_cons, List.not_mem_nil, or_false, not_or] at hb
    obtain ⟨n1, n2, n3, n4, n5⟩ := hb
    exact hk b o n1 n3 n4 n5 q
  self := fun _ _ _ _ _ st h => by
    obtain ⟨hz, _⟩ := st
    exact wpAny_pyIter_zip hz h
noncomputable def iZip (K : PySem.W.Frag) (ta : TA) : TI := fun σ H R => ta σ H fun vs H1 => ∃ a b : Addr, vs = [.ref a, .ref b] ∧ (∃ xs, SqL K H1 a xs) ∧ (∃ ys, SqL K H1 b ys) ∧ R (Itz K a b) H1
theorem pi_zip2 {X : Cx} {a b : Expr} {ta : TA} {p pos : Pos} {elts : List Expr} {x1 : Nat} {pos2 : Pos} (hg : Gl X "zip") (hm : X.mg "zip" = none) (ha : PA X [a, b] ta) (hs : starEach [a, b] X.env = [(false, eval a X.env), (false, eval b X.env)] := by rfl) (hs2 : starEach [b] X.env = [(false, eval b X.env)] := by rfl) :
    PI X (.Tuple elts x1 pos2) (.Call (.Name "zip" p) [a, b] [] pos) (iZip X.K ta) := by
  intro pins s σ H R I h
  refine Call_ (ld_blt I hg hm boot_zip (PyProof.Rows.callWith_type1 (thn (ha pos pins s σ H _ I h) fun us s1 ⟨vs, H1, I1, r1, q1⟩ => ?_) (by rw [hs, hs2]) (by rw [hs2]; rfl)))
  obtain ⟨l1, l2, rfl, ⟨xs, hq1⟩, ⟨ys, hq2⟩, q⟩ := q1
  cases r1 with
  | cons r rr =>
    cases rr with
    | cons r' rr =>
      cases rr
      cases r
      cases r'
      obtain ⟨its1, rv1, p1, _⟩ := I1.list hq1
      obtain ⟨its2, rv2, p2, _⟩ := I1.list hq2
      have lt1 : l1 < s1.heap.objs.size := by obtain ⟨_, e, _⟩ := p1.isList; exact Heap.lt_size e
      have lt2 : l2 < s1.heap.objs.size := by obtain ⟨_, e, _⟩ := p2.isList; exact Heap.lt_size e
      refine call_zip_2 p1.isList p2.isList fun h' hz hTI hTO h1 h2 hsz hk => ?_
      refine wpAny_pyIter_zip hz ?_
      have ne : ∀ {m n : Nat}, m < n → (m : Nat) ≠ n := fun h => Nat.ne_of_lt h
      refine ⟨_, [s1.heap.objs.size + 4, s1.heap.objs.size + 2, s1.heap.objs.size + 3, s1.heap.objs.size, s1.heap.objs.size + 1], _, _, H1, rfl, I1.kept (t' := s1.toks) hk, turn_zip l1 l2 _ _ _ _ _ ⟨?_, ?_, ?_, ?_, ?_, ?_, ?_, ?_, ?_, ?_, ?_, ?_, ?_, ?_, ?_, ?_, ?_, ?_⟩, ⟨hz, hTI, ⟨_, _, hTO⟩, h1, h2⟩, fun b hb => ?_, q⟩
      case refine_19 =>
        simp only [List.mem_cons, List.not_mem_nil, or_false] at hb
        have hb' : s1.heap.objs.size ≤ b := by
          rcases hb with rfl | rfl | rfl | rfl | rfl
          · exact Nat.le_add_right _ 4
          · exact Nat.le_add_right _ 2
          · exact Nat.le_add_right _ 3
          · exact Nat.le_refl _
          · exact Nat.le_add_right _ 1
        exact I1.fpOk hb' (I1.hok.fresh hb')
      all_goals first
        | exact Nat.ne_of_lt lt1
        | exact Nat.ne_of_lt lt2
        | exact Nat.ne_of_lt (Nat.lt_of_lt_of_le lt1 (Nat.le_add_right _ _))
        | exact Nat.ne_of_lt (Nat.lt_of_lt_of_le lt2 (Nat.le_add_right _ _))
        | (show (_ : Nat) ≠ _; omega)
theorem for_zip {K : PySem.W.Frag} {a b : Addr} {xs ys : List V} {g : TG} {tb : TS} {D : Ends} {σ : St} {H : Hp} (hlen : xs.length = ys.length) (Pv : Nat → St → Hp → Prop) (h0 : Pv 0 σ H) (hl : ∀ i σ H, i ≤ xs.length → Pv i σ H → SqL K H a xs ∧ SqL K H b ys)
    (hs : ∀ i x y T σ H, xs[i]? = some x → ys[i]? = some y → Pv i σ H → H T = none → g (.ref T) σ (upd H T (.tup [x, y])) fun σ2 H2 => tb { D with nx := Pv (i + 1), ct := Pv (i + 1), bk := D.nx } σ2 H2) (hd : ∀ σ H, Pv xs.length σ H → D.nx σ H) :
    ∃ W : Nat → Nat → St → Hp → Prop, (∃ m, W 0 m σ H) ∧ ∀ i m σ H, W i m σ H →
      ((Itz K a b).stop i H ∧ D.nx σ H) ∨ ((Itz K a b).go i H ∧ ∃ N : St → Hp → Prop, (∀ σ' H', N σ' H' → ∃ m', m' < m ∧ W (i + 1) m' σ' H') ∧ ∀ x H', (Itz K a b).yld i H x H' → g x σ H' fun σ2 H2 => tb { D with nx := N, ct := N, bk := D.nx } σ2 H2) := by
  refine ⟨fun i m σ H => m = xs.length - i ∧ i ≤ xs.length ∧ Pv i σ H, ⟨xs.length, by simp, Nat.zero_le _, h0⟩, ?_⟩
  rintro i m σ H ⟨rfl, hi, p⟩
  obtain ⟨q1, q2⟩ := hl i σ H hi p
  by_cases hlt : i < xs.length
  · refine .inr ⟨⟨xs, ys, xs[i], ys[i], q1, q2, List.getElem?_eq_getElem hlt, List.getElem?_eq_getElem (by omega)⟩, Pv (i + 1), fun σ' H' p' => ⟨xs.length - (i + 1), by omega, rfl, hlt, p'⟩, fun v H' yy => ?_⟩
    obtain ⟨x, y, T, hx, hy, hT, rfl, rfl⟩ := yy
    exact hs i x y T σ H (hx xs q1) (hy ys q2) p hT
  · have e : i = xs.length := by omega
    subst e
    exact .inl ⟨⟨xs, ys, q1, q2, .inl (Nat.le_refl _)⟩, hd σ H p⟩
end L2

set_option Elab.async false
set_option linter.all false
set_option maxRecDepth 100000
set_option maxHeartbeats 4000000
namespace Bd
end Bd
namespace L2
open PySem PySem.Spec PyProof.Rows Bd
section
variable {es : List Expr} {env : Env} {p : Pos}
theorem star_C {c : Const} {n : Nat} : starEach (.Constant c n p :: es) env = (false, eval (.Constant c n p) env) :: starEach es env := rfl
theorem star_N {x : Str} : starEach (.Name x p :: es) env = (false, eval (.Name x p) env) :: starEach es env := rfl
theorem star_B {a b : Expr} {o : Operator} : starEach (.BinOp a o b p :: es) env = (false, eval (.BinOp a o b p) env) :: starEach es env := rfl
theorem star_K {f : Expr} {as : List Expr} {ks : List Keyword} : starEach (.Call f as ks p :: es) env = (false, eval (.Call f as ks p) env) :: starEach es env := rfl
theorem star_S {a b : Expr} : starEach (.Subscript a b p :: es) env = (false, eval (.Subscript a b p) env) :: starEach es env := rfl
theorem star_T {as : List Expr} {n : Nat} : starEach (.Tuple as n p :: es) env = (false, eval (.Tuple as n p) env) :: starEach es env := rfl
theorem star_U {o : UnaryOp} {a : Expr} : starEach (.UnaryOp o a p :: es) env = (false, eval (.UnaryOp o a p) env) :: starEach es env := rfl
end
@[irreducible] def PAq (X : Cx) (es : List Expr) (t : TA) : Prop := PA X es t
section
variable {X : Cx} {e : Expr} {es : List Expr} {te : TE} {t : TA} {pos : Pos}
theorem paq_nil : PAq X [] tNil := by unfold PAq; exact pa_nil
theorem paq_cons (ha : PE X e te) (hr : PAq X es t) (hs : starEach (e :: es) X.env = (false, eval e X.env) :: starEach es X.env) : PAq X (e :: es) (tCons te t) := by unfold PAq at *; exact pa_cons ha hr hs
theorem pe_lstq (h : PAq X es t) : PE X (.List es pos) (tLst t) := by unfold PAq at h; exact pe_lst h
theorem pe_tupq {x1 : Nat} (h : PAq X es t) : PE X (.Tuple es x1 pos) (tTup t) := by unfold PAq at h; exact pe_tup h
end
theorem pickI {L : List Int} {i : Int} (h0 : 0 ≤ i) (h1 : i < (L.length : Int)) : ∃ z ∈ L, atI (L.map V.int) i = some (.int z) := by
  have e : L[i.toNat]? = some L[i.toNat] := List.getElem?_eq_getElem (by omega)
  refine ⟨L[i.toNat], List.getElem_mem _, ?_⟩
  have h : atI (L.map V.int) ((i.toNat : Nat) : Int) = some (.int L[i.toNat]) := atI_nat (by rw [List.getElem?_map, e]; rfl)
  rwa [Int.toNat_of_nonneg h0] at h
theorem pickN {L : List Int} {i : Int} (n : Nat) (hn : L.length = n) (h0 : 0 ≤ i) (h1 : i < (n : Int)) : ∃ z ∈ L, atI (L.map V.int) i = some (.int z) := pickI h0 (by rw [hn]; exact h1)
theorem while_ix {c : TT} {tb : TS} {D : Ends} {σ : St} {H : Hp} (k : Nat) (Pv : Nat → St → Hp → Prop) (h0 : Pv 0 σ H)
    (hs : ∀ i σ H, i ≤ k → Pv i σ H → c σ H fun b H1 => if b = true then i < k ∧ tb { D with nx := Pv (i + 1), ct := Pv (i + 1), bk := D.nx } σ H1 else D.nx σ H1)
    (mono : ∀ σ H Q Q', (∀ b H1, Q b H1 → Q' b H1) → c σ H Q → c σ H Q') : tWhile c tb D σ H := by
  refine ⟨fun m σ H => ∃ i, i ≤ k ∧ m = k - i ∧ Pv i σ H, ⟨_, 0, Nat.zero_le _, rfl, h0⟩, ?_⟩
  rintro m σ H ⟨i, hi, rfl, p⟩
  refine mono σ H _ _ (fun b H1 q => ?_) (hs i σ H hi p)
  cases b with
  | true => exact ⟨Pv (i + 1), fun σ' H' p' => ⟨k - (i + 1), by have := q.1; omega, i + 1, by have := q.1; omega, rfl, p'⟩, q.2⟩
  | false => exact q
noncomputable def spCellA (K : PySem.W.Frag) : Sp := fun vs H Q _ => ∃ (p : Addr) (ns : List Int) (k : Int), vs = [.ref p, .int k] ∧ SqL K H p (ns.map V.int) ∧ 0 ≤ k ∧ k ≤ 1000000 ∧ ∀ i : Int, Q (.int i) H
end L2

set_option Elab.async false
set_option linter.all false
set_option maxRecDepth 100000
set_option maxHeartbeats 4000000
namespace Bd
end Bd
namespace L2
open PySem PySem.Spec PyProof.Rows Bd
theorem ints_of : ∀ {ns : List Int} {its : List Value}, Vals (ns.map V.int) its → IntsAre its ns
  | [], _, .nil => .nil
  | n :: ns, _, .cons ⟨t, h⟩ r => by subst h; exact .cons n t (ints_of r)
theorem call_sumI {X : Cx} (hc : X.calm = true) : CallR X (.builtin "sum") (fun xs H Q => ∃ (p : Addr) (ns : List Int), xs = [.ref p] ∧ SqL X.K H p (ns.map V.int) ∧ Q (.int ns.sum) H) := by
  intro pins s σ H xs us Q I r h
  obtain ⟨p, ns, rfl, hq, q⟩ := h
  obtain ⟨u, rfl, ru⟩ := vals1 r
  cases ru
  obtain ⟨its, rv, pl, hz⟩ := I.list hq
  have hi := ints_of rv
  obtain ⟨xs, ex⟩ := hi.allInts.items
  have hn : xs.toList.map (·.1) = ns := by rw [← nums_intItems, ← ex]; exact hi.numsOf
  have hl := pl.isList
  rw [ex] at hl
  refine sum_intListG (I.ok.hd hc) hl fun h' tk t' hk => ?_
  rw [preSum_eq, List.take_of_length_le (by simp), hn]
  exact ⟨.int ns.sum, H, I.kept (t' := tk) hk, ⟨_, rfl⟩, q⟩
end L2

set_option Elab.async false
set_option linter.all false
set_option maxRecDepth 100000
set_option maxHeartbeats 4000000
namespace L2
open PySem PySem.Spec PyProof.Rows
open Bd
noncomputable def mixF (c k : Int) : Int := ((c + 7919 * k + 1) * 48271 % 2147483647) * ((c + 7919 * k + 1) * 48271 % 2147483647) % 2147483629
theorem mix_b (c k : Int) : 0 ≤ mixF c k ∧ mixF c k < 2147483629 := ⟨Int.emod_nonneg _ (by decide), Int.emod_lt_of_pos _ (by decide)⟩
noncomputable def spMix2 : Sp := fun vs H Q _ => ∃ (c k : Int), vs = [.int c, .int k] ∧ Q (.int (mixF c k)) H
noncomputable def nmW (m : Int) (n : Nat) : List Nat := (List.range n).map fun k : Nat => letC (m / ((k : Int) + 9))
theorem nmW_len (m : Int) (n : Nat) : (nmW m n).length = n := by unfold nmW; rw [List.length_map, List.length_range]
noncomputable def nmL (m : Int) : Nat := (m % 8).toNat
theorem nmL_b (m : Int) : nmL m ≤ 7 := by
  have := Int.emod_nonneg m (show (8 : Int) ≠ 0 by decide)
  have := Int.emod_lt_of_pos m (show (0 : Int) < 8 by decide)
  unfold nmL; omega
noncomputable def nmAt (m : Int) : Nat := (m / 8 % ((nmL m : Int) + 1)).toNat
theorem nmAt_b (m : Int) : nmAt m ≤ nmL m ∧ ((nmAt m : Nat) : Int) = m / 8 % ((nmL m : Int) + 1) := by
  have := Int.emod_nonneg (m / 8) (show ((nmL m : Int) + 1) ≠ 0 by omega)
  have := Int.emod_lt_of_pos (m / 8) (show (0 : Int) < (nmL m : Int) + 1 by omega)
  unfold nmAt; omega
noncomputable def nmA (m e : Int) : List Nat := (nmW m (nmL m)).take (nmAt m) ++ [letC (m / 72 + 5 * e)] ++ (nmW m (nmL m)).drop (nmAt m)
noncomputable def nmB (m e : Int) : List Nat := (nmW m (nmL m) ++ cds "qrstuvwx").take (5 + e).toNat
noncomputable def nmR (m e : Int) : List Nat := if m / 5003 % 4 = 1 then nmB m e else nmA m e
noncomputable def nmC (m e : Int) : List Nat := if nmR m e ∈ resv then nmR m e ++ [115] else nmR m e
theorem nmA_len (m e : Int) : (nmA m e).length = nmL m + 1 := by
  unfold nmA
  have := (nmAt_b m).1
  rw [List.length_append, List.length_append, List.length_take, List.length_drop, nmW_len, List.length_singleton]
  omega
theorem q8 : (cds "qrstuvwx").length = 8 := by decide +kernel
theorem nmB_len {m e : Int} (h0 : 0 ≤ e) (h1 : e ≤ 2) : (nmB m e).length = (5 + e).toNat := by
  unfold nmB
  have := nmL_b m
  rw [List.length_take, List.length_append, nmW_len, q8]
  omega
theorem nmA_at (m e : Int) : (nmA m e)[nmAt m]? = some (letC (m / 72 + 5 * e)) := by
  unfold nmA
  have := (nmAt_b m).1
  rw [List.append_assoc, List.getElem?_append_right (by rw [List.length_take, nmW_len]; omega), List.length_take, nmW_len, show nmAt m - min (nmAt m) (nmL m) = 0 by omega]
  rfl
theorem nmR_ne {m i j : Int} (i0 : 0 ≤ i) (i1 : i ≤ 2) (j0 : 0 ≤ j) (j1 : j ≤ 2) (h : i ≠ j) : nmR m i ≠ nmR m j := fun e => by
  unfold nmR at e
  by_cases c : m / 5003 % 4 = 1
  · rw [if_pos c, if_pos c] at e
    have := congrArg List.length e
    rw [nmB_len i0 i1, nmB_len j0 j1] at this
    omega
  · rw [if_neg c, if_neg c] at e
    have := congrArg (fun l : List Nat => l[nmAt m]?) e
    simp only [nmA_at] at this
    have := Option.some.inj this
    unfold letC at this
    omega
theorem nmR_len {m i j : Int} (i0 : 0 ≤ i) (i1 : i ≤ 2) (hi : nmR m i ∈ resv) : (nmR m i).length = (nmR m j).length := by
  have h4 : ∀ l ∈ resv, l.length ≤ 4 := by decide +kernel
  unfold nmR at hi ⊢
  by_cases c : m / 5003 % 4 = 1
  · rw [if_pos c] at hi
    have := h4 _ hi
    rw [nmB_len i0 i1] at this
    omega
  · rw [if_neg c, if_neg c, nmA_len, nmA_len]
theorem nmC_ne {m i j : Int} (i0 : 0 ≤ i) (i1 : i ≤ 2) (j0 : 0 ≤ j) (j1 : j ≤ 2) (h : i ≠ j) : nmC m i ≠ nmC m j := fun e => by
  unfold nmC at e
  by_cases c1 : nmR m i ∈ resv <;> by_cases c2 : nmR m j ∈ resv
  · rw [if_pos c1, if_pos c2] at e
    exact nmR_ne i0 i1 j0 j1 h (List.append_cancel_right e)
  · rw [if_pos c1, if_neg c2] at e
    have := congrArg List.length e
    rw [List.length_append, nmR_len (j := j) i0 i1 c1] at this
    simp at this
  · rw [if_neg c1, if_pos c2] at e
    have := congrArg List.length e
    rw [List.length_append, nmR_len (j := i) j0 j1 c2] at this
    simp at this
  · rw [if_neg c1, if_neg c2] at e
    exact nmR_ne i0 i1 j0 j1 h e
theorem nmR_b {m e : Int} (h0 : 0 ≤ e) (h1 : e ≤ 2) : 1 ≤ (nmR m e).length ∧ (nmR m e).length ≤ 8 := by
  unfold nmR
  have := nmL_b m
  split
  · rw [nmB_len h0 h1]; omega
  · rw [nmA_len]; omega
theorem nmC_b {m e : Int} (h0 : 0 ≤ e) (h1 : e ≤ 2) : 1 ≤ (nmC m e).length ∧ (nmC m e).length ≤ 9 := by
  have := nmR_b (m := m) h0 h1
  unfold nmC
  split
  · rw [List.length_append]; simp; omega
  · omega
noncomputable def spName : Sp := fun vs H Q _ => ∃ (c e : Int), vs = [.int c, .int e] ∧ 0 ≤ e ∧ e ≤ 2 ∧ ∀ H', Same H H' → Q (.str (sOf (nmC (mixF c 11) e))) H'
end L2

set_option Elab.async false
set_option linter.all false
set_option maxRecDepth 100000
set_option maxHeartbeats 4000000
namespace L2
open PySem PySem.Spec PyProof.Rows
noncomputable def spIni (C : Addr) (fs : List Str) : Sp := fun as H Q _ => ∃ (x dx : Addr) (vs : List V), as = .ref x :: vs ∧ vs.length = fs.length ∧ H x = some (.ins C dx []) ∧ ∀ H', (∀ b o, H b = some o → b ≠ x → H' b = some o) → (∃ dx, H' x = some (.ins C dx (fs.zip vs))) → Q .non H'
mutual
theorem TrIs.over {K : PySem.W.Frag} {H H' : Hp} (e : Same H H') : ∀ {t : Tr} {x : V}, TrIs K H x t → TrIs K H' x t
  | .v _, _, .flat h => .flat h
  | .lst _, _, .lst h r => .lst (e.seq h) (TrsIs.over e r)
  | .tup _, _, .tup h r => .tup (e.seqT h) (TrsIs.over e r)
theorem TrsIs.over {K : PySem.W.Frag} {H H' : Hp} (e : Same H H') : ∀ {l : List Tr} {xs : List V}, TrsIs K H xs l → TrsIs K H' xs l
  | [], _, .nil => .nil
  | _ :: _, _, .cons h r => .cons (TrIs.over e h) (TrsIs.over e r)
end
structure Cs where
  n : Addr
  v : Addr
  c : Addr
  j : Addr
theorem SqL.updI {K : PySem.W.Frag} {H : Hp} {p x C dx : Addr} {fs : List (Str × V)} {ys : List V} {o : HO} (h : SqL K H p ys) (hx : H x = some (.ins C dx fs)) : SqL K (upd H x o) p ys := by
  rcases h with (h | ⟨ob, h⟩) | h
  · refine .inl (.inl ?_)
    rw [upd_ne (fun e => by rw [e, hx] at h; cases h)]
    exact h
  · refine .inl (.inr ⟨ob, ?_⟩)
    rw [upd_ne (fun e => by rw [e, hx] at h; cases h)]
    exact h
  · exact .inr h
noncomputable def spPIni (K : PySem.W.Frag) (C : Addr) : Sp := fun vs H Q _ => ∃ (x dx : Addr) (sz : V) (p : Addr) (ys : List V), vs = [.ref x, sz, .ref p] ∧ H x = some (.ins C dx []) ∧ SqL K H p ys ∧ ∀ (l : Addr) (H' : Hp), H l = none → (∀ b o, H b = some o → b ≠ x → H' b = some o) → H' l = some (.lst ys) → (∃ dx, H' x = some (.ins C dx [("size", sz), ("deeds", .ref l)])) → Q .non H'
end L2

set_option Elab.async false
set_option linter.all false
set_option maxRecDepth 100000
set_option maxHeartbeats 4000000
namespace PySem
open Builtin
open AutoSeq1 (wpAny_loadPart')
end PySem
namespace L2
open PySem PySem.Spec PyProof.Rows
section
variable {X : Cx}
end
end L2

set_option Elab.async false
set_option linter.all false
set_option maxRecDepth 100000
set_option maxHeartbeats 4000000
namespace L2
open PySem PySem.Spec PyProof.Rows Bd
noncomputable def PairsAt (H : Hp) (vs : List V) : Prop := ∀ v ∈ vs, ∃ (t : Addr) (z : Str) (n : Int), v = .ref t ∧ H t = some (.tup [.str z, .int n])
theorem PairsAt.over {H H' : Hp} {vs : List V} (h : PairsAt H vs) (e : Same H H') : PairsAt H' vs := fun v hv => by
  obtain ⟨t, z, n, h1, h2⟩ := h v hv
  exact ⟨t, z, n, h1, e _ _ h2⟩
noncomputable def BasesAt (H : Hp) (l : Addr) : Prop := ∃ vs, H l = some (.lst vs) ∧ 0 < vs.length ∧ vs.length ≤ 100 ∧ PairsAt H vs
theorem BasesAt.over {H H' : Hp} {l : Addr} (h : BasesAt H l) (e : Same H H') : BasesAt H' l := by
  obtain ⟨vs, h1, h2, h3, h4⟩ := h
  exact ⟨vs, e _ _ h1, h2, h3, h4.over e⟩
noncomputable def HeadsAt (H : Hp) (l : Addr) : Prop := ∃ vs, H l = some (.lst vs) ∧ vs.length = 3 ∧ ∀ v ∈ vs, ∃ (t : Addr) (z : Str) (m n : Int), v = .ref t ∧ H t = some (.tup [.str z, .int m, .int n]) ∧ 1 ≤ m ∧ m ≤ 3
theorem HeadsAt.over {H H' : Hp} {l : Addr} (h : HeadsAt H l) (e : Same H H') : HeadsAt H' l := by
  obtain ⟨vs, h1, h2, h3⟩ := h
  exact ⟨vs, e _ _ h1, h2, fun v hv => by obtain ⟨t, z, m, n, a, b, c⟩ := h3 v hv; exact ⟨t, z, m, n, a, e _ _ b, c⟩⟩
theorem at_mem {vs : List V} {i : Int} (h0 : 0 ≤ i) (h1 : i < (vs.length : Int)) : ∃ v ∈ vs, atI vs i = some v := by
  have e : vs[i.toNat]? = some vs[i.toNat] := List.getElem?_eq_getElem (by omega)
  refine ⟨vs[i.toNat], List.getElem_mem _, ?_⟩
  have h : atI vs ((i.toNat : Nat) : Int) = some vs[i.toNat] := atI_nat e
  rwa [Int.toNat_of_nonneg h0] at h
noncomputable def SpAt (H : Hp) (p : Addr) : Prop := ∃ xs, H p = some (.tup xs) ∧ xs.length ≤ 3 ∧ PairsAt H xs
theorem SpAt.over {H H' : Hp} {p : Addr} (h : SpAt H p) (e : Same H H') : SpAt H' p := by
  obtain ⟨xs, h1, h2, h3⟩ := h
  exact ⟨xs, e _ _ h1, h2, h3.over e⟩
noncomputable def spSpots : Sp := fun vs H Q _ => ∃ (n m off : Int) (b : Addr), vs = [.int n, .ref b, .int m, .int off] ∧ 0 ≤ n ∧ BasesAt H b ∧ 1 ≤ m ∧ m ≤ 3 ∧ ∀ (r : Addr) (H' : Hp), Same H H' → SpAt H' r → Q (.ref r) H'
noncomputable def CellAt (H : Hp) (r : Addr) : Prop := ∃ z p, H r = some (.tup [.str z, .ref p]) ∧ SpAt H p
noncomputable def spCellOf : Sp := fun vs H Q _ => ∃ (n : Int) (b h : Addr), vs = [.int n, .ref b, .ref h] ∧ 0 ≤ n ∧ BasesAt H b ∧ HeadsAt H h ∧ ∀ (r : Addr) (H' : Hp), Same H H' → CellAt H' r → Q (.ref r) H'
noncomputable abbrev Reads := List (Str × Addr)
inductive TmT (H : Hp) : Nat → V → Reads → Prop
  | n {t : Addr} (i : Int) : H t = some (.tup [.str "n", .int i]) → TmT H 1 (.ref t) []
  | v {t : Addr} (z : Str) : H t = some (.tup [.str "v", .str z]) → TmT H 1 (.ref t) []
  | c {t p : Addr} (z : Str) : H t = some (.tup [.str "c", .str z, .ref p]) → SpAt H p → TmT H 1 (.ref t) [(z, p)]
  | j {t : Addr} {l r : V} {m n : Nat} {rs us : Reads} (z : Str) : z ∈ [Str.ofString "+", Str.ofString "-", Str.ofString "*"] → H t = some (.tup [.str z, l, r]) → TmT H m l rs → TmT H n r us → TmT H (m + n) (.ref t) (rs ++ us)
theorem TmT.over {H H' : Hp} (e : Same H H') {n : Nat} {x : V} {rs : Reads} (h : TmT H n x rs) : TmT H' n x rs := by
  induction h with
  | n i h => exact .n i (e _ _ h)
  | v z h => exact .v z (e _ _ h)
  | c z h hp => exact .c z (e _ _ h) (hp.over e)
  | j z hz h _ _ a b => exact .j z hz (e _ _ h) a b
theorem TmT.pos {H : Hp} {n : Nat} {x : V} {rs : Reads} (h : TmT H n x rs) : 1 ≤ n ∧ rs.length ≤ n ∧ ∀ r ∈ rs, SpAt H r.2 := by
  induction h with
  | n i h => exact ⟨Nat.le_refl _, Nat.zero_le _, fun r hr => by cases hr⟩
  | v z h => exact ⟨Nat.le_refl _, Nat.zero_le _, fun r hr => by cases hr⟩
  | c z h hp => exact ⟨Nat.le_refl _, Nat.le_refl _, fun r hr => by rw [List.mem_singleton] at hr; subst hr; exact hp⟩
  | j z hz h _ _ a b =>
    refine ⟨by omega, by rw [List.length_append]; omega, fun r hr => ?_⟩
    rcases List.mem_append.mp hr with hr | hr
    · exact a.2.2 r hr
    · exact b.2.2 r hr
noncomputable def spLeaf2 : Sp := fun vs H Q _ => ∃ (n : Int) (b h : Addr), vs = [.int n, .ref b, .ref h] ∧ 0 ≤ n ∧ n < 4294967296 ∧ BasesAt H b ∧ HeadsAt H h ∧ ∀ (x : V) (H' : Hp) (rs : Reads), Same H H' → TmT H' 1 x rs → Q x H'
noncomputable def spTerm2 : Sp := fun vs H Q _ => ∃ (c : Int) (b h : Addr), vs = [.int c, .ref b, .ref h] ∧ BasesAt H b ∧ HeadsAt H h ∧ ∀ (x : V) (H' : Hp) (m : Nat) (rs : Reads), Same H H' → m ≤ 3 → TmT H' m x rs → Q x H'
inductive TmO (c : Cs) (H : Hp) : Nat → V → Reads → Prop
  | num {x dx : Addr} (i : Int) : H x = some (.ins c.n dx [("n", .int i)]) → TmO c H 1 (.ref x) []
  | val {x dx : Addr} (z : Str) : H x = some (.ins c.v dx [("name", .str z)]) → TmO c H 1 (.ref x) []
  | cel {x dx p : Addr} (z : Str) : H x = some (.ins c.c dx [("table", .str z), ("spots", .ref p)]) → TmO c H 1 (.ref x) [(z, p)]
  | joi {x dx : Addr} {l r : V} {m n : Nat} {rs us : Reads} (z : Str) : H x = some (.ins c.j dx [("sign", .str z), ("left", l), ("right", r)]) → TmO c H m l rs → TmO c H n r us → TmO c H (m + n) (.ref x) (rs ++ us)
theorem TmO.over {c : Cs} {H H' : Hp} (e : Same H H') {n : Nat} {x : V} {rs : Reads} (h : TmO c H n x rs) : TmO c H' n x rs := by
  induction h with
  | num i h => exact .num i (e _ _ h)
  | val z h => exact .val z (e _ _ h)
  | cel z h => exact .cel z (e _ _ h)
  | joi z h _ _ a b => exact .joi z (e _ _ h) a b
noncomputable def spObj (c : Cs) (n : Nat) : Sp := fun vs H Q _ => ∃ (x : V) (m : Nat) (rs : Reads), vs = [x] ∧ m ≤ n ∧ TmT H m x rs ∧ ∀ (y : V) (H' : Hp), Same H H' → TmO c H' m y rs → Q y H'
noncomputable def LpAt (H : Hp) (v : V) : Prop := ∃ (p p1 p2 : Addr) (nm b1 b2 : Str) (n1 n2 ab tn : Int), v = .ref p ∧ H p = some (.tup [.str nm, .ref p1, .ref p2, .int ab, .int tn]) ∧ H p1 = some (.tup [.str b1, .int n1]) ∧ H p2 = some (.tup [.str b2, .int n2]) ∧ 0 ≤ tn ∧ tn ≤ 2
theorem lp_tr {K : PySem.W.Frag} {H : Hp} : ∀ {vs : List V}, (∀ v ∈ vs, LpAt H v) → ∃ ts, TrsIs K H vs ts ∧ depTs ts ≤ 2 ∧ ts.length = vs.length
  | [], _ => ⟨[], .nil, Nat.zero_le _, rfl⟩
  | v :: vs, h => by
    obtain ⟨ts, h1, h2, h3⟩ := lp_tr (K := K) (vs := vs) fun x hx => h x (List.mem_cons_of_mem _ hx)
    obtain ⟨p, p1, p2, nm, b1, b2, n1, n2, ab, tn, rfl, g0, g1, g2, _⟩ := h v List.mem_cons_self
    refine ⟨.tup [.v (.str nm), .tup [.v (.str b1), .v (.int n1)], .tup [.v (.str b2), .v (.int n2)], .v (.int ab), .v (.int tn)] :: ts, .cons (.tup (SqT.of g0) (.cons (.flat rfl) (.cons (.tup (SqT.of g1) (.cons (.flat rfl) (.cons (.flat rfl) .nil))) (.cons (.tup (SqT.of g2) (.cons (.flat rfl) (.cons (.flat rfl) .nil))) (.cons (.flat rfl) (.cons (.flat rfl) .nil)))))) h1, ?_, by rw [List.length_cons, List.length_cons, h3]⟩
    simp only [depT, depTs]
    omega
theorem sign_ne {z : Str} (h : z ∈ [Str.ofString "+", Str.ofString "-", Str.ofString "*"]) : z ≠ "n" ∧ z ≠ "v" ∧ z ≠ "c" := by
  have : ∀ z ∈ [Str.ofString "+", Str.ofString "-", Str.ofString "*"], z ≠ "n" ∧ z ≠ "v" ∧ z ≠ "c" := by decide +kernel
  exact this z h
theorem dS {x y : Str} (h : x ≠ y) : decide (V.str x = V.str y) = false := decide_eq_false fun e => h (V.str.inj e)
noncomputable def spHeads2 (K : PySem.W.Frag) : Sp := fun vs H Q _ => ∃ (p : Addr) (ns : List Int), vs = [.ref p] ∧ SqL K H p (ns.map V.int) ∧ ∀ (l : Addr) (H' : Hp), Same H H' → HeadsAt H' l → Q (.ref l) H'
theorem comp_listG {K : PySem.W.Frag} {a : Addr} {xs : List V} {ρ : List (Option Nat)} {g : TG} {tt : TT} {te : TE} {σ : St} {H : Hp} {Q : VK} (Pv : Nat → List V → Hp → Prop) (h0 : Pv 0 [] H) (hlen : xs.length ≤ sizeLine) (hl : ∀ i ys H, i ≤ xs.length → Pv i ys H → SqL K H a xs ∧ ys.length ≤ i)
    (hs : ∀ i x ys H, xs[i]? = some x → Pv i ys H → g x (inSt ρ σ) H fun σ2 H3 => Outs ρ σ σ2 ∧ tt σ2 H3 fun ok H4 => if ok = true then te σ2 H4 fun v H5 => Pv (i + 1) (ys ++ [v]) H5 else Pv (i + 1) ys H4)
    (hd : ∀ ys H, Pv xs.length ys H → ∀ p, H p = none → Q (.ref p) (upd H p (.lst ys))) : CompW ρ g tt te σ Q (Itl K a) H := by
  refine ⟨fun i m ys H => m = xs.length - i ∧ i ≤ xs.length ∧ Pv i ys H, ⟨_, rfl, Nat.zero_le _, h0⟩, ?_⟩
  rintro i m ys H ⟨rfl, hi, p⟩
  obtain ⟨hq, hy⟩ := hl i ys H hi p
  by_cases hlt : i < xs.length
  · refine .inr ⟨⟨xs, xs[i], hq, by simp [hlt]⟩, by omega, Pv (i + 1), fun ys' H'' p' => ⟨xs.length - (i + 1), by omega, rfl, hlt, p'⟩, fun x H' y => ?_⟩
    obtain ⟨e, y2⟩ := y
    subst e
    exact hs i x ys _ (y2 xs hq) p
  · have e : i = xs.length := by omega
    subst e
    exact .inl ⟨⟨xs, hq, Nat.le_refl _⟩, by omega, hd ys H p⟩
end L2

set_option Elab.async false
set_option linter.all false
set_option maxRecDepth 100000
set_option maxHeartbeats 4000000
namespace L2
open PySem PySem.Spec PyProof.Rows
section
open PySem.SeqAt
open PySem.AutoSeq1 (wpAny_loadPart')
open PySem.MeetsSeq PySem.MeetsSeq2 PySem.MeetsSeq3
end
noncomputable def upto (n : Nat) : List V := (List.range n).map fun i : Nat => V.int (i : Int)
noncomputable def tLRange (ta : TA) : TE := fun σ H Q => ta σ H fun vs H1 => ∃ n : Nat, vs = [.int (n : Int)] ∧ n ≤ 1000000 ∧ ∀ l, H1 l = none → Q (.ref l) (upd H1 l (.lst (upto n)))
theorem vals_upto {n : Nat} {acc : Array Value} (h : ItemsOf (fun i v => ∃ t, v = .int (0 + (i : Int) * 1) t) acc n) : Vals (upto n) acc.toList := by
  have key : ∀ (k : Nat) (l : List Value), (∀ (j : Nat) (v : Value), l[j]? = some v → ∃ t, v = Value.int ((k + j : Nat) : Int) t) → Vals ((List.range' k l.length).map fun i : Nat => V.int (i : Int)) l := by
    intro k l
    induction l generalizing k with
    | nil => intro _; exact .nil
    | cons x l ih =>
      intro hl
      rw [List.length_cons, List.range'_succ, List.map_cons]
      obtain ⟨t, ht⟩ := hl 0 x rfl
      refine .cons ⟨t, by rw [ht]; rfl⟩ (ih (k + 1) fun j v hj => ?_)
      obtain ⟨t', ht'⟩ := hl (j + 1) v (by simpa using hj)
      exact ⟨t', by rw [ht']; congr 1; omega⟩
  have hl : acc.toList.length = n := by simpa using h.1
  have := key 0 acc.toList fun j v hj => by
    obtain ⟨t, ht⟩ := h.2 j v (by simpa using hj)
    exact ⟨t, by rw [ht]; congr 1; omega⟩
  rw [hl] at this
  unfold upto
  rw [List.range_eq_range']
  exact this
theorem pe_lrange {X : Cx} {a : Expr} {ta : TA} {p p2 pos pos2 : Pos} (hc : X.calm = true) (hgl : Gl X "list") (hml : X.mg "list" = none) (hg : Gl X "range") (hm : X.mg "range" = none) (ha : PA X [a] ta)
    (hs : starEach [a] X.env = [(false, eval a X.env)] := by rfl) : PE X (.Call (.Name "list" p) [.Call (.Name "range" p2) [a] [] pos2] [] pos) (tLRange ta) := by
  intro pins s σ H Q I h
  refine wpAny_Call_Name_kw (ld_blt I hgl hml bt_list ?_ (by decide) (by decide))
  refine PyProof.Rows.callWith_type1 ?_ rfl rfl
  show wpAny _ _ (spliced ((false, eval (.Call (.Name "range" p2) [a] [] pos2) X.env) :: backTo pos (starEach [] X.env))) _ _ s
  refine Calls.spliced_cons ?_
  refine Call_ (ld_blt I hg hm boot_range (PyProof.Rows.callWith_type1 (thn (ha pos2 pins s σ H _ I h) fun us s1 hx => ?_) hs rfl))
  obtain ⟨vs, H1, I1, r1, n, e, hn, q⟩ := hx
  subst e
  obtain ⟨u, rfl, ru⟩ := vals1 r1
  obtain ⟨t, rfl⟩ := (show ∃ t, u = Value.int (n : Int) t from ru)
  refine call_range_1 ?_
  refine Calls.spliced_nil ?_
  have p62 : (2 : Int) ^ 62 = 4611686018427387904 := by decide
  refine call_list_range (n := n) (I1.ok.hd hc) (IsRange.new ..) (small_one (by decide) (by decide) (by omega) (by omega)) (by rw [rangeSize_one]; split <;> omega) (by omega) fun h' tk acc c' hk hl hi => ?_
  have hsz : (s1.heap.push { cls := .type "range", data := .fields #[.int 0 s1.toks, .int (n : Int) t, .int 1 (s1.toks + 1)] }).objs.size = s1.heap.objs.size + 1 := Heap.size_push ..
  have hf : H1 (s1.heap.objs.size + 1) = none := I1.hok.fresh (Nat.le_succ _)
  have hul : (upto n).length ≤ sizeLine := by unfold upto; rw [List.length_map, List.length_range]; exact szl hn
  change h'.get? (s1.heap.push { cls := .type "range", data := .fields #[.int 0 s1.toks, .int (n : Int) t, .int 1 (s1.toks + 1)] }).objs.size = _ at hl
  rw [hsz] at hl
  refine ⟨.ref (s1.heap.objs.size + 1), upd H1 (s1.heap.objs.size + 1) (.lst (upto n)), I1.laid (t' := tk) (o := .lst (upto n)) (fun b o e => hk b o (Heap.get?_push_of_some _ e)) (Nat.le_succ _) ⟨hul, acc.toList, c', vals_upto hi, by simpa using hl⟩, ?_, q _ hf⟩
  show Value.ref _ = Value.ref _
  rw [← hsz]
end L2

set_option Elab.async false
set_option linter.all false
set_option maxRecDepth 100000
set_option maxHeartbeats 4000000
namespace L2
open PySem PySem.Spec PyProof.Rows
section
variable {prog : Program} {w : World} {A : Around} {E : Value → Shared → Prop} {s : Shared}
theorem tu_ask {it t : Addr} {k : Nat} {its : Array Value} {Q : Value → Shared → Prop} (a : s.heap.IsTupleIter it t k) (b : s.heap.IsTuple t its)
    (q : wpAny (model prog w) A.in1 (match its[k]? with
        | some x => do setField (.ref it) 1 (rawInt (k + 1)); ret x
        | none => do rule (toString "tuple_iterator.__next__" ++ toString ".end"); setField (.ref it) 0 .none; Builtin.SmallTypes.stopIteration) (fun fin s' => ∃ v, fin = .done (.ret v) ∧ Q v s') E s) :
    wpAny (model prog w) A (Builtin.SmallTypes.nextOf (.ref it)) Q E s := by
  have ty := a.typeIs
  obtain ⟨o, g, c, d⟩ := a
  obtain ⟨o2, g2, -, n2, d2⟩ := b
  unfold Builtin.SmallTypes.nextOf
  apply wpAny_bind
  apply wpAny_callSpecial?_slot (name := Str.ofString "__next__") ty F.slot_tuple_iterator_next
  refine wpAny_call_entry F.slot_tuple_iterator_next ty F.entry_tuple_iterator_next ?_ (F.args_tuple_iterator_next_1 _)
  unfold Builtin.«tuple_iterator.__next__»
  wp_walk using wpAny_field g d (x := .ref t) rfl
  rw [d]
  apply wpAny_pure
  apply wpAny_pure
  apply wpAny_bind
  apply wpAny_seqItems g2 d2
  rw [show Int.toNat (k : Int) = k from rfl]
  exact wpAny_mono q (fun fin s' ⟨v, e, z⟩ => ⟨v, e, wpAny_pure z⟩) fun _ _ z => z
theorem tu_item {it t : Addr} {k : Nat} {its : Array Value} {x : Value} {Q : Value → Shared → Prop} (a : s.heap.IsTupleIter it t k) (b : s.heap.IsTuple t its) (hx : its[k]? = some x)
    (q : ∀ h', h'.IsTupleIter it t (k + 1) → Heap.SameBut it s.heap h' → Q x { s with heap := h' }) : wpAny (model prog w) A (Builtin.SmallTypes.nextOf (.ref it)) Q E s := by
  apply tu_ask a b
  obtain ⟨o, g, c, d⟩ := a
  rw [hx]
  apply wpAny_bind
  apply wpAny_setField g d (by simp)
  apply wpAny_pure
  refine ⟨x, rfl, q _ ⟨_, Heap.get?_update_self _ g ?_, ?_, ?_⟩ (Heap.SameBut.update ..)⟩
  · exact Obj.isFreed_of_fields (Obj.data_mapFields d _)
  · exact (Obj.cls_mapFields ..).trans c
  · rw [Obj.data_mapFields d]; rfl
theorem tu_end {it t : Addr} {k : Nat} {its : Array Value} {Q : Value → Shared → Prop} (hh : A.handled = none) (a : s.heap.IsTupleIter it t k) (b : s.heap.IsTuple t its) (hx : its[k]? = none)
    (q : ∀ h' e, Heap.ExtBut it s.heap h' → (∃ o, h'.get? e = some o ∧ o.cls = .type "StopIteration") → E (.ref e) { s with heap := h' }) : wpAny (model prog w) A (Builtin.SmallTypes.nextOf (.ref it)) Q E s := by
  apply tu_ask a b
  obtain ⟨o, g, c, d⟩ := a
  rw [hx]
  apply wpAny_bind
  apply wpAny_rule
  apply wpAny_bind
  apply wpAny_setField g d (by simp)
  have h1 : A.in1.handled = none := hh
  wp_walk
  unfold raiseNew
  apply wpAny_bind
  apply wpAny_handled
  rw [h1]
  show wpAny _ _ (throw _) _ _ _
  apply wpAny_throw
  exact q _ _ (((Heap.SameBut.update ..).extBut.push _).push _) ⟨_, Heap.get?_push_size _ rfl, rfl⟩
theorem drawsT (hh : A.handled = none) (it t : Addr) (ne : t ≠ it) (its : Array Value) : Draws prog w A it [it, t] its.size (fun i v => its[i]? = some v) (fun i h => h.IsTupleIter it t i ∧ h.IsTuple t its) where
  live := fun _ _ ⟨⟨o, g, _⟩, _⟩ => ⟨o, g⟩
  frame := fun _ _ _ ⟨⟨o, g, r⟩, ⟨o2, g2, r2⟩⟩ k => ⟨⟨o, k it (by simp) o g, r⟩, ⟨o2, k t (by simp) o2 g2, r2⟩⟩
  item := fun i s Q E lt ⟨a, b⟩ q => tu_item a b (Array.getElem?_eq_getElem lt) fun h' a' sb => q _ h' s.toks (Array.getElem?_eq_getElem lt) ⟨a', b.extBut sb.extBut ne⟩ sb
  done := fun s Q E ⟨a, b⟩ q => tu_end hh a b (by simp) q
end
structure ZA (z TI TO i1 i2 : Addr) (f g : List Addr) : Prop where
  zf : z ∉ f
  zg : z ∉ g
  of : TO ∉ f
  og : TO ∉ g
  nf : i2 ∉ f
  ng : i1 ∉ g
  Iz : TI ≠ z
  Oz : TO ≠ z
  az : i1 ≠ z
  bz : i2 ≠ z
  IO : TI ≠ TO
  Ia : TI ≠ i1
  Ib : TI ≠ i2
  Oa : TO ≠ i1
  Ob : TO ≠ i2
theorem mv {prog : Program} {w : World} {A : Around} {it : Addr} {f : List Addr} {n : Nat} {P : Nat → Value → Prop} {S : Nat → Heap → Prop} (D : Draws prog w A it f n P S) {k : Nat} {h h' : Heap} {a : Addr} (st : S k h) (b : Heap.ExtBut a h h') (na : a ∉ f) : S k h' :=
  D.frame k h h' st fun c hc o e => b c o (fun q => na (q ▸ hc)) e
section
variable {prog : Program} {w : World} {A : Around} {E : Value → Shared → Prop} {s : Shared}
theorem zip_draw {z TI TO i1 i2 : Addr} {f g : List Addr} {m n k : Nat} {P R : Nat → Value → Prop} {S T : Nat → Heap → Prop} (Z : ZA z TI TO i1 i2 f g) (D1 : Draws prog w A i1 f m P S) (D2 : Draws prog w A i2 g n R T) {a b : Value} {Q : Value → Shared → Prop}
    (hz : IsZip s.heap z TI TO .none) (hI : IsPair s.heap TI (.ref i1) (.ref i2)) (hO : IsPair s.heap TO a b) (s1 : S k s.heap) (s2 : T k s.heap) (le1 : k ≤ m) (le2 : k ≤ n)
    (q : k < m → k < n → ∀ x y h' tk, P k x → R k y → IsZip h' z TI TO (rawInt s.heap.objs.size) → IsPair h' TO x y → S (k + 1) h' → T (k + 1) h' → IsPair h' s.heap.objs.size x y → 
      (∀ c o, c ≠ z → c ≠ TO → c ≠ i1 → c ≠ i2 → s.heap.get? c = some o → h'.get? c = some o) → Q (.ref s.heap.objs.size) { s with heap := h', toks := tk })
    (qe : (k = m ∨ k = n) → ∀ h' e tk, (∀ c o, c ≠ z → c ≠ TO → c ≠ i1 → c ≠ i2 → s.heap.get? c = some o → h'.get? c = some o) → (∃ o, h'.get? e = some o ∧ o.cls = .type "StopIteration") → E (.ref e) { s with heap := h', toks := tk }) :
    wpAny (model prog w) A (Builtin.«zip.__next__» ⟨[.ref z], []⟩) (fun fin s' => ∃ v, fin = .done (.ret v) ∧ Q v s') E s := by
  change wpAny _ _ (field (.ref z) 2 >>= _) _ _ _
  apply wpAny_bind
  apply wpAny_field hz rfl (x := .bool false) rfl
  change wpAny _ _ (field (.ref z) 3 >>= _) _ _ _
  apply wpAny_bind
  apply wpAny_field hz rfl (x := .ref TI) rfl
  apply wpAny_bind
  apply wpAny_seqItems hI rfl
  change wpAny _ _ (Builtin.SmallTypes.ownedTupleIsFree (.ref z) >>= _) _ _ _
  apply wpAny_bind
  unfold Builtin.SmallTypes.ownedTupleIsFree
  apply wpAny_bind
  apply wpAny_field hz rfl (x := .none) rfl
  apply wpAny_pure
  simp only [if_true]
  apply wpAny_bind
  apply wpAny_rule
  apply wpAny_bind
  apply wpAny_field hz rfl (x := .ref TO) rfl
  apply wpAny_bind
  apply wpAny_setField_rec hz (by simp)
  intro hA zA bA
  have zA' : IsZip hA z TI TO .ellipsis := zA
  clear zA
  have oA : IsPair hA TO a b := bA.extBut _ _ Z.Oz hO
  have sA := mv D1 s1 bA.extBut Z.zf
  have tA := mv D2 s2 bA.extBut Z.zg
  apply wpAny_bind
  simp only [List.zipIdx_cons, List.zipIdx_nil, List.forIn_cons, List.forIn_nil]
  apply wpAny_bind
  apply wpAny_bind
  apply wpAny_onRaise
  change wpAny _ _ (Builtin.SmallTypes.nextOf (.ref i1) >>= _) _ _ _
  apply wpAny_bind
  rcases Nat.lt_or_eq_of_le le1 with l1 | rfl
  rotate_left
  · apply D1.done _ _ _ sA
    rintro h' e kp ⟨o, ge, ce⟩
    have z' : IsZip h' z TI TO .ellipsis := kp _ _ Z.az.symm zA'
    have ne : e ≠ z := fun q => by subst q; rw [z'] at ge; cases ge; simp at ce
    apply wpAny_setField_rec z' (by simp)
    intro h2 _ b2
    exact qe (.inl rfl) h2 e s.toks (fun c o c1 _ c3 _ x => b2.extBut _ _ c1 (kp _ _ c3 (bA.extBut _ _ c1 x))) ⟨o, b2.extBut _ _ ne ge, ce⟩
  apply D1.item k _ _ _ l1 sA
  intro x hB t1 px sB bB
  apply wpAny_pure
  have oB : IsPair hB TO a b := bB.extBut _ _ Z.Oa oA
  have zB : IsZip hB z TI TO .ellipsis := bB.extBut _ _ Z.az.symm zA'
  have tB := mv D2 tA bB.extBut Z.ng
  apply wpAny_bind
  apply wpAny_seqItems oB rfl
  apply wpAny_bind
  apply wpAny_updateSeq_pair oB
  intro hC oC bC
  have oC' : IsPair hC TO x b := oC
  clear oC
  have zC : IsZip hC z TI TO .ellipsis := bC.extBut _ _ Z.Oz.symm zB
  have sC := mv D1 sB bC.extBut Z.of
  have tC := mv D2 tB bC.extBut Z.og
  apply wpAny_bind
  apply wpAny_letGo
  apply wpAny_pure
  apply wpAny_bind
  apply wpAny_bind
  apply wpAny_onRaise
  change wpAny _ _ (Builtin.SmallTypes.nextOf (.ref i2) >>= _) _ _ _
  apply wpAny_bind
  have upC : ∀ c o, c ≠ z → c ≠ TO → c ≠ i1 → s.heap.get? c = some o → hC.get? c = some o := fun c o c1 c2 c3 e => bC.extBut _ _ c2 (bB.extBut _ _ c3 (bA.extBut _ _ c1 e))
  rcases Nat.lt_or_eq_of_le le2 with l2 | rfl
  rotate_left
  · apply D2.done _ _ _ tC
    rintro h' e kp ⟨o, ge, ce⟩
    have z' : IsZip h' z TI TO .ellipsis := kp _ _ Z.bz.symm zC
    have ne : e ≠ z := fun q => by subst q; rw [z'] at ge; cases ge; simp at ce
    apply wpAny_setField_rec z' (by simp)
    intro h2 _ b2
    exact qe (.inr rfl) h2 e t1 (fun c o c1 c2 c3 c4 x => b2.extBut _ _ c1 (kp _ _ c4 (upC c o c1 c2 c3 x))) ⟨o, b2.extBut _ _ ne ge, ce⟩
  apply D2.item k _ _ _ l2 tC
  intro y hD t2 py tD bD
  apply wpAny_pure
  have oD : IsPair hD TO x b := bD.extBut _ _ Z.Ob oC'
  have zD : IsZip hD z TI TO .ellipsis := bD.extBut _ _ Z.bz.symm zC
  have sD := mv D1 sC bD.extBut Z.nf
  apply wpAny_bind
  apply wpAny_seqItems oD rfl
  apply wpAny_bind
  apply wpAny_updateSeq_pair oD
  intro hE oE bE
  have oE' : IsPair hE TO x y := oE
  clear oE
  have zE : IsZip hE z TI TO .ellipsis := bE.extBut _ _ Z.Oz.symm zD
  have sE := mv D1 sD bE.extBut Z.of
  have tE := mv D2 tD bE.extBut Z.og
  have upE : ∀ c o, c ≠ z → c ≠ TO → c ≠ i1 → c ≠ i2 → s.heap.get? c = some o → hE.get? c = some o := fun c o c1 c2 c3 c4 e => bE.extBut _ _ c2 (bD.extBut _ _ c4 (upC c o c1 c2 c3 e))
  have sz : hE.objs.size = s.heap.objs.size := by rw [bE.1, bD.1, bC.1, bB.1, bA.1]
  apply wpAny_bind
  apply wpAny_letGo
  apply wpAny_pure
  apply wpAny_pure
  apply wpAny_bind
  apply wpAny_seqItems oE' rfl
  apply wpAny_bind
  refine wpAny_newTuple ?_
  change wpAny _ _ (Builtin.SmallTypes.ownedTupleHandOut (.ref z) (.ref hE.objs.size) >>= _) _ _ _
  apply wpAny_bind
  unfold Builtin.SmallTypes.ownedTupleHandOut
  have zF : IsZip (hE.push { cls := .type "tuple", data := .seq #[x, y] }) z TI TO .ellipsis := Heap.get?_push_of_some _ zE
  have pF : IsPair (hE.push { cls := .type "tuple", data := .seq #[x, y] }) hE.objs.size x y := Heap.get?_push_size _ rfl
  apply wpAny_bind
  apply wpAny_setField_rec zF (by simp)
  intro hG zG bG
  have zG' : IsZip hG z TI TO (rawInt hE.objs.size) := zG
  clear zG
  apply wpAny_setField_rec zG' (by simp)
  intro hH zH bH
  have zH' : IsZip hH z TI TO (rawInt hE.objs.size) := zH
  clear zH
  have far : hE.objs.size ≠ z := Nat.ne_of_gt (Heap.lt_size zE)
  have up : Heap.ExtBut z hE hH := fun c o c1 e => bH.extBut _ _ c1 (bG.extBut _ _ c1 (Heap.get?_push_of_some _ e))
  have pH : IsPair hH hE.objs.size x y := bH.extBut _ _ far (bG.extBut _ _ far pF)
  apply wpAny_pure
  refine ⟨_, rfl, ?_⟩
  have := q l1 l2 x y hH t2 px py (by rw [← sz]; exact zH') (up _ _ Z.Oz oE') (mv D1 sE up Z.zf) (mv D2 tE up Z.zg) (by rw [← sz]; exact pH) fun c o c1 c2 c3 c4 e => up c o c1 (upE c o c1 c2 c3 c4 e)
  rw [← sz] at this
  exact this
theorem zip_on {z TI TO i1 i2 : Addr} {f g : List Addr} {m n k : Nat} {P R : Nat → Value → Prop} {S T : Nat → Heap → Prop} (Z : ZA z TI TO i1 i2 f g) (D1 : Draws prog w A.in1 i1 f m P S) (D2 : Draws prog w A.in1 i2 g n R T) {a b : Value} {Q : Option Value → Shared → Prop}
    (hz : IsZip s.heap z TI TO .none) (hI : IsPair s.heap TI (.ref i1) (.ref i2)) (hO : IsPair s.heap TO a b) (s1 : S k s.heap) (s2 : T k s.heap) (le1 : k ≤ m) (le2 : k ≤ n)
    (q : k < m → k < n → ∀ x y h' tk, P k x → R k y → IsZip h' z TI TO (rawInt s.heap.objs.size) → IsPair h' TO x y → S (k + 1) h' → T (k + 1) h' → IsPair h' s.heap.objs.size x y → 
      (∀ c o, c ≠ z → c ≠ TO → c ≠ i1 → c ≠ i2 → s.heap.get? c = some o → h'.get? c = some o) → Q (some (.ref s.heap.objs.size)) { s with heap := h', toks := tk })
    (qe : (k = m ∨ k = n) → ∀ h' tk, (∀ c o, c ≠ z → c ≠ TO → c ≠ i1 → c ≠ i2 → s.heap.get? c = some o → h'.get? c = some o) → Q none { s with heap := h', toks := tk }) :
    wpAny (model prog w) A (pyNext (.ref z)) Q E s := by
  have ty : s.TypeIs (.ref z) "zip" := ⟨_, hz, rfl⟩
  unfold pyNext
  apply wpAny_bind
  apply wpAny_attempt
  apply wpAny_callSpecial?_slot (name := Str.ofString "__next__") ty F.slot_zip_next
  refine wpAny_call_entry F.slot_zip_next ty F.entry_zip_next (zip_draw Z D1 D2 hz hI hO s1 s2 le1 le2 ?_ ?_) (F.args_zip_next_1 _)
  · intro l1 l2 x y h' tk a1 a2 a3 a4 a5 a6 a7 a8
    exact wpAny_pure (q l1 l2 x y h' tk a1 a2 a3 a4 a5 a6 a7 a8)
  · rintro l h' e tk kp ⟨o, ge, ce⟩
    exact wpAny_bind (wpAny_isInstance (T := "StopIteration") (b := true) ⟨o, ge, ce⟩ isSubtype_stop (wpAny_pure (qe l h' tk kp)))
end
noncomputable def Ity (K : PySem.W.Frag) (a b : Addr) : It :=
  ⟨fun i H => ∃ xs ys x y, SqT K H a xs ∧ SqT K H b ys ∧ xs[i]? = some x ∧ ys[i]? = some y, fun i H v H' => ∃ x y T, (∀ xs, SqT K H a xs → xs[i]? = some x) ∧ (∀ ys, SqT K H b ys → ys[i]? = some y) ∧ H T = none ∧ v = .ref T ∧ H' = upd H T (.tup [x, y]),
    fun i H => ∃ xs ys, SqT K H a xs ∧ SqT K H b ys ∧ i ≤ xs.length ∧ i ≤ ys.length ∧ (i = xs.length ∨ i = ys.length)⟩
theorem turn_zipT {P : Program} {w : World} {K : PySem.W.Frag} {elts : List Expr} {x1 : Nat} {pos : Pos} (a b z TI TO i1 i2 : Addr) (D : ZA z TI TO i1 i2 [i1, a] [i2, b]) (na : a ≠ i1) (nb : b ≠ i2) :
    Turn P w K (.Tuple elts x1 pos) (Ity K a b) [z, TI, TO, i1, i2] z (fun i h => IsZip h z TI TO .none ∧ IsPair h TI (.ref i1) (.ref i2) ∧ (∃ p q, IsPair h TO p q) ∧ h.IsTupleIter i1 a i ∧ h.IsTupleIter i2 b i) where
  mem := by simp
  obj := fun i h st c hc => by
    obtain ⟨hz, hTI, ⟨p, q, hTO⟩, h1, h2⟩ := st
    simp only [List.mem_cons, List.not_mem_nil, or_false] at hc
    rcases hc with rfl | rfl | rfl | rfl | rfl
    · exact ⟨_, hz, fun v z => by cases z⟩
    · exact ⟨_, hTI, fun v z => by cases z⟩
    · exact ⟨_, hTO, fun v z => by cases z⟩
    · obtain ⟨o, e, c, d⟩ := h1
      exact ⟨o, e, fun v z => by rw [d] at z; cases z⟩
    · obtain ⟨o, e, c, d⟩ := h2
      exact ⟨o, e, fun v z => by rw [d] at z; cases z⟩
  keep := fun i h h' st k => by
    obtain ⟨hz, hTI, ⟨p, q, hTO⟩, h1, h2⟩ := st
    exact ⟨k z (by simp) _ hz, k TI (by simp) _ hTI, ⟨p, q, k TO (by simp) _ hTO⟩, h1.at fun o e => k i1 (by simp) o e, h2.at fun o e => k i2 (by simp) o e⟩
  item := by
    intro X hP hw hK hc i pins s σ H E I hf st hg
    subst hP hw hK
    obtain ⟨xs, ys, x, y, hq1, hq2, hx, hy⟩ := hg
    obtain ⟨its1, rv1, p1, _⟩ := I.tuple hq1
    obtain ⟨its2, rv2, p2, _⟩ := I.tuple hq2
    obtain ⟨hz, hTI, ⟨pa, qa, hTO⟩, h1, h2⟩ := st
    have p1' : s.heap.IsTuple a its1.toArray := p1
    have p2' : s.heap.IsTuple b its2.toArray := p2
    have l1 := rv1.length
    have l2 := rv2.length
    obtain ⟨b1, _⟩ := List.getElem?_eq_some_iff.1 hx
    obtain ⟨b2, _⟩ := List.getElem?_eq_some_iff.1 hy
    have hn : X.A.in1.handled = none := I.ok.hd hc
    have d1 := drawsT (prog := X.prog) (w := X.w) hn i1 a na its1.toArray
    have d2 := drawsT (prog := X.prog) (w := X.w) hn i2 b nb its2.toArray
    refine zip_on (k := i) D d1 d2 hz hTI hTO ⟨h1, p1'⟩ ⟨h2, p2'⟩ (by simp; omega) (by simp; omega) (fun _ _ u v hh tk hu hv hz' hTO' h1' h2' hT hk => ⟨_, rfl, ?_⟩) fun q => absurd q (by simp; omega)
    obtain ⟨u', hu', ru⟩ := rv1.get hx
    obtain ⟨v', hv', rv⟩ := rv2.get hy
    have eu : u' = u := by simpa [hu'] using hu
    have ev : v' = v := by simpa [hv'] using hv
    subst eu ev
    refine wpAny_letOwnedTupleGo_zip hz' fun h3 hz3 hs3 => ?_
    have hTn : H s.heap.objs.size = none := I.hok.fresh (Nat.le_refl _)
    have lts : ∀ c ∈ [z, TI, TO, i1, i2], c < s.heap.objs.size := fun c hc => by
      simp only [List.mem_cons, List.not_mem_nil, or_false] at hc
      rcases hc with rfl | rfl | rfl | rfl | rfl
      · exact Heap.lt_size hz
      · exact Heap.lt_size hTI
      · exact Heap.lt_size hTO
      · obtain ⟨_, e, _⟩ := h1; exact Heap.lt_size e
      · obtain ⟨_, e, _⟩ := h2; exact Heap.lt_size e
    have I1 : Inv X pins σ (upd H s.heap.objs.size (.tup [x, y])) { s with heap := s.heap.push { cls := .type "tuple", data := .seq #[u', v'] } } := I.laid (t' := s.toks) (o := .tup [x, y]) (fun b o e => Heap.get?_push_of_some _ e) (Nat.le_refl _) ⟨szl (by show 2 ≤ 1000000; decide), [u', v'], .cons ru (.cons rv .nil), IsTupN.new _ _⟩
    have I2 : Inv X pins σ (upd H s.heap.objs.size (.tup [x, y])) { s with heap := h3, toks := tk } := by
      refine Inv.turnedL (s := { s with heap := s.heap.push { cls := .type "tuple", data := .seq #[u', v'] } }) (h' := h3) (ch := [z, TI, TO, i1, i2]) (t' := tk) I1 (fun b o hb q => ?_) (fun b hb => ?_)
      · simp only [List.mem_cons, List.not_mem_nil, or_false, not_or] at hb
        obtain ⟨n1, n2, n3, n4, n5⟩ := hb
        show h3.get? b = some o
        rw [hs3.2 b n1]
        rcases Heap.get?_push_cases q with ⟨rfl, rfl⟩ | q
        · exact hT
        · exact hk b o n1 n3 n4 n5 q
      · obtain ⟨f0, f1, f2, f3, f4, f5⟩ := hf b hb
        exact ⟨by rw [upd_ne (Nat.ne_of_lt (lts b hb))]; exact f0, f1, f2, f3, f4, f5⟩
    have k3 : ∀ c, c ≠ z → ∀ o, hh.get? c = some o → h3.get? c = some o := fun c hc o e => (hs3.2 c hc).trans e
    refine ⟨.ref s.heap.objs.size, _, I2, rfl, ⟨x, y, _, fun zs hy => by rw [I.tuple_inj hy hq1]; exact hx, fun zs hy' => by rw [I.tuple_inj hy' hq2]; exact hy, hTn, rfl, rfl⟩, ⟨hz3, k3 TI D.Iz _ (hk TI _ D.Iz D.IO D.Ia D.Ib hTI), ⟨u', v', k3 TO D.Oz _ hTO'⟩, h1'.1.at (k3 i1 D.az), h2'.1.at (k3 i2 D.bz)⟩, fun b hb => ?_⟩
    rw [upd_ne (Nat.ne_of_lt (lts b hb))]
    exact (hf b hb).1
  done := by
    intro X hP hw hK hc i pins s σ H E I hf st hg
    subst hP hw hK
    obtain ⟨xs, ys, hq1, hq2, b1, b2, hl⟩ := hg
    obtain ⟨its1, rv1, p1, _⟩ := I.tuple hq1
    obtain ⟨its2, rv2, p2, _⟩ := I.tuple hq2
    obtain ⟨hz, hTI, ⟨pa, qa, hTO⟩, h1, h2⟩ := st
    have p1' : s.heap.IsTuple a its1.toArray := p1
    have p2' : s.heap.IsTuple b its2.toArray := p2
    have l1 := rv1.length
    have l2 := rv2.length
    have hn : X.A.in1.handled = none := I.ok.hd hc
    have d1 := drawsT (prog := X.prog) (w := X.w) hn i1 a na its1.toArray
    have d2 := drawsT (prog := X.prog) (w := X.w) hn i2 b nb its2.toArray
    refine zip_on (k := i) D d1 d2 hz hTI hTO ⟨h1, p1'⟩ ⟨h2, p2'⟩ (by simp; omega) (by simp; omega) (fun e1 e2 => absurd e2 (by simp at e1 ⊢; omega)) fun _ h' tk hk => ⟨rfl, ?_⟩
    refine I.turnedL (ch := [z, TI, TO, i1, i2]) (t' := tk) (fun b o hb q => ?_) hf
    simp only [List.mem_cons, List.not_mem_nil, or_false, not_or] at hb
    obtain ⟨n1, n2, n3, n4, n5⟩ := hb
    exact hk b o n1 n3 n4 n5 q
  self := fun _ _ _ _ _ st h => by
    obtain ⟨hz, _⟩ := st
    exact wpAny_pyIter_zip hz h
theorem zip_newT (a b : Addr) (xs ys : Array Value) :
    Meets (Builtin.«zip.__new__» ⟨[.type "zip", .ref a, .ref b], []⟩) (fun _ R s => s.heap.IsTuple a xs ∧ s.heap.IsTuple b ys ∧
      ∀ h', IsZip h' (s.heap.objs.size + 4) (s.heap.objs.size + 2) (s.heap.objs.size + 3) .none → IsPair h' (s.heap.objs.size + 2) (.ref s.heap.objs.size) (.ref (s.heap.objs.size + 1)) → IsPair h' (s.heap.objs.size + 3) .none .none →
        h'.IsTupleIter s.heap.objs.size a 0 → h'.IsTupleIter (s.heap.objs.size + 1) b 0 → (∀ c o, s.heap.get? c = some o → h'.get? c = some o) → R (.ok (.ret (.ref (s.heap.objs.size + 4)))) { s with heap := h' }) :=
  .of_wp fun prog w A R s h => by
    obtain ⟨hp, g, d, tk, os⟩ := s
    obtain ⟨t1, t2, h⟩ := h
    have hs := sub_zip
    have u1 : Heap.IsTuple (Shared.heap ⟨hp, g, d, tk, os⟩) a xs := t1
    have u2 : Heap.IsTuple (Shared.heap ⟨hp.push { cls := .type "tuple_iterator", data := .fields #[.ref a, .int 0 0] }, g, d, tk, os⟩) b ys := Heap.IsTuple.push t2 _
    wp_walk using wpAny_pyIter_tuple u1, wpAny_pyIter_tuple u2
    refine ⟨_, rfl, ?_⟩
    have key : ∀ (n1 n2 n3 n4 : Nat) (h' : Heap), n1 = hp.objs.size + 1 → n2 = hp.objs.size + 2 → n3 = hp.objs.size + 3 → n4 = hp.objs.size + 4 → IsZip h' n4 n2 n3 .none → IsPair h' n2 (.ref hp.objs.size) (.ref n1) → IsPair h' n3 .none .none →
        h'.IsTupleIter hp.objs.size a 0 → h'.IsTupleIter n1 b 0 → (∀ c o, hp.get? c = some o → h'.get? c = some o) → R (.ok (.ret (.ref n4))) ⟨h', g, d, tk, os⟩ := by
      rintro _ _ _ _ h' rfl rfl rfl rfl
      exact h h'
    refine key (hp.push { cls := .type "tuple_iterator", data := .fields #[.ref a, .int 0 0] }).objs.size _ _ _ _ ?e1 ?e2 ?e3 ?e4 (Heap.get?_push_size _ rfl) ?g5 ?g6 ?g7 ?g8 ?g9
    case g5 => exact Heap.get?_push_of_some _ (Heap.get?_push_of_some _ (Heap.get?_push_size _ rfl))
    case g6 => exact Heap.get?_push_of_some _ (Heap.get?_push_size _ rfl)
    case g7 => exact ⟨_, Heap.get?_push_of_some _ (Heap.get?_push_of_some _ (Heap.get?_push_of_some _ (Heap.get?_push_of_some _ (Heap.get?_push_size _ rfl)))), rfl, rfl⟩
    case g8 => exact ⟨_, Heap.get?_push_of_some _ (Heap.get?_push_of_some _ (Heap.get?_push_of_some _ (Heap.get?_push_size _ rfl))), rfl, rfl⟩
    case g9 => exact fun c o e => Heap.get?_push_of_some _ (Heap.get?_push_of_some _ (Heap.get?_push_of_some _ (Heap.get?_push_of_some _ (Heap.get?_push_of_some _ e))))
    all_goals simp only [Heap.size_push]
noncomputable def iZipT (K : PySem.W.Frag) (ta : TA) : TI := fun σ H R => ta σ H fun vs H1 => ∃ a b : Addr, vs = [.ref a, .ref b] ∧ (∃ xs, SqT K H1 a xs) ∧ (∃ ys, SqT K H1 b ys) ∧ R (Ity K a b) H1
theorem pi_zipT {X : Cx} {a b : Expr} {ta : TA} {p pos : Pos} {elts : List Expr} {x1 : Nat} {pos2 : Pos} (hg : Gl X "zip") (hm : X.mg "zip" = none) (ha : PA X [a, b] ta) (hs : starEach [a, b] X.env = [(false, eval a X.env), (false, eval b X.env)] := by rfl) (hs2 : starEach [b] X.env = [(false, eval b X.env)] := by rfl) :
    PI X (.Tuple elts x1 pos2) (.Call (.Name "zip" p) [a, b] [] pos) (iZipT X.K ta) := by
  intro pins s σ H R I h
  refine Call_ (ld_blt I hg hm boot_zip (PyProof.Rows.callWith_type1 (thn (ha pos pins s σ H _ I h) fun us s1 ⟨vs, H1, I1, r1, q1⟩ => ?_) (by rw [hs, hs2]) (by rw [hs2]; rfl)))
  obtain ⟨l1, l2, rfl, ⟨xs, hq1⟩, ⟨ys, hq2⟩, q⟩ := q1
  cases r1 with
  | cons r rr =>
    cases rr with
    | cons r' rr =>
      cases rr
      cases r
      cases r'
      obtain ⟨its1, rv1, p1, _⟩ := I1.tuple hq1
      obtain ⟨its2, rv2, p2, _⟩ := I1.tuple hq2
      have lt1 : l1 < s1.heap.objs.size := p1.lt
      have lt2 : l2 < s1.heap.objs.size := p2.lt
      refine callType_new F.called_zip (by decide) (F.typeCall_zip_2 _ _) (F.newCall_zip_2 _ _) (fun obj => F.args_object_init_3 obj _ _) F.entry_zip_new (zip_newT l1 l2 its1.toArray its2.toArray) ⟨p1, p2, fun h' hz hTI hTO h1 h2 hk => ⟨⟨_, hz, rfl⟩, ?_⟩⟩
      refine wpAny_pyIter_zip hz ?_
      refine ⟨_, [s1.heap.objs.size + 4, s1.heap.objs.size + 2, s1.heap.objs.size + 3, s1.heap.objs.size, s1.heap.objs.size + 1], _, _, H1, rfl, I1.kept (t' := s1.toks) hk, turn_zipT l1 l2 _ _ _ _ _ ⟨?_, ?_, ?_, ?_, ?_, ?_, ?_, ?_, ?_, ?_, ?_, ?_, ?_, ?_, ?_⟩ ?_ ?_, ⟨hz, hTI, ⟨_, _, hTO⟩, h1, h2⟩, fun b hb => ?_, q⟩
      case refine_18 =>
        simp only [List.mem_cons, List.not_mem_nil, or_false] at hb
        have hb' : s1.heap.objs.size ≤ b := by
          rcases hb with rfl | rfl | rfl | rfl | rfl
          · exact Nat.le_add_right _ 4
          · exact Nat.le_add_right _ 2
          · exact Nat.le_add_right _ 3
          · exact Nat.le_refl _
          · exact Nat.le_add_right _ 1
        exact I1.fpOk hb' (I1.hok.fresh hb')
      all_goals first
        | exact Nat.ne_of_lt lt1
        | exact Nat.ne_of_lt (Nat.lt_of_lt_of_le lt2 (Nat.le_add_right _ _))
        | (show (_ : Nat) ≠ _; omega)
        | (simp only [List.mem_cons, List.not_mem_nil, or_false, not_or]
           exact ⟨by show (_ : Nat) ≠ _; omega, by first
             | exact Nat.ne_of_gt lt1
             | exact Nat.ne_of_gt lt2
             | exact Nat.ne_of_gt (Nat.lt_of_lt_of_le lt1 (Nat.le_add_right _ _))
             | exact Nat.ne_of_gt (Nat.lt_of_lt_of_le lt2 (Nat.le_add_right _ _))⟩)
end L2

set_option Elab.async false
set_option linter.all false
set_option maxRecDepth 100000
set_option maxHeartbeats 4000000
namespace L2
open PySem PySem.Spec PyProof.Rows
end L2
namespace L2
open PySem PySem.Spec PyProof.Rows
end L2
namespace L2
open PySem PySem.Spec PyProof.Rows
noncomputable def rCatH : R2 := fun x y H Q => ∃ (a b : Addr) (xs ys : List V), x = .ref a ∧ y = .ref b ∧ H a = some (.tup xs) ∧ H b = some (.tup ys) ∧ xs.length + ys.length ≤ sizeLine ∧ ∀ (p : Addr) (H' : Hp), Same H H' → H' p = some (.tup (xs ++ ys)) → Q (.ref p) H'
theorem op_catH {X : Cx} : OpR X (binaryOp .Add) rCatH := by
  intro pins s σ H x y v u Q I rx ry h
  obtain ⟨a, b, xs, ys, rfl, rfl, ha, hb, hz, q⟩ := h
  by_cases c : xs = []
  · subst c
    cases rx
    cases ry
    obtain ⟨its, r1, p1, _⟩ := I.tuple (SqT.of ha)
    obtain ⟨its2, r2, p2, _⟩ := I.tuple (SqT.of hb)
    obtain ⟨⟨cls, dd, data, sl⟩, ho, hc, n, hd⟩ := id p1
    obtain ⟨⟨cls2, dd2, data2, sl2⟩, ho2, hc2, n2, hd2⟩ := id p2
    simp only at hc hd hc2 hd2
    subst hc hd hc2 hd2
    have e : its = [] := r1.nil_iff.mpr rfl
    exact concat_meets ⟨_, ho, rfl⟩ ⟨_, ho2, rfl⟩ noFill_tuple_add seq_tuple_add PySem.F.slot_tuple_add PySem.F.entry_tuple_add (PySem.F.args_tuple_add_2 _ _)
      (tuple_addW0 a b its.toArray its2.toArray n n2 dd dd2 sl sl2 (by simp [e])) ⟨ho, ho2, .ref b, H, I, rfl, q b H (Same.refl _) hb⟩
  · refine op_catT pins s σ H (.ref a) (.ref b) v u Q I rx ry ⟨a, b, xs, ys, rfl, rfl, SqT.of ha, SqT.of hb, c, hz, fun z => ?_, fun z p hp => ?_⟩
    · subst z
      exact q a H (Same.refl _) (by rw [List.append_nil]; exact ha)
    · exact q p _ (same_new hp _) upd_same
end L2

set_option linter.all false
namespace Fo
variable {W L : Type}
section
variable (hdr : Nat → Bool → W → L) (dl : Nat → Int → List (Int × Int) → L)
end
end Fo
namespace Fo
variable {W L : Type}
end Fo

set_option Elab.async false
set_option linter.all false
set_option maxRecDepth 100000
set_option maxHeartbeats 4000000
namespace L2
open PySem PySem.Spec PyProof.Rows
noncomputable def All2 {α : Type} (R : V → α → Prop) (xs : List V) (as : List α) : Prop := xs.length = as.length ∧ ∀ (i : Nat) (x : V) (a : α), xs[i]? = some x → as[i]? = some a → R x a
theorem All2.nil {α : Type} {R : V → α → Prop} : All2 R [] [] := ⟨rfl, fun i x a h => by simp at h⟩
theorem All2.mono {α : Type} {R S : V → α → Prop} {xs : List V} {as : List α} (h : All2 R xs as) (m : ∀ x a, R x a → S x a) : All2 S xs as := ⟨h.1, fun i x a p q => m _ _ (h.2 i x a p q)⟩
theorem All2.get {α : Type} {R : V → α → Prop} {xs : List V} {as : List α} {i : Nat} {a : α} (h : All2 R xs as) (ha : as[i]? = some a) : ∃ x, xs[i]? = some x ∧ R x a := by
  have hi : i < xs.length := by rw [h.1]; exact (List.getElem?_eq_some_iff.mp ha).1
  exact ⟨_, List.getElem?_eq_getElem hi, h.2 i _ a (List.getElem?_eq_getElem hi) ha⟩
theorem All2.get' {α : Type} {R : V → α → Prop} {xs : List V} {as : List α} {i : Nat} {x : V} (h : All2 R xs as) (hx : xs[i]? = some x) : ∃ a, as[i]? = some a ∧ R x a := by
  have hi : i < as.length := by rw [← h.1]; exact (List.getElem?_eq_some_iff.mp hx).1
  exact ⟨_, List.getElem?_eq_getElem hi, h.2 i x _ hx (List.getElem?_eq_getElem hi)⟩
theorem All2.app {α : Type} {R : V → α → Prop} {xs ys : List V} {as bs : List α} (h : All2 R xs as) (g : All2 R ys bs) : All2 R (xs ++ ys) (as ++ bs) := by
  refine ⟨by rw [List.length_append, List.length_append, h.1, g.1], fun i x a p q => ?_⟩
  by_cases l : i < xs.length
  · rw [List.getElem?_append_left l] at p
    rw [List.getElem?_append_left (by rw [← h.1]; exact l)] at q
    exact h.2 i x a p q
  · rw [List.getElem?_append_right (by omega)] at p
    rw [List.getElem?_append_right (by have := h.1; omega)] at q
    rw [h.1] at p
    exact g.2 _ x a p q
theorem All2.one {α : Type} {R : V → α → Prop} {x : V} {a : α} (h : R x a) : All2 R [x] [a] := ⟨rfl, fun i y b p q => by
  cases i with
  | zero => cases p; cases q; exact h
  | succ i => simp at p⟩
theorem All2.snoc {α : Type} {R : V → α → Prop} {xs : List V} {as : List α} {x : V} {a : α} (h : All2 R xs as) (g : R x a) : All2 R (xs ++ [x]) (as ++ [a]) := h.app (.one g)
theorem All2.cons {α : Type} {R : V → α → Prop} {xs : List V} {as : List α} {x : V} {a : α} (g : R x a) (h : All2 R xs as) : All2 R (x :: xs) (a :: as) := All2.app (.one g) h
theorem All2.take {α : Type} {R : V → α → Prop} {xs : List V} {as : List α} (h : All2 R xs as) (n : Nat) : All2 R (xs.take n) (as.take n) := ⟨by rw [List.length_take, List.length_take, h.1], fun i x a p q => by
  by_cases l : i < n
  · rw [List.getElem?_take_of_lt l] at p q
    exact h.2 _ x a p q
  · rw [List.getElem?_take_eq_none (by omega)] at p
    cases p⟩
end L2

set_option Elab.async false
set_option linter.all false
set_option maxRecDepth 100000
set_option maxHeartbeats 4000000
namespace L2
open PySem PySem.Spec PyProof.Rows
noncomputable def TK (H H' : Hp) : Prop := ∀ (b : Addr) (xs : List V), H b = some (.tup xs) → H' b = some (.tup xs)
theorem Same.tk {H H' : Hp} (e : Same H H') : TK H H' := fun b xs h => e b _ h
theorem TK.upd {H : Hp} {l : Addr} {xs : List V} {o : HO} (hl : H l = some (.lst xs)) : TK H (upd H l o) := fun b ys hb => by
  rw [upd_ne (ne_of hb hl (by intro z; cases z))]
  exact hb
noncomputable def ME (t : TE) : Prop := ∀ (σ : St) (H : Hp) (Q Q' : VK), (∀ v H1, Q v H1 → Q' v H1) → t σ H Q → t σ H Q'
noncomputable def MT (t : TT) : Prop := ∀ σ H Q Q', (∀ b H1, Q b H1 → Q' b H1) → t σ H Q → t σ H Q'
noncomputable def MR (r : R2) : Prop := ∀ (x y : V) (H : Hp) (Q Q' : VK), (∀ v H1, Q v H1 → Q' v H1) → r x y H Q → r x y H Q'
theorem ME.var (i : Nat) : ME (tVar i) := fun σ H Q Q' hq ⟨v, h, k⟩ => ⟨v, h, hq _ _ k⟩
theorem ME.op {r : R2} {a b : TE} (hr : MR r) (ha : ME a) (hb : ME b) : ME (tOp r a b) := fun σ H Q Q' hq h => ha _ _ _ _ (fun x H1 k => hb _ _ _ _ (fun y H2 k => hr _ _ _ _ _ hq k) k) h
theorem MT.test {t : TE} (h : ME t) : MT (tTest t) := fun σ H Q Q' hq k => h _ _ _ _ (fun x H1 ⟨b, e, m⟩ => ⟨b, e, hq _ _ m⟩) k
theorem MR.i0 (g : Int → Int → V) : MR (rI0 g) := fun x y H Q Q' hq ⟨i, j, a, b, d⟩ => ⟨i, j, a, b, hq _ _ d⟩
theorem seq_asgC {v : V} {i : Nat} {b : TS} {D : Ends} {σ : St} {H : Hp} (h : b D (σ.set i (some v)) H) : tSeq (tAsg (tC v) (gName i)) b D σ H := h
end L2

set_option Elab.async false
set_option linter.all false
set_option maxRecDepth 100000
set_option maxHeartbeats 4000000
namespace L2
open PySem PySem.Spec PyProof.Rows
end L2
namespace HT
open PySem PySem.Spec PyProof.Rows L2
section
variable {prog : Program} {w : World} {A : Around} {E : Value → Shared → Prop} {s : Shared}
theorem getItem_tuple_all {t sl : Addr} {items : Array Value} {vl vu : Value} {lo hi : Option Int} {Q : Value → Shared → Prop} (ht : IsTup s.heap t items) (hs : s.heap.IsSliceOf sl vl vu .none) (pl : IsPart vl lo) (pu : IsPart vu hi)
    (hw : sIx items.size 0 lo = 0 ∧ sIx items.size items.size hi = items.size) (h : Q (.ref t) s) : wpAny (model prog w) A (getItem (.ref t) (.ref sl)) Q E s := by
  obtain ⟨os, hos, hcs, hds⟩ := id hs
  have hTs : s.TypeIs (.ref sl) "slice" := ⟨os, hos, hcs⟩
  unfold getItem
  try with_reducible refine wpAny_holding ?_
  first | refine wpAny_bind (wpAny_pure ?_) | skip
  refine wpAny_bind (wpAny_sequenceKey ht.typeIs (by decide) ?_)
  refine wpAny_bind (wpAny_callSpecial?_slot (name := Str.ofString "__getitem__") ht.typeIs PyProof.Rows.slot_tuple_getitem
    (wpAny_call_entry PyProof.Rows.slot_tuple_getitem ht.typeIs entry_tuple_getitem ?_ (args_tuple_getitem _ _)))
  show wpAny _ _ (Builtin.Tuple.tupleItemsOf (.ref t) >>= _) _ _ s
  refine wpAny_bind (tupleItemsOf_ ht ?_)
  refine wpAny_bind (wpAny_typeOf hTs ?_)
  rw [if_pos (by decide)]
  refine wpAny_bind (sliceApplied_gen hs pl pu ?_)
  have hyes : (((sIx items.size 0 lo : Nat) : Int) == 0 && (1 : Int) == 1 && (sIx items.size items.size hi - sIx items.size 0 lo) == items.size) = true := by
    rw [hw.1, hw.2]
    simp
  show wpAny _ _ (if (((sIx items.size 0 lo : Nat) : Int) == 0 && (1 : Int) == 1 && (sIx items.size items.size hi - sIx items.size 0 lo) == items.size) = true then _ else _) _ _ s
  rw [if_pos hyes]
  show wpAny _ _ (Builtin.Tuple.tupleIsExact (.ref t) >>= _) _ _ s
  unfold Builtin.Tuple.tupleIsExact
  refine wpAny_bind (wpAny_bind (wpAny_typeOf ht.typeIs (wpAny_pure ?_)))
  rw [if_pos (by decide)]
  wp_walk
  first
    | exact ⟨_, rfl, wpAny_pure h⟩
    | exact wpAny_pure ⟨_, rfl, wpAny_pure h⟩
end
end HT
namespace L2
open PySem PySem.Spec PyProof.Rows
noncomputable def rSlH : V → Option Int → Option Int → Hp → VK → Prop := fun x lo hi H Q => ∃ (a : Addr) (xs : List V), x = .ref a ∧ H a = some (.tup xs) ∧ ∀ (p : Addr) (H' : Hp), Same H H' → H' p = some (.tup (cutV xs lo hi)) → Q (.ref p) H'
theorem sl_tupH {X : Cx} : SlR X rSlH := by
  intro pins s σ H x v vl vu lo hi sl Q I rx hs pl pu h
  obtain ⟨a, xs, rfl, ha, q⟩ := h
  by_cases c : HT.sIx xs.length 0 lo = 0 ∧ HT.sIx xs.length xs.length hi = xs.length
  · cases rx
    obtain ⟨its, r, ht, hz⟩ := I.tuple (SqT.of ha)
    have hlen : its.toArray.size = xs.length := by rw [List.size_toArray]; exact r.length.symm
    refine ⟨"tuple", _, PyProof.Rows.slot_tuple_getitem.lookup, ht.typeIs, ?_⟩
    refine HT.getItem_tuple_all ht hs pl pu (by rw [hlen]; exact c) ⟨.ref a, H, I, rfl, q a H (Same.refl _) ?_⟩
    have : cutV xs lo hi = xs := by
      unfold cutV
      rw [c.1, c.2]
      simp
    rw [this]
    exact ha
  · exact sl_tup pins s σ H (.ref a) v vl vu lo hi sl Q I rx hs pl pu ⟨a, xs, rfl, SqT.of ha, c, fun p hp => q p _ (same_new hp _) upd_same⟩
end L2

set_option Elab.async false
set_option linter.all false
set_option maxRecDepth 100000
set_option maxHeartbeats 4000000
namespace L2
open PySem PySem.Spec PyProof.Rows

end L2

set_option Elab.async false
set_option linter.all false
set_option maxRecDepth 100000
set_option maxHeartbeats 4000000
namespace L2
open PySem PySem.Spec PyProof.Rows
end L2

set_option Elab.async false
set_option linter.all false
set_option maxRecDepth 100000
set_option maxHeartbeats 4000000
namespace L2
open PySem PySem.Spec PyProof.Rows
inductive Tw where
  | n (i : Int)
  | v (z : Str)
  | c (z : Str) (sp : List (Str × Int))
  | j (z : Str) (l r : Tw)
noncomputable def nS (i : Int) : Str := Str.ofString (toString i)
noncomputable def spS (s : Str × Int) : Str := if s.1 = "" then nS s.2 else if s.2 = 0 then s.1 else if 0 < s.2 then s.1 ++ "+" ++ nS s.2 else s.1 ++ nS s.2
noncomputable def boxS (s : Str × Int) : Str := "[" ++ spS s ++ "]"
noncomputable def celS (z : Str) (sp : List (Str × Int)) : Str := z ++ Txt.join "" (sp.map boxS)
noncomputable def brkS (b : Bool) (x : Str) : Str := if b = true then "(" ++ x ++ ")" else x
noncomputable def hz (z : Str) : Nat := if z = "*" then 2 else 1
namespace Tw
noncomputable def hld : Tw → Nat
  | .j z _ _ => hz z
  | _ => 3
noncomputable def wr : Tw → Str
  | .n i => nS i
  | .v z => z
  | .c z sp => celS z sp
  | .j z l r => brkS (decide (hld l < hz z)) (wr l) ++ z ++ brkS (decide (hld r ≤ hz z)) (wr r)
end Tw
noncomputable def SpoAt (H : Hp) (x : V) (s : Str × Int) : Prop := ∃ t, x = .ref t ∧ H t = some (.tup [.str s.1, .int s.2])
theorem SpoAt.tk {H H' : Hp} {x : V} {s : Str × Int} (k : TK H H') (h : SpoAt H x s) : SpoAt H' x s := let ⟨t, e, h⟩ := h; ⟨t, e, k _ _ h⟩
end L2
namespace L2
open PySem
end L2
namespace L2
open PySem
end L2
namespace L2
open PySem
end L2
namespace L2
open PySem
end L2

set_option Elab.async false
set_option linter.all false
set_option maxRecDepth 100000
set_option maxHeartbeats 4000000
namespace L2
open PySem PySem.Spec PyProof.Rows
section
variable {prog : Program} {w : World} {A : Around} {E : Value → Shared → Prop} {s : Shared}
theorem wpAny_loadIfAlive {M : Model} {a : Addr} {Q : Option Obj → Shared → Prop} (h : Q (s.heap.get? a) s) : wpAny M A (loadIfAlive a) Q E s := fun Γ p _ => by
  unfold loadIfAlive
  rw [Sem.wp_loadIfAlive]
  exact h
noncomputable abbrev IsZipO (h : Heap) (z TI TO T : Addr) (f1 : Bool) : Prop :=
  h.get? z = some { cls := .type "zip", dict := none, data := .fields #[rawInt T, .bool f1, .bool false, .ref TI, .ref TO], slots := #[] }
theorem free_out {z TI TO T0 : Addr} {f1 : Bool} {Q : Bool → Shared → Prop} (hz : IsZipO s.heap z TI TO T0 f1) (hT : ∃ o, s.heap.get? T0 = some o) (q : ∀ hA, IsZipO hA z TI TO T0 true → Heap.SameBut z s.heap hA → Q false { s with heap := hA }) :
    wpAny (model prog w) A (Builtin.SmallTypes.ownedTupleIsFree (.ref z)) Q E s := by
  unfold Builtin.SmallTypes.ownedTupleIsFree
  apply wpAny_bind
  apply wpAny_field hz rfl (x := rawInt T0) rfl
  obtain ⟨oT, hT⟩ := hT
  show wpAny _ _ (loadIfAlive ((T0 : Int)).toNat >>= _) _ _ _
  apply wpAny_bind
  refine wpAny_loadIfAlive ?_
  rw [Int.toNat_natCast, hT]
  simp only [Option.isNone_some, Bool.false_eq_true, if_false]
  apply wpAny_bind
  apply wpAny_field hz rfl (x := .bool f1) rfl
  cases f1 with
  | true =>
    rw [if_neg (by decide)]
    apply wpAny_pure
    exact q _ hz ⟨rfl, fun _ _ => rfl⟩
  | false =>
    rw [if_pos (by decide)]
    apply wpAny_bind
    apply wpAny_setField_rec hz (by simp)
    intro hA zA bA
    apply wpAny_pure
    exact q hA zA bA
theorem zip_drawO {z TI TO i1 i2 T0 : Addr} {f1 : Bool} {f g : List Addr} {m n k : Nat} {P R : Nat → Value → Prop} {S T : Nat → Heap → Prop} (Z : ZA z TI TO i1 i2 f g) (D1 : Draws prog w A i1 f m P S) (D2 : Draws prog w A i2 g n R T) {Q : Value → Shared → Prop}
    (hz : IsZipO s.heap z TI TO T0 f1) (hI : IsPair s.heap TI (.ref i1) (.ref i2)) (hT : ∃ o, s.heap.get? T0 = some o) (s1 : S k s.heap) (s2 : T k s.heap) (le1 : k ≤ m) (le2 : k ≤ n)
    (q : k < m → k < n → ∀ x y h' tk, P k x → R k y → IsZipO h' z TI TO T0 true → S (k + 1) h' → T (k + 1) h' → IsPair h' s.heap.objs.size x y →
      (∀ c o, c ≠ z → c ≠ i1 → c ≠ i2 → s.heap.get? c = some o → h'.get? c = some o) → Q (.ref s.heap.objs.size) { s with heap := h', toks := tk })
    (qe : (k = m ∨ k = n) → ∀ h' e tk, (∀ c o, c ≠ z → c ≠ i1 → c ≠ i2 → s.heap.get? c = some o → h'.get? c = some o) → (∃ o, h'.get? e = some o ∧ o.cls = .type "StopIteration") → E (.ref e) { s with heap := h', toks := tk }) :
    wpAny (model prog w) A (Builtin.«zip.__next__» ⟨[.ref z], []⟩) (fun fin s' => ∃ v, fin = .done (.ret v) ∧ Q v s') E s := by
  change wpAny _ _ (field (.ref z) 2 >>= _) _ _ _
  apply wpAny_bind
  apply wpAny_field hz rfl (x := .bool false) rfl
  change wpAny _ _ (field (.ref z) 3 >>= _) _ _ _
  apply wpAny_bind
  apply wpAny_field hz rfl (x := .ref TI) rfl
  apply wpAny_bind
  apply wpAny_seqItems hI rfl
  change wpAny _ _ (Builtin.SmallTypes.ownedTupleIsFree (.ref z) >>= _) _ _ _
  apply wpAny_bind
  refine free_out hz hT fun hA zA bA => ?_
  simp only [Bool.false_eq_true, if_false]
  have sA := mv D1 s1 bA.extBut Z.zf
  have tA := mv D2 s2 bA.extBut Z.zg
  apply wpAny_bind
  simp only [List.forIn_toArray, List.forIn_cons, List.forIn_nil]
  apply wpAny_bind
  apply wpAny_bind
  apply wpAny_holding
  change wpAny _ _ (Builtin.SmallTypes.nextOf (.ref i1) >>= _) _ _ _
  apply wpAny_bind
  rcases Nat.lt_or_eq_of_le le1 with l1 | rfl
  rotate_left
  · apply D1.done _ _ _ sA
    rintro h' e kp ⟨o, ge, ce⟩
    exact qe (.inl rfl) h' e s.toks (fun c o c1 c3 _ x => kp _ _ c3 (bA.extBut _ _ c1 x)) ⟨o, ge, ce⟩
  apply D1.item k _ _ _ l1 sA
  intro x hB t1 px sB bB
  apply wpAny_pure
  have zB : IsZipO hB z TI TO T0 true := bB.extBut _ _ Z.az.symm zA
  have tB := mv D2 tA bB.extBut Z.ng
  apply wpAny_pure
  apply wpAny_bind
  apply wpAny_bind
  apply wpAny_holding
  change wpAny _ _ (Builtin.SmallTypes.nextOf (.ref i2) >>= _) _ _ _
  apply wpAny_bind
  have upB : ∀ c o, c ≠ z → c ≠ i1 → s.heap.get? c = some o → hB.get? c = some o := fun c o c1 c3 e => bB.extBut _ _ c3 (bA.extBut _ _ c1 e)
  rcases Nat.lt_or_eq_of_le le2 with l2 | rfl
  rotate_left
  · apply D2.done _ _ _ tB
    rintro h' e kp ⟨o, ge, ce⟩
    exact qe (.inr rfl) h' e t1 (fun c o c1 c3 c4 x => kp _ _ c4 (upB c o c1 c3 x)) ⟨o, ge, ce⟩
  apply D2.item k _ _ _ l2 tB
  intro y hD t2 py tD bD
  apply wpAny_pure
  have zD : IsZipO hD z TI TO T0 true := bD.extBut _ _ Z.bz.symm zB
  have sD := mv D1 sB bD.extBut Z.nf
  have upD : ∀ c o, c ≠ z → c ≠ i1 → c ≠ i2 → s.heap.get? c = some o → hD.get? c = some o := fun c o c1 c3 c4 e => bD.extBut _ _ c4 (upB c o c1 c3 e)
  have sz : hD.objs.size = s.heap.objs.size := by rw [bD.1, bB.1, bA.1]
  apply wpAny_pure
  apply wpAny_pure
  apply wpAny_bind
  refine wpAny_newTuple ?_ (szl (by show 2 ≤ 1000000; decide))
  apply wpAny_pure
  refine ⟨_, rfl, ?_⟩
  have far : ∀ c o, hD.get? c = some o → (hD.push { cls := .type "tuple", data := .seq #[x, y] }).get? c = some o := fun c o e => Heap.get?_push_of_some _ e
  have := q l1 l2 x y (hD.push { cls := .type "tuple", data := .seq #[x, y] }) t2 px py (far _ _ zD) (D1.frame _ _ _ sD fun c _ o e => far _ _ e) (D2.frame _ _ _ tD fun c _ o e => far _ _ e) (by rw [← sz]; exact Heap.get?_push_size _ rfl) fun c o c1 c3 c4 e => far _ _ (upD c o c1 c3 c4 e)
  rw [← sz] at this
  exact this
noncomputable def ZS (h : Heap) (z TI TO : Addr) : Prop := (IsZip h z TI TO .none ∧ ∃ p q, IsPair h TO p q) ∨ ∃ T0 f1, IsZipO h z TI TO T0 f1 ∧ ∃ o, h.get? T0 = some o
theorem zip_nextS {z TI TO i1 i2 : Addr} {f g : List Addr} {m n k : Nat} {P R : Nat → Value → Prop} {S T : Nat → Heap → Prop} (Z : ZA z TI TO i1 i2 f g) (D1 : Draws prog w A.in1 i1 f m P S) (D2 : Draws prog w A.in1 i2 g n R T) {Q : Option Value → Shared → Prop}
    (hz : ZS s.heap z TI TO) (hI : IsPair s.heap TI (.ref i1) (.ref i2)) (s1 : S k s.heap) (s2 : T k s.heap) (le1 : k ≤ m) (le2 : k ≤ n)
    (q : k < m → k < n → ∀ x y h' tk, P k x → R k y → ZS h' z TI TO → IsPair h' TI (.ref i1) (.ref i2) → S (k + 1) h' → T (k + 1) h' → IsPair h' s.heap.objs.size x y →
      (∀ c o, c ≠ z → c ≠ TO → c ≠ i1 → c ≠ i2 → s.heap.get? c = some o → h'.get? c = some o) → Q (some (.ref s.heap.objs.size)) { s with heap := h', toks := tk })
    (qe : (k = m ∨ k = n) → ∀ h' tk, (∀ c o, c ≠ z → c ≠ TO → c ≠ i1 → c ≠ i2 → s.heap.get? c = some o → h'.get? c = some o) → Q none { s with heap := h', toks := tk }) :
    wpAny (model prog w) A (pyNext (.ref z)) Q E s := by
  rcases hz with ⟨hz, p0, q0, hO⟩ | ⟨T0, f1, hz, hT⟩
  · refine zip_on Z D1 D2 hz hI hO s1 s2 le1 le2 (fun l1 l2 x y h' tk px py z' o' s' t' pr kp => q l1 l2 x y h' tk px py (.inr ⟨s.heap.objs.size, false, z', _, pr⟩) (kp TI _ Z.Iz Z.IO Z.Ia Z.Ib hI) s' t' pr kp) qe
  · have ty : s.TypeIs (.ref z) "zip" := ⟨_, hz, rfl⟩
    unfold pyNext
    apply wpAny_bind
    apply wpAny_attempt
    apply wpAny_callSpecial?_slot (name := Str.ofString "__next__") ty F.slot_zip_next
    refine wpAny_call_entry F.slot_zip_next ty F.entry_zip_next (zip_drawO Z D1 D2 hz hI hT s1 s2 le1 le2 ?_ ?_) (F.args_zip_next_1 _)
    · intro l1 l2 x y h' tk a1 a2 a3 a4 a5 a6 a7
      obtain ⟨oT, hT⟩ := hT
      have nT : ∀ c, c = z ∨ c = i1 ∨ c = i2 → ∃ o, h'.get? c = some o := fun c hc => by
        rcases hc with rfl | rfl | rfl
        · exact ⟨_, a3⟩
        · exact D1.live _ _ a4
        · exact D2.live _ _ a5
      have hT' : ∃ o, h'.get? T0 = some o := by
        by_cases c1 : T0 = z
        · exact nT T0 (.inl c1)
        · by_cases c2 : T0 = i1
          · exact nT T0 (.inr (.inl c2))
          · by_cases c3 : T0 = i2
            · exact nT T0 (.inr (.inr c3))
            · exact ⟨oT, a7 T0 oT c1 c2 c3 hT⟩
      exact wpAny_pure (q l1 l2 x y h' tk a1 a2 (.inr ⟨T0, true, a3, hT'⟩) (a7 TI _ Z.Iz Z.Ia Z.Ib hI) a4 a5 a6 (fun c o c1 _ c3 c4 e => a7 c o c1 c3 c4 e))
    · rintro l h' e tk kp ⟨o, ge, ce⟩
      exact wpAny_bind (wpAny_isInstance (T := "StopIteration") (b := true) ⟨o, ge, ce⟩ isSubtype_stop (wpAny_pure (qe l h' tk fun c o c1 _ c3 c4 e => kp c o c1 c3 c4 e)))
noncomputable def stos {K : Type} [DecidableEq K] (ks : Nat → K) (vs : Nat → Value) : List (K × Value) → Nat → Nat → List (K × Value)
  | kvs, 0, _ => kvs
  | kvs, j + 1, i => stos ks vs (stored kvs (ks i) (vs i)) j (i + 1)
theorem entry_dul : entryFor table "dict.update.loop" = some Builtin.«dict.update.loop» := entryFor_of_tree (by kernel_rfl)
theorem plain_dul : plainId "dict.update.loop" = true := by decide +kernel
theorem stored_le {K : Type} [DecidableEq K] (kvs : List (K × Value)) (k : K) (v : Value) : (stored kvs k v).length ≤ kvs.length + 1 := stored_length_le kvs k v
theorem entry_zip_ga : entryFor table "zip.__getattribute__" = some Builtin.«object.__getattribute__» :=
  entryFor_alias (id' := "object.__getattribute__") (by kernel_rfl) (by first | rfl | decide +kernel) (by decide +kernel) (by kernel_rfl)
theorem lk_zip_keys : typeLookup (.type "zip") "keys" = pure none := by rw [typeLookup_type, builtinLookup_eq_fast]; kernel_rfl
theorem lk_zip_getattr : typeLookup (.type "zip") "__getattr__" = pure none := by rw [typeLookup_type, builtinLookup_eq_fast]; kernel_rfl
theorem zip_no_keys {z : Addr} {vs : Array Value} {tk : Tok} {h : Heap} {g : Array GenState} {d : Drawn} {t : Nat} {os : OsState} {RR : Result → Shared → Prop} (hx : h.get? z = some { cls := .type "zip", dict := none, data := .fields vs, slots := #[] }) (hh : A.in1.handled = none)
    (q : ∀ h' tk e, Heap.NewAttrErr h h' e (.ref z) "keys" → RR (.error (.ref e)) ⟨h', g, d, tk, os⟩) :
    codeAny (model prog w) A (.call (.builtin "zip.__getattribute__") ⟨[.ref z, .str "keys" tk], []⟩) RR ⟨h, g, d, t, os⟩ := by
  have hT : (⟨h, g, d, t, os⟩ : Shared).TypeIs (.ref z) "zip" := ⟨_, hx, rfl⟩
  refine codeAny_call_builtin F.slot_zip_getattribute.plain entry_zip_ga (F.slot_zip_getattribute.check _ _ _ _ _ _ _ _ hT (F.args_zip_getattribute_2 _ _) ?_)
  have f4 := lk_zip_keys
  unfold Builtin.«object.__getattribute__»
  repeat (any_goals (first | assumption | wp_step))
  exact wpAny_raiseAttrError hh q (attrMsg_fits (by decide +kernel) (by size_fits))
end
end L2

set_option Elab.async false
set_option linter.all false
set_option maxRecDepth 100000
set_option maxHeartbeats 4000000
namespace L2
open PySem PySem.Spec PyProof.Rows
section
variable {prog : Program} {w : World} {A : Around} {E : Value → Shared → Prop} {s : Shared}
theorem zip_keys {z : Addr} {vs : Array Value} {Q : Option Value → Shared → Prop} (hx : s.heap.get? z = some { cls := .type "zip", dict := none, data := .fields vs, slots := #[] }) (hh : A.handled = none)
    (q : ∀ h' tk, (∀ b o, s.heap.get? b = some o → h'.get? b = some o) → Q none { s with heap := h', toks := tk }) : wpAny (model prog w) A (getAttr? (.ref z) "keys") Q E s := by
  obtain ⟨h, g, d, t, os⟩ := s
  have hT : ∀ t', (⟨h, g, d, t', os⟩ : Shared).TypeIs (.ref z) "zip" := fun t' => ⟨_, hx, rfl⟩
  have f2 := F.slot_zip_getattribute.lookup
  have f3 := F.slot_zip_getattribute.bind (.ref z)
  have f5 := lk_zip_getattr
  have f1 := sub_AttributeError
  unfold getAttr? getAttrBy? getAttrBy
  repeat (any_goals (first | assumption | with_reducible exact hT _ | wp_step))
  refine zip_no_keys hx hh fun h' tk e ne => ?_
  obtain ⟨t', u', he⟩ := ne.there
  show wpAny _ _ (getattributeRaised _ _ _ _ _ _ _) _ _ _
  unfold getattributeRaised
  repeat (any_goals (first | assumption | wp_step))
  exact q h' _ ne.keeps
end
end L2

set_option Elab.async false
set_option linter.all false
set_option maxRecDepth 100000
set_option maxHeartbeats 4000000
namespace L2
open PySem PySem.Spec PyProof.Rows
noncomputable def putZ : List (Key × V) → List Key → List V → List (Key × V)
  | kvs, k :: ks, y :: ys => putZ (putK kvs k y) ks ys
  | kvs, _, _ => kvs
theorem putZ_len : ∀ (kvs : List (Key × V)) (ks : List Key) (ys : List V), (putZ kvs ks ys).length ≤ kvs.length + ks.length
  | kvs, k :: ks, y :: ys => by
    have h1 := putZ_len (putK kvs k y) ks ys
    have h2 := length_putK kvs k y
    show (putZ (putK kvs k y) ks ys).length ≤ kvs.length + (ks.length + 1)
    omega
  | kvs, [], ys => by unfold putZ; exact Nat.le_add_right _ _
  | kvs, k :: ks, [] => by unfold putZ; exact Nat.le_add_right _ _
end L2

set_option Elab.async false
set_option linter.all false
set_option maxRecDepth 100000
set_option maxHeartbeats 4000000
namespace L2
open PySem PySem.Spec PyProof.Rows
section
variable {prog : Program} {w : World} {A : Around} {E : Value → Shared → Prop} {s : Shared}
end
end L2

set_option Elab.async false
set_option linter.all false
set_option maxRecDepth 100000
set_option maxHeartbeats 4000000
namespace L2
open PySem PySem.Spec PyProof.Rows
end L2

set_option Elab.async false
set_option linter.all false
set_option maxRecDepth 100000
set_option maxHeartbeats 4000000
namespace L2
open PySem PySem.Spec PyProof.Rows
end L2

set_option Elab.async false
set_option linter.all false
set_option maxRecDepth 100000
set_option maxHeartbeats 4000000
namespace L2
open PySem PySem.Spec PyProof.Rows
noncomputable def kvOf (kn : List (Str × Int)) : List (Key × V) := kn.map fun p => (Sum.inr p.1, V.int p.2)
noncomputable def lkN (kn : List (Str × Int)) (z : Str) : Int := match kn.find? fun p => decide (p.1 = z) with
  | some p => p.2
  | none => 0
noncomputable def stW (kn : List (Str × Int)) (s : Str × Int) : Int := if s.1 = "" then s.2 else lkN kn s.1 + s.2
theorem kv_get {kn : List (Str × Int)} {z : Str} (h : z ∈ kn.map (·.1)) : valV (kvOf kn) (Sum.inr z) = some (.int (lkN kn z)) := by
  induction kn with
  | nil => cases h
  | cons p kn ih =>
    by_cases e : p.1 = z
    · have l : lkN (p :: kn) z = p.2 := by unfold lkN; rw [List.find?_cons_of_pos (by simpa using e)]
      rw [l]
      exact valV_pos (κ := Key) (p := (Sum.inr p.1, V.int p.2)) (r := kvOf kn) (congrArg Sum.inr e)
    · have l : lkN (p :: kn) z = lkN kn z := by unfold lkN; rw [List.find?_cons_of_neg (by simpa using e)]
      have h' : z ∈ kn.map (·.1) := by
        rcases List.mem_cons.mp h with c | c
        · exact absurd c.symm e
        · exact c
      rw [l, ← ih h']
      unfold valV kvOf
      rw [List.map_cons, List.find?_cons_of_neg (by simpa using e)]
theorem kv_none {kn : List (Str × Int)} {z : Str} (h : z ∉ kn.map (·.1)) : valV (kvOf kn) (Sum.inr z) = none := by
  unfold valV kvOf
  rw [Option.map_eq_none_iff, List.find?_eq_none]
  intro x hx
  obtain ⟨p, hp, rfl⟩ := List.mem_map.mp hx
  have : p.1 ≠ z := fun e => h (e ▸ List.mem_map.mpr ⟨p, hp, rfl⟩)
  simpa using this
noncomputable def spStood14 : Sp := fun vs H Q _ => ∃ (x : V) (d : Addr) (s : Str × Int) (kn : List (Str × Int)), vs = [x, .ref d] ∧ SpoAt H x s ∧ H d = some (.dK (kvOf kn)) ∧ (s.1 = "" ∨ s.1 ∈ kn.map (·.1)) ∧ Q (.int (stW kn s)) H
noncomputable def spPlaced14 : Sp := fun vs H Q _ => ∃ (t d : Addr) (xs : List V) (sp : List (Str × Int)) (kn : List (Str × Int)), vs = [.ref t, .ref d] ∧ H t = some (.tup xs) ∧ All2 (SpoAt H) xs sp ∧ H d = some (.dK (kvOf kn)) ∧ (∀ s ∈ sp, s.1 = "" ∨ s.1 ∈ kn.map (·.1)) ∧ sp.length ≤ 10 ∧ ∀ (r : Addr) (H' : Hp), Same H H' → H' r = some (.tup ((sp.map (stW kn)).map V.int)) → Q (.ref r) H'
end L2

set_option Elab.async false
set_option linter.all false
set_option maxRecDepth 100000
set_option maxHeartbeats 4000000
namespace L2
open PySem PySem.Spec PyProof.Rows
section
variable {prog : Program} {w : World} {A : Around} {E : Value → Shared → Prop} {s : Shared}
theorem code_update_zipU {d z TI TO i1 i2 : Addr} {f g : List Addr} {m n : Nat} (mn : n ≤ m) {P R : Nat → Value → Prop} {S T : Nat → Heap → Prop} {ks : Nat → Key} {vs : Nat → Value} {RR : Result → Shared → Prop} (Z : ZA z TI TO i1 i2 f g) (D1 : Draws prog w A.in1.in1 i1 f m P S) (D2 : Draws prog w A.in1.in1 i2 g n R T)
    (nd : d ≠ z ∧ d ≠ TI ∧ d ≠ TO ∧ d ≠ i1 ∧ d ≠ i2 ∧ d ∉ f ∧ d ∉ g) (hP : ∀ i x, P i x → (mixKind prog w).is (ks i) x = true) (hR : ∀ i y, R i y → y = vs i) : ∀ (j i : Nat) (s : Shared) (kvs : List (Key × Value)), n - i = j → i ≤ n → ZS s.heap z TI TO → IsPair s.heap TI (.ref i1) (.ref i2) → S i s.heap → T i s.heap → s.heap.DictOf (mixKind prog w) d kvs → kvs.length + j ≤ sizeLine →
    (∀ h' tk, h'.DictOf (mixKind prog w) d (stos ks vs kvs j i) → (∀ c o, c ≠ d → c ≠ z → c ≠ TO → c ≠ i1 → c ≠ i2 → s.heap.get? c = some o → h'.get? c = some o) → RR (.ok (.ret .none)) { s with heap := h', toks := tk }) →
    codeAny (model prog w) A (.builtin "dict.update.loop" ⟨[.ref d, .ref z, rawInt (i : Int), .none], []⟩) RR s := by
  intro j
  induction j with
  | zero =>
    intro i s kvs hj hi hz hI s1 s2 dd hl q
    have hin : i = n := by omega
    subst hin
    refine codeAny_builtin entry_dul ?_
    rw [Around.under_plainId plain_dul _]
    show wpAny _ A.in1 (pyNext (.ref z) >>= _) _ _ s
    refine wpAny_bind (zip_nextS Z D1 D2 hz hI s1 s2 mn (Nat.le_refl _) (fun _ l => absurd l (Nat.lt_irrefl _)) fun _ h' tk kp => ?_)
    show wpAny _ _ (Builtin.Dict.addKeywords d [] >>= fun _ => ret Value.none) _ _ _
    obtain ⟨o, es, ep, ho, r⟩ := dd
    exact wpAny_bind (wpAny_pure (wpAny_pure (q h' tk ⟨o, es, ep, kp d o nd.1 nd.2.2.1 nd.2.2.2.1 nd.2.2.2.2.1 ho, r⟩ fun c o _ c1 c2 c3 c4 e => kp c o c1 c2 c3 c4 e)))
  | succ j ih =>
    intro i s kvs hj hi hz hI s1 s2 dd hl q
    have hlt : i < n := by omega
    refine codeAny_builtin entry_dul ?_
    rw [Around.under_plainId plain_dul _]
    show wpAny _ A.in1 (pyNext (.ref z) >>= _) _ _ s
    refine wpAny_bind (zip_nextS Z D1 D2 hz hI s1 s2 (Nat.le_trans hi mn) hi (fun _ _ x y h' tk px py z' I' s1' s2' pr kp => ?_) fun e => absurd e (by omega))
    have dd' : h'.DictOf (mixKind prog w) d kvs := by
      obtain ⟨o, es, ep, ho, r⟩ := dd
      exact ⟨o, es, ep, kp d o nd.1 nd.2.2.1 nd.2.2.2.1 nd.2.2.2.2.1 ho, r⟩
    refine wpAny_bind (wpAny_holding (wpAny_bind (wpAny_tryCatch ?_)))
    unfold Builtin.Dict.pairItems
    refine wpAny_bind (wpAny_typeOf (T := "tuple") ⟨_, pr, rfl⟩ ?_)
    rw [if_pos (by decide)]
    refine wpAny_bind (wpAny_seqItems pr rfl ?_)
    refine wpAny_pure ?_
    refine wpAny_holding (wpAny_dictSet_pairs (hP i x px) dd' (fun h2 dd2 hs => ?_) (by omega))
    refine wpAny_pure ⟨plainId_quiet plain_dul _, ?_⟩
    have ev := hR i y py
    subst ev
    have k2 : ∀ c o, c ≠ d → h'.get? c = some o → h2.get? c = some o := fun c o hc e => (hs.2 c hc).trans e
    have zz : ZS h2 z TI TO := by
      rcases z' with ⟨a, p, q, b⟩ | ⟨T0, f1, a, o, b⟩
      · exact .inl ⟨k2 _ _ nd.1.symm a, p, q, k2 _ _ nd.2.2.1.symm b⟩
      · refine .inr ⟨T0, f1, k2 _ _ nd.1.symm a, ?_⟩
        by_cases c : T0 = d
        · subst c
          obtain ⟨o2, _, _, ho2, _⟩ := dd2
          exact ⟨o2, ho2⟩
        · exact ⟨o, k2 _ _ c b⟩
    have sl := stored_le kvs (ks i) (vs i)
    refine ih (i + 1) { s with heap := h2, toks := tk + 1 } (stored kvs (ks i) (vs i)) (by omega) hlt zz (k2 _ _ nd.2.1.symm I') (D1.frame _ _ _ s1' fun c hc o e => k2 c o (fun z => nd.2.2.2.2.2.1 (z ▸ hc)) e) (D2.frame _ _ _ s2' fun c hc o e => k2 c o (fun z => nd.2.2.2.2.2.2 (z ▸ hc)) e) dd2 (by omega) fun h3 t3 dd3 kp3 => ?_
    exact q h3 t3 dd3 fun c o c0 c1 c2 c3 c4 e => kp3 c o c0 c1 c2 c3 c4 (k2 c o c0 (kp c o c1 c2 c3 c4 e))
theorem call_dict_zipU {z TI TO i1 i2 : Addr} {f g : List Addr} {m n : Nat} (mn : n ≤ m) {P R : Nat → Value → Prop} {S T : Nat → Heap → Prop} {ks : Nat → Key} {vs : Nat → Value} {Q : Value → Shared → Prop} (hh : A.handled = none) (Z : ZA z TI TO i1 i2 f g) (D1 : Draws prog w A.in1.in1.in1 i1 f m P S) (D2 : Draws prog w A.in1.in1.in1 i2 g n R T)
    (hP : ∀ i x, P i x → (mixKind prog w).is (ks i) x = true) (hR : ∀ i y, R i y → y = vs i) (hz : IsZip s.heap z TI TO .none) (hO : ∃ p q, IsPair s.heap TO p q) (hI : IsPair s.heap TI (.ref i1) (.ref i2)) (s1 : S 0 s.heap) (s2 : T 0 s.heap) (hf : ∀ c ∈ f, c < s.heap.objs.size) (hg : ∀ c ∈ g, c < s.heap.objs.size) (hn : n ≤ sizeLine)
    (q : ∀ h' tk, h'.DictOf (mixKind prog w) s.heap.objs.size (stos ks vs [] n 0) → (∀ c o, c ≠ z → c ≠ TO → c ≠ i1 → c ≠ i2 → s.heap.get? c = some o → h'.get? c = some o) → Q (.ref s.heap.objs.size) { s with heap := h', toks := tk }) :
    wpAny (model prog w) A (call (.type "dict") [.ref z]) Q E s := by
  refine callType_codes (Q₁ := fun obj s₁ => obj = .ref s.heap.objs.size ∧ s₁ = { s with heap := s.heap.push { cls := .type "dict", data := .dict #[] } }) F.kt_called_dict (F.kt_typeCall_dict_1 _) F.entry_dict_init (kt_code_dict_new _ ⟨rfl, rfl⟩) ?_
  rintro obj s₁ ⟨rfl, rfl⟩
  have hnew : (s.heap.push { cls := .type "dict", data := .dict #[] }).DictOf (mixKind prog w) s.heap.objs.size [] := Heap.DictOf.new s.heap
  have up : ∀ c o, s.heap.get? c = some o → (s.heap.push { cls := .type "dict", data := .dict #[] }).get? c = some o := fun c o e => Heap.get?_push_of_some _ e
  refine ⟨hnew.typeIs, F.args_dict_init_2 _ _, ?_⟩
  unfold Builtin.«dict.__init__»
  refine wpAny_bind ?_
  unfold Builtin.Dict.selfAndRest
  refine wpAny_bind (wpAny_notOrdered_dict hnew.typeIs ?_)
  show wpAny _ _ (pure (s.heap.objs.size, [Value.ref z])) _ _ _
  refine wpAny_pure ?_
  show wpAny _ _ (Builtin.Dict.updateFrom "dict.__init__" s.heap.objs.size (.ref z) [] .none) _ _ _
  unfold Builtin.Dict.updateFrom
  refine wpAny_bind (wpAny_typeOf (T := "zip") ⟨_, up _ _ hz, rfl⟩ ?_)
  rw [if_pos (by decide)]
  refine wpAny_bind (zip_keys (up _ _ hz) hh fun h1 t1 k1 => ?_)
  simp only [Option.isNone_none, if_true]
  refine wpAny_bind (wpAny_rule ?_)
  refine wpAny_bind (wpAny_pyIter_zip (k1 _ _ (up _ _ hz)) ?_)
  have k2 : ∀ c o, s.heap.get? c = some o → h1.get? c = some o := fun c o e => k1 c o (up c o e)
  have dd : h1.DictOf (mixKind prog w) s.heap.objs.size [] := by
    obtain ⟨o, es, ep, ho, r⟩ := hnew
    exact ⟨o, es, ep, k1 _ _ ho, r⟩
  obtain ⟨p0, q0, hO⟩ := hO
  have ltz := Heap.lt_size hz
  have ltO := Heap.lt_size hO
  have ltI := Heap.lt_size hI
  have lt1 : i1 < s.heap.objs.size := let ⟨_, e⟩ := D1.live _ _ s1; Heap.lt_size e
  have lt2 : i2 < s.heap.objs.size := let ⟨_, e⟩ := D2.live _ _ s2; Heap.lt_size e
  refine wpAny_pure ⟨plainId_quiet plain_dul _, code_update_zipU (n := n) mn Z D1 D2 ⟨Nat.ne_of_gt ltz, Nat.ne_of_gt ltI, Nat.ne_of_gt ltO, Nat.ne_of_gt lt1, Nat.ne_of_gt lt2, fun h => absurd (hf _ h) (Nat.lt_irrefl _), fun h => absurd (hg _ h) (Nat.lt_irrefl _)⟩ hP hR n 0 _ [] (Nat.sub_zero n) (Nat.zero_le _) (.inl ⟨k2 _ _ hz, p0, q0, k2 _ _ hO⟩) (k2 _ _ hI) (D1.frame _ _ _ s1 fun c _ o e => k2 c o e) (D2.frame _ _ _ s2 fun c _ o e => k2 c o e) dd (by simpa using hn) fun h3 t3 dd3 kp3 => ?_⟩
  exact ⟨rfl, q h3 t3 dd3 fun c o c1 c2 c3 c4 e => kp3 c o (Nat.ne_of_lt (Heap.lt_size e)) c1 c2 c3 c4 (k2 c o e)⟩
end
theorem kv_stosU {ks : List Key} {ys : List V} {us : List Value} (hl : ys.length ≤ ks.length) (rv : Vals ys us) : ∀ (j i : Nat) (kvs : List (Key × V)) (ws : List (Key × Value)), KV kvs ws → i + j = ys.length → KV (putZ kvs (ks.drop i) (ys.drop i)) (stos (fun i => ks.getD i (.inl 0)) (fun i => us.getD i .none) ws j i)
  | 0, i, kvs, ws, h, e => by
    rw [List.drop_of_length_le (l := ys) (by omega)]
    have e : putZ kvs (ks.drop i) [] = kvs := by cases ks.drop i <;> rfl
    rw [e]
    exact h
  | j + 1, i, kvs, ws, h, e => by
    have li : i < ks.length := by omega
    have ly : i < ys.length := by omega
    obtain ⟨u, hu, ru⟩ := rv.get (List.getElem?_eq_getElem ly)
    rw [List.drop_eq_getElem_cons li, List.drop_eq_getElem_cons ly]
    have h2 := h.put ks[i] ru
    have ih := kv_stosU hl rv j (i + 1) _ _ h2 (by omega)
    show KV (putZ (putK kvs ks[i] ys[i]) (ks.drop (i + 1)) (ys.drop (i + 1))) (stos _ _ (stored ws (ks.getD i (.inl 0)) (us.getD i .none)) j (i + 1))
    have e1 : ks.getD i (.inl 0) = ks[i] := by rw [List.getD_eq_getElem?_getD, List.getElem?_eq_getElem li]; rfl
    have e2 : us.getD i .none = u := by rw [List.getD_eq_getElem?_getD, hu]; rfl
    rw [e1, e2]
    exact ih
noncomputable def tDictZu (K : PySem.W.Frag) (ta : TA) : TE := fun σ H Q => ta σ H fun vs H1 => ∃ (l1 l2 : Addr) (ks : List Key) (ys : List V), vs = [.ref l1, .ref l2] ∧ SqT K H1 l1 (ks.map kV) ∧ SqT K H1 l2 ys ∧ ys.length ≤ ks.length ∧ ∀ l, H1 l = none → Q (.ref l) (upd H1 l (.dK (putZ [] ks ys)))
theorem pe_dictzu {X : Cx} {a b : Expr} {ta : TA} {p p2 pos pos2 : Pos} (hcm : X.calm = true) (hgd : Gl X "dict") (hmd : X.mg "dict" = none) (hgz : Gl X "zip") (hmz : X.mg "zip" = none) (ha : PA X [a, b] ta)
    (hs : starEach [a, b] X.env = [(false, eval a X.env), (false, eval b X.env)] := by rfl) (hs2 : starEach [b] X.env = [(false, eval b X.env)] := by rfl)
    (hs3 : starEach [.Call (.Name "zip" p2) [a, b] [] pos2] X.env = [(false, eval (.Call (.Name "zip" p2) [a, b] [] pos2) X.env)] := by rfl) :
    PE X (.Call (.Name "dict" p) [.Call (.Name "zip" p2) [a, b] [] pos2] [] pos) (tDictZu X.K ta) := by
  intro pins s σ H Q I h
  refine wpAny_Call_Name_kw (ld_blt I hgd hmd bt_dict ?_ (by decide) (by decide))
  refine PyProof.Rows.callWith_type1 ?_ (by rw [hs3]; rfl) (by rfl)
  rw [hs3]
  refine Calls.spliced_cons ?_
  refine Call_ (ld_blt I hgz hmz boot_zip (PyProof.Rows.callWith_type1 (thn (ha pos2 pins s σ H _ I h) fun us s1 ⟨vs, H1, I1, r1, q1⟩ => ?_) (by rw [hs, hs2]) (by rw [hs2]; rfl)))
  obtain ⟨l1, l2, ks, ys, rfl, hq1, hq2, hlen, q⟩ := q1
  cases r1 with
  | cons r rr =>
    cases rr with
    | cons r' rr =>
      cases rr
      cases r
      cases r'
      obtain ⟨its1, rv1, p1, hz1⟩ := I1.tuple hq1
      obtain ⟨its2, rv2, p2, _⟩ := I1.tuple hq2
      have lt1 : l1 < s1.heap.objs.size := p1.lt
      have lt2 : l2 < s1.heap.objs.size := p2.lt
      refine callType_new F.called_zip (by decide) (F.typeCall_zip_2 _ _) (F.newCall_zip_2 _ _) (fun obj => F.args_object_init_3 obj _ _) F.entry_zip_new (zip_newT l1 l2 its1.toArray its2.toArray) ⟨p1, p2, fun h' hz hTI hTO h1 h2 hk => ⟨⟨_, hz, rfl⟩, ?_⟩⟩
      refine Calls.spliced_nil ?_
      have I2 : Inv X pins σ H1 { s1 with heap := h', toks := s1.toks } := I1.kept hk
      have fp : ∀ b, s1.heap.objs.size ≤ b → FpOk X pins H1 b := fun b hb => I1.fpOk hb (I1.hok.fresh hb)
      have Hn : ∀ b, s1.heap.objs.size ≤ b → H1 b = none := fun b hb => I1.hok.fresh hb
      have hh : X.A.handled = none := I1.ok.hd hcm
      clear I
      generalize hN : s1.heap.objs.size = N at hz hTI hTO h1 h2 lt1 lt2 fp Hn
      have d1 := drawsT (prog := X.prog) (w := X.w) (A := X.A.in1.in1.in1) hh N l1 (Nat.ne_of_lt lt1) its1.toArray
      have d2 := drawsT (prog := X.prog) (w := X.w) (A := X.A.in1.in1.in1) hh (N + 1) l2 (Nat.ne_of_lt (Nat.lt_succ_of_lt lt2)) its2.toArray
      have i1l := rv1.length
      have i2l := rv2.length
      rw [List.length_map] at i1l
      have sz1 : its1.toArray.size = ks.length := by rw [List.size_toArray, ← i1l]
      have sz2 : its2.toArray.size = ys.length := by rw [List.size_toArray, ← i2l]
      rw [sz1] at d1
      rw [sz2] at d2
      have p1' : h'.IsTuple l1 its1.toArray := by obtain ⟨o, g, r⟩ := (p1 : s1.heap.IsTuple l1 its1.toArray); exact ⟨o, hk _ _ g, r⟩
      have p2' : h'.IsTuple l2 its2.toArray := by obtain ⟨o, g, r⟩ := (p2 : s1.heap.IsTuple l2 its2.toArray); exact ⟨o, hk _ _ g, r⟩
      have ltz := Heap.lt_size hz
      refine call_dict_zipU hlen (ks := fun i => ks.getD i (.inl 0)) (vs := fun i => its2.getD i .none) hh (f := [N, l1]) (g := [N + 1, l2]) ⟨?_, ?_, ?_, ?_, ?_, ?_, ?_, ?_, ?_, ?_, ?_, ?_, ?_, ?_, ?_⟩ d1 d2 (fun i x px => ?_) (fun i y py => ?_) hz ⟨_, _, hTO⟩ hTI ⟨h1, p1'⟩ ⟨h2, p2'⟩ (fun c hc => ?_) (fun c hc => ?_) (by rw [List.length_map] at hz1; exact Nat.le_trans hlen hz1) (fun h3 t3 dd3 kp3 => ?_)
      case refine_20 =>
        have a0 : H1 h'.objs.size = none := Hn _ (Nat.le_of_lt (Nat.lt_of_le_of_lt (Nat.le_add_right _ 4) ltz))
        have az : (h'.objs.size == sysModules) = false := beq_eq_false_iff_ne.mpr (Ne.symm (Nat.ne_of_lt I2.big))
        have I3 := I2.laid (a := h'.objs.size) (o := .dK []) (h' := h'.push { cls := .type "dict", data := .dict #[] }) (t' := t3) (fun b u e => Heap.get?_push_of_some _ e) (Nat.le_refl _) (dk_new (szl (by show 0 ≤ 1000000; decide)) az .nil (Heap.DictOf.new h'))
        obtain ⟨o3, es3, ep3, ho3, r3⟩ := id dd3
        have I4 : Inv X pins σ (upd H1 h'.objs.size (.dK [])) { s1 with heap := h3.update h'.objs.size (fun _ => { cls := .type "dict", data := .dict #[] }), toks := t3 } := by
          refine Inv.turnedL (s := { s1 with heap := h'.push { cls := .type "dict", data := .dict #[] }, toks := t3 }) (ch := [N + 4, N + 3, N, N + 1]) I3 (fun b o hb e => ?_) (fun b hb => ?_)
          · simp only [List.mem_cons, List.not_mem_nil, or_false, not_or] at hb
            obtain ⟨n1, n2, n3, n4⟩ := hb
            by_cases c : b = h'.objs.size
            · subst c
              rw [Heap.get?_push_size _ rfl] at e
              cases e
              exact Heap.get?_update_self _ ho3 rfl
            · rw [Heap.get?_update_other _ _ (Ne.symm c)]
              rcases Heap.get?_push_cases e with ⟨z, _⟩ | e
              · exact absurd z c
              · exact kp3 b o n1 n2 n3 n4 e
          · have hb' : N ≤ b ∧ b < h'.objs.size := by
              simp only [List.mem_cons, List.not_mem_nil, or_false] at hb
              rcases hb with rfl | rfl | rfl | rfl
              · exact ⟨Nat.le_add_right _ _, ltz⟩
              · exact ⟨Nat.le_add_right _ _, Nat.lt_trans (Nat.lt_succ_self _) ltz⟩
              · exact ⟨Nat.le_refl _, Nat.lt_of_le_of_lt (Nat.le_add_right _ 4) ltz⟩
              · exact ⟨Nat.le_add_right _ _, Nat.lt_of_le_of_lt (Nat.add_le_add_left (by decide) _) ltz⟩
            obtain ⟨f0, f1, f2, f3, f4, f5⟩ := fp b hb'.1
            exact ⟨by rw [upd_ne (Nat.ne_of_lt hb'.2)]; exact f0, f1, f2, f3, f4, f5⟩
        have zl := putZ_len [] ks ys
        have I5 := d_write (h' := h3) (t' := t3) (ob := .dK (putZ [] ks ys)) I4 (by rw [upd_same]; exact True.intro) ⟨?_, fun b hb => ?_⟩ ⟨o3, ho3⟩ (dk_new (by rw [List.length_map] at hz1; simpa using Nat.le_trans zl (by simpa using hz1)) az (kv_stosU hlen rv2 ys.length 0 [] [] .nil (by omega)) dd3)
        · rw [upd_upd] at I5
          exact ⟨.ref h'.objs.size, _, I5, rfl, q _ a0⟩
        · exact (Heap.SameBut.update ..).1.symm
        · exact (Heap.get?_update_other _ _ (Ne.symm hb)).symm
      case refine_16 =>
        have px : its1[i]? = some x := by simpa using px
        have li : i < ks.length := by
          have := (List.getElem?_eq_some_iff.mp px).1
          omega
        obtain ⟨u, hu, ru⟩ := rv1.get (i := i) (x := kV ks[i]) (by rw [List.getElem?_map, List.getElem?_eq_getElem li]; rfl)
        rw [px] at hu
        cases hu
        have e1 : ks.getD i (.inl 0) = ks[i] := by rw [List.getD_eq_getElem?_getD, List.getElem?_eq_getElem li]; rfl
        show (mixKind X.prog X.w).is (ks.getD i (.inl 0)) x = true
        rw [e1]
        exact kV_is ru
      case refine_17 =>
        have py : its2[i]? = some y := by simpa using py
        show y = its2.getD i .none
        rw [List.getD_eq_getElem?_getD, py]
        rfl
      case refine_18 =>
        simp only [List.mem_cons, List.not_mem_nil, or_false] at hc
        rcases hc with rfl | rfl
        · exact let ⟨_, e, _⟩ := h1; Heap.lt_size e
        · exact let ⟨_, e, _⟩ := p1'; Heap.lt_size e
      case refine_19 =>
        simp only [List.mem_cons, List.not_mem_nil, or_false] at hc
        rcases hc with rfl | rfl
        · exact let ⟨_, e, _⟩ := h2; Heap.lt_size e
        · exact let ⟨_, e, _⟩ := p2'; Heap.lt_size e
      all_goals first
        | (show (_ : Nat) ≠ _; omega)
        | (simp only [List.mem_cons, List.not_mem_nil, or_false, not_or]
           exact ⟨by show (_ : Nat) ≠ _; omega, by first
             | exact Nat.ne_of_gt lt1
             | exact Nat.ne_of_gt lt2
             | exact Nat.ne_of_gt (Nat.lt_of_lt_of_le lt1 (Nat.le_add_right _ _))
             | exact Nat.ne_of_gt (Nat.lt_of_lt_of_le lt2 (Nat.le_add_right _ _))⟩)
theorem putZ_kvU : ∀ (kn : List (Str × Int)) (ns : List Str) (vs : List Int), vs.length ≤ ns.length → ns.Nodup → (∀ z ∈ ns, z ∉ kn.map (·.1)) → putZ (kvOf kn) (ns.map Sum.inr) (vs.map V.int) = kvOf (kn ++ ns.zip vs)
  | kn, ns, [], hl, _, _ => by
    have e : putZ (kvOf kn) (ns.map Sum.inr) ([] : List V) = kvOf kn := by cases ns <;> rfl
    rw [List.zip_nil_right, List.append_nil]
    exact e
  | kn, [], v :: vs, hl, _, _ => by cases hl
  | kn, z :: ns, v :: vs, hl, hn, hd => by
    obtain ⟨h1, h2⟩ := List.nodup_cons.mp hn
    have e : putK (kvOf kn) (Sum.inr z) (V.int v) = kvOf (kn ++ [(z, v)]) := by
      rw [putK_new _ (kv_none (hd z List.mem_cons_self))]
      unfold kvOf
      rw [List.map_append]
      rfl
    have ih := putZ_kvU (kn ++ [(z, v)]) ns vs (Nat.le_of_succ_le_succ hl) h2 (fun y hy => by
      rw [List.map_append, List.mem_append]
      rintro (c | c)
      · exact hd y (List.mem_cons_of_mem _ hy) c
      · have : y = z := by simpa using c
        exact h1 (this ▸ hy))
    show putZ (putK (kvOf kn) (Sum.inr z) (V.int v)) (ns.map Sum.inr) (vs.map V.int) = _
    rw [e, ih, List.append_assoc]
    rfl
end L2

set_option linter.all false
namespace Pw
structure Dd (T S : Type) where
  loops : List T
  path : List Int
  txt : S
variable {T S : Type}
noncomputable def Sh (a b : Dd T S) (c : Nat) : Prop := c ≤ a.loops.length ∧ c ≤ b.loops.length ∧ a.loops.take c = b.loops.take c ∧ a.path.take c = b.path.take c ∧ a.path.getD c 0 ≠ b.path.getD c 0
inductive Fs where
  | nil : Fs
  | leaf (k : Nat) (rest : Fs) : Fs
  | node (k : Nat) (sub rest : Fs) : Fs
noncomputable def CC (d : Nat) : List (Dd T S) → Prop
  | [] => True
  | [a] => d ≤ a.loops.length
  | a :: b :: ds => (∃ c, d ≤ c ∧ Sh a b c) ∧ CC d (b :: ds)
theorem CC.le {d : Nat} : ∀ {ds : List (Dd T S)}, CC d ds → ∀ a ∈ ds, d ≤ a.loops.length
  | [], _, a, ha => by cases ha
  | [b], h, a, ha => by rw [List.mem_singleton.mp ha]; exact h
  | b :: e :: ds, h, a, ha => by
    obtain ⟨⟨c, h1, h2⟩, h3⟩ := h
    rcases List.mem_cons.mp ha with rfl | ha
    · have := h2.1; omega
    · exact CC.le h3 a ha
theorem CC.right {d : Nat} : ∀ {ds es : List (Dd T S)}, CC d (ds ++ es) → CC d es
  | [], es, h => h
  | [a], [], h => True.intro
  | [a], b :: es, h => h.2
  | a :: b :: ds, es, h => CC.right (ds := b :: ds) h.2
theorem CC.left {d : Nat} : ∀ {ds es : List (Dd T S)}, CC d (ds ++ es) → CC d ds
  | [], es, h => True.intro
  | [a], [], h => h
  | [a], b :: es, h => by
    obtain ⟨c, h1, h2⟩ := h.1
    have := h2.1
    show d ≤ a.loops.length
    omega
  | a :: b :: ds, es, h => ⟨h.1, CC.left (ds := b :: ds) h.2⟩
theorem CC.up {d : Nat} {v : Int} : ∀ {ds : List (Dd T S)}, CC d ds → (∀ a ∈ ds, a.path.getD d 0 = v) → (∀ a, ds.head? = some a → d < a.loops.length) → CC (d + 1) ds ∧ ∀ a b ds', ds = a :: b :: ds' → ∃ c, d + 1 ≤ c ∧ Sh a b c
  | [], h, hv, hl => ⟨True.intro, fun a b ds' e => by cases e⟩
  | [a], h, hv, hl => ⟨hl a rfl, fun a b ds' e => by cases e⟩
  | a :: b :: ds, h, hv, hl => by
    obtain ⟨⟨c, h1, h2⟩, h3⟩ := h
    have hc : d + 1 ≤ c := by
      rcases Nat.eq_or_lt_of_le h1 with e | e
      · subst e
        exact absurd ((hv a List.mem_cons_self).trans (hv b (List.mem_cons_of_mem _ List.mem_cons_self)).symm) h2.2.2.2.2
      · exact e
    have up := CC.up (v := v) h3 (fun x hx => hv x (List.mem_cons_of_mem _ hx)) (fun x hx => by cases hx; have := h2.2.1; omega)
    exact ⟨⟨⟨c, hc, h2⟩, up.1⟩, fun a' b' ds' e => by cases e; exact ⟨c, hc, h2⟩⟩
noncomputable def IsF (D : Nat → Option (Dd T S)) : Fs → List Nat → Nat → Prop
  | .nil, ns, _ => ns = []
  | .leaf k rest, ns, d => ∃ ns' a, ns = k :: ns' ∧ D k = some a ∧ a.loops.length = d ∧ IsF D rest ns' d
  | .node k sub rest, ns, d => ∃ g ns' a, ns = k :: g ++ ns' ∧ D k = some a ∧ d < a.loops.length ∧ (∀ x ∈ g, ∀ b, D x = some b → b.path.getD d 0 = a.path.getD d 0) ∧ (∀ x b, ns'.head? = some x → D x = some b → b.path.getD d 0 ≠ a.path.getD d 0) ∧ IsF D sub (k :: g) (d + 1) ∧ IsF D rest ns' d
inductive Got (D : Nat → Option (Dd T S)) : List Nat → List (Dd T S) → Prop
  | nil : Got D [] []
  | cons {k : Nat} {a : Dd T S} {ns : List Nat} {ds : List (Dd T S)} : D k = some a → Got D ns ds → Got D (k :: ns) (a :: ds)
theorem Got.split {D : Nat → Option (Dd T S)} : ∀ {ns ms : List Nat} {ds : List (Dd T S)}, Got D (ns ++ ms) ds → ∃ ds1 ds2, ds = ds1 ++ ds2 ∧ Got D ns ds1 ∧ Got D ms ds2
  | [], ms, ds, h => ⟨[], ds, rfl, .nil, h⟩
  | k :: ns, ms, ds, h => by
    cases h with
    | cons h1 h2 =>
      obtain ⟨ds1, ds2, rfl, h3, h4⟩ := Got.split h2
      exact ⟨_ :: ds1, ds2, rfl, .cons h1 h3, h4⟩
theorem Got.mem {D : Nat → Option (Dd T S)} {ns : List Nat} {ds : List (Dd T S)} (h : Got D ns ds) : ∀ a ∈ ds, ∃ k ∈ ns, D k = some a := by
  induction h with
  | nil => intro a ha; cases ha
  | cons h1 h2 ih =>
    intro a ha
    rcases List.mem_cons.mp ha with rfl | ha
    · exact ⟨_, List.mem_cons_self, h1⟩
    · obtain ⟨k, hk, h⟩ := ih a ha
      exact ⟨k, List.mem_cons_of_mem _ hk, h⟩
theorem Got.head {D : Nat → Option (Dd T S)} {ns : List Nat} {ds : List (Dd T S)} {b : Dd T S} (h : Got D ns ds) (hb : ds.head? = some b) : ∃ k, ns.head? = some k ∧ D k = some b := by
  cases h with
  | nil => cases hb
  | cons h1 h2 => cases hb; exact ⟨_, rfl, h1⟩
theorem Got.find {D : Nat → Option (Dd T S)} {ns : List Nat} {ds : List (Dd T S)} (h : Got D ns ds) {k : Nat} (hk : k ∈ ns) : ∃ a ∈ ds, D k = some a := by
  induction h with
  | nil => cases hk
  | cons h1 h2 ih =>
    rcases List.mem_cons.mp hk with rfl | hk
    · exact ⟨_, List.mem_cons_self, h1⟩
    · obtain ⟨a, ha, e⟩ := ih hk
      exact ⟨a, List.mem_cons_of_mem _ ha, e⟩
end Pw

set_option Elab.async false
set_option linter.all false
set_option maxRecDepth 100000
set_option maxHeartbeats 4000000
namespace L2
open PySem PySem.Spec PyProof.Rows
structure LpT where
  nm : Str
  lo : Str × Int
  hi : Str × Int
structure Dw where
  loops : List LpT
  tbl : Str
  sp : List (Str × Int)
  tm : Tw
  path : List Int
noncomputable def Dw.txt (D : Dw) : Str := celS D.tbl D.sp ++ " = " ++ D.tm.wr
noncomputable def Dw.dd (D : Dw) : Pw.Dd LpT Str := ⟨D.loops, D.path, D.txt⟩
noncomputable def getD (Ds : List Dw) : Nat → Option (Pw.Dd LpT Str) := fun k => Ds[k]?.map Dw.dd
noncomputable def pat (Ds : List Dw) (d k : Nat) : Int := match Ds[k]? with
  | some D => D.path.getD d 0
  | none => 0
inductive IsG (Ds : List Dw) (d : Nat) : List Nat → List (List Nat) → Prop
  | nil : IsG Ds d [] []
  | cons {k : Nat} {g ns : List Nat} {G : List (List Nat)} : (∀ x ∈ g, pat Ds d x = pat Ds d k) → (∀ y, ns.head? = some y → pat Ds d y ≠ pat Ds d k) → IsG Ds d ns G → IsG Ds d (k :: g ++ ns) ((k :: g) :: G)
noncomputable def ilst (g : List Nat) : List V := g.map fun k : Nat => V.int (k : Int)
noncomputable def IlAt (H : Hp) (x : V) (g : List Nat) : Prop := ∃ l, x = .ref l ∧ H l = some (.lst (ilst g))
theorem IlAt.over {H H' : Hp} {x : V} {g : List Nat} (e : Same H H') (h : IlAt H x g) : IlAt H' x g := let ⟨l, r, h⟩ := h; ⟨l, r, e _ _ h⟩
inductive GP (Ds : List Dw) (d : Nat) : List Nat → List (List Nat) → Prop
  | nil : GP Ds d [] []
  | new {ns : List Nat} {G : List (List Nat)} {k : Nat} : GP Ds d ns G → (∀ g h, G.getLast? = some g → g.head? = some h → pat Ds d h ≠ pat Ds d k) → GP Ds d (ns ++ [k]) (G ++ [[k]])
  | more {ns : List Nat} {G : List (List Nat)} {h k : Nat} {g : List Nat} : GP Ds d ns (G ++ [h :: g]) → pat Ds d h = pat Ds d k → GP Ds d (ns ++ [k]) (G ++ [h :: g ++ [k]])
theorem IsG.snocG {Ds : List Dw} {d k : Nat} : ∀ {ns : List Nat} {G : List (List Nat)}, IsG Ds d ns G → (∀ g h, G.getLast? = some g → g.head? = some h → pat Ds d h ≠ pat Ds d k) → IsG Ds d (ns ++ [k]) (G ++ [[k]])
  | _, _, .nil, _ => .cons (g := []) (ns := []) (fun x hx => by cases hx) (fun y hy => by cases hy) .nil
  | _, _, .cons (k := k0) (g := g0) (ns := ns') (G := G') h1 h2 h3, hd => by
    cases h3 with
    | nil =>
      have hk := hd (k0 :: g0) k0 rfl rfl
      have := IsG.cons (Ds := Ds) (d := d) (k := k0) (g := g0) (ns := [k] ++ []) (G := [[k]]) h1 (fun y hy => by cases hy; exact hk.symm) (.cons (g := []) (fun x hx => by cases hx) (fun y hy => by cases hy) .nil)
      simpa using this
    | @cons k1 g1 ns1 G1 a1 a2 a3 =>
      have ih := IsG.snocG (IsG.cons a1 a2 a3) (fun g h hg hh => hd g h (by rw [List.getLast?_cons_cons]; exact hg) hh)
      have := IsG.cons (Ds := Ds) (d := d) (k := k0) (g := g0) h1 (ns := k1 :: g1 ++ ns1 ++ [k]) (fun y hy => h2 y (by simpa using hy)) ih
      simpa using this
theorem IsG.more {Ds : List Dw} {d k : Nat} : ∀ {G : List (List Nat)} {ns : List Nat} {h : Nat} {g : List Nat}, IsG Ds d ns (G ++ [h :: g]) → pat Ds d h = pat Ds d k → IsG Ds d (ns ++ [k]) (G ++ [h :: g ++ [k]])
  | [], _, h, g, i, e => by
    cases i with
    | @cons _ _ ns' _ h1 h2 h3 =>
      cases h3
      have := IsG.cons (Ds := Ds) (d := d) (k := h) (g := g ++ [k]) (ns := []) (G := []) (fun x hx => by
        rcases List.mem_append.mp hx with hx | hx
        · exact h1 x hx
        · rw [List.mem_singleton.mp hx]; exact e.symm) (fun y hy => by cases hy) .nil
      simpa using this
  | g1 :: G, _, h, g, i, e => by
    cases i with
    | @cons k1 g1' ns' _ h1 h2 h3 =>
      have ih := IsG.more (G := G) h3 e
      have hne : ns' ≠ [] := by
        intro z
        subst z
        have h3 : IsG Ds d [] (G ++ [h :: g]) := h3
        generalize hG : G ++ [h :: g] = GG at h3
        generalize hn : ([] : List Nat) = nn at h3
        cases h3 with
        | nil => simp at hG
        | cons _ _ _ => simp at hn
      have := IsG.cons (Ds := Ds) (d := d) (k := k1) (g := g1') (ns := ns' ++ [k]) h1 (fun y hy => h2 y (by
        cases ns' with
        | nil => exact absurd rfl hne
        | cons a b => exact hy)) ih
      simpa using this
theorem GP.isG {Ds : List Dw} {d : Nat} {ns : List Nat} {G : List (List Nat)} (h : GP Ds d ns G) : IsG Ds d ns G := by
  induction h with
  | nil => exact .nil
  | new _ h ih => exact ih.snocG h
  | more _ h ih => exact ih.more h
noncomputable def FsAt (H : Hp) : Pw.Fs → List V → Prop
  | .nil, xs => xs = []
  | .leaf k rest, xs => ∃ t xs', xs = .ref t :: xs' ∧ H t = some (.tup [.int (k : Int), .non]) ∧ FsAt H rest xs'
  | .node k sub rest, xs => ∃ t l ys xs', xs = .ref t :: xs' ∧ H t = some (.tup [.int (k : Int), .ref l]) ∧ H l = some (.lst ys) ∧ FsAt H sub ys ∧ FsAt H rest xs'
theorem FsAt.over {H H' : Hp} (e : Same H H') : ∀ {f : Pw.Fs} {xs : List V}, FsAt H f xs → FsAt H' f xs
  | .nil, xs, h => h
  | .leaf k rest, xs, h => let ⟨t, xs', r, h0, h1⟩ := h; ⟨t, xs', r, e _ _ h0, FsAt.over e h1⟩
  | .node k sub rest, xs, h => let ⟨t, l, ys, xs', r, h0, h1, h2, h3⟩ := h; ⟨t, l, ys, xs', r, e _ _ h0, e _ _ h1, FsAt.over e h2, FsAt.over e h3⟩
noncomputable def fapp : Pw.Fs → Pw.Fs → Pw.Fs
  | .nil, g => g
  | .leaf k r, g => .leaf k (fapp r g)
  | .node k s r, g => .node k s (fapp r g)
theorem FsAt.app {H : Hp} : ∀ {f g : Pw.Fs} {xs ys : List V}, FsAt H f xs → FsAt H g ys → FsAt H (fapp f g) (xs ++ ys)
  | .nil, g, xs, ys, h, h' => by have h : xs = [] := h; subst h; exact h'
  | .leaf k rest, g, xs, ys, h, h' => by
    obtain ⟨t, xs', rfl, h0, h1⟩ := h
    exact ⟨t, xs' ++ ys, rfl, h0, FsAt.app h1 h'⟩
  | .node k sub rest, g, xs, ys, h, h' => by
    obtain ⟨t, l, zs, xs', rfl, h0, h1, h2, h3⟩ := h
    exact ⟨t, l, zs, xs' ++ ys, rfl, h0, h1, h2, FsAt.app h3 h'⟩
noncomputable def fdep : Pw.Fs → Nat
  | .nil => 0
  | .leaf _ r => max 1 (fdep r)
  | .node _ s r => max (fdep s + 1) (fdep r)
theorem isF_app {D : Nat → Option (Pw.Dd LpT Str)} {d : Nat} : ∀ {f g : Pw.Fs} {ns ms : List Nat}, Pw.IsF D f ns d → Pw.IsF D g ms d → (∀ x y a b, ns.getLast? = some x → ms.head? = some y → D x = some a → D y = some b → a.path.getD d 0 ≠ b.path.getD d 0) → (∀ x ∈ ns, ∃ a, D x = some a) → Pw.IsF D (fapp f g) (ns ++ ms) d
  | .nil, g, ns, ms, h, h', _, _ => by have h : ns = [] := h; subst h; exact h'
  | .leaf k rest, g, ns, ms, h, h', hd, hm => by
    obtain ⟨ns', a, rfl, h0, h1, h2⟩ := h
    refine ⟨ns' ++ ms, a, rfl, h0, h1, isF_app h2 h' (fun x y a b hx => ?_) fun x hx => hm x (List.mem_cons_of_mem _ hx)⟩
    cases ns' with
    | nil => cases hx
    | cons z zs => exact hd x y a b (by rw [List.getLast?_cons_cons]; exact hx)
  | .node k sub rest, g, ns, ms, h, h', hd, hm => by
    obtain ⟨g', ns', a, rfl, h0, h1, h2, h3, h4, h5⟩ := h
    refine ⟨g', ns' ++ ms, a, by rw [List.append_assoc], h0, h1, h2, ?_, h4, isF_app h5 h' (fun x y a b hx => ?_) fun x hx => hm x (List.mem_append_right _ hx)⟩
    · intro x b hx hb
      cases ns' with
      | cons z zs => exact h3 x b hx hb
      | nil =>
        obtain ⟨last, hl⟩ : ∃ last, (k :: g' ++ []).getLast? = some last := ⟨_, List.getLast?_eq_some_getLast (by simp)⟩
        have hmem : last ∈ k :: g' := by have := List.mem_of_getLast? hl; simpa using this
        obtain ⟨al, hal⟩ := hm last (by simpa using hmem)
        have h6 := hd last x al b hl hx hal hb
        have e : al.path.getD d 0 = a.path.getD d 0 := by
          rcases List.mem_cons.mp hmem with z | z
          · subst z; rw [h0] at hal; cases hal; rfl
          · exact h2 last z al hal
        rw [e] at h6
        exact h6.symm
    · cases ns' with
      | nil => cases hx
      | cons z zs => exact hd x y a b (by rw [List.getLast?_append]; rw [hx]; rfl)
theorem fdep_app : ∀ f g : Pw.Fs, fdep (fapp f g) ≤ max (fdep f) (fdep g)
  | .nil, g => Nat.le_max_right _ _
  | .leaf k r, g => by
    have := fdep_app r g
    show max 1 (fdep (fapp r g)) ≤ max (max 1 (fdep r)) (fdep g)
    omega
  | .node k s r, g => by
    have := fdep_app r g
    show max (fdep s + 1) (fdep (fapp r g)) ≤ max (max (fdep s + 1) (fdep r)) (fdep g)
    omega
noncomputable def nw (H H' : Hp) : Hp := fun b => match H b with
  | none => H' b
  | some _ => none
noncomputable def nwi (H H' : Hp) (it : Addr) : Hp := fun b => if b = it then none else nw H H' b
theorem nw_inv {H H' : Hp} {b : Addr} {o : HO} (h : nw H H' b = some o) : H b = none ∧ H' b = some o := by
  unfold nw at h
  cases e : H b with
  | none => rw [e] at h; exact ⟨rfl, h⟩
  | some _ => rw [e] at h; cases h
theorem nw_get {H H' : Hp} {b : Addr} {o : HO} (h : H b = none) (h' : H' b = some o) : nw H H' b = some o := by
  unfold nw
  rw [h]
  exact h'
theorem nw_same {H H' : Hp} : Same (nw H H') H' := fun b o h => (nw_inv h).2
theorem nwi_inv {H H' : Hp} {it b : Addr} {o : HO} (h : nwi H H' it b = some o) : b ≠ it ∧ H b = none ∧ H' b = some o := by
  unfold nwi at h
  split at h
  · cases h
  · rename_i c; exact ⟨c, nw_inv h⟩
theorem nwi_get {H H' : Hp} {it b : Addr} {o : HO} (h : H b = none) (c : b ≠ it) (h' : H' b = some o) : nwi H H' it b = some o := by
  unfold nwi
  rw [if_neg c]
  exact nw_get h h'
theorem nwi_mono {H H1 H2 : Hp} {it : Addr} (k : ∀ b o, b ≠ it → H1 b = some o → H2 b = some o) : Same (nwi H H1 it) (nwi H H2 it) := fun b o h => by
  obtain ⟨c, h0, h1⟩ := nwi_inv h
  exact nwi_get h0 c (k b o c h1)
theorem nwi_nw {H H' : Hp} {it : Addr} : Same (nwi H H' it) (nw H H') := fun b o h => by
  obtain ⟨c, h0, h1⟩ := nwi_inv h
  exact nw_get h0 h1
theorem nw_nwi {H H2 H3 : Hp} {it : Addr} {o' : HO} (e : Same H H2) (hi : H2 it = some o') : Same (nw H2 H3) (nwi H H3 it) := fun b o h => by
  obtain ⟨h0, h1⟩ := nw_inv h
  exact nwi_get (e.free h0) (ne_of_none hi h0).symm h1
noncomputable def GrsAt (H : Hp) (gl : Addr) (G : List (List Nat)) : Prop := ∃ xs, H gl = some (.lst xs) ∧ All2 (IlAt H) xs G
theorem getD_some {Ds : List Dw} {k : Nat} {D : Dw} (h : Ds[k]? = some D) : getD Ds k = some D.dd := by unfold getD; rw [h]; rfl
theorem getD_inv {Ds : List Dw} {k : Nat} {a : Pw.Dd LpT Str} (h : getD Ds k = some a) : ∃ D, Ds[k]? = some D ∧ D.dd = a := by
  unfold getD at h
  exact Option.map_eq_some_iff.mp h
theorem pat_some {Ds : List Dw} {d k : Nat} {D : Dw} (h : Ds[k]? = some D) : pat Ds d k = D.path.getD d 0 := by unfold pat; rw [h]
theorem got_range {Ds : List Dw} : Pw.Got (getD Ds) (List.range Ds.length) (Ds.map Dw.dd) := by
  have : ∀ (es fs : List Dw), fs ++ es = Ds → Pw.Got (getD Ds) (List.range' fs.length es.length) (es.map Dw.dd) := by
    intro es
    induction es with
    | nil => intro fs e; exact .nil
    | cons D es ih =>
      intro fs e
      have h := ih (fs ++ [D]) (by rw [List.append_assoc]; exact e)
      rw [List.length_append] at h
      refine .cons (getD_some ?_) h
      rw [← e, List.getElem?_append_right (Nat.le_refl _), Nat.sub_self]
      rfl
  have := this Ds [] rfl
  rw [List.range_eq_range']
  exact this
noncomputable def wo2 (H : Hp) (a b : Addr) : Hp := fun x => if x = a ∨ x = b then none else H x
theorem wo2_same {H : Hp} {a b : Addr} : Same (wo2 H a b) H := fun x o h => by
  unfold wo2 at h
  split at h
  · cases h
  · exact h
theorem wo2_upd_r {H : Hp} {a b : Addr} {o : HO} : wo2 (upd H b o) a b = wo2 H a b := by
  funext x
  unfold wo2
  by_cases c : x = a ∨ x = b
  · rw [if_pos c, if_pos c]
  · rw [if_neg c, if_neg c, upd_ne fun z => c (.inr z)]
theorem wo2_get {H : Hp} {a b x : Addr} {o : HO} (h : H x = some o) (h1 : x ≠ a) (h2 : x ≠ b) : wo2 H a b x = some o := by
  unfold wo2
  rw [if_neg (fun z => z.elim h1 h2)]
  exact h
noncomputable def GSt (H0 H : Hp) (gl : Addr) (xs : List V) (G : List (List Nat)) : Prop := (xs = [] ∧ G = []) ∨ ∃ (xs' : List V) (l : Addr) (G' : List (List Nat)) (h : Nat) (g : List Nat), xs = xs' ++ [.ref l] ∧ G = G' ++ [h :: g] ∧ All2 (IlAt (wo2 H gl l)) xs' G' ∧ H l = some (.lst (ilst (h :: g))) ∧ l ≠ gl ∧ H0 l = none
theorem GSt.len {H0 H : Hp} {gl : Addr} {xs : List V} {G : List (List Nat)} (h : GSt H0 H gl xs G) : xs.length = G.length := by
  rcases h with ⟨rfl, rfl⟩ | ⟨xs', l, G', h, g, rfl, rfl, ha, _⟩
  · rfl
  · rw [List.length_append, List.length_append, ha.1]; rfl
theorem GSt.all {H0 H : Hp} {gl : Addr} {xs : List V} {G : List (List Nat)} (h : GSt H0 H gl xs G) (hg : H gl = some (.lst xs)) : GrsAt H gl G := by
  refine ⟨xs, hg, ?_⟩
  rcases h with ⟨rfl, rfl⟩ | ⟨xs', l, G', h, g, rfl, rfl, ha, hl, _⟩
  · exact .nil
  · exact (ha.mono fun x g z => z.over wo2_same).snoc ⟨l, rfl, hl⟩
theorem GSt.new {H0 H : Hp} {gl l : Addr} {xs : List V} {G : List (List Nat)} {k : Nat} (h : GSt H0 H gl xs G) (hg : H gl = some (.lst xs)) (hl : H l = none) (hl0 : H0 l = none) : GSt H0 (upd (upd H l (.lst [V.int (k : Int)])) gl (.lst (xs ++ [.ref l]))) gl (xs ++ [.ref l]) (G ++ [[k]]) := by
  have nlg : l ≠ gl := (ne_of_none hg hl).symm
  refine .inr ⟨xs, l, G, k, [], rfl, rfl, ?_, by rw [upd_ne nlg]; exact upd_same, nlg, hl0⟩
  have keep : ∀ {x : Addr} {g : List Nat}, x ≠ gl → H x = some (.lst (ilst g)) → IlAt (wo2 (upd (upd H l (.lst [V.int (k : Int)])) gl (.lst (xs ++ [.ref l]))) gl l) (.ref x) g := fun {x g} hx h => by
    have nx := ne_of_none h hl
    exact ⟨x, rfl, wo2_get (by rw [upd_ne hx, upd_ne nx]; exact h) hx nx⟩
  rcases h with ⟨rfl, rfl⟩ | ⟨xs', l', G', h, g, rfl, rfl, ha, hl', nl', _⟩
  · exact .nil
  · refine (ha.mono fun x g z => ?_).snoc (keep nl' hl')
    obtain ⟨y, rfl, hy⟩ := z
    unfold wo2 at hy
    split at hy
    · cases hy
    · rename_i c
      exact keep (fun z => c (.inl z)) hy
theorem IsG.mem {Ds : List Dw} {d : Nat} {ns : List Nat} {G : List (List Nat)} (h : IsG Ds d ns G) : ∀ g ∈ G, ∀ x ∈ g, x ∈ ns := by
  induction h with
  | nil => intro g hg; cases hg
  | cons h1 h2 h3 ih =>
    intro g hg x hx
    rcases List.mem_cons.mp hg with rfl | hg
    · exact List.mem_append_left _ hx
    · exact List.mem_append_right _ (ih g hg x hx)
theorem IsG.glen {Ds : List Dw} {d : Nat} {ns : List Nat} {G : List (List Nat)} (h : IsG Ds d ns G) : ∀ g ∈ G, g.length ≤ ns.length := by
  induction h with
  | nil => intro g hg; cases hg
  | cons h1 h2 h3 ih =>
    intro g hg
    rw [List.length_append]
    rcases List.mem_cons.mp hg with rfl | hg
    · omega
    · have := ih g hg; omega
end L2
namespace L2
open PySem
end L2
namespace L2
open PySem PySem.Spec PyProof.Rows
noncomputable def NL (H H' : Hp) : Prop := ∀ b o, H b = some o → (∀ xs, o ≠ .lst xs) → H' b = some o
theorem NL.upd {H : Hp} {l : Addr} {xs : List V} {o : HO} (hl : H l = some (.lst xs)) : NL H (upd H l o) := fun b ob hb hn => by
  rw [upd_ne (fun z => by rw [z, hl] at hb; cases hb; exact hn _ rfl)]
  exact hb
end L2

set_option linter.all false
namespace Pm
variable {S : Type} [DecidableEq S]
end Pm

set_option Elab.async false
set_option linter.all false
set_option maxRecDepth 100000
set_option maxHeartbeats 4000000
namespace L2
open PySem PySem.Spec PyProof.Rows
theorem SpAt.tk {H H' : Hp} {p : Addr} (h : SpAt H p) (e : TK H H') : SpAt H' p := by
  obtain ⟨xs, h1, h2, h3⟩ := h
  exact ⟨xs, e _ _ h1, h2, fun v hv => let ⟨t, z, n, a, b⟩ := h3 v hv; ⟨t, z, n, a, e _ _ b⟩⟩
theorem TmT.tk {H H' : Hp} (e : TK H H') {n : Nat} {x : V} {rs : Reads} (h : TmT H n x rs) : TmT H' n x rs := by
  induction h with
  | n i h => exact .n i (e _ _ h)
  | v z h => exact .v z (e _ _ h)
  | c z h hp => exact .c z (e _ _ h) (hp.tk e)
  | j z hz h _ _ a b => exact .j z hz (e _ _ h) a b
noncomputable def spSize55 (K : PySem.W.Frag) : Sp := fun vs H Q _ => ∃ (sc : Addr) (ns : List Int), vs = [.ref sc] ∧ SqL K H sc (ns.map V.int) ∧ ns.length ≤ 63 ∧ ∀ (H' : Hp) (n : Int), Same H H' → Q (.int n) H'
theorem ne_same5 {K : PySem.W.Frag} {H : Hp} {x y : Addr} {t : Tr} {Q : VK} (hx : TrIs K H (.ref x) t) (hy : TrIs K H (.ref y) t) (hd : depT t ≤ 60) (h : Q (.bl false) H) : rEqX K true (.ref x) (.ref y) H Q := by
  refine ⟨t, t, hx, hy, ⟨_, rfl⟩, ⟨_, rfl⟩, simT_refl t, hd, ?_⟩
  rw [eqT_refl t hx.ok]
  exact h
theorem eq_same5 {K : PySem.W.Frag} {H : Hp} {x y : Addr} {t : Tr} {Q : VK} (hx : TrIs K H (.ref x) t) (hy : TrIs K H (.ref y) t) (hd : depT t ≤ 60) (h : Q (.bl true) H) : rEqX K false (.ref x) (.ref y) H Q := by
  refine ⟨t, t, hx, hy, ⟨_, rfl⟩, ⟨_, rfl⟩, simT_refl t, hd, ?_⟩
  rw [show (if false = true then !eqT t t else eqT t t) = true from eqT_refl t hx.ok]
  exact h
end L2

set_option Elab.async false
set_option linter.all false
set_option maxRecDepth 100000
set_option maxHeartbeats 4000000
namespace L2
open PySem PySem.Spec PyProof.Rows
structure Lp where
  nm : Str
  lz : Str
  ln : Int
  hz : Str
  hn : Int
  ab : Int
  tn : Int
noncomputable def LpIs (H : Hp) (v : V) (q : Lp) : Prop := ∃ p p1 p2, v = .ref p ∧ H p = some (.tup [.str q.nm, .ref p1, .ref p2, .int q.ab, .int q.tn]) ∧ H p1 = some (.tup [.str q.lz, .int q.ln]) ∧ H p2 = some (.tup [.str q.hz, .int q.hn])
theorem LpIs.over {H H' : Hp} {v : V} {q : Lp} (h : LpIs H v q) (e : Same H H') : LpIs H' v q := by obtain ⟨p, p1, p2, a, b, c, d⟩ := h; exact ⟨p, p1, p2, a, e _ _ b, e _ _ c, e _ _ d⟩
theorem LpIs.tk {H H' : Hp} {v : V} {q : Lp} (h : LpIs H v q) (e : TK H H') : LpIs H' v q := by obtain ⟨p, p1, p2, a, b, c, d⟩ := h; exact ⟨p, p1, p2, a, e _ _ b, e _ _ c, e _ _ d⟩
noncomputable def Bs (S : List Lp) (z : Str) : Prop := z = "" ∨ ∃ r ∈ S, z = r.nm
noncomputable def StIs (H : Hp) (st : Addr) (S : List Lp) : Prop := ∃ vs, H st = some (.lst vs) ∧ All2 (LpIs H) vs S
noncomputable def nmF (c e : Int) : Str := sOf (nmC (mixF c 11) e)
noncomputable def NewLp (S : List Lp) (c : Int) (q : Lp) : Prop := q.nm = nmF c (((S.length : Int) + q.tn) % 3) ∧ 0 ≤ q.tn ∧ q.tn ≤ 2 ∧ (∀ r, S.head? = some r → q.tn = r.tn) ∧ Bs S q.lz ∧ Bs S q.hz
structure SOk (S : List Lp) (c : Int) : Prop where
  len : S.length ≤ 3
  tn : ∃ t : Int, 0 ≤ t ∧ t ≤ 2 ∧ ∀ (i : Nat) (q : Lp), S[i]? = some q → q.tn = t ∧ q.nm = nmF c (((i : Int) + t) % 3)
  bs : ∀ (i : Nat) (q : Lp), S[i]? = some q → Bs (S.take i) q.lz ∧ Bs (S.take i) q.hz
theorem SOk.nil (c : Int) : SOk [] c := ⟨Nat.zero_le _, ⟨0, by decide, by decide, fun i q h => by simp at h⟩, fun i q h => by simp at h⟩
theorem SOk.snoc {S : List Lp} {c : Int} {q : Lp} (h : SOk S c) (l : S.length < 3) (g : NewLp S c q) : SOk (S ++ [q]) c := by
  obtain ⟨g1, g2, g3, g4, g5, g6⟩ := g
  obtain ⟨t, t0, t1, ht⟩ := h.tn
  have tq : S = [] ∨ q.tn = t := by
    cases S with
    | nil => exact .inl rfl
    | cons r S => exact .inr ((g4 r rfl).trans (ht 0 r rfl).1)
  have get : ∀ (i : Nat) (r : Lp), (S ++ [q])[i]? = some r → (i < S.length ∧ S[i]? = some r) ∨ (i = S.length ∧ r = q) := fun i r hr => by
    by_cases c : i < S.length
    · rw [List.getElem?_append_left c] at hr
      exact .inl ⟨c, hr⟩
    · have : i = S.length := by
        have := (List.getElem?_eq_some_iff.mp hr).1
        rw [List.length_append, List.length_singleton] at this
        omega
      subst this
      rw [List.getElem?_append_right (Nat.le_refl _), Nat.sub_self] at hr
      cases hr
      exact .inr ⟨rfl, rfl⟩
  refine ⟨by rw [List.length_append, List.length_singleton]; omega, ⟨q.tn, g2, g3, fun i r hr => ?_⟩, fun i r hr => ?_⟩
  · rcases get i r hr with ⟨hi, hr⟩ | ⟨rfl, rfl⟩
    · rcases tq with rfl | e
      · simp at hr
      · rw [e]; exact ht i r hr
    · exact ⟨rfl, g1⟩
  · rcases get i r hr with ⟨hi, hr⟩ | ⟨rfl, rfl⟩
    · rw [List.take_append_of_le_length (by omega)]
      exact h.bs i r hr
    · rw [List.take_append_of_le_length (Nat.le_refl _), List.take_length]
      exact ⟨g5, g6⟩
noncomputable def nmsOf (S : List Lp) : List Str := S.map (·.nm)
theorem nms_nd {S : List Lp} {c : Int} (h : SOk S c) : (nmsOf S).Nodup := by
  obtain ⟨t, t0, t1, ht⟩ := h.tn
  have hl := h.len
  unfold nmsOf
  rw [List.nodup_iff_pairwise_ne, List.pairwise_iff_getElem]
  intro i j hi hj hij e
  rw [List.length_map] at hi hj
  rw [List.getElem_map, List.getElem_map, (ht i _ (List.getElem?_eq_getElem hi)).2, (ht j _ (List.getElem?_eq_getElem hj)).2] at e
  have e := congrArg cds e
  unfold nmF at e
  rw [cds_sOf, cds_sOf] at e
  have a0 := Int.emod_nonneg ((i : Int) + t) (show (3 : Int) ≠ 0 by decide)
  have a1 := Int.emod_lt_of_pos ((i : Int) + t) (show (0 : Int) < 3 by decide)
  have b0 := Int.emod_nonneg ((j : Int) + t) (show (3 : Int) ≠ 0 by decide)
  have b1 := Int.emod_lt_of_pos ((j : Int) + t) (show (0 : Int) < 3 by decide)
  exact nmC_ne (by omega) (by omega) (by omega) (by omega) (fun z => by omega) e
theorem nms_ne {S : List Lp} {c : Int} (h : SOk S c) : ∀ z ∈ nmsOf S, z ≠ "" := fun z hz e => by
  obtain ⟨t, t0, t1, ht⟩ := h.tn
  unfold nmsOf at hz
  obtain ⟨q, hq, rfl⟩ := List.mem_map.mp hz
  obtain ⟨i, hi⟩ := List.mem_iff_getElem?.mp hq
  rw [(ht i q hi).2] at e
  have := congrArg (fun z => (cds z).length) e
  unfold nmF at this
  rw [cds_sOf] at this
  have a0 := Int.emod_nonneg ((i : Int) + t) (show (3 : Int) ≠ 0 by decide)
  have a1 := Int.emod_lt_of_pos ((i : Int) + t) (show (0 : Int) < 3 by decide)
  have b := (nmC_b (m := mixF c 11) (e := ((i : Int) + t) % 3) (by omega) (by omega)).1
  have : (nmC (mixF c 11) (((i : Int) + t) % 3)).length = 0 := this
  omega
noncomputable def ArIs (kvs : List (Key × V)) (zs : List Str) (W : List Int) : Prop := ∀ (j : Nat) (z : Str), j < W.length → zs[j]? = some z → valV kvs (Sum.inr z : Key) = some (.int (W.getD j 0))
noncomputable def spAround : Sp := fun vs H Q _ => ∃ (nm vt : Addr) (zs : List Str) (W : List Int), vs = [.ref nm, .ref vt] ∧ H nm = some (.tup (zs.map V.str)) ∧ H vt = some (.tup (W.map V.int)) ∧ W.length ≤ zs.length ∧ zs.length ≤ 100 ∧ zs.Nodup ∧ ∀ (r : Addr) (kvs : List (Key × V)) (H' : Hp), Same H H' → H' r = some (.dK kvs) → ArIs kvs zs W → Q (.ref r) H'
noncomputable def StB (kvs : List (Key × V)) (z : Str) (b : Int) : Prop := (z = "" ∧ b = 0) ∨ (z ≠ "" ∧ valV kvs (Sum.inr z : Key) = some (.int b))
noncomputable def spStand52 : Sp := fun vs H Q _ => ∃ (sp d t1 t2 : Addr) (z1 z2 : Str) (n1 n2 b1 b2 : Int) (kvs : List (Key × V)), vs = [.ref sp, .ref d] ∧ H sp = some (.tup [.ref t1, .ref t2]) ∧ H t1 = some (.tup [.str z1, .int n1]) ∧ H t2 = some (.tup [.str z2, .int n2]) ∧ H d = some (.dK kvs) ∧ StB kvs z1 b1 ∧ StB kvs z2 b2 ∧ ∀ (r : Addr) (H' : Hp), Same H H' → H' r = some (.tup [.int (b1 + n1), .int (b2 + n2)]) → Q (.ref r) H'
theorem for_zipU {K : PySem.W.Frag} {a b : Addr} {xs ys : List V} {g : TG} {tb : TS} {D : Ends} {σ : St} {H : Hp} (hlen : ys.length ≤ xs.length) (Pv : Nat → St → Hp → Prop) (h0 : Pv 0 σ H) (hl : ∀ i σ H, i ≤ ys.length → Pv i σ H → SqT K H a xs ∧ SqT K H b ys)
    (hs : ∀ i x y T σ H, xs[i]? = some x → ys[i]? = some y → Pv i σ H → H T = none → g (.ref T) σ (upd H T (.tup [x, y])) fun σ2 H2 => tb { D with nx := Pv (i + 1), ct := Pv (i + 1), bk := D.nx } σ2 H2) (hd : ∀ σ H, Pv ys.length σ H → D.nx σ H) :
    ∃ W : Nat → Nat → St → Hp → Prop, (∃ m, W 0 m σ H) ∧ ∀ i m σ H, W i m σ H →
      ((Ity K a b).stop i H ∧ D.nx σ H) ∨ ((Ity K a b).go i H ∧ ∃ N : St → Hp → Prop, (∀ σ' H', N σ' H' → ∃ m', m' < m ∧ W (i + 1) m' σ' H') ∧ ∀ x H', (Ity K a b).yld i H x H' → g x σ H' fun σ2 H2 => tb { D with nx := N, ct := N, bk := D.nx } σ2 H2) := by
  refine ⟨fun i m σ H => m = ys.length - i ∧ i ≤ ys.length ∧ Pv i σ H, ⟨ys.length, by simp, Nat.zero_le _, h0⟩, ?_⟩
  rintro i m σ H ⟨rfl, hi, p⟩
  obtain ⟨q1, q2⟩ := hl i σ H hi p
  by_cases hlt : i < ys.length
  · refine .inr ⟨⟨xs, ys, xs[i], ys[i], q1, q2, List.getElem?_eq_getElem (by omega), List.getElem?_eq_getElem hlt⟩, Pv (i + 1), fun σ' H' p' => ⟨ys.length - (i + 1), by omega, rfl, hlt, p'⟩, fun v H' yy => ?_⟩
    obtain ⟨x, y, T, hx, hy, hT, rfl, rfl⟩ := yy
    exact hs i x y T σ H (hx xs q1) (hy ys q2) p hT
  · have e : i = ys.length := by omega
    subst e
    exact .inl ⟨⟨xs, ys, q1, q2, by omega, Nat.le_refl _, .inr rfl⟩, hd σ H p⟩
end L2
namespace PySem
open Builtin
open AutoSeq1 (wpAny_loadPart')
end PySem
namespace L2
open PySem PySem.Spec PyProof.Rows
noncomputable def cellD (ns : List Int) (k : Int) : Int := if k < (ns.length : Int) then ns.getD k.toNat 0 else
  if 0 < ns.length then ((ns.getD (k * 7 % (ns.length : Int)).toNat 0 * 48271 + k * 7919) % 2147483647) * ((ns.getD (k * 7 % (ns.length : Int)).toNat 0 * 48271 + k * 7919) % 2147483647) % 2147483629 else (k * 7919 + 5) * (k * 7919 + 5) % 2147483629
noncomputable def spCellD (K : PySem.W.Frag) : Sp := fun vs H Q _ => ∃ (p : Addr) (ns : List Int) (k : Int), vs = [.ref p, .int k] ∧ SqL K H p (ns.map V.int) ∧ 0 ≤ k ∧ k ≤ 1000000 ∧ Q (.int (cellD ns k)) H

end L2

set_option linter.all false
namespace Tn
open Pw
variable {T S : Type}
noncomputable def rng (lo hi : Int) : List Int := (List.range (hi + 1 - lo).toNat).map fun (i : Nat) => lo + (i : Int)
theorem mem_rng {lo hi v : Int} : v ∈ rng lo hi ↔ lo ≤ v ∧ v ≤ hi := by
  unfold rng
  rw [List.mem_map]
  constructor
  · rintro ⟨i, hi, rfl⟩
    rw [List.mem_range] at hi
    omega
  · intro h
    exact ⟨(v - lo).toNat, by rw [List.mem_range]; omega, by omega⟩
theorem rng_lt {lo hi : Int} : (rng lo hi).Pairwise (· < ·) := by
  unfold rng
  rw [List.pairwise_map]
  exact List.Pairwise.imp (fun h => by omega) List.pairwise_lt_range
theorem rng_len {lo hi : Int} : (rng lo hi).length = (hi + 1 - lo).toNat := by
  unfold rng
  rw [List.length_map, List.length_range]
theorem rng_get {lo hi : Int} {i : Nat} (h : i < (hi + 1 - lo).toNat) : (rng lo hi)[i]? = some (lo + (i : Int)) := by
  unfold rng
  rw [List.getElem?_map, List.getElem?_range h]
  rfl
theorem flat_len {α β : Type} {f : α → List β} : ∀ {l : List α} {i : Nat} {x : α}, l[i]? = some x → ((l.take i).flatMap f).length + (f x).length ≤ (l.flatMap f).length
  | [], i, x, h => by cases h
  | y :: l, 0, x, h => by
    cases h
    show 0 + (f y).length ≤ (f y ++ l.flatMap f).length
    rw [List.length_append]
    omega
  | y :: l, i + 1, x, h => by
    have := flat_len (f := f) (l := l) (i := i) (x := x) h
    show (f y ++ (l.take i).flatMap f).length + (f x).length ≤ (f y ++ l.flatMap f).length
    rw [List.length_append, List.length_append]
    omega
noncomputable def tl (B : Nat → List Int → Int × Int) : Fs → List Int → List (Nat × List Int)
  | .nil, _ => []
  | .leaf k r, vs => (k, vs) :: tl B r vs
  | .node k s r, vs => (rng (B k vs).1 (B k vs).2).flatMap (fun v => tl B s (vs ++ [v])) ++ tl B r vs
noncomputable def Ex (D : Nat → Option (Dd T S)) (B : Nat → List Int → Int × Int) (k : Nat) (vs w : List Int) : Prop := ∃ a, D k = some a ∧ w.length = a.loops.length ∧ w.take vs.length = vs ∧ ∀ e, vs.length ≤ e → e < w.length → (B k (w.take e)).1 ≤ w.getD e 0 ∧ w.getD e 0 ≤ (B k (w.take e)).2
noncomputable def Prs (D : Nat → Option (Dd T S)) (B : Nat → List Int → Int × Int) (d k l : Nat) : Prop := ∃ a b c, D k = some a ∧ D l = some b ∧ d ≤ c ∧ c ≤ a.loops.length ∧ c ≤ b.loops.length ∧ a.path.take c = b.path.take c ∧ a.path.getD c 0 < b.path.getD c 0 ∧ ∀ vs : List Int, vs.length < c → B k vs = B l vs
noncomputable def Gd (D : Nat → Option (Dd T S)) (k : Nat) : Prop := ∃ a, D k = some a ∧ a.path.length = a.loops.length + 1
theorem take_at {l m : List Int} {c n : Nat} (h : l.take n = m.take n) (hc : c < n) : l.getD c 0 = m.getD c 0 := by
  have e : (l.take n)[c]? = (m.take n)[c]? := by rw [h]
  rw [List.getElem?_take, List.getElem?_take, if_pos hc, if_pos hc] at e
  rw [List.getD_eq_getElem?_getD, List.getD_eq_getElem?_getD, e]
theorem take_le {α : Type} {l m : List α} {c n : Nat} (h : l.take n = m.take n) (hc : c ≤ n) : l.take c = m.take c := by
  have := congrArg (List.take c) h
  rw [List.take_take, List.take_take, Nat.min_eq_left hc] at this
  exact this
theorem take_s {l : List Int} {n : Nat} (h : n < l.length) : l.take (n + 1) = l.take n ++ [l.getD n 0] := by
  rw [List.take_succ, List.getD_eq_getElem?_getD, List.getElem?_eq_getElem h]
  rfl
theorem Prs.up {D : Nat → Option (Dd T S)} {B : Nat → List Int → Int × Int} {d k l : Nat} {a b : Dd T S} (h : Prs D B d k l) (ha : D k = some a) (hb : D l = some b) (e : b.path.getD d 0 = a.path.getD d 0) : Prs D B (d + 1) k l := by
  obtain ⟨a', b', c, ha', hb', h1, h2, h3, h4, h5, h6⟩ := h
  rw [ha] at ha'; rw [hb] at hb'
  obtain rfl := Option.some.inj ha'
  obtain rfl := Option.some.inj hb'
  refine ⟨a, b, c, ha, hb, ?_, h2, h3, h4, h5, h6⟩
  rcases Nat.lt_or_ge d c with z | z
  · exact z
  · rw [show c = d by omega] at h5; omega
structure Grp (D : Nat → Option (Dd T S)) (B : Nat → List Int → Int × Int) (d k0 : Nat) (g : List Nat) (a : Dd T S) : Prop where
  a0 : D k0 = some a
  up : (k0 :: g).Pairwise (Prs D B (d + 1))
  eq : ∀ k ∈ k0 :: g, ∃ b, D k = some b ∧ b.path.take (d + 1) = a.path.take (d + 1) ∧ d + 1 ≤ b.loops.length ∧ ∀ vs : List Int, vs.length ≤ d → B k vs = B k0 vs
theorem grp {D : Nat → Option (Dd T S)} {B : Nat → List Int → Int × Int} {d k0 : Nat} {g : List Nat} {a : Dd T S} (h : (k0 :: g).Pairwise (Prs D B d)) (gd : ∀ k ∈ k0 :: g, Gd D k) (ha : D k0 = some a) (hl : d < a.loops.length) (hg : ∀ x ∈ g, ∀ b, D x = some b → b.path.getD d 0 = a.path.getD d 0) : Grp D B d k0 g a := by
  have pt : ∀ k ∈ k0 :: g, ∀ b, D k = some b → b.path.getD d 0 = a.path.getD d 0 := by
    intro k hk b hb
    rcases List.mem_cons.mp hk with rfl | hk
    · rw [ha] at hb; rw [Option.some.inj hb]
    · exact hg k hk b hb
  have up : (k0 :: g).Pairwise (Prs D B (d + 1)) := by
    refine h.imp_of_mem fun {x y} hx hy p => ?_
    have p' := p
    obtain ⟨a1, b1, _, h1, h2, _⟩ := p'
    exact p.up h1 h2 (by rw [pt x hx a1 h1, pt y hy b1 h2])
  refine ⟨ha, up, fun k hk => ?_⟩
  rcases List.mem_cons.mp hk with rfl | hk
  · exact ⟨a, ha, rfl, hl, fun _ _ => rfl⟩
  · obtain ⟨a1, b1, c, h1, h2, h3, h4, h5, h6, h7, h8⟩ := (List.pairwise_cons.mp up).1 k hk
    rw [ha] at h1
    obtain rfl := Option.some.inj h1
    exact ⟨b1, h2, (take_le h6 h3).symm, by omega, fun vs hv => (h8 vs (by omega)).symm⟩
theorem mem_tl {D : Nat → Option (Dd T S)} {B : Nat → List Int → Int × Int} : ∀ {f : Fs} {ns : List Nat} {d : Nat} {vs : List Int}, IsF D f ns d → ns.Pairwise (Prs D B d) → (∀ k ∈ ns, Gd D k) → vs.length = d → ∀ {k : Nat} {w : List Int}, (k, w) ∈ tl B f vs ↔ k ∈ ns ∧ Ex D B k vs w
  | .nil, ns, d, vs, h, hp, gd, hv, k, w => by
    have h : ns = [] := h
    subst h
    exact ⟨fun z => (by cases z), fun z => (by cases z.1)⟩
  | .leaf k0 rest, ns, d, vs, h, hp, gd, hv, k, w => by
    obtain ⟨ns', a, rfl, h0, h1, h2⟩ := h
    have ih := mem_tl (vs := vs) h2 (List.pairwise_cons.mp hp).2 (fun k hk => gd k (List.mem_cons_of_mem _ hk)) hv (k := k) (w := w)
    show (k, w) ∈ (k0, vs) :: tl B rest vs ↔ _
    rw [List.mem_cons, ih, List.mem_cons]
    constructor
    · rintro (z | ⟨z, e⟩)
      · obtain ⟨rfl, rfl⟩ := Prod.mk.inj z
        exact ⟨.inl rfl, a, h0, by omega, List.take_length, fun e h1 h2 => by omega⟩
      · exact ⟨.inr z, e⟩
    · rintro ⟨rfl | z, e⟩
      · obtain ⟨b, hb, e1, e2, _⟩ := e
        rw [h0] at hb
        obtain rfl := Option.some.inj hb
        refine .inl ?_
        rw [List.take_of_length_le (by omega)] at e2
        rw [e2]
      · exact .inr ⟨z, e⟩
  | .node k0 sub rest, ns, d, vs, h, hp, gd, hv, k, w => by
    obtain ⟨g, ns', a, rfl, h0, h1, h2, h3, h4, h5⟩ := h
    have hp' := List.pairwise_append.mp hp
    have G := grp (a := a) hp'.1 (fun k hk => gd k (List.mem_append_left _ hk)) h0 h1 h2
    have ih2 := mem_tl (vs := vs) h5 hp'.2.1 (fun k hk => gd k (List.mem_append_right _ hk)) hv (k := k) (w := w)
    show (k, w) ∈ (rng (B k0 vs).1 (B k0 vs).2).flatMap (fun v => tl B sub (vs ++ [v])) ++ tl B rest vs ↔ _
    rw [List.mem_append, List.mem_flatMap, ih2, List.mem_append]
    have e : (∃ v ∈ rng (B k0 vs).1 (B k0 vs).2, (k, w) ∈ tl B sub (vs ++ [v])) ↔ k ∈ k0 :: g ∧ Ex D B k vs w := by
      constructor
      · rintro ⟨v, hv1, hm⟩
        have := (mem_tl (vs := vs ++ [v]) h4 G.up (fun k hk => gd k (List.mem_append_left _ hk)) (by rw [List.length_append, hv]; rfl) (k := k) (w := w)).mp hm
        obtain ⟨hk, b, hb, e1, e2, e3⟩ := this
        obtain ⟨b', hb', p1, p2, p3⟩ := G.eq k hk
        rw [hb] at hb'
        obtain rfl := Option.some.inj hb'
        rw [List.length_append, List.length_singleton] at e2 e3
        have e4 : w.take vs.length = vs := by
          have := congrArg (List.take vs.length) e2
          rw [List.take_take, Nat.min_eq_left (by omega), List.take_left] at this
          exact this
        refine ⟨hk, b, hb, e1, e4, fun e he1 he2 => ?_⟩
        rcases Nat.lt_or_ge vs.length e with z | z
        · exact e3 e z he2
        · obtain rfl : e = vs.length := by omega
          have : w.getD vs.length 0 = v := by
            rw [take_s he2, e4] at e2
            exact (List.cons.inj (List.append_cancel_left e2)).1
          rw [e4, p3 vs (by omega), this]
          exact mem_rng.mp hv1
      · rintro ⟨hk, b, hb, e1, e2, e3⟩
        obtain ⟨b', hb', p1, p2, p3⟩ := G.eq k hk
        rw [hb] at hb'
        obtain rfl := Option.some.inj hb'
        have lt : vs.length < w.length := by omega
        have := e3 vs.length (Nat.le_refl _) lt
        rw [e2, p3 vs (by omega)] at this
        refine ⟨w.getD vs.length 0, mem_rng.mpr this, ?_⟩
        refine (mem_tl (vs := vs ++ [w.getD vs.length 0]) h4 G.up (fun k hk => gd k (List.mem_append_left _ hk)) (by rw [List.length_append, hv]; rfl) (k := k) (w := w)).mpr ⟨hk, b, hb, e1, ?_, fun e he => ?_⟩
        · rw [List.length_append, List.length_singleton, take_s lt, e2]
        · rw [List.length_append, List.length_singleton] at he
          exact e3 e (by omega)
    rw [e]
    constructor
    · rintro (⟨x, y⟩ | ⟨x, y⟩)
      · exact ⟨.inl x, y⟩
      · exact ⟨.inr x, y⟩
    · rintro ⟨x | x, y⟩
      · exact .inl ⟨x, y⟩
      · exact .inr ⟨x, y⟩
noncomputable def inter : List Int → List Int → List Int
  | p :: _, [] => [p]
  | p :: ps, w :: ws => p :: w :: inter ps ws
  | [], _ => []
noncomputable def key (D : Nat → Option (Dd T S)) (x : Nat × List Int) : List Int := match D x.1 with
  | some a => inter a.path x.2
  | none => []
theorem key_some {D : Nat → Option (Dd T S)} {k : Nat} {w : List Int} {a : Dd T S} (h : D k = some a) : key D (k, w) = inter a.path w := by
  unfold key
  rw [h]
theorem lex_p : ∀ {c : Nat} {p q w u : List Int}, p.take c = q.take c → w.take c = u.take c → c < p.length → c < q.length → c ≤ w.length → c ≤ u.length → p.getD c 0 < q.getD c 0 → HT.lexLt (inter p w) (inter q u) = true
  | 0, x :: p, y :: q, w, u, hp, hw, h1, h2, h3, h4, h => by
    have h : x < y := h
    have ne : ¬ x = y := by omega
    cases w <;> cases u <;> (show (if x = y then _ else decide (x < y)) = true) <;> rw [if_neg ne] <;> exact decide_eq_true h
  | c + 1, x :: p, y :: q, v :: w, z :: u, hp, hw, h1, h2, h3, h4, h => by
    have e1 : x = y ∧ p.take c = q.take c := List.cons.inj hp
    have e2 : v = z ∧ w.take c = u.take c := List.cons.inj hw
    show (if x = y then (if v = z then HT.lexLt (inter p w) (inter q u) else decide (v < z)) else decide (x < y)) = true
    rw [if_pos e1.1, if_pos e2.1]
    exact lex_p e1.2 e2.2 (Nat.lt_of_succ_lt_succ h1) (Nat.lt_of_succ_lt_succ h2) (Nat.le_of_succ_le_succ h3) (Nat.le_of_succ_le_succ h4) h
theorem lex_w : ∀ {c : Nat} {p q w u : List Int}, p.take (c + 1) = q.take (c + 1) → w.take c = u.take c → c < p.length → c < q.length → c < w.length → c < u.length → w.getD c 0 < u.getD c 0 → HT.lexLt (inter p w) (inter q u) = true
  | 0, x :: p, y :: q, v :: w, z :: u, hp, hw, h1, h2, h3, h4, h => by
    have e1 : x = y ∧ p.take 0 = q.take 0 := List.cons.inj hp
    have h : v < z := h
    show (if x = y then (if v = z then HT.lexLt (inter p w) (inter q u) else decide (v < z)) else decide (x < y)) = true
    rw [if_pos e1.1, if_neg (by omega)]
    exact decide_eq_true h
  | c + 1, x :: p, y :: q, v :: w, z :: u, hp, hw, h1, h2, h3, h4, h => by
    have e1 : x = y ∧ p.take (c + 1) = q.take (c + 1) := List.cons.inj hp
    have e2 : v = z ∧ w.take c = u.take c := List.cons.inj hw
    show (if x = y then (if v = z then HT.lexLt (inter p w) (inter q u) else decide (v < z)) else decide (x < y)) = true
    rw [if_pos e1.1, if_pos e2.1]
    exact lex_w e1.2 e2.2 (Nat.lt_of_succ_lt_succ h1) (Nat.lt_of_succ_lt_succ h2) (Nat.lt_of_succ_lt_succ h3) (Nat.lt_of_succ_lt_succ h4) h
theorem Ex.tk {D : Nat → Option (Dd T S)} {B : Nat → List Int → Int × Int} {k : Nat} {vs w : List Int} {a : Dd T S} (h : Ex D B k vs w) (ha : D k = some a) : w.length = a.loops.length ∧ w.take vs.length = vs := by
  obtain ⟨b, hb, h1, h2, _⟩ := h
  rw [ha] at hb
  obtain rfl := Option.some.inj hb
  exact ⟨h1, h2⟩
theorem rise {D : Nat → Option (Dd T S)} {B : Nat → List Int → Int × Int} : ∀ {f : Fs} {ns : List Nat} {d : Nat} {vs : List Int}, IsF D f ns d → ns.Pairwise (Prs D B d) → (∀ k ∈ ns, Gd D k) → vs.length = d → (tl B f vs).Pairwise fun x y => HT.lexLt (key D x) (key D y) = true
  | .nil, ns, d, vs, h, hp, gd, hv => .nil
  | .leaf k0 rest, ns, d, vs, h, hp, gd, hv => by
    obtain ⟨ns', a, rfl, h0, h1, h2⟩ := h
    have hp' := List.pairwise_cons.mp hp
    have gd' : ∀ k ∈ ns', Gd D k := fun k hk => gd k (List.mem_cons_of_mem _ hk)
    refine List.pairwise_cons.mpr ⟨fun y hy => ?_, rise h2 hp'.2 gd' hv⟩
    obtain ⟨l, u⟩ := y
    obtain ⟨hl, ex⟩ := (mem_tl h2 hp'.2 gd' hv).mp hy
    obtain ⟨a1, b, c, e1, e2, e3, e4, e5, e6, e7, _⟩ := hp'.1 l hl
    rw [h0] at e1
    obtain rfl := Option.some.inj e1
    obtain rfl : c = d := by omega
    obtain ⟨x1, x2⟩ := ex.tk e2
    obtain ⟨a2, g1, g2⟩ := gd k0 List.mem_cons_self
    rw [h0] at g1
    obtain rfl := Option.some.inj g1
    obtain ⟨b2, g3, g4⟩ := gd' l hl
    rw [e2] at g3
    obtain rfl := Option.some.inj g3
    rw [key_some h0, key_some e2]
    refine lex_p e6 ?_ (by omega) (by omega) (by omega) (by omega) e7
    rw [← hv, List.take_length, x2]
  | .node k0 sub rest, ns, d, vs, h, hp, gd, hv => by
    obtain ⟨g, ns', a, rfl, h0, h1, h2, h3, h4, h5⟩ := h
    have hp' := List.pairwise_append.mp hp
    have gdl : ∀ k ∈ k0 :: g, Gd D k := fun k hk => gd k (List.mem_append_left _ hk)
    have gdr : ∀ k ∈ ns', Gd D k := fun k hk => gd k (List.mem_append_right _ hk)
    have G := grp (a := a) hp'.1 gdl h0 h1 h2
    have vl : ∀ v : Int, (vs ++ [v]).length = d + 1 := fun v => by rw [List.length_append, hv]; rfl
    show ((rng (B k0 vs).1 (B k0 vs).2).flatMap (fun v => tl B sub (vs ++ [v])) ++ tl B rest vs).Pairwise _
    refine List.pairwise_append.mpr ⟨?_, rise h5 hp'.2.1 gdr hv, fun x hx y hy => ?_⟩
    · rw [List.pairwise_flatMap]
      refine ⟨fun v _ => rise h4 G.up gdl (vl v), rng_lt.imp fun {v z} lt x hx y hy => ?_⟩
      obtain ⟨k, w⟩ := x
      obtain ⟨l, u⟩ := y
      obtain ⟨hk, ex⟩ := (mem_tl h4 G.up gdl (vl v)).mp hx
      obtain ⟨hl, ey⟩ := (mem_tl h4 G.up gdl (vl z)).mp hy
      obtain ⟨b, hb, p1, p2, _⟩ := G.eq k hk
      obtain ⟨b', hb', q1, q2, _⟩ := G.eq l hl
      obtain ⟨x1, x2⟩ := ex.tk hb
      obtain ⟨y1, y2⟩ := ey.tk hb'
      rw [vl] at x2 y2
      obtain ⟨b2, g3, g4⟩ := gdl k hk
      rw [hb] at g3
      obtain rfl := Option.some.inj g3
      obtain ⟨b3, g5, g6⟩ := gdl l hl
      rw [hb'] at g5
      obtain rfl := Option.some.inj g5
      rw [take_s (by omega)] at x2 y2
      have x3 := List.append_inj' x2 rfl
      have y3 := List.append_inj' y2 rfl
      rw [key_some hb, key_some hb']
      refine lex_w (c := d) (p1.trans q1.symm) (x3.1.trans y3.1.symm) (by omega) (by omega) (by omega) (by omega) ?_
      rw [(List.cons.inj x3.2).1, (List.cons.inj y3.2).1]
      exact lt
    · obtain ⟨v, _, hx⟩ := List.mem_flatMap.mp hx
      obtain ⟨k, w⟩ := x
      obtain ⟨l, u⟩ := y
      obtain ⟨hk, ex⟩ := (mem_tl h4 G.up gdl (vl v)).mp hx
      obtain ⟨hl, ey⟩ := (mem_tl h5 hp'.2.1 gdr hv).mp hy
      obtain ⟨b, hb, p1, p2, _⟩ := G.eq k hk
      obtain ⟨a1, b', c, e1, e2, e3, e4, e5, e6, e7, _⟩ := hp'.2.2 k hk l hl
      rw [hb] at e1
      obtain rfl := Option.some.inj e1
      have lt : b.path.getD d 0 < b'.path.getD d 0 := by
        cases ns' with
        | nil => cases hl
        | cons h t =>
          obtain ⟨ah, bh, ch, f1, f2, f3, f4, f5, f6, f7, _⟩ := hp'.2.2 k hk h List.mem_cons_self
          rw [hb] at f1
          obtain rfl := Option.some.inj f1
          have ne := h3 h bh rfl f2
          have pe : b.path.getD d 0 = a.path.getD d 0 := take_at p1 (by omega)
          have lt1 : b.path.getD d 0 < bh.path.getD d 0 := by
            rcases Nat.lt_or_ge d ch with z | z
            · exact absurd ((take_at f6 z).symm.trans pe) ne
            · rw [show ch = d by omega] at f7; exact f7
          rcases List.mem_cons.mp hl with rfl | hl'
          · rw [e2] at f2; obtain rfl := Option.some.inj f2; exact lt1
          · obtain ⟨ai, bi, ci, i1, i2, i3, i4, i5, i6, i7, _⟩ := (List.pairwise_cons.mp hp'.2.1).1 l hl'
            rw [f2] at i1
            obtain rfl := Option.some.inj i1
            rw [e2] at i2
            obtain rfl := Option.some.inj i2
            rcases Nat.lt_or_ge d ci with z | z
            · rw [← take_at i6 z]; exact lt1
            · rw [show ci = d by omega] at i7; omega
      have cd : c = d := by
        rcases Nat.lt_or_ge d c with z | z
        · have := take_at e6 z; omega
        · omega
      subst cd
      obtain ⟨x1, x2⟩ := ex.tk hb
      obtain ⟨y1, y2⟩ := ey.tk e2
      rw [vl] at x2
      rw [take_s (by omega)] at x2
      have x3 := (List.append_inj' x2 rfl).1
      rw [hv] at y2
      obtain ⟨b2, g3, g4⟩ := gdl k hk
      rw [hb] at g3
      obtain rfl := Option.some.inj g3
      obtain ⟨b3, g5, g6⟩ := gdr l hl
      rw [e2] at g5
      obtain rfl := Option.some.inj g5
      rw [key_some hb, key_some e2]
      exact lex_p e6 (x3.trans y2.symm) (by omega) (by omega) (by omega) (by omega) e7
theorem lex_irr : ∀ l : List Int, HT.lexLt l l = false
  | [] => rfl
  | x :: l => by
    show (if x = x then HT.lexLt l l else decide (x < x)) = false
    rw [if_pos rfl]
    exact lex_irr l
theorem lex_asy : ∀ l m : List Int, HT.lexLt l m = true → HT.lexLt m l = true → False
  | [], [], h, _ => by cases h
  | [], _ :: _, _, h => by cases h
  | _ :: _, [], h, _ => by cases h
  | x :: l, y :: m, h, h' => by
    have h : (if x = y then HT.lexLt l m else decide (x < y)) = true := h
    have h' : (if y = x then HT.lexLt m l else decide (y < x)) = true := h'
    by_cases c : x = y
    · rw [if_pos c] at h
      rw [if_pos c.symm] at h'
      exact lex_asy l m h h'
    · rw [if_neg c] at h
      rw [if_neg fun e => c e.symm] at h'
      have := of_decide_eq_true h
      have := of_decide_eq_true h'
      omega
theorem pw_ext {α : Type} {R : α → α → Prop} (irr : ∀ x, ¬ R x x) (asy : ∀ x y, R x y → R y x → False) : ∀ {l m : List α}, l.Pairwise R → m.Pairwise R → (∀ x, x ∈ l ↔ x ∈ m) → l = m
  | [], [], _, _, _ => rfl
  | [], y :: m, _, _, h => by have := (h y).mpr List.mem_cons_self; cases this
  | x :: l, [], _, _, h => by have := (h x).mp List.mem_cons_self; cases this
  | x :: l, y :: m, hl, hm, h => by
    have hl' := List.pairwise_cons.mp hl
    have hm' := List.pairwise_cons.mp hm
    have e : x = y := by
      rcases List.mem_cons.mp ((h x).mp List.mem_cons_self) with e | e
      · exact e
      · rcases List.mem_cons.mp ((h y).mpr List.mem_cons_self) with f | f
        · exact f.symm
        · exact (asy x y (hl'.1 y f) (hm'.1 x e)).elim
    subst e
    rw [pw_ext irr asy hl'.2 hm'.2 fun z => ⟨fun hz => ?_, fun hz => ?_⟩]
    · rcases List.mem_cons.mp ((h z).mp (List.mem_cons_of_mem _ hz)) with e | e
      · subst e; exact (irr _ (hl'.1 _ hz)).elim
      · exact e
    · rcases List.mem_cons.mp ((h z).mpr (List.mem_cons_of_mem _ hz)) with e | e
      · subst e; exact (irr _ (hm'.1 _ hz)).elim
      · exact e
theorem pw_nodup {α : Type} {R : α → α → Prop} (irr : ∀ x, ¬ R x x) {l : List α} (h : l.Pairwise R) : l.Nodup := h.imp fun {x y} r e => by subst e; exact irr _ r
noncomputable def lv (b : List Int → Int × Int) : Nat → List (List Int)
  | 0 => [[]]
  | n + 1 => (lv b n).flatMap fun vs => (rng (b vs).1 (b vs).2).map fun v => vs ++ [v]
theorem mem_lv {b : List Int → Int × Int} : ∀ {n : Nat} {w : List Int}, w ∈ lv b n ↔ w.length = n ∧ ∀ e, e < n → (b (w.take e)).1 ≤ w.getD e 0 ∧ w.getD e 0 ≤ (b (w.take e)).2
  | 0, w => by
    show w ∈ [[]] ↔ _
    rw [List.mem_singleton]
    exact ⟨fun e => by subst e; exact ⟨rfl, fun e h => absurd h (Nat.not_lt_zero _)⟩, fun h => List.eq_nil_of_length_eq_zero h.1⟩
  | n + 1, w => by
    show w ∈ (lv b n).flatMap _ ↔ _
    rw [List.mem_flatMap]
    constructor
    · rintro ⟨vs, hv, hw⟩
      obtain ⟨v, hv1, rfl⟩ := List.mem_map.mp hw
      obtain ⟨l, hb⟩ := mem_lv.mp hv
      refine ⟨by rw [List.length_append, l]; rfl, fun e he => ?_⟩
      rcases Nat.lt_or_ge e n with z | z
      · have := hb e z
        rw [List.take_append_of_le_length (by omega), List.getD_eq_getElem?_getD, List.getElem?_append_left (by omega), ← List.getD_eq_getElem?_getD]
        exact this
      · obtain rfl : e = n := by omega
        rw [List.take_append_of_le_length (by omega), List.take_of_length_le (by omega), List.getD_eq_getElem?_getD, List.getElem?_append_right (by omega), l, Nat.sub_self]
        exact mem_rng.mp hv1
    · rintro ⟨l, hb⟩
      refine ⟨w.take n, mem_lv.mpr ⟨by rw [List.length_take]; omega, fun e he => ?_⟩, List.mem_map.mpr ⟨w.getD n 0, mem_rng.mpr (hb n (Nat.lt_succ_self _)), (take_s (by omega)).symm.trans (List.take_of_length_le (by omega))⟩⟩
      have := hb e (by omega)
      rw [List.take_take, Nat.min_eq_left (by omega), List.getD_eq_getElem?_getD, List.getElem?_take, if_pos he, ← List.getD_eq_getElem?_getD]
      exact this
theorem nodup_lv {b : List Int → Int × Int} : ∀ {n : Nat}, (lv b n).Nodup
  | 0 => List.nodup_cons.mpr ⟨fun h => (by cases h), List.nodup_nil⟩
  | n + 1 => by
    show ((lv b n).flatMap _).Pairwise _
    rw [List.pairwise_flatMap]
    refine ⟨fun vs _ => ?_, (nodup_lv (b := b) (n := n)).imp fun {x y} ne u hu v hv e => ?_⟩
    · rw [List.pairwise_map]
      exact rng_lt.imp fun {x y} lt e => by have := (List.cons.inj (List.append_inj' e rfl).2).1; omega
    · obtain ⟨_, _, rfl⟩ := List.mem_map.mp hu
      obtain ⟨_, _, rfl⟩ := List.mem_map.mp hv
      exact ne (List.append_inj' e rfl).1
noncomputable def nlp (D : Nat → Option (Dd T S)) (k : Nat) : Nat := match D k with
  | some a => a.loops.length
  | none => 0
theorem nlp_some {D : Nat → Option (Dd T S)} {k : Nat} {a : Dd T S} (h : D k = some a) : nlp D k = a.loops.length := by
  unfold nlp
  rw [h]
theorem ex_lv {D : Nat → Option (Dd T S)} {B : Nat → List Int → Int × Int} {k : Nat} {w : List Int} (g : Gd D k) : Ex D B k [] w ↔ w ∈ lv (B k) (nlp D k) := by
  obtain ⟨a, ha, _⟩ := g
  rw [mem_lv, nlp_some ha]
  constructor
  · rintro ⟨b, hb, h1, h2, h3⟩
    rw [ha] at hb
    obtain rfl := Option.some.inj hb
    exact ⟨h1, fun e he => h3 e (Nat.zero_le _) (by omega)⟩
  · rintro ⟨h1, h3⟩
    exact ⟨a, ha, h1, rfl, fun e _ he => h3 e (by omega)⟩
theorem len_tl {D : Nat → Option (Dd T S)} {B : Nat → List Int → Int × Int} {f : Fs} {ns : List Nat} (h : IsF D f ns 0) (hp : ns.Pairwise (Prs D B 0)) (gd : ∀ k ∈ ns, Gd D k) (nd : ns.Nodup) : (tl B f []).length = (ns.map fun k => (lv (B k) (nlp D k)).length).sum := by
  have n1 : (tl B f []).Nodup := pw_nodup (fun x h => by rw [lex_irr] at h; cases h) (rise h hp gd rfl)
  have n2 : (ns.flatMap fun k => (lv (B k) (nlp D k)).map fun w => (k, w)).Nodup := by
    show List.Pairwise _ _
    rw [List.pairwise_flatMap]
    refine ⟨fun k _ => ?_, nd.imp fun {x y} ne u hu v hv e => ?_⟩
    · rw [List.pairwise_map]
      exact (nodup_lv (b := B k) (n := nlp D k)).imp fun {x y} ne e => ne (Prod.mk.inj e).2
    · obtain ⟨_, _, rfl⟩ := List.mem_map.mp hu
      obtain ⟨_, _, rfl⟩ := List.mem_map.mp hv
      exact ne (Prod.mk.inj e).1
  have pm := (List.perm_ext_iff_of_nodup n1 n2).mpr fun x => by
    obtain ⟨k, w⟩ := x
    rw [mem_tl h hp gd rfl, List.mem_flatMap]
    constructor
    · rintro ⟨hk, ex⟩
      exact ⟨k, hk, List.mem_map.mpr ⟨w, (ex_lv (gd k hk)).mp ex, rfl⟩⟩
    · rintro ⟨k', hk, hm⟩
      obtain ⟨w', hw, e⟩ := List.mem_map.mp hm
      obtain ⟨rfl, rfl⟩ := Prod.mk.inj e
      exact ⟨hk, (ex_lv (gd k' hk)).mpr hw⟩
  rw [pm.length_eq, List.length_flatMap]
  congr 1
  exact List.map_congr_left fun k _ => by rw [List.length_map]
theorem tl_pop {D D' : Nat → Option (Dd T S)} {B B' : Nat → List Int → Int × Int} {f f' : Fs} {n : Nat} (h : IsF D f (List.range (n + 1)) 0) (h' : IsF D' f' (List.range n) 0) (eD : ∀ k, k < n → D' k = D k) (eB : ∀ k, k < n → B' k = B k) (hp : (List.range (n + 1)).Pairwise (Prs D B 0)) (gd : ∀ k ∈ List.range (n + 1), Gd D k) : tl B' f' [] = (tl B f []).filter fun x => decide (x.1 < n) := by
  have sub : ∀ k ∈ List.range n, k ∈ List.range (n + 1) := fun k hk => by rw [List.mem_range] at hk ⊢; omega
  have hp' : (List.range n).Pairwise (Prs D' B' 0) := by
    have : (List.range n).Pairwise (Prs D B 0) := hp.sublist (by rw [List.range_succ]; exact List.sublist_append_left _ _)
    refine this.imp_of_mem fun {x y} hx hy p => ?_
    rw [List.mem_range] at hx hy
    obtain ⟨a, b, c, h1, h2, h3⟩ := p
    exact ⟨a, b, c, by rw [eD x hx]; exact h1, by rw [eD y hy]; exact h2, by rw [eB x hx, eB y hy]; exact h3⟩
  have gd' : ∀ k ∈ List.range n, Gd D' k := fun k hk => by
    obtain ⟨a, h1, h2⟩ := gd k (sub k hk)
    exact ⟨a, by rw [eD k (List.mem_range.mp hk)]; exact h1, h2⟩
  have R : ∀ x ∈ tl B' f' [], x.1 < n := fun x hx => by
    obtain ⟨k, w⟩ := x
    exact List.mem_range.mp ((mem_tl h' hp' gd' rfl).mp hx).1
  refine pw_ext (R := fun x y => HT.lexLt (key D x) (key D y) = true) (fun x h => by rw [lex_irr] at h; cases h) (fun x y => lex_asy _ _) ?_ ((rise h hp gd rfl).filter _) fun x => ?_
  · refine (rise h' hp' gd' rfl).imp_of_mem fun {x y} hx hy p => ?_
    have ex : key D' x = key D x := by unfold key; rw [eD _ (R x hx)]
    have ey : key D' y = key D y := by unfold key; rw [eD _ (R y hy)]
    rw [ex, ey] at p
    exact p
  · obtain ⟨k, w⟩ := x
    rw [List.mem_filter, mem_tl h' hp' gd' rfl, mem_tl h hp gd rfl, List.mem_range, List.mem_range]
    constructor
    · rintro ⟨hk, a, h1, h2, h3, h4⟩
      rw [eD k hk] at h1
      rw [eB k hk] at h4
      exact ⟨⟨by omega, a, h1, h2, h3, h4⟩, decide_eq_true hk⟩
    · rintro ⟨⟨_, a, h1, h2, h3, h4⟩, hk⟩
      have hk : k < n := of_decide_eq_true hk
      exact ⟨hk, a, by rw [eD k hk]; exact h1, h2, h3, by rw [eB k hk]; exact h4⟩
end Tn

set_option Elab.async false
set_option linter.all false
set_option maxRecDepth 100000
set_option maxHeartbeats 4000000
namespace L2
open PySem PySem.Spec PyProof.Rows
noncomputable def WoAt (C : Addr) (H : Hp) (x : V) (D : Dw) : Prop := ∃ (p dx nm lo hi pt : Addr) (v4 v5 v6 : V) (ls hs : List V), x = .ref p ∧ H p = some (.ins C dx [("names", .ref nm), ("lows", .ref lo), ("highs", .ref hi), ("table", v4), ("spots", v5), ("term", v6), ("path", .ref pt)]) ∧ H nm = some (.tup (D.loops.map fun t => V.str t.nm)) ∧ H lo = some (.tup ls) ∧ All2 (fun v t => SpoAt H v (LpT.lo t)) ls D.loops ∧ H hi = some (.tup hs) ∧ All2 (fun v t => SpoAt H v (LpT.hi t)) hs D.loops ∧ H pt = some (.tup (D.path.map V.int))
theorem WoAt.over {C : Addr} {H H' : Hp} {x : V} {D : Dw} (h : WoAt C H x D) (e : Same H H') : WoAt C H' x D := by
  obtain ⟨p, dx, nm, lo, hi, pt, v4, v5, v6, ls, hs, r, h0, h1, h2, h3, h4, h5, h6⟩ := h
  exact ⟨p, dx, nm, lo, hi, pt, v4, v5, v6, ls, hs, r, e _ _ h0, e _ _ h1, e _ _ h2, h3.mono fun _ _ z => z.tk (Same.tk e), e _ _ h4, h5.mono fun _ _ z => z.tk (Same.tk e), e _ _ h6⟩
noncomputable def WosAt (C : Addr) (H : Hp) (l : Addr) (Ds : List Dw) : Prop := ∃ xs, H l = some (.lst xs) ∧ All2 (WoAt C H) xs Ds
theorem WosAt.over {C : Addr} {H H' : Hp} {l : Addr} {Ds : List Dw} (h : WosAt C H l Ds) (e : Same H H') : WosAt C H' l Ds := by
  obtain ⟨xs, h1, h2⟩ := h
  exact ⟨xs, e _ _ h1, h2.mono fun _ _ z => z.over e⟩
noncomputable def nms (D : Dw) : List Str := D.loops.map LpT.nm
structure Ok3 (D : Dw) : Prop where
  ll : D.loops.length ≤ 3
  pl : D.path.length = D.loops.length + 1
  nd : (nms D).Nodup
  bs : ∀ (e : Nat) (t : LpT), D.loops[e]? = some t → (t.lo.1 = ("" : Str) ∨ t.lo.1 ∈ (nms D).take e) ∧ (t.hi.1 = ("" : Str) ∨ t.hi.1 ∈ (nms D).take e)
noncomputable def bD (D : Dw) (vs : List Int) : Int × Int := match D.loops[vs.length]? with
  | some t => (stW ((nms D).zip vs) t.lo, stW ((nms D).zip vs) t.hi)
  | none => (0, -1)
noncomputable def bW (Ds : List Dw) (k : Nat) (vs : List Int) : Int × Int := match Ds[k]? with
  | some D => bD D vs
  | none => (0, -1)
theorem bW_some {Ds : List Dw} {k : Nat} {D : Dw} (h : Ds[k]? = some D) (vs : List Int) : bW Ds k vs = bD D vs := by
  unfold bW
  rw [h]
noncomputable def spNamed31 (C : Addr) : Sp := fun vs H Q _ => ∃ (x : V) (t : Addr) (D : Dw) (us : List Int), vs = [x, .ref t] ∧ WoAt C H x D ∧ Ok3 D ∧ H t = some (.tup (us.map V.int)) ∧ us.length ≤ D.loops.length ∧ ∀ (l : Addr), H l = none → Q (.ref l) (upd H l (.dK (kvOf ((nms D).zip us))))
noncomputable def spBounds31 (C : Addr) : Sp := fun vs H Q _ => ∃ (x : V) (t : Addr) (D : Dw) (us : List Int), vs = [x, .ref t] ∧ WoAt C H x D ∧ Ok3 D ∧ H t = some (.tup (us.map V.int)) ∧ us.length < D.loops.length ∧ ∀ (r : Addr) (H' : Hp), Same H H' → H' r = some (.tup [.int (bD D us).1, .int (bD D us).2]) → Q (.ref r) H'
theorem zip_names {D : Dw} {us : List Int} (h : us.length ≤ D.loops.length) : ((nms D).zip us).map (·.1) = (nms D).take us.length := by
  have : ∀ {l : List Str} {m : List Int}, m.length ≤ l.length → (l.zip m).map (·.1) = l.take m.length := by
    intro l
    induction l with
    | nil => intro m h; cases m <;> rfl
    | cons x l ih =>
      intro m h
      cases m with
      | nil => rfl
      | cons y m =>
        show x :: (l.zip m).map (·.1) = x :: l.take m.length
        rw [ih (Nat.le_of_succ_le_succ h)]
  exact this (by unfold nms; rw [List.length_map]; exact h)
noncomputable def InZ (Ds : List Dw) (d : Nat) (ns : List Nat) : Prop := ∀ k ∈ ns, ∃ D, Ds[k]? = some D ∧ Ok3 D ∧ d ≤ D.loops.length
noncomputable def spNeigh31 (C : Addr) : Sp := fun vs H Q _ => ∃ (dl nl : Addr) (d : Nat) (Ds : List Dw) (ns : List Nat), vs = [.ref dl, .ref nl, .int (d : Int)] ∧ WosAt C H dl Ds ∧ H nl = some (.lst (ilst ns)) ∧ InZ Ds d ns ∧ ns.length ≤ 10 ∧ ∀ (gl : Addr) (H' : Hp) (G : List (List Nat)), Same H H' → H gl = none → GrsAt H' gl G → IsG Ds d ns G → Q (.ref gl) H'
noncomputable def spItemsW31 (C : Addr) (n : Nat) : Sp := fun vs H Q _ => ∃ (dl nl : Addr) (d : Nat) (Ds : List Dw) (ns : List Nat) (ds : List (Pw.Dd LpT Str)), vs = [.ref dl, .ref nl, .int (d : Int)] ∧ WosAt C H dl Ds ∧ H nl = some (.lst (ilst ns)) ∧ InZ Ds d ns ∧ ns.length ≤ 10 ∧ Pw.Got (getD Ds) ns ds ∧ Pw.CC d ds ∧ d ≤ 3 ∧ 4 ≤ d + n ∧ ∀ (r : Addr) (H' : Hp) (f : Pw.Fs) (xs : List V), Same H H' → H r = none → H' r = some (.lst xs) → FsAt (nw H H') f xs → Pw.IsF (getD Ds) f ns d → fdep f ≤ n → xs.length ≤ ns.length → Q (.ref r) H'
noncomputable def OkW (Ds : List Dw) : Prop := (∀ D ∈ Ds, Ok3 D) ∧ Ds.length ≤ 10 ∧ Pw.CC 0 (Ds.map Dw.dd)
noncomputable def spNested31 (C : Addr) : Sp := fun vs H Q _ => ∃ (dl : Addr) (Ds : List Dw), vs = [.ref dl] ∧ WosAt C H dl Ds ∧ OkW Ds ∧ ∀ (r : Addr) (H' : Hp) (f : Pw.Fs) (xs : List V), Same H H' → H r = none → H' r = some (.lst xs) → FsAt (nw H H') f xs → Pw.IsF (getD Ds) f (List.range Ds.length) 0 → fdep f ≤ 4 → xs.length ≤ 10 → Q (.ref r) H'
theorem nw_mono {H H1 H' : Hp} (e : Same H H1) : Same (nw H1 H') (nw H H') := fun b o h => by
  obtain ⟨h0, h1⟩ := nw_inv h
  exact nw_get (e.free h0) h1
noncomputable def TnAt (H : Hp) (v : V) (x : Nat × List Int) : Prop := ∃ t u, v = .ref t ∧ H t = some (.tup [.int (x.1 : Int), .ref u]) ∧ H u = some (.tup (x.2.map V.int))
theorem TnAt.tk {H H' : Hp} {v : V} {x : Nat × List Int} (h : TnAt H v x) (e : TK H H') : TnAt H' v x := by
  obtain ⟨t, u, a, b, c⟩ := h
  exact ⟨t, u, a, e _ _ b, e _ _ c⟩
theorem TnAt.over {H H' : Hp} {v : V} {x : Nat × List Int} (h : TnAt H v x) (e : Same H H') : TnAt H' v x := h.tk (Same.tk e)
noncomputable def Bt (l : Addr) (H H' : Hp) : Prop := ∀ b o, b ≠ l → H b = some o → H' b = some o
theorem Bt.tk {l : Addr} {H H' : Hp} {xs : List V} (h : Bt l H H') (hl : H l = some (.lst xs)) : TK H H' := fun b ys hb => h b _ (fun e => by rw [e, hl] at hb; cases hb) hb
theorem Bt.trans {l : Addr} {H H1 H2 : Hp} (a : Bt l H H1) (b : Bt l H1 H2) : Bt l H H2 := fun c o n h => b c o n (a c o n h)
theorem Bt.same {l : Addr} {H H' : Hp} (e : Same H H') : Bt l H H' := fun b o _ h => e b o h
theorem Bt.put {l : Addr} {H : Hp} {o : HO} : Bt l H (upd H l o) := fun b o n h => by rw [upd_ne n]; exact h
noncomputable def Fit (B : Nat → List Int → Int × Int) : Pw.Fs → List Int → Prop
  | .nil, _ => True
  | .leaf _ r, vs => Fit B r vs
  | .node k s r, vs => (-(2 ^ 60) ≤ (B k vs).1 ∧ (B k vs).1 ≤ 2 ^ 60 ∧ -(2 ^ 60) ≤ (B k vs).2 ∧ (B k vs).2 ≤ 2 ^ 60) ∧ (∀ v, (B k vs).1 ≤ v → v ≤ (B k vs).2 → Fit B s (vs ++ [v])) ∧ Fit B r vs
structure Wk (CW C : Addr) (H HF : Hp) (wk l : Addr) (room : Int) (Ds : List Dw) : Prop where
  w : ∃ dx dl, H wk = some (.ins CW dx [("deeds", .ref dl), ("room", .int room), ("told", .ref l)]) ∧ WosAt C HF dl Ds
  same : Same HF H
  nl : HF l = none
  nw : HF wk = none
theorem Wk.bt {CW C : Addr} {H H' HF : Hp} {wk l : Addr} {room : Int} {Ds : List Dw} {xs : List V} (h : Wk CW C H HF wk l room Ds) (hl : H l = some (.lst xs)) (e : Bt l H H') : Wk CW C H' HF wk l room Ds := by
  obtain ⟨⟨dx, dl, h1, h2⟩, h3, h4, h5⟩ := h
  exact ⟨⟨dx, dl, e _ _ (fun z => by rw [z, hl] at h1; cases h1) h1, h2⟩, fun b o hb => e b o (ne_of_none hb h4) (h3 b o hb), h4, h5⟩
noncomputable def spTellI (CW C : Addr) (n : Nat) : Sp := fun vs H Q _ => ∃ (wk l il vt : Addr) (room : Int) (HF : Hp) (Ds : List Dw) (f : Pw.Fs) (ns : List Nat) (xs ts : List V) (us : List Int), vs = [.ref wk, .ref il, .ref vt] ∧ Wk CW C H HF wk l room Ds ∧ (∀ D ∈ Ds, Ok3 D) ∧ HF il = some (.lst xs) ∧ FsAt HF f xs ∧ fdep f < n ∧ Pw.IsF (getD Ds) f ns us.length ∧ Fit (bW Ds) f us ∧ H vt = some (.tup (us.map V.int)) ∧ H l = some (.lst ts) ∧ ts.length + (Tn.tl (bW Ds) f us).length ≤ 500000 ∧ ∀ (H' : Hp) (ts' : List V), Bt l H H' → H' l = some (.lst (ts ++ ts')) → All2 (TnAt H') ts' (Tn.tl (bW Ds) f us) → Q .non H'
noncomputable def spTellL (CW C : Addr) (n : Nat) : Sp := fun vs H Q _ => ∃ (wk l il vt : Addr) (room : Int) (HF : Hp) (Ds : List Dw) (f : Pw.Fs) (k : Nat) (D : Dw) (ns : List Nat) (xs ts : List V) (us : List Int), vs = [.ref wk, .int (k : Int), .ref il, .ref vt] ∧ Wk CW C H HF wk l room Ds ∧ (∀ D ∈ Ds, Ok3 D) ∧ Ds[k]? = some D ∧ us.length < D.loops.length ∧ HF il = some (.lst xs) ∧ FsAt HF f xs ∧ fdep f < n ∧ Pw.IsF (getD Ds) f ns (us.length + 1) ∧ Fit (bW Ds) (.node k f .nil) us ∧ H vt = some (.tup (us.map V.int)) ∧ H l = some (.lst ts) ∧ ts.length + (Tn.tl (bW Ds) (.node k f .nil) us).length ≤ 500000 ∧ ∀ (H' : Hp) (ts' : List V), Bt l H H' → H' l = some (.lst (ts ++ ts')) → All2 (TnAt H') ts' (Tn.tl (bW Ds) (.node k f .nil) us) → Q .non H'
noncomputable def lvs : Pw.Fs → Nat
  | .nil => 0
  | .leaf _ r => 1 + lvs r
  | .node _ _ r => lvs r
noncomputable def itm : Pw.Fs → Nat
  | .nil => 0
  | .leaf _ r => 1 + itm r
  | .node _ _ r => 1 + itm r
noncomputable def wid (b : Int × Int) : Int := if b.2 - b.1 + 1 < 0 then 0 else b.2 - b.1 + 1
noncomputable def cst (B : Nat → List Int → Int × Int) : Pw.Fs → List Int → Int
  | .nil, _ => 0
  | .leaf _ r, vs => cst B r vs
  | .node k s r, vs => wid (B k vs) * (1 + (lvs s : Int)) + (if lvs s < itm s then ((Tn.rng (B k vs).1 (B k vs).2).map fun v => cst B s (vs ++ [v])).sum else 0) + cst B r vs
theorem sum_nn : ∀ {l : List Int}, (∀ x ∈ l, 0 ≤ x) → 0 ≤ l.sum
  | [], _ => Int.le_refl _
  | x :: l, h => by
    rw [List.sum_cons]
    have := sum_nn (l := l) fun y hy => h y (List.mem_cons_of_mem _ hy)
    have := h x List.mem_cons_self
    omega
theorem sum_at : ∀ {l : List Int} {i : Nat} {x : Int}, (∀ x ∈ l, 0 ≤ x) → l[i]? = some x → (l.take i).sum + x ≤ l.sum ∧ (l.take (i + 1)).sum = (l.take i).sum + x
  | [], i, x, _, h => by cases h
  | y :: l, 0, x, hn, h => by
    cases h
    have := sum_nn (l := l) fun y hy => hn y (List.mem_cons_of_mem _ hy)
    show 0 + y ≤ (y :: l).sum ∧ (y :: l.take 0).sum = 0 + y
    rw [List.sum_cons, List.sum_cons, List.take_zero, List.sum_nil]
    omega
  | y :: l, i + 1, x, hn, h => by
    have := sum_at (l := l) (i := i) (x := x) (fun y hy => hn y (List.mem_cons_of_mem _ hy)) h
    show (y :: l.take i).sum + x ≤ (y :: l).sum ∧ (y :: l.take (i + 1)).sum = (y :: l.take i).sum + x
    rw [List.sum_cons, List.sum_cons, List.sum_cons]
    omega
theorem wid_nn (b : Int × Int) : 0 ≤ wid b := by
  unfold wid
  split <;> omega
theorem cst_nn {B : Nat → List Int → Int × Int} : ∀ (f : Pw.Fs) (vs : List Int), 0 ≤ cst B f vs
  | .nil, _ => Int.le_refl _
  | .leaf _ r, vs => cst_nn r vs
  | .node k s r, vs => by
    have h1 := wid_nn (B k vs)
    have h2 := cst_nn (B := B) r vs
    have h3 : 0 ≤ ((Tn.rng (B k vs).1 (B k vs).2).map fun v => cst B s (vs ++ [v])).sum := sum_nn fun x hx => by
      obtain ⟨v, _, rfl⟩ := List.mem_map.mp hx
      exact cst_nn s (vs ++ [v])
    have h4 : 0 ≤ wid (B k vs) * (1 + (lvs s : Int)) := Int.mul_nonneg h1 (by omega)
    show 0 ≤ wid (B k vs) * (1 + (lvs s : Int)) + (if lvs s < itm s then _ else 0) + cst B r vs
    split <;> omega
theorem lvs_le : ∀ f : Pw.Fs, lvs f ≤ itm f
  | .nil => Nat.le_refl _
  | .leaf _ r => by have := lvs_le r; show 1 + lvs r ≤ 1 + itm r; omega
  | .node _ _ r => by have := lvs_le r; show lvs r ≤ 1 + itm r; omega
theorem itm_len {H : Hp} : ∀ {f : Pw.Fs} {xs : List V}, FsAt H f xs → xs.length = itm f
  | .nil, xs, h => by rw [show xs = [] from h]; rfl
  | .leaf k r, xs, h => by
    obtain ⟨t, xs', e, _, h2⟩ := h
    rw [e, List.length_cons, itm_len h2]
    show _ = 1 + itm r
    omega
  | .node k s r, xs, h => by
    obtain ⟨t, l, ys, xs', e, _, _, _, h2⟩ := h
    rw [e, List.length_cons, itm_len h2]
    show _ = 1 + itm r
    omega
theorem isf_items {D : Nat → Option (Pw.Dd LpT Str)} : ∀ {f : Pw.Fs} {ns : List Nat} {d : Nat}, Pw.IsF D f ns d → itm f ≤ ns.length
  | .nil, ns, d, h => Nat.zero_le _
  | .leaf k r, ns, d, h => by
    obtain ⟨ns', a, rfl, _, _, h2⟩ := h
    have := isf_items h2
    show 1 + itm r ≤ _
    rw [List.length_cons]
    omega
  | .node k s r, ns, d, h => by
    obtain ⟨g, ns', a, rfl, _, _, _, _, _, h2⟩ := h
    have := isf_items h2
    show 1 + itm r ≤ _
    rw [List.length_append, List.length_cons]
    omega
noncomputable def WkAt (CW : Addr) (H : Hp) (wk : Addr) (room : Int) (l : Addr) (dx dl : Addr) : Prop := H wk = some (.ins CW dx [("deeds", .ref dl), ("room", .int room), ("told", .ref l)])
noncomputable def spWInit (CW : Addr) : Sp := fun vs H Q _ => ∃ (r dx : Addr) (d : V) (m : Int), vs = [.ref r, d, .int m] ∧ H r = some (.ins CW dx []) ∧ ∀ (l : Addr), H l = none → Q .non (upd (upd H l (.lst [])) r (.ins CW dx [("deeds", d), ("room", .int m), ("told", .ref l)]))
noncomputable def spRoom (CW : Addr) : Sp := fun vs H Q _ => ∃ (wk l dx dl : Addr) (m room : Int), vs = [.ref wk, .int m] ∧ WkAt CW H wk room l dx dl ∧ m ≤ room ∧ Q .non (upd H wk (.ins CW dx [("deeds", .ref dl), ("room", .int (room - m)), ("told", .ref l)]))
noncomputable def spAmong : Sp := fun vs H Q _ => ∃ (il : Addr) (xs : List V) (f : Pw.Fs), vs = [.ref il] ∧ H il = some (.lst xs) ∧ FsAt H f xs ∧ xs.length ≤ 10 ∧ ∀ H', Same H H' → Q (.int (lvs f : Int)) H'
structure Wr (CW C : Addr) (H HF : Hp) (wk l dx dl : Addr) (room : Int) (Ds : List Dw) : Prop where
  w : WkAt CW H wk room l dx dl
  d : WosAt C HF dl Ds
  same : Same HF H
  nw : HF wk = none
theorem Wr.over {CW C : Addr} {H H' HF : Hp} {wk l dx dl : Addr} {room : Int} {Ds : List Dw} (h : Wr CW C H HF wk l dx dl room Ds) (e : Same H H') : Wr CW C H' HF wk l dx dl room Ds := ⟨e _ _ h.w, h.d, h.same.trans e, h.nw⟩
theorem Wr.set {CW C : Addr} {H H' HF : Hp} {wk l dx dl : Addr} {room r2 : Int} {Ds : List Dw} (h : Wr CW C H HF wk l dx dl room Ds) (e : Bt wk H H') (w : WkAt CW H' wk r2 l dx dl) : Wr CW C H' HF wk l dx dl r2 Ds := ⟨w, h.d, fun b o hb => e b o (ne_of_none hb h.nw) (h.same b o hb), h.nw⟩
noncomputable def spCntI (CW C : Addr) (n : Nat) : Sp := fun vs H Q _ => ∃ (wk l il vt dx dl : Addr) (room : Int) (HF : Hp) (Ds : List Dw) (f : Pw.Fs) (ns : List Nat) (xs : List V) (us : List Int), vs = [.ref wk, .ref il, .ref vt] ∧ Wr CW C H HF wk l dx dl room Ds ∧ (∀ D ∈ Ds, Ok3 D) ∧ HF il = some (.lst xs) ∧ FsAt HF f xs ∧ xs.length ≤ 10 ∧ fdep f < n ∧ Pw.IsF (getD Ds) f ns us.length ∧ ns.length ≤ 10 ∧ Fit (bW Ds) f us ∧ H vt = some (.tup (us.map V.int)) ∧ cst (bW Ds) f us ≤ room ∧ ∀ (H' : Hp), Bt wk H H' → WkAt CW H' wk (room - cst (bW Ds) f us) l dx dl → Q .non H'
noncomputable def spCntL (CW C : Addr) (n : Nat) : Sp := fun vs H Q _ => ∃ (wk l il vt dx dl : Addr) (room : Int) (HF : Hp) (Ds : List Dw) (f : Pw.Fs) (k : Nat) (D : Dw) (ns : List Nat) (xs : List V) (us : List Int), vs = [.ref wk, .int (k : Int), .ref il, .ref vt] ∧ Wr CW C H HF wk l dx dl room Ds ∧ (∀ D ∈ Ds, Ok3 D) ∧ Ds[k]? = some D ∧ us.length < D.loops.length ∧ HF il = some (.lst xs) ∧ FsAt HF f xs ∧ xs.length ≤ 10 ∧ fdep f < n ∧ Pw.IsF (getD Ds) f ns (us.length + 1) ∧ ns.length ≤ 10 ∧ Fit (bW Ds) (.node k f .nil) us ∧ H vt = some (.tup (us.map V.int)) ∧ cst (bW Ds) (.node k f .nil) us ≤ room ∧ ∀ (H' : Hp), Bt wk H H' → WkAt CW H' wk (room - cst (bW Ds) (.node k f .nil) us) l dx dl → Q .non H'
noncomputable def Small (Ds : List Dw) : Prop := ∀ f, Pw.IsF (getD Ds) f (List.range Ds.length) 0 → Fit (bW Ds) f [] ∧ (Tn.tl (bW Ds) f []).length ≤ 400000 ∧ (lvs f : Int) + cst (bW Ds) f [] ≤ 1000000
noncomputable def spEvery (C : Addr) : Sp := fun vs H Q _ => ∃ (dl : Addr) (Ds : List Dw), vs = [.ref dl] ∧ WosAt C H dl Ds ∧ OkW Ds ∧ Small Ds ∧ ∀ (r : Addr) (H' : Hp) (xs : List V) (f : Pw.Fs), Same H H' → H r = none → H' r = some (.lst xs) → Pw.IsF (getD Ds) f (List.range Ds.length) 0 → All2 (TnAt H') xs (Tn.tl (bW Ds) f []) → Q (.ref r) H'
noncomputable def spTurns31 (CP C : Addr) : Sp := fun vs H Q _ => ∃ (x dx dl : Addr) (sz : V) (Ds : List Dw), vs = [.ref x, .int 1000000] ∧ H x = some (.ins CP dx [("size", sz), ("deeds", .ref dl)]) ∧ WosAt C H dl Ds ∧ OkW Ds ∧ Small Ds ∧ ∀ (r : Addr) (H' : Hp) (xs : List V) (f : Pw.Fs), Same H H' → H r = none → H' r = some (.lst xs) → Pw.IsF (getD Ds) f (List.range Ds.length) 0 → All2 (TnAt H') xs (Tn.tl (bW Ds) f []) → Q (.ref r) H'
noncomputable def cutH (H : Hp) (l x : Addr) : Hp := fun b => if b = l ∨ b = x then none else H b
theorem cutH_get {H : Hp} {l x b : Addr} (n1 : b ≠ l) (n2 : b ≠ x) : cutH H l x b = H b := by
  unfold cutH
  rw [if_neg (by rintro (h | h); exact n1 h; exact n2 h)]
theorem cutH_l {H : Hp} {l x : Addr} : cutH H l x l = none := by
  unfold cutH
  rw [if_pos (.inl rfl)]
theorem cutH_x {H : Hp} {l x : Addr} : cutH H l x x = none := by
  unfold cutH
  rw [if_pos (.inr rfl)]
theorem cutH_same {H : Hp} {l x : Addr} : Same (cutH H l x) H := fun b o h => by
  unfold cutH at h
  split at h
  · cases h
  · exact h
theorem cutH_old {H H2 : Hp} {l x : Addr} (e : Same H H2) (hl : H l = none) (hx : H x = none) : Same H (cutH H2 l x) := fun b o h => by
  rw [cutH_get (ne_of_none h hl) (ne_of_none h hx)]
  exact e b o h
theorem cutH_new {H H2 : Hp} {l x : Addr} {o1 o2 : HO} (hl : H l = some o1) (hx : H x = some o2) : Same (nw H H2) (cutH H2 l x) := fun b o h => by
  obtain ⟨h0, h1⟩ := nw_inv h
  rw [cutH_get (ne_of_none hl h0).symm (ne_of_none hx h0).symm]
  exact h1
theorem walk_new {H : Hp} {x dx l : Addr} {C : Addr} {fs : List (Str × V)} (hx : H x = none) (hdx : H dx = none) (hl : (upd (upd H dx (.own x)) x (.ins C dx [])) l = none) : H l = none ∧ l ≠ x ∧ Same H (upd (upd (upd (upd H dx (.own x)) x (.ins C dx [])) l (.lst [])) x (.ins C dx fs)) ∧ (upd (upd (upd (upd H dx (.own x)) x (.ins C dx [])) l (.lst [])) x (.ins C dx fs)) l = some (.lst []) ∧ (upd (upd (upd (upd H dx (.own x)) x (.ins C dx [])) l (.lst [])) x (.ins C dx fs)) x = some (.ins C dx fs) := by
  have nlx : l ≠ x := fun e => by rw [e, upd_same] at hl; cases hl
  rw [upd_ne nlx] at hl
  have nld : l ≠ dx := fun e => by rw [e, upd_same] at hl; cases hl
  rw [upd_ne nld] at hl
  refine ⟨hl, nlx, fun b o h => ?_, by rw [upd_ne nlx, upd_same], upd_same⟩
  rw [upd_ne (ne_of_none h hx), upd_ne (ne_of_none h hl), upd_ne (ne_of_none h hx), upd_ne (ne_of_none h hdx)]
  exact h
end L2

set_option Elab.async false
set_option linter.all false
set_option maxRecDepth 100000
set_option maxHeartbeats 4000000
namespace L2
open PySem PySem.Spec PyProof.Rows
theorem all2_snoc {α : Type} {R : V → α → Prop} {xs : List V} {as : List α} {x : V} {a : α} (h : All2 R (xs ++ [x]) (as ++ [a])) : All2 R xs as ∧ R x a := by
  obtain ⟨l, g⟩ := h
  rw [List.length_append, List.length_append, List.length_singleton, List.length_singleton] at l
  refine ⟨⟨by omega, fun i y b hy hb => g i y b ?_ ?_⟩, g xs.length x a ?_ ?_⟩
  · rw [List.getElem?_append_left (List.getElem?_eq_some_iff.mp hy).1]; exact hy
  · rw [List.getElem?_append_left (List.getElem?_eq_some_iff.mp hb).1]; exact hb
  · rw [List.getElem?_append_right (Nat.le_refl _), Nat.sub_self]; rfl
  · rw [show xs.length = as.length by omega, List.getElem?_append_right (Nat.le_refl _), Nat.sub_self]; rfl
noncomputable def Bq (S : List Lp) (z : Str) (k : Int) : Prop := (z = "" ∧ k = 0) ∨ ∃ r ∈ S, z = r.nm ∧ k = r.ab
theorem Bq.bs {S : List Lp} {z : Str} {k : Int} (h : Bq S z k) : Bs S z := by
  rcases h with ⟨h, _⟩ | ⟨r, hr, h, _⟩
  · exact .inl h
  · exact .inr ⟨r, hr, h⟩
noncomputable def BqAt (H : Hp) (S : List Lp) (vs : List V) : Prop := ∀ v ∈ vs, ∃ (t : Addr) (z : Str) (n : Int), v = .ref t ∧ H t = some (.tup [.str z, .int n]) ∧ Bq S z n
theorem BqAt.over {H H' : Hp} {S : List Lp} {vs : List V} (h : BqAt H S vs) (e : Same H H') : BqAt H' S vs := fun v hv => by
  obtain ⟨t, z, n, a, b, c⟩ := h v hv
  exact ⟨t, z, n, a, e _ _ b, c⟩
structure NewL (S : List Lp) (c : Int) (q : Lp) : Prop where
  nw : NewLp S c q
  ab : -(10 ^ 17) ≤ q.ab ∧ q.ab ≤ 10 ^ 17
  lo : ∃ k d, Bq S q.lz k ∧ q.ln = q.ab - k + d ∧ 0 ≤ d ∧ d ≤ 1
  hi : ∃ k m, Bq S q.hz k ∧ q.hn = q.ab - k + m ∧ -1 ≤ m ∧ m ≤ 3
noncomputable def spLoop31 : Sp := fun vs H Q _ => ∃ (n far c : Int) (st : Addr) (S : List Lp), vs = [.int n, .int far, .ref st, .int c] ∧ 0 ≤ n ∧ StIs H st S ∧ S.length ≤ 10 ∧ (∀ r ∈ S, 0 ≤ r.tn ∧ r.tn ≤ 2) ∧ -(10 ^ 17) ≤ far ∧ far ≤ 10 ^ 17 ∧ ∀ (x : V) (H' : Hp) (q : Lp), Same H H' → LpIs H' x q → NewL S c q → Q x H'
noncomputable def StOk (S : List Lp) (c : Int) : Prop := S.length ≤ 3 ∧ ∀ (i : Nat) (q : Lp), S[i]? = some q → NewL (S.take i) c q
theorem StOk.nil (c : Int) : StOk [] c := ⟨Nat.zero_le _, fun i q h => by cases h⟩
theorem StOk.snoc {S : List Lp} {c : Int} {q : Lp} (h : StOk S c) (l : S.length < 3) (g : NewL S c q) : StOk (S ++ [q]) c := by
  refine ⟨by rw [List.length_append, List.length_singleton]; omega, fun i r hr => ?_⟩
  by_cases z : i < S.length
  · rw [List.getElem?_append_left z] at hr
    rw [List.take_append_of_le_length (by omega)]
    exact h.2 i r hr
  · have : i = S.length := by
      have := (List.getElem?_eq_some_iff.mp hr).1
      rw [List.length_append, List.length_singleton] at this
      omega
    subst this
    rw [List.getElem?_append_right (Nat.le_refl _), Nat.sub_self] at hr
    cases hr
    rw [List.take_append_of_le_length (Nat.le_refl _), List.take_length]
    exact g
theorem StOk.init {S : List Lp} {c : Int} {q : Lp} (h : StOk (S ++ [q]) c) : StOk S c ∧ NewL S c q := by
  have l := h.1
  rw [List.length_append, List.length_singleton] at l
  refine ⟨⟨by omega, fun i r hr => ?_⟩, ?_⟩
  · have li := (List.getElem?_eq_some_iff.mp hr).1
    have := h.2 i r (by rw [List.getElem?_append_left li]; exact hr)
    rw [List.take_append_of_le_length (by omega)] at this
    exact this
  · have := h.2 S.length q (by rw [List.getElem?_append_right (Nat.le_refl _), Nat.sub_self]; rfl)
    rw [List.take_append_of_le_length (Nat.le_refl _), List.take_length] at this
    exact this
theorem StOk.sok {c : Int} : ∀ {n : Nat} {S : List Lp}, S.length = n → StOk S c → SOk S c
  | 0, S, l, h => by rw [List.eq_nil_of_length_eq_zero l]; exact SOk.nil c
  | n + 1, S, l, h => by
    obtain ⟨S', q, rfl, l'⟩ := snoc_of (l := S) (n := n) l
    obtain ⟨h1, h2⟩ := h.init
    have l3 := h.1
    rw [List.length_append, List.length_singleton] at l3
    exact (StOk.sok l' h1).snoc (by omega) h2.nw
theorem StOk.tn {S : List Lp} {c : Int} (h : StOk S c) : ∀ r ∈ S, 0 ≤ r.tn ∧ r.tn ≤ 2 := fun r hr => by
  obtain ⟨i, hi⟩ := List.mem_iff_getElem?.mp hr
  have := (h.2 i r hi).nw
  exact ⟨this.2.1, this.2.2.1⟩
structure R3 where
  S : List Lp
  path : List Int
  z : Str
  p : Addr
  m : Nat
  rs : Reads
noncomputable def R3At (H : Hp) (v : V) (R : R3) : Prop := ∃ (r u1 u2 u3 u4 : Addr) (x : V) (ls hs : List V), v = .ref r ∧ H r = some (.tup [.ref u1, .ref u2, .ref u3, .str R.z, .ref R.p, x, .ref u4]) ∧ H u1 = some (.tup ((nmsOf R.S).map V.str)) ∧ H u2 = some (.tup ls) ∧ All2 (fun v q => SpoAt H v (q.lz, q.ln)) ls R.S ∧ H u3 = some (.tup hs) ∧ All2 (fun v q => SpoAt H v (q.hz, q.hn)) hs R.S ∧ H u4 = some (.tup (R.path.map V.int)) ∧ TmT H R.m x R.rs
theorem R3At.tk {H H' : Hp} {v : V} {R : R3} (h : R3At H v R) (e : TK H H') : R3At H' v R := by
  obtain ⟨r, u1, u2, u3, u4, x, ls, hs, a, b, c, d, f, g, i, j, k⟩ := h
  exact ⟨r, u1, u2, u3, u4, x, ls, hs, a, e _ _ b, e _ _ c, e _ _ d, f.mono fun _ _ z => z.tk e, e _ _ g, i.mono fun _ _ z => z.tk e, e _ _ j, k.tk e⟩
theorem R3At.over {H H' : Hp} {v : V} {R : R3} (h : R3At H v R) (e : Same H H') : R3At H' v R := h.tk (Same.tk e)
noncomputable def R3sAt (H : Hp) (l : Addr) (Rs : List R3) : Prop := ∃ xs, H l = some (.lst xs) ∧ All2 (R3At H) xs Rs
theorem R3sAt.over {H H' : Hp} {l : Addr} {Rs : List R3} (h : R3sAt H l Rs) (e : Same H H') : R3sAt H' l Rs := by
  obtain ⟨xs, a, b⟩ := h
  exact ⟨xs, e _ _ a, b.mono fun _ _ z => z.over e⟩
noncomputable def spRow31 : Sp := fun vs H Q _ => ∃ (c : Int) (st pt hd : Addr) (S : List Lp) (ps : List Int), vs = [.int c, .ref st, .ref pt, .ref hd] ∧ StIs H st S ∧ S.length ≤ 10 ∧ H pt = some (.lst (ps.map V.int)) ∧ HeadsAt H hd ∧ ∀ (r : Addr) (H' : Hp) (z : Str) (p : Addr) (m : Nat) (rs : Reads), Same H H' → R3At H' (.ref r) ⟨S, ps, z, p, m, rs⟩ → m ≤ 3 → Q (.ref r) H'
noncomputable def Par (R R' : R3) : Prop := ∃ e, e ≤ R.S.length ∧ e ≤ R'.S.length ∧ R.S.take e = R'.S.take e ∧ R.path.take e = R'.path.take e ∧ R.path.getD e 0 < R'.path.getD e 0
structure ROk (c : Int) (R : R3) : Prop where
  so : StOk R.S c
  pl : R.path.length = R.S.length + 1
  m3 : R.m ≤ 3
structure Dr3 (Rs : List R3) (S : List Lp) (C P : List Int) (c : Int) : Prop where
  so : StOk S c
  cl : C.length = S.length + 1
  pl : P.length = S.length
  cp : ∀ j, j < S.length → P.getD j 0 < C.getD j 0
  ah : ∀ R ∈ Rs, ∃ e, e ≤ R.S.length ∧ e ≤ S.length ∧ R.S.take e = S.take e ∧ R.path.take e = P.take e ∧ R.path.getD e 0 < if e < S.length then P.getD e 0 else C.getD e 0
theorem Dr3.nil (c : Int) : Dr3 [] [] [0] [] c := ⟨.nil c, rfl, rfl, fun j h => absurd h (Nat.not_lt_zero _), fun R h => by cases h⟩
theorem gd_l {l m : List Int} {j : Nat} (h : j < l.length) : (l ++ m).getD j 0 = l.getD j 0 := by
  rw [List.getD_eq_getElem?_getD, List.getElem?_append_left h, ← List.getD_eq_getElem?_getD]
theorem gd_r {l m : List Int} {x : Int} : (l ++ x :: m).getD l.length 0 = x := by
  rw [List.getD_eq_getElem?_getD, List.getElem?_append_right (Nat.le_refl _), Nat.sub_self]
  rfl
theorem Dr3.pop {Rs : List R3} {S : List Lp} {C P : List Int} {c x y : Int} {q : Lp} (h : Dr3 Rs (S ++ [q]) (C ++ [x]) (P ++ [y]) c) : Dr3 Rs S C P c ∧ NewL S c q := by
  obtain ⟨so, cl, pl, cp, ah⟩ := h
  obtain ⟨s1, s2⟩ := so.init
  rw [List.length_append, List.length_append, List.length_singleton, List.length_singleton] at cl
  rw [List.length_append, List.length_append, List.length_singleton, List.length_singleton] at pl
  rw [List.length_append, List.length_singleton] at cp
  have pS : P.length = S.length := by omega
  have yx := cp S.length (by omega)
  rw [← pS, gd_r, gd_l (by omega)] at yx
  refine ⟨⟨s1, by omega, pS, fun j hj => ?_, fun R hR => ?_⟩, s2⟩
  · have := cp j (by omega)
    rw [gd_l (by omega), gd_l (by omega)] at this
    exact this
  · obtain ⟨e, e1, e2, e3, e4, e5⟩ := ah R hR
    rw [List.length_append, List.length_singleton] at e2 e5
    rcases Nat.lt_or_ge e S.length with z | z
    · rw [if_pos (by omega), gd_l (by omega)] at e5
      refine ⟨e, e1, by omega, ?_, ?_, by rw [if_pos z]; exact e5⟩
      · rw [e3, List.take_append_of_le_length (by omega)]
      · rw [e4, List.take_append_of_le_length (by omega)]
    · have t3 : R.S.take S.length = S := by
        have := Tn.take_le e3 z
        rw [List.take_append_of_le_length (Nat.le_refl _), List.take_length] at this
        exact this
      have t4 : R.path.take S.length = P.take S.length := by
        have := Tn.take_le e4 z
        rw [this, List.take_append_of_le_length (by omega)]
      refine ⟨S.length, by omega, Nat.le_refl _, by rw [t3, List.take_length], t4, ?_⟩
      rw [if_neg (Nat.lt_irrefl _), ← pS]
      rcases Nat.lt_or_ge S.length e with z2 | z2
      · have := Tn.take_at e4 z2
        rw [← pS, gd_r] at this
        rw [this]
        exact yx
      · have ee : e = S.length := by omega
        rw [if_pos (by omega), ee, ← pS, gd_r] at e5
        omega
theorem Dr3.push {Rs : List R3} {S : List Lp} {C P : List Int} {c x : Int} {q : Lp} (h : Dr3 Rs S (C ++ [x]) P c) (l : S.length < 3) (g : NewL S c q) : Dr3 Rs (S ++ [q]) (C ++ [x + 1, 0]) (P ++ [x]) c := by
  obtain ⟨so, cl, pl, cp, ah⟩ := h
  rw [List.length_append, List.length_singleton] at cl
  have Cl : C.length = S.length := by omega
  refine ⟨so.snoc l g, by rw [List.length_append, List.length_append]; show C.length + 2 = _; rw [List.length_singleton]; omega, by rw [List.length_append, List.length_append, List.length_singleton, List.length_singleton]; omega, fun j hj => ?_, fun R hR => ?_⟩
  · rw [List.length_append, List.length_singleton] at hj
    rcases Nat.lt_or_ge j S.length with z | z
    · have := cp j z
      rw [gd_l (by omega)] at this
      rw [gd_l (by omega), gd_l (by omega)]
      exact this
    · obtain rfl : j = S.length := by omega
      have a1 : (P ++ [x]).getD S.length 0 = x := by rw [← pl, gd_r]
      have a2 : (C ++ [x + 1, 0]).getD S.length 0 = x + 1 := by rw [← Cl, gd_r]
      rw [a1, a2]
      omega
  · obtain ⟨e, e1, e2, e3, e4, e5⟩ := ah R hR
    refine ⟨e, e1, by rw [List.length_append]; omega, by rw [e3, List.take_append_of_le_length e2], by rw [e4, List.take_append_of_le_length (by omega)], ?_⟩
    rw [List.length_append, List.length_singleton, if_pos (by omega)]
    rcases Nat.lt_or_ge e S.length with z | z
    · rw [if_pos z] at e5
      rw [gd_l (by omega)]
      exact e5
    · have ee : e = S.length := by omega
      rw [if_neg (by omega), ee, ← Cl, gd_r] at e5
      rw [ee, ← pl, gd_r]
      rw [← Cl] at pl
      rw [pl]
      exact e5
theorem Dr3.row {Rs : List R3} {R : R3} {C P : List Int} {c x : Int} (h : Dr3 Rs R.S (C ++ [x]) P c) (hp : R.path = P ++ [x]) : Dr3 (Rs ++ [R]) R.S (C ++ [x + 1]) P c ∧ ∀ R' ∈ Rs, Par R' R := by
  obtain ⟨so, cl, pl, cp, ah⟩ := h
  rw [List.length_append, List.length_singleton] at cl
  have Cl : C.length = R.S.length := by omega
  refine ⟨⟨so, by rw [List.length_append, List.length_singleton]; omega, pl, fun j hj => ?_, fun R' hR => ?_⟩, fun R' hR => ?_⟩
  · have := cp j hj
    rw [gd_l (by omega)] at this ⊢
    exact this
  · rcases List.mem_append.mp hR with hR | hR
    · obtain ⟨e, e1, e2, e3, e4, e5⟩ := ah R' hR
      refine ⟨e, e1, e2, e3, e4, ?_⟩
      rcases Nat.lt_or_ge e R.S.length with z | z
      · rw [if_pos z] at e5 ⊢
        exact e5
      · have ee : e = R.S.length := by omega
        rw [if_neg (by omega), ee, ← Cl, gd_r] at e5
        rw [if_neg (by omega), ee, ← Cl, gd_r]
        omega
    · rw [List.mem_singleton.mp hR]
      refine ⟨R.S.length, Nat.le_refl _, Nat.le_refl _, rfl, ?_, ?_⟩
      · rw [hp, List.take_append_of_le_length (by omega)]
      · rw [if_neg (Nat.lt_irrefl _), hp]
        have a1 : (P ++ [x]).getD R.S.length 0 = x := by rw [← pl, gd_r]
        have a2 : (C ++ [x + 1]).getD R.S.length 0 = x + 1 := by rw [← Cl, gd_r]
        rw [a1, a2]
        omega
  · obtain ⟨e, e1, e2, e3, e4, e5⟩ := ah R' hR
    refine ⟨e, e1, e2, e3, by rw [e4, hp, List.take_append_of_le_length (by omega)], ?_⟩
    rw [hp]
    rcases Nat.lt_or_ge e R.S.length with z | z
    · rw [if_pos z] at e5
      rw [gd_l (by omega)]
      exact e5
    · have ee : e = R.S.length := by omega
      rw [if_neg (by omega), ee, ← Cl, gd_r] at e5
      have a1 : (P ++ [x]).getD R.S.length 0 = x := by rw [← pl, gd_r]
      rw [ee, a1, ← Cl]
      exact e5
noncomputable def spRows31 (K : PySem.W.Frag) : Sp := fun vs H Q _ => ∃ (sc : Addr) (ns : List Int) (n : Nat), vs = [.ref sc, .int (n : Int)] ∧ SqL K H sc (ns.map V.int) ∧ ns.length ≤ 63 ∧ n ≤ 6 ∧ ∀ (r : Addr) (H' : Hp) (Rs : List R3), Same H H' → R3sAt H' r Rs → Rs.length = n → (∀ R ∈ Rs, ROk (cellD ns 1) R) → Rs.Pairwise Par → Q (.ref r) H'
end L2

set_option Elab.async false
set_option linter.all false
set_option maxRecDepth 100000
set_option maxHeartbeats 4000000
namespace L2
open PySem PySem.Spec PyProof.Rows
noncomputable def lpT (q : Lp) : LpT := ⟨q.nm, (q.lz, q.ln), (q.hz, q.hn)⟩
noncomputable def R3.dw (R : R3) : Dw := ⟨R.S.map lpT, "", [], .n 0, R.path⟩
theorem dw_nms (R : R3) : nms R.dw = nmsOf R.S := by
  unfold nms nmsOf R3.dw
  rw [List.map_map]
  rfl
structure RG (R : R3) : Prop where
  ll : R.S.length ≤ 3
  pl : R.path.length = R.S.length + 1
  nd : (nmsOf R.S).Nodup
  ne : ∀ z ∈ nmsOf R.S, z ≠ ""
  bs : ∀ (e : Nat) (q : Lp), R.S[e]? = some q → Bs (R.S.take e) q.lz ∧ Bs (R.S.take e) q.hz
  m3 : R.m ≤ 3
theorem ROk.rg {R : R3} {c : Int} (h : ROk c R) : RG R := by
  have so := StOk.sok rfl h.so
  exact ⟨h.so.1, h.pl, nms_nd so, nms_ne so, so.bs, h.m3⟩
theorem bs_in {S : List Lp} {e : Nat} {z : Str} (h : Bs (S.take e) z) : z = "" ∨ z ∈ (nmsOf S).take e := by
  rcases h with h | ⟨r, hr, rfl⟩
  · exact .inl h
  · refine .inr ?_
    unfold nmsOf
    rw [← List.map_take]
    exact List.mem_map.mpr ⟨r, hr, rfl⟩
theorem RG.ok3 {R : R3} (h : RG R) : Ok3 R.dw := by
  refine ⟨by show (R.S.map lpT).length ≤ 3; rw [List.length_map]; exact h.ll, by show R.path.length = (R.S.map lpT).length + 1; rw [List.length_map]; exact h.pl, by rw [dw_nms]; exact h.nd, fun e t ht => ?_⟩
  have ht : (R.S.map lpT)[e]? = some t := ht
  rw [List.getElem?_map] at ht
  cases hq : R.S[e]? with
  | none => rw [hq] at ht; cases ht
  | some q =>
    rw [hq] at ht
    cases ht
    obtain ⟨b1, b2⟩ := h.bs e q hq
    rw [dw_nms]
    exact ⟨bs_in b1, bs_in b2⟩
theorem lk_zip : ∀ {zs : List Str} {vs : List Int} {j : Nat} {z : Str}, zs.Nodup → zs[j]? = some z → j < vs.length → lkN (zs.zip vs) z = vs.getD j 0
  | [], vs, j, z, _, h, _ => by cases h
  | y :: zs, [], j, z, _, _, h => by cases h
  | y :: zs, v :: vs, 0, z, nd, h, _ => by
    cases h
    unfold lkN
    rw [List.zip_cons_cons, List.find?_cons_of_pos (by simp)]
    rfl
  | y :: zs, v :: vs, j + 1, z, nd, h, hl => by
    obtain ⟨n1, n2⟩ := List.nodup_cons.mp nd
    have hz : z ∈ zs := List.mem_of_getElem? h
    have ih := lk_zip (vs := vs) n2 h (Nat.lt_of_succ_lt_succ hl)
    unfold lkN at ih ⊢
    rw [List.zip_cons_cons, List.find?_cons_of_neg (by simpa using fun e : y = z => n1 (e ▸ hz))]
    exact ih
noncomputable def Nr (S : List Lp) (vs : List Int) : Prop := ∀ (j : Nat) (q : Lp), j < vs.length → S[j]? = some q → 0 ≤ vs.getD j 0 - q.ab ∧ vs.getD j 0 - q.ab ≤ 3 * ((j : Int) + 1)
theorem bq_val {S : List Lp} {e : Nat} {vs : List Int} {z : Str} {k : Int} (nd : (nmsOf S).Nodup) (ne : ∀ z ∈ nmsOf S, z ≠ "") (hv : vs.length = e) (hn : Nr S vs) (n : Int) (h : Bq (S.take e) z k) : ∃ x, stW ((nmsOf S).zip vs) (z, n) = x + n ∧ 0 ≤ x - k ∧ x - k ≤ 3 * (e : Int) := by
  rcases h with ⟨rfl, rfl⟩ | ⟨r, hr, rfl, rfl⟩
  · refine ⟨0, ?_, by omega, by omega⟩
    unfold stW
    rw [if_pos rfl]
    show n = 0 + n
    omega
  · obtain ⟨j, hj⟩ := List.mem_iff_getElem?.mp hr
    have l := (List.getElem?_eq_some_iff.mp hj).1
    rw [List.length_take] at l
    rw [List.getElem?_take_of_lt (by omega)] at hj
    have hz : (nmsOf S)[j]? = some r.nm := by unfold nmsOf; rw [List.getElem?_map, hj]; rfl
    have := hn j r (by omega) hj
    refine ⟨vs.getD j 0, ?_, by omega, by omega⟩
    unfold stW
    rw [if_neg (ne _ (List.mem_of_getElem? hz)), lk_zip nd hz (by omega)]
theorem bD_at {R : R3} {vs : List Int} {q : Lp} (h : R.S[vs.length]? = some q) : bD R.dw vs = (stW ((nmsOf R.S).zip vs) (q.lz, q.ln), stW ((nmsOf R.S).zip vs) (q.hz, q.hn)) := by
  unfold bD
  have : R.dw.loops[vs.length]? = some (lpT q) := by show (R.S.map lpT)[vs.length]? = _; rw [List.getElem?_map, h]; rfl
  rw [this, dw_nms]
  rfl
theorem near_step {R : R3} {c : Int} {vs : List Int} {q : Lp} (h : ROk c R) (hn : Nr R.S vs) (hq : R.S[vs.length]? = some q) : q.ab ≤ (bD R.dw vs).1 ∧ (bD R.dw vs).2 ≤ q.ab + 3 * ((vs.length : Int) + 1) ∧ (bD R.dw vs).1 ≤ q.ab + 3 * (vs.length : Int) + 1 ∧ q.ab - 1 ≤ (bD R.dw vs).2 ∧ -(10 ^ 17) ≤ q.ab ∧ q.ab ≤ 10 ^ 17 := by
  have g := h.rg
  have nw := h.so.2 _ q hq
  obtain ⟨k, d, b1, e1, d0, d1⟩ := nw.lo
  obtain ⟨k', m, b2, e2, m0, m1⟩ := nw.hi
  obtain ⟨x, ex, x0, x1⟩ := bq_val g.nd g.ne rfl hn q.ln b1
  obtain ⟨y, ey, y0, y1⟩ := bq_val g.nd g.ne rfl hn q.hn b2
  rw [bD_at hq, ex, ey]
  have := nw.ab
  show q.ab ≤ x + q.ln ∧ y + q.hn ≤ _ ∧ x + q.ln ≤ _ ∧ q.ab - 1 ≤ y + q.hn ∧ _
  omega
theorem Nr.snoc {S : List Lp} {vs : List Int} {v : Int} {q : Lp} (h : Nr S vs) (hq : S[vs.length]? = some q) (h0 : q.ab ≤ v) (h1 : v ≤ q.ab + 3 * ((vs.length : Int) + 1)) : Nr S (vs ++ [v]) := fun j r hj hr => by
  rw [List.length_append, List.length_singleton] at hj
  rcases Nat.lt_or_ge j vs.length with z | z
  · rw [gd_l z]
    exact h j r z hr
  · obtain rfl : j = vs.length := by omega
    rw [gd_r]
    rw [hq] at hr
    cases hr
    omega
noncomputable def Tame (W : Int) (D : Dw) : Prop := ∃ G : List Int → Prop, G [] ∧ ∀ vs, G vs → vs.length < D.loops.length → (-(2 ^ 60) ≤ (bD D vs).1 ∧ (bD D vs).1 ≤ 2 ^ 60 ∧ -(2 ^ 60) ≤ (bD D vs).2 ∧ (bD D vs).2 ≤ 2 ^ 60) ∧ (bD D vs).2 - (bD D vs).1 + 1 ≤ W ∧ ∀ v, (bD D vs).1 ≤ v → v ≤ (bD D vs).2 → G (vs ++ [v])
theorem ROk.tame {R : R3} {c : Int} (h : ROk c R) : Tame 10 R.dw := by
  refine ⟨fun vs => Nr R.S vs, fun j q hj => absurd hj (Nat.not_lt_zero _), fun vs hn hl => ?_⟩
  have hl : vs.length < (R.S.map lpT).length := hl
  rw [List.length_map] at hl
  have hq : R.S[vs.length]? = some R.S[vs.length] := List.getElem?_eq_getElem hl
  generalize R.S[vs.length] = q at hq
  obtain ⟨s1, s2, s3, s4, s5, s6⟩ := near_step h hn hq
  have l3 := h.so.1
  refine ⟨by omega, by omega, fun v v0 v1 => hn.snoc hq (by omega) (by omega)⟩
theorem zip_take : ∀ (l : List Str) (m : List Int), l.zip m = (l.take m.length).zip m
  | [], m => by rw [List.take_nil]
  | x :: l, [] => rfl
  | x :: l, y :: m => by
    show (x, y) :: l.zip m = (x, y) :: (l.take m.length).zip m
    rw [← zip_take l m]
theorem bD_eq {R R' : R3} {e : Nat} {vs : List Int} (h : R.S.take e = R'.S.take e) (hv : vs.length < e) : bD R.dw vs = bD R'.dw vs := by
  have e1 : R.dw.loops[vs.length]? = R'.dw.loops[vs.length]? := by
    show (R.S.map lpT)[vs.length]? = (R'.S.map lpT)[vs.length]?
    rw [List.getElem?_map, List.getElem?_map]
    have : (R.S.take e)[vs.length]? = (R'.S.take e)[vs.length]? := by rw [h]
    rw [List.getElem?_take_of_lt hv, List.getElem?_take_of_lt hv] at this
    rw [this]
  have e2 : (nms R.dw).zip vs = (nms R'.dw).zip vs := by
    rw [zip_take (nms R.dw), zip_take (nms R'.dw), dw_nms, dw_nms]
    unfold nmsOf
    rw [← List.map_take, ← List.map_take, Tn.take_le h (Nat.le_of_lt hv)]
  unfold bD
  rw [e1, e2]
theorem dws_get {Rs : List R3} {k : Nat} {R : R3} (h : Rs[k]? = some R) : (Rs.map R3.dw)[k]? = some R.dw := by
  rw [List.getElem?_map, h]
  rfl
theorem Par.prs {Rs : List R3} {i j : Nat} {R R' : R3} (hi : Rs[i]? = some R) (hj : Rs[j]? = some R') (h : Par R R') : Tn.Prs (getD (Rs.map R3.dw)) (bW (Rs.map R3.dw)) 0 i j := by
  obtain ⟨e, e1, e2, e3, e4, e5⟩ := h
  refine ⟨R.dw.dd, R'.dw.dd, e, getD_some (dws_get hi), getD_some (dws_get hj), Nat.zero_le _, ?_, ?_, e4, e5, fun vs hv => ?_⟩
  · show e ≤ (R.S.map lpT).length
    rw [List.length_map]; exact e1
  · show e ≤ (R'.S.map lpT).length
    rw [List.length_map]; exact e2
  · rw [bW_some (dws_get hi), bW_some (dws_get hj), bD_eq e3 hv]
theorem prs_of {Rs : List R3} (h : Rs.Pairwise Par) : (List.range (Rs.map R3.dw).length).Pairwise (Tn.Prs (getD (Rs.map R3.dw)) (bW (Rs.map R3.dw)) 0) := by
  rw [List.length_map]
  refine List.Pairwise.imp_of_mem (fun {i j} hi hj lt => ?_) (List.pairwise_lt_range (n := Rs.length))
  rw [List.mem_range] at hi hj
  exact Par.prs (List.getElem?_eq_getElem hi) (List.getElem?_eq_getElem hj) (List.pairwise_iff_getElem.mp h i j hi hj lt)
theorem cc_of : ∀ {Rs : List R3}, Rs.Pairwise Par → Pw.CC 0 ((Rs.map R3.dw).map Dw.dd)
  | [], _ => True.intro
  | [a], _ => Nat.zero_le _
  | a :: b :: l, h => by
    obtain ⟨h1, h2⟩ := List.pairwise_cons.mp h
    obtain ⟨e, e1, e2, e3, e4, e5⟩ := h1 b List.mem_cons_self
    refine ⟨⟨e, Nat.zero_le _, ?_, ?_, ?_, e4, by show a.path.getD e 0 ≠ b.path.getD e 0; omega⟩, cc_of h2⟩
    · show e ≤ (a.S.map lpT).length
      rw [List.length_map]; exact e1
    · show e ≤ (b.S.map lpT).length
      rw [List.length_map]; exact e2
    · show (a.S.map lpT).take e = (b.S.map lpT).take e
      rw [← List.map_take, ← List.map_take, e3]
theorem okW_of {Rs : List R3} (h : Rs.Pairwise Par) (g : ∀ R ∈ Rs, RG R) (l : Rs.length ≤ 10) : OkW (Rs.map R3.dw) := by
  refine ⟨fun D hD => ?_, by rw [List.length_map]; exact l, cc_of h⟩
  obtain ⟨R, hR, rfl⟩ := List.mem_map.mp hD
  exact (g R hR).ok3
theorem gd_of {Ds : List Dw} (h : ∀ D ∈ Ds, Ok3 D) : ∀ k ∈ List.range Ds.length, Tn.Gd (getD Ds) k := fun k hk => by
  rw [List.mem_range] at hk
  have hD : Ds[k]? = some Ds[k] := List.getElem?_eq_getElem hk
  exact ⟨_, getD_some hD, (h _ (List.getElem_mem hk)).pl⟩
noncomputable def PV (D : Dw) (vs : List Int) : Prop := ∀ e, e < vs.length → (bD D (vs.take e)).1 ≤ vs.getD e 0 ∧ vs.getD e 0 ≤ (bD D (vs.take e)).2
theorem PV.nil (D : Dw) : PV D [] := fun e h => absurd h (Nat.not_lt_zero _)
theorem PV.snoc {D : Dw} {vs : List Int} {v : Int} (h : PV D vs) (h0 : (bD D vs).1 ≤ v) (h1 : v ≤ (bD D vs).2) : PV D (vs ++ [v]) := fun e he => by
  rw [List.length_append, List.length_singleton] at he
  rcases Nat.lt_or_ge e vs.length with z | z
  · rw [gd_l z, List.take_append_of_le_length (by omega)]
    exact h e z
  · obtain rfl : e = vs.length := by omega
    rw [gd_r, List.take_append_of_le_length (Nat.le_refl _), List.take_length]
    exact ⟨h0, h1⟩
theorem PV.init {D : Dw} {vs : List Int} {v : Int} (h : PV D (vs ++ [v])) : PV D vs ∧ (bD D vs).1 ≤ v ∧ v ≤ (bD D vs).2 := by
  refine ⟨fun e he => ?_, ?_⟩
  · have := h e (by rw [List.length_append]; omega)
    rw [gd_l he, List.take_append_of_le_length (by omega)] at this
    exact this
  · have := h vs.length (by rw [List.length_append, List.length_singleton]; omega)
    rw [gd_r, List.take_append_of_le_length (Nat.le_refl _), List.take_length] at this
    exact this
noncomputable def Tm (W : Nat) (D : Dw) : Prop := ∀ vs, PV D vs → vs.length < D.loops.length → (-(2 ^ 60) ≤ (bD D vs).1 ∧ (bD D vs).1 ≤ 2 ^ 60 ∧ -(2 ^ 60) ≤ (bD D vs).2 ∧ (bD D vs).2 ≤ 2 ^ 60) ∧ (bD D vs).2 - (bD D vs).1 + 1 ≤ (W : Int)
theorem Tame.tm {W : Nat} {D : Dw} (h : Tame (W : Int) D) : Tm W D := by
  obtain ⟨G, g0, g1⟩ := h
  have all : ∀ (n : Nat) (vs : List Int), vs.length = n → n ≤ D.loops.length → PV D vs → G vs := by
    intro n
    induction n with
    | zero => intro vs l _ _; rw [List.eq_nil_of_length_eq_zero l]; exact g0
    | succ n ih =>
      intro vs l le hp
      obtain ⟨us, v, rfl, ul⟩ := snoc_of l
      obtain ⟨p1, p2, p3⟩ := hp.init
      exact (g1 us (ih us ul (by omega) p1) (by omega)).2.2 v p2 p3
  exact fun vs hp hl => ⟨(g1 vs (all _ vs rfl (by omega) hp) hl).1, (g1 vs (all _ vs rfl (by omega) hp) hl).2.1⟩
theorem fit_of {Ds : List Dw} {W : Nat} : ∀ {f : Pw.Fs} {ns : List Nat} {d : Nat} {vs : List Int}, Pw.IsF (getD Ds) f ns d → ns.Pairwise (Tn.Prs (getD Ds) (bW Ds) d) → (∀ k ∈ ns, Tn.Gd (getD Ds) k) → (∀ k ∈ ns, ∃ D, Ds[k]? = some D ∧ Tm W D ∧ PV D vs) → vs.length = d → Fit (bW Ds) f vs
  | .nil, ns, d, vs, h, hp, gd, tm, hv => True.intro
  | .leaf k0 rest, ns, d, vs, h, hp, gd, tm, hv => by
    obtain ⟨ns', a, rfl, h0, h1, h2⟩ := h
    show Fit (bW Ds) rest vs
    exact fit_of h2 (List.pairwise_cons.mp hp).2 (fun k hk => gd k (List.mem_cons_of_mem _ hk)) (fun k hk => tm k (List.mem_cons_of_mem _ hk)) hv
  | .node k0 sub rest, ns, d, vs, h, hp, gd, tm, hv => by
    obtain ⟨g, ns', a, rfl, h0, h1, h2, h3, h4, h5⟩ := h
    have hp' := List.pairwise_append.mp hp
    have gdl : ∀ k ∈ k0 :: g, Tn.Gd (getD Ds) k := fun k hk => gd k (List.mem_append_left _ hk)
    have G := Tn.grp (a := a) hp'.1 gdl h0 h1 h2
    obtain ⟨D0, hD0, t0, p0⟩ := tm k0 (List.mem_append_left _ List.mem_cons_self)
    have a0 : a = D0.dd := by rw [getD_some hD0] at h0; exact (Option.some.inj h0).symm
    have l0 : vs.length < D0.loops.length := by rw [a0] at h1; rw [hv]; exact h1
    refine ⟨?_, fun v v0 v1 => ?_, fit_of h5 hp'.2.1 (fun k hk => gd k (List.mem_append_right _ hk)) (fun k hk => tm k (List.mem_append_right _ hk)) hv⟩
    · rw [bW_some hD0]
      exact (t0 vs p0 l0).1
    · refine fit_of (W := W) h4 G.up gdl (fun k hk => ?_) (by rw [List.length_append, hv]; rfl)
      obtain ⟨D, hD, t1, p1⟩ := tm k (List.mem_append_left _ hk)
      obtain ⟨b, hb, _, _, eB⟩ := G.eq k hk
      have := eB vs (by omega)
      rw [← this, bW_some hD] at v0 v1
      exact ⟨D, hD, t1, p1.snoc v0 v1⟩
theorem sum_le {W : Nat} : ∀ {l : List Nat}, (∀ x ∈ l, x ≤ W) → l.sum ≤ l.length * W
  | [], _ => by rw [List.sum_nil]; exact Nat.zero_le _
  | x :: l, h => by
    rw [List.sum_cons, List.length_cons, Nat.succ_mul]
    have := sum_le (l := l) fun y hy => h y (List.mem_cons_of_mem _ hy)
    have := h x List.mem_cons_self
    omega
theorem lv_len {W : Nat} {D : Dw} (h : Tm W D) : ∀ {n : Nat}, n ≤ D.loops.length → (Tn.lv (bD D) n).length ≤ W ^ n
  | 0, _ => Nat.le_refl _
  | n + 1, hn => by
    have ih := lv_len h (n := n) (by omega)
    show ((Tn.lv (bD D) n).flatMap fun vs => (Tn.rng (bD D vs).1 (bD D vs).2).map fun v => vs ++ [v]).length ≤ W ^ (n + 1)
    rw [List.length_flatMap, Nat.pow_succ]
    refine Nat.le_trans (sum_le (W := W) fun x hx => ?_) ?_
    · obtain ⟨vs, hvs, rfl⟩ := List.mem_map.mp hx
      obtain ⟨l, p⟩ := Tn.mem_lv.mp hvs
      rw [List.length_map, Tn.rng_len]
      have := (h vs (fun e he => p e (by omega)) (by omega)).2
      omega
    · rw [List.length_map]
      exact Nat.mul_le_mul_right _ ih
noncomputable def nb (W : Nat) : Nat → Int
  | 0 => 0
  | n + 1 => 5 * (W : Int) + (W : Int) * (4 * nb W n)
theorem nb_nn (W : Nat) : ∀ n, 0 ≤ nb W n
  | 0 => Int.le_refl _
  | n + 1 => by
    have := nb_nn W n
    have h2 : 0 ≤ (W : Int) * (4 * nb W n) := Int.mul_nonneg (by omega) (by omega)
    show 0 ≤ 5 * (W : Int) + (W : Int) * (4 * nb W n)
    omega
theorem isum_le {b : Int} : ∀ {l : List Int}, (∀ x ∈ l, x ≤ b) → l.sum ≤ (l.length : Int) * b
  | [], _ => by rw [List.sum_nil]; simp
  | x :: l, h => by
    rw [List.sum_cons, List.length_cons]
    have h1 := isum_le (l := l) fun y hy => h y (List.mem_cons_of_mem _ hy)
    have h2 := h x List.mem_cons_self
    rw [show ((l.length + 1 : Nat) : Int) * b = (l.length : Int) * b + b by rw [Int.natCast_add, Int.add_mul]; simp]
    omega
theorem lvs_ns {D : Nat → Option (Pw.Dd LpT Str)} {f : Pw.Fs} {ns : List Nat} {d : Nat} (h : Pw.IsF D f ns d) : lvs f ≤ ns.length := Nat.le_trans (lvs_le f) (isf_items h)
theorem cst_of {Ds : List Dw} {W : Nat} : ∀ {f : Pw.Fs} {ns : List Nat} {d n : Nat} {vs : List Int}, Pw.IsF (getD Ds) f ns d → ns.Pairwise (Tn.Prs (getD Ds) (bW Ds) d) → (∀ k ∈ ns, Tn.Gd (getD Ds) k) → (∀ k ∈ ns, ∃ D, Ds[k]? = some D ∧ Tm W D ∧ PV D vs ∧ D.loops.length ≤ d + n) → vs.length = d → ns.length ≤ 4 → cst (bW Ds) f vs ≤ (ns.length : Int) * nb W n
  | .nil, ns, d, n, vs, h, hp, gd, tm, hv, n4 => by
    have := nb_nn W n
    exact Int.mul_nonneg (by omega) this
  | .leaf k0 rest, ns, d, n, vs, h, hp, gd, tm, hv, n4 => by
    obtain ⟨ns', a, rfl, h0, h1, h2⟩ := h
    rw [List.length_cons] at n4
    have := cst_of h2 (List.pairwise_cons.mp hp).2 (fun k hk => gd k (List.mem_cons_of_mem _ hk)) (fun k hk => tm k (List.mem_cons_of_mem _ hk)) hv (by omega)
    have nn := nb_nn W n
    show cst (bW Ds) rest vs ≤ _
    rw [List.length_cons, show ((ns'.length + 1 : Nat) : Int) * nb W n = (ns'.length : Int) * nb W n + nb W n by rw [Int.natCast_add, Int.add_mul]; simp]
    omega
  | .node k0 sub rest, ns, d, n, vs, h, hp, gd, tm, hv, n4 => by
    obtain ⟨g, ns', a, rfl, h0, h1, h2, h3, h4, h5⟩ := h
    have hp' := List.pairwise_append.mp hp
    have gdl : ∀ k ∈ k0 :: g, Tn.Gd (getD Ds) k := fun k hk => gd k (List.mem_append_left _ hk)
    have G := Tn.grp (a := a) hp'.1 gdl h0 h1 h2
    obtain ⟨D0, hD0, t0, p0, l0n⟩ := tm k0 (List.mem_append_left _ List.mem_cons_self)
    have a0 : a = D0.dd := by rw [getD_some hD0] at h0; exact (Option.some.inj h0).symm
    have l0 : vs.length < D0.loops.length := by rw [a0] at h1; rw [hv]; exact h1
    rw [List.length_append, List.length_cons] at n4
    have r1 := cst_of h5 hp'.2.1 (fun k hk => gd k (List.mem_append_right _ hk)) (fun k hk => tm k (List.mem_append_right _ hk)) hv (by omega)
    obtain ⟨m, rfl⟩ : ∃ m, n = m + 1 := ⟨n - 1, by omega⟩
    have nn := nb_nn W (m + 1)
    have nm := nb_nn W m
    have w1 := (t0 vs p0 l0).2
    have lv4 := lvs_ns h4
    rw [List.length_cons] at lv4
    have wW : wid (bW Ds k0 vs) ≤ (W : Int) := by rw [bW_some hD0]; unfold wid; split <;> omega
    have w0 := wid_nn (bW Ds k0 vs)
    have c1 : wid (bW Ds k0 vs) * (1 + (lvs sub : Int)) ≤ (W : Int) * 5 := Int.mul_le_mul wW (by omega) (by omega) (by omega)
    have c2 : ((Tn.rng (bW Ds k0 vs).1 (bW Ds k0 vs).2).map fun v => cst (bW Ds) sub (vs ++ [v])).sum ≤ (W : Int) * (4 * nb W m) := by
      refine Int.le_trans (isum_le (b := 4 * nb W m) fun x hx => ?_) ?_
      · obtain ⟨v, hv1, rfl⟩ := List.mem_map.mp hx
        obtain ⟨v0, v1⟩ := Tn.mem_rng.mp hv1
        have := cst_of (n := m) h4 G.up gdl (fun k hk => by
          obtain ⟨D, hD, t1, p1, ll⟩ := tm k (List.mem_append_left _ hk)
          obtain ⟨b, hb, _, _, eB⟩ := G.eq k hk
          have := eB vs (by omega)
          rw [← this, bW_some hD] at v0 v1
          exact ⟨D, hD, t1, p1.snoc v0 v1, by omega⟩) (by rw [List.length_append, hv]; rfl) (by rw [List.length_cons]; omega)
        refine Int.le_trans this (Int.mul_le_mul_of_nonneg_right (by rw [List.length_cons]; omega) nm)
      · rw [List.length_map, Tn.rng_len]
        refine Int.mul_le_mul_of_nonneg_right ?_ (by omega)
        rw [bW_some hD0]
        omega
    have c3 : 0 ≤ (W : Int) * (4 * nb W m) := Int.mul_nonneg (by omega) (by omega)
    have e1 : nb W (m + 1) = 5 * (W : Int) + (W : Int) * (4 * nb W m) := rfl
    have e2 : (((k0 :: g ++ ns').length : Nat) : Int) * nb W (m + 1) = (ns'.length : Int) * nb W (m + 1) + ((g.length : Int) + 1) * nb W (m + 1) := by
      rw [List.length_append, List.length_cons, ← Int.add_mul]
      congr 1
      omega
    have e3 : nb W (m + 1) ≤ ((g.length : Int) + 1) * nb W (m + 1) := by
      rw [Int.add_mul, Int.one_mul]
      have := Int.mul_nonneg (Int.natCast_nonneg g.length) nn
      omega
    show wid (bW Ds k0 vs) * (1 + (lvs sub : Int)) + (if lvs sub < itm sub then _ else 0) + cst (bW Ds) rest vs ≤ _
    rw [e2]
    split <;> omega
theorem small_of {Ds : List Dw} {W n : Nat} (ok : ∀ D ∈ Ds, Ok3 D) (pr : (List.range Ds.length).Pairwise (Tn.Prs (getD Ds) (bW Ds) 0)) (l4 : Ds.length ≤ 4) (tm : ∀ D ∈ Ds, Tm W D ∧ D.loops.length ≤ n) (w1 : 1 ≤ W) (b1 : 4 * W ^ n ≤ 400000) (b2 : 4 + 4 * nb W n ≤ 1000000) : Small Ds := fun f isf => by
  have gd := gd_of ok
  have all : ∀ k ∈ List.range Ds.length, ∃ D, Ds[k]? = some D ∧ Tm W D ∧ PV D [] ∧ D.loops.length ≤ 0 + n := fun k hk => by
    rw [List.mem_range] at hk
    have := tm _ (List.getElem_mem hk)
    exact ⟨Ds[k], List.getElem?_eq_getElem hk, this.1, PV.nil _, by omega⟩
  refine ⟨fit_of (W := W) isf pr gd (fun k hk => by obtain ⟨D, a, b, c, _⟩ := all k hk; exact ⟨D, a, b, c⟩) rfl, ?_, ?_⟩
  · rw [Tn.len_tl isf pr gd List.nodup_range]
    refine Nat.le_trans (sum_le (W := W ^ n) fun x hx => ?_) ?_
    · obtain ⟨k, hk, rfl⟩ := List.mem_map.mp hx
      obtain ⟨D, hD, t, _, ll⟩ := all k hk
      have e : Tn.nlp (getD Ds) k = D.loops.length := Tn.nlp_some (getD_some hD)
      have e2 : bW Ds k = bD D := by funext vs; exact bW_some hD vs
      rw [e, e2]
      exact Nat.le_trans (lv_len t (Nat.le_refl _)) (Nat.pow_le_pow_right w1 (by omega))
    · rw [List.length_map, List.length_range]
      exact Nat.le_trans (Nat.mul_le_mul_right _ l4) b1
  · have c := cst_of (n := n) isf pr gd all rfl (by rw [List.length_range]; exact l4)
    rw [List.length_range] at c
    have lv := lvs_ns isf
    rw [List.length_range] at lv
    have nn := nb_nn W n
    have := Int.mul_le_mul_of_nonneg_right (show (Ds.length : Int) ≤ 4 by omega) nn
    omega
noncomputable def D3At (C : Addr) (H : Hp) (v : V) (R : R3) : Prop := WoAt C H v R.dw
theorem all2_map {α β : Type} {P : V → β → Prop} {f : α → β} {xs : List V} {as : List α} (h : All2 (fun v q => P v (f q)) xs as) : All2 P xs (as.map f) := by
  refine ⟨by rw [List.length_map]; exact h.1, fun i x b hx hb => ?_⟩
  rw [List.getElem?_map] at hb
  cases ha : as[i]? with
  | none => rw [ha] at hb; cases hb
  | some q =>
    rw [ha] at hb
    cases hb
    exact h.2 i x q hx ha
noncomputable def spMany31 (K : PySem.W.Frag) : Sp := fun vs H Q _ => ∃ (sc : Addr) (ns : List Int), vs = [.ref sc] ∧ SqL K H sc (ns.map V.int) ∧ ns.length ≤ 63 ∧ ∀ (H' : Hp) (n : Nat), Same H H' → 1 ≤ n → n ≤ 4 → Q (.int (n : Int)) H'
noncomputable def spMade31 (CP C : Addr) : Sp := fun vs H Q _ => ∃ (n : Int) (l : Addr) (Rs : List R3), vs = [.int n, .ref l] ∧ R3sAt H l Rs ∧ Rs.length ≤ 6 ∧ (∀ R ∈ Rs, R.m ≤ 30) ∧ ∀ (x dx dl : Addr) (xs : List V) (H' : Hp), Same H H' → H x = none → H' x = some (.ins CP dx [("size", .int n), ("deeds", .ref dl)]) → H dl = none → H' dl = some (.lst xs) → All2 (D3At C H') xs Rs → Q (.ref x) H'
structure Gw (Rs : List R3) : Prop where
  rg : ∀ R ∈ Rs, RG R
  pr : Rs.Pairwise Par
  l0 : 0 < Rs.length
  l4 : Rs.length ≤ 4
  sm : Small (Rs.map R3.dw)
  sm2 : Small ((Rs.take (Rs.length - 1)).map R3.dw)
  lvb : ∀ R ∈ Rs, ∀ n, n ≤ R.S.length → (Tn.lv (bD R.dw) n).length ≤ 400000
theorem lvb_of {W : Nat} {R : R3} (t : Tm W R.dw) (w1 : 1 ≤ W) {m : Nat} (hm : R.S.length ≤ m) (b : W ^ m ≤ 400000) : ∀ n, n ≤ R.S.length → (Tn.lv (bD R.dw) n).length ≤ 400000 := fun n hn => by
  have := lv_len t (n := n) (by show n ≤ (R.S.map lpT).length; rw [List.length_map]; exact hn)
  exact Nat.le_trans this (Nat.le_trans (Nat.pow_le_pow_right w1 (by omega)) b)
theorem gw_of {Rs : List R3} {c : Int} (ok : ∀ R ∈ Rs, ROk c R) (pr : Rs.Pairwise Par) (l0 : 0 < Rs.length) (l4 : Rs.length ≤ 4) : Gw Rs := by
  have sm : ∀ {Rs : List R3}, (∀ R ∈ Rs, ROk c R) → Rs.Pairwise Par → Rs.length ≤ 4 → Small (Rs.map R3.dw) := fun {Rs} ok pr l4 => by
    refine small_of (W := 10) (n := 3) (fun D hD => ?_) (prs_of pr) (by rw [List.length_map]; exact l4) (fun D hD => ?_) (by decide) (by decide) (by decide)
    · obtain ⟨R, hR, rfl⟩ := List.mem_map.mp hD
      exact (ok R hR).rg.ok3
    · obtain ⟨R, hR, rfl⟩ := List.mem_map.mp hD
      exact ⟨(ok R hR).tame.tm, by have := (ok R hR).rg.ok3.ll; exact this⟩
  exact ⟨fun R hR => (ok R hR).rg, pr, l0, l4, sm ok pr l4, sm (fun R hR => ok R (List.mem_of_mem_take hR)) (pr.sublist (List.take_sublist _ _)) (by rw [List.length_take]; omega), fun R hR => lvb_of (W := 10) (ok R hR).tame.tm (by decide) (ok R hR).rg.ll (by decide)⟩
noncomputable def R3.long (R : R3) (q : Lp) (x : Int) : R3 := { R with S := [{ q with hz := "", hn := q.ln + 40 + x }] }
theorem gw_long {R : R3} {c x : Int} {q : Lp} (ok : ROk c R) (hS : R.S = [q]) (x0 : 0 ≤ x) (x1 : x ≤ 59) : Gw [R.long q x] := by
  have g := ok.rg
  have nw : NewL [] c q := by
    have := ok.so.2 0 q (by rw [hS]; rfl)
    rw [List.take_zero] at this
    exact this
  have lz : q.lz = "" := by
    rcases nw.nw.2.2.2.2.1 with h | ⟨r, hr, _⟩
    · exact h
    · cases hr
  obtain ⟨k, d, b1, e1, d0, d1⟩ := nw.lo
  have k0 : k = 0 := by
    rcases b1 with ⟨_, h⟩ | ⟨r, hr, _⟩
    · exact h
    · cases hr
  have ab := nw.ab
  have rg : RG (R.long q x) := by
    refine ⟨by show 1 ≤ 3; decide, by show R.path.length = 1 + 1; rw [g.pl, hS]; rfl, ?_, ?_, fun e r hr => ?_, g.m3⟩
    · have := g.nd
      rw [hS] at this
      exact this
    · have := g.ne
      rw [hS] at this
      exact this
    · match e, hr with
      | 0, hr =>
        cases hr
        exact ⟨.inl lz, .inl rfl⟩
      | e + 1, hr => cases hr
  have tm : Tm 100 (R.long q x).dw := fun vs pv hl => by
    have hl : vs.length < 1 := hl
    have : vs = [] := List.eq_nil_of_length_eq_zero (by omega)
    subst this
    rw [bD_at (R := R.long q x) (q := { q with hz := "", hn := q.ln + 40 + x }) rfl]
    have s1 : stW ((nmsOf (R.long q x).S).zip []) (q.lz, q.ln) = q.ln := by unfold stW; rw [if_pos lz]
    have s2 : stW ((nmsOf (R.long q x).S).zip []) ("", q.ln + 40 + x) = q.ln + 40 + x := by unfold stW; rw [if_pos rfl]
    show (-(2 ^ 60) ≤ stW ((nmsOf (R.long q x).S).zip []) (q.lz, q.ln) ∧ stW ((nmsOf (R.long q x).S).zip []) (q.lz, q.ln) ≤ 2 ^ 60 ∧ -(2 ^ 60) ≤ stW ((nmsOf (R.long q x).S).zip []) ("", q.ln + 40 + x) ∧ stW ((nmsOf (R.long q x).S).zip []) ("", q.ln + 40 + x) ≤ 2 ^ 60) ∧ stW ((nmsOf (R.long q x).S).zip []) ("", q.ln + 40 + x) - stW ((nmsOf (R.long q x).S).zip []) (q.lz, q.ln) + 1 ≤ ((100 : Nat) : Int)
    rw [s1, s2]
    omega
  refine ⟨fun r hr => by rw [List.mem_singleton.mp hr]; exact rg, List.pairwise_singleton _ _, by show 0 < 1; decide, by show 1 ≤ 4; decide, ?_, ?_, fun r hr => by rw [List.mem_singleton.mp hr]; exact lvb_of tm (by decide) (m := 1) (by show 1 ≤ 1; decide) (by decide)⟩
  · refine small_of (W := 100) (n := 1) (fun D hD => ?_) (prs_of (List.pairwise_singleton _ _)) (by show 1 ≤ 4; decide) (fun D hD => ?_) (by decide) (by decide) (by decide)
    · rw [List.mem_singleton.mp hD]; exact rg.ok3
    · rw [List.mem_singleton.mp hD]; exact ⟨tm, by show 1 ≤ 1; decide⟩
  · exact small_of (W := 10) (n := 3) (fun D hD => by cases hD) .nil (by show 0 ≤ 4; decide) (fun D hD => by cases hD) (by decide) (by decide) (by decide)
noncomputable def spStretched (K : PySem.W.Frag) : Sp := fun vs H Q _ => ∃ (sc l : Addr) (ns : List Int) (Rs : List R3), vs = [.ref sc, .ref l] ∧ SqL K H sc (ns.map V.int) ∧ ns.length ≤ 63 ∧ R3sAt H l Rs ∧ 0 < Rs.length ∧ Rs.length ≤ 4 ∧ (∀ R ∈ Rs, ROk (cellD ns 1) R) ∧ Rs.Pairwise Par ∧ ∀ (r : Addr) (H' : Hp) (Ss : List R3), Same H H' → R3sAt H' r Ss → Gw Ss → Q (.ref r) H'
end L2

set_option Elab.async false
set_option linter.all false
set_option maxRecDepth 100000
set_option maxHeartbeats 4000000
namespace L2
open PySem PySem.Spec PyProof.Rows
noncomputable def rLenK (K : PySem.W.Frag) : List V → Hp → VK → Prop := fun xs H Q => ∃ p ys, xs = [V.ref p] ∧ (SqL K H p ys ∨ SqT K H p ys) ∧ Q (V.int (ys.length : Int)) H
theorem st_b {S : List Lp} {e : Nat} {us : List Int} {kvs : List (Key × V)} {z : Str} (nd : (nmsOf S).Nodup) (ne : ∀ z ∈ nmsOf S, z ≠ "") (hu : us.length = e) (ar : ArIs kvs (nmsOf S) us) (n : Int) (h : Bs (S.take e) z) : StB kvs z (stW ((nmsOf S).zip us) (z, n) - n) := by
  rcases h with rfl | ⟨r, hr, rfl⟩
  · refine .inl ⟨rfl, ?_⟩
    unfold stW
    rw [if_pos rfl]
    show n - n = 0
    omega
  · obtain ⟨j, hj⟩ := List.mem_iff_getElem?.mp hr
    have l := (List.getElem?_eq_some_iff.mp hj).1
    rw [List.length_take] at l
    rw [List.getElem?_take_of_lt (by omega)] at hj
    have hz : (nmsOf S)[j]? = some r.nm := by unfold nmsOf; rw [List.getElem?_map, hj]; rfl
    have nz := ne _ (List.mem_of_getElem? hz)
    refine .inr ⟨nz, ?_⟩
    rw [ar j r.nm (by omega) hz]
    unfold stW
    rw [if_neg nz, lk_zip nd hz (by omega)]
    congr 2
    show us.getD j 0 = us.getD j 0 + n - n
    omega
theorem bd_stand {R : R3} (g : RG R) {us : List Int} {q : Lp} {kvs : List (Key × V)} (hq : R.S[us.length]? = some q) (ar : ArIs kvs (nmsOf R.S) us) : StB kvs q.lz ((bD R.dw us).1 - q.ln) ∧ StB kvs q.hz ((bD R.dw us).2 - q.hn) := by
  obtain ⟨b1, b2⟩ := g.bs _ q hq
  rw [bD_at hq]
  exact ⟨st_b g.nd g.ne rfl ar q.ln b1, st_b g.nd g.ne rfl ar q.hn b2⟩
noncomputable def PiAt (H : Hp) (v : V) (l : List Int) : Prop := ∃ t, v = .ref t ∧ H t = some (.tup (l.map V.int))
theorem PiAt.tk {H H' : Hp} {v : V} {l : List Int} (h : PiAt H v l) (e : TK H H') : PiAt H' v l := by
  obtain ⟨t, a, b⟩ := h
  exact ⟨t, a, e _ _ b⟩
theorem PiAt.over {H H' : Hp} {v : V} {l : List Int} (h : PiAt H v l) (e : Same H H') : PiAt H' v l := h.tk (Same.tk e)
noncomputable def Vr (R : R3) (w : List Int) : Prop := w.length = R.S.length ∧ ∀ e, e < w.length → (bD R.dw (w.take e)).1 ≤ w.getD e 0 ∧ w.getD e 0 ≤ (bD R.dw (w.take e)).2
noncomputable def spIsTurn : Sp := fun vs H Q _ => ∃ (v : V) (rl : Addr) (Rs : List R3) (R : R3) (k : Nat) (w : List Int), vs = [v, .ref rl] ∧ TnAt H v (k, w) ∧ R3sAt H rl Rs ∧ Rs.length ≤ 10 ∧ Rs[k]? = some R ∧ RG R ∧ Vr R w ∧ ∀ H', Same H H' → Q (.bl true) H'
noncomputable def spKey31 : Sp := fun vs H Q _ => ∃ (v : V) (t : Addr) (R : R3) (w : List Int), vs = [v, .ref t] ∧ R3At H v R ∧ RG R ∧ H t = some (.tup (w.map V.int)) ∧ w.length = R.S.length ∧ ∀ (r : Addr) (H' : Hp), Same H H' → H' r = some (.tup ((Tn.inter R.path w).map V.int)) → Q (.ref r) H'
noncomputable def keyR (Rs : List R3) (x : Nat × List Int) : List Int := Tn.key (getD (Rs.map R3.dw)) x
theorem keyR_at {Rs : List R3} {k : Nat} {R : R3} {w : List Int} (h : Rs[k]? = some R) : keyR Rs (k, w) = Tn.inter R.path w := Tn.key_some (getD_some (dws_get h))
noncomputable def spRising31 : Sp := fun vs H Q _ => ∃ (fl rl : Addr) (xs : List V) (L : List (Nat × List Int)) (Rs : List R3), vs = [.ref fl, .ref rl] ∧ H fl = some (.lst xs) ∧ All2 (TnAt H) xs L ∧ L.length ≤ 400000 ∧ R3sAt H rl Rs ∧ (∀ x ∈ L, ∃ R, Rs[x.1]? = some R ∧ RG R ∧ x.2.length = R.S.length) ∧ (L.Pairwise fun x y => HT.lexLt (keyR Rs x) (keyR Rs y) = true) ∧ ∀ H', Same H H' → Q (.bl true) H'
noncomputable def spLevels31 : Sp := fun vs H Q _ => ∃ (v : V) (R : R3), vs = [v] ∧ R3At H v R ∧ RG R ∧ (∀ n, n ≤ R.S.length → (Tn.lv (bD R.dw) n).length ≤ 400000) ∧ ∀ (r l : Addr) (xs ys : List V) (H' : Hp), Same H H' → H' r = some (.lst (xs ++ [.ref l])) → H' l = some (.lst ys) → ys.length = (Tn.lv (bD R.dw) R.S.length).length → Q (.ref r) H'
noncomputable def prs2 (p w : List Int) (e : Nat) : List Int := ((p.zip w).take e).flatMap fun x => [x.1, x.2]
theorem inter_eq : ∀ {p w : List Int}, p.length = w.length + 1 → Tn.inter p w = prs2 p w w.length ++ [p.getD w.length 0]
  | [], w, h => by cases h
  | x :: p, [], h => by
    show [x] = [] ++ [x]
    rfl
  | x :: p, y :: w, h => by
    have ih := inter_eq (p := p) (w := w) (Nat.succ.inj h)
    show x :: y :: Tn.inter p w = (x :: y :: prs2 p w w.length) ++ [p.getD w.length 0]
    rw [ih]
    rfl
theorem prs2_s {p w : List Int} {e : Nat} (h1 : e < p.length) (h2 : e < w.length) : prs2 p w (e + 1) = prs2 p w e ++ [p.getD e 0, w.getD e 0] := by
  unfold prs2
  have hz : (p.zip w)[e]? = some (p.getD e 0, w.getD e 0) := by
    rw [List.getElem?_zip_eq_some, List.getD_eq_getElem?_getD, List.getD_eq_getElem?_getD, List.getElem?_eq_getElem h1, List.getElem?_eq_getElem h2]
    exact ⟨rfl, rfl⟩
  rw [take_snoc hz, List.flatMap_append]
  rfl
theorem prs2_len {p w : List Int} (e : Nat) : (prs2 p w e).length ≤ 2 * e := by
  unfold prs2
  rw [List.length_flatMap]
  have := sum_le (W := 2) (l := ((p.zip w).take e).map fun x => [x.1, x.2].length) fun x hx => by
    obtain ⟨y, _, rfl⟩ := List.mem_map.mp hx
    exact Nat.le_refl _
  rw [List.length_map, List.length_take] at this
  refine Nat.le_trans this ?_
  rw [Nat.mul_comm]
  exact Nat.mul_le_mul_left 2 (Nat.min_le_left _ _)
noncomputable def tnT (x : Nat × List Int) : Tr := .tup [.v (.int (x.1 : Int)), .tup (x.2.map fun i => .v (.int i))]
theorem ins3_tr {K : PySem.W.Frag} {H : Hp} : ∀ w : List Int, TrsIs K H (w.map V.int) (w.map fun i => .v (.int i))
  | [] => .nil
  | x :: w => .cons (.flat rfl) (ins3_tr w)
theorem ins3_dep : ∀ w : List Int, depTs (w.map fun i => Tr.v (.int i)) = 0
  | [] => by rw [List.map_nil, depTs]
  | x :: w => by rw [List.map_cons, depTs, depT, ins3_dep w]; rfl
theorem tn_tr {K : PySem.W.Frag} {H : Hp} : ∀ {ys : List V} {L : List (Nat × List Int)}, All2 (TnAt H) ys L → TrsIs K H ys (L.map tnT)
  | [], [], _ => .nil
  | [], q :: L, h => by have := h.1; cases this
  | y :: ys, [], h => by have := h.1; cases this
  | y :: ys, q :: L, h => by
    obtain ⟨t, u, rfl, ht, hu⟩ := h.2 0 y q rfl rfl
    exact .cons (.tup (SqT.of ht) (.cons (.flat rfl) (.cons (.tup (SqT.of hu) (ins3_tr q.2)) .nil))) (tn_tr ⟨Nat.succ.inj h.1, fun i x a p q => h.2 (i + 1) x a (by simpa using p) (by simpa using q)⟩)
theorem tn_dep : ∀ L : List (Nat × List Int), depTs (L.map tnT) ≤ 2
  | [] => by rw [List.map_nil, depTs]; exact Nat.zero_le _
  | q :: L => by
    rw [List.map_cons, depTs]
    have := tn_dep L
    have : depT (tnT q) = 2 := by simp [tnT, depT, depTs, ins3_dep]
    omega
theorem tn_list {K : PySem.W.Frag} {H : Hp} {l : Addr} {ys : List V} {L : List (Nat × List Int)} (h : H l = some (.lst ys)) (a : All2 (TnAt H) ys L) : TrIs K H (.ref l) (.lst (L.map tnT)) := .lst (SqL.of h) (tn_tr a)
theorem tn_dep60 (L : List (Nat × List Int)) : depT (.lst (L.map tnT)) ≤ 60 := by
  rw [depT]
  have := tn_dep L
  omega
theorem gdR {Rs : List R3} (g : Gw Rs) : ∀ k ∈ List.range (Rs.map R3.dw).length, Tn.Gd (getD (Rs.map R3.dw)) k := gd_of fun D hD => by
  obtain ⟨R, hR, rfl⟩ := List.mem_map.mp hD
  exact (g.rg R hR).ok3
theorem turn_ok {Rs : List R3} (g : Gw Rs) {f : Pw.Fs} (isf : Pw.IsF (getD (Rs.map R3.dw)) f (List.range (Rs.map R3.dw).length) 0) {k : Nat} {w : List Int} (h : (k, w) ∈ Tn.tl (bW (Rs.map R3.dw)) f []) : ∃ R, Rs[k]? = some R ∧ RG R ∧ Vr R w := by
  obtain ⟨hk, a, ha, wl, _, wb⟩ := (Tn.mem_tl isf (prs_of g.pr) (gdR g) rfl).mp h
  rw [List.mem_range, List.length_map] at hk
  have hR : Rs[k]? = some Rs[k] := List.getElem?_eq_getElem hk
  generalize Rs[k] = R at hR
  have hD := dws_get hR
  rw [getD_some hD] at ha
  obtain rfl := Option.some.inj ha
  refine ⟨R, hR, g.rg R (List.mem_of_getElem? hR), by rw [wl]; show (R.S.map lpT).length = _; rw [List.length_map], fun e he => ?_⟩
  have := wb e (Nat.zero_le _) he
  rw [bW_some hD] at this
  exact this
theorem tl_one {D : Nat → Option (Pw.Dd LpT Str)} {B : Nat → List Int → Int × Int} {f f' : Pw.Fs} {ns : List Nat} (h : Pw.IsF D f ns 0) (h' : Pw.IsF D f' ns 0) (hp : ns.Pairwise (Tn.Prs D B 0)) (gd : ∀ k ∈ ns, Tn.Gd D k) : Tn.tl B f' [] = Tn.tl B f [] :=
  Tn.pw_ext (R := fun x y => HT.lexLt (Tn.key D x) (Tn.key D y) = true) (fun x h => by rw [Tn.lex_irr] at h; cases h) (fun x y => Tn.lex_asy _ _) (Tn.rise h' hp gd rfl) (Tn.rise h hp gd rfl) fun x => by
    obtain ⟨k, w⟩ := x
    rw [Tn.mem_tl h hp gd rfl, Tn.mem_tl h' hp gd rfl]
theorem sum_cast : ∀ l : List Nat, (l.map fun n : Nat => (n : Int)).sum = ((l.sum : Nat) : Int)
  | [] => rfl
  | x :: l => by
    rw [List.map_cons, List.sum_cons, List.sum_cons, sum_cast l]
    omega
theorem range_map {α β : Type} {l : List α} {f : Nat → β} {g : α → β} (h : ∀ k x, l[k]? = some x → f k = g x) : (List.range l.length).map f = l.map g := by
  apply List.ext_getElem?
  intro i
  rw [List.getElem?_map, List.getElem?_map]
  rcases Nat.lt_or_ge i l.length with z | z
  · rw [List.getElem?_range z, List.getElem?_eq_getElem z]
    show some (f i) = some (g l[i])
    rw [h i _ (List.getElem?_eq_getElem z)]
  · rw [List.getElem?_eq_none (by rw [List.length_range]; exact z), List.getElem?_eq_none z]
    rfl
theorem len_rows {Rs : List R3} (g : Gw Rs) {f : Pw.Fs} (isf : Pw.IsF (getD (Rs.map R3.dw)) f (List.range (Rs.map R3.dw).length) 0) : ((Tn.tl (bW (Rs.map R3.dw)) f []).length : Int) = (Rs.map fun R => ((Tn.lv (bD R.dw) R.S.length).length : Int)).sum := by
  rw [Tn.len_tl isf (prs_of g.pr) (gdR g) List.nodup_range, List.length_map]
  rw [range_map (l := Rs) (g := fun R => (Tn.lv (bD R.dw) R.S.length).length) fun k R hR => ?_]
  · rw [← sum_cast, List.map_map]
    rfl
  · have hD := dws_get hR
    have e : Tn.nlp (getD (Rs.map R3.dw)) k = R.S.length := by
      rw [Tn.nlp_some (getD_some hD)]
      show (R.S.map lpT).length = _
      rw [List.length_map]
    have e2 : bW (Rs.map R3.dw) k = bD R.dw := by funext vs; exact bW_some hD vs
    rw [e, e2]
theorem pop_rows {Rs : List R3} (g : Gw Rs) {n : Nat} (hn : Rs.length = n + 1) {f f' : Pw.Fs} (isf : Pw.IsF (getD (Rs.map R3.dw)) f (List.range (Rs.map R3.dw).length) 0) (isf' : Pw.IsF (getD ((Rs.take n).map R3.dw)) f' (List.range ((Rs.take n).map R3.dw).length) 0) : Tn.tl (bW ((Rs.take n).map R3.dw)) f' [] = (Tn.tl (bW (Rs.map R3.dw)) f []).filter fun x => decide (x.1 < n) := by
  have l1 : (Rs.map R3.dw).length = n + 1 := by rw [List.length_map]; exact hn
  have l2 : ((Rs.take n).map R3.dw).length = n := by rw [List.length_map, List.length_take]; omega
  have pr := prs_of g.pr
  have gd := gdR g
  rw [l1] at isf pr gd
  rw [l2] at isf'
  have eD : ∀ k, k < n → ((Rs.take n).map R3.dw)[k]? = (Rs.map R3.dw)[k]? := fun k hk => by rw [List.getElem?_map, List.getElem?_map, List.getElem?_take_of_lt hk]
  exact Tn.tl_pop isf isf' (fun k hk => by unfold getD; rw [eD k hk]) (fun k hk => by funext vs; unfold bW; rw [eD k hk]) pr gd
theorem WoAt.bt {C : Addr} {H H' : Hp} {x : V} {D : Dw} {l : Addr} {ys : List V} (h : WoAt C H x D) (hl : H l = some (.lst ys)) (e : Bt l H H') : WoAt C H' x D := by
  obtain ⟨p, dx, nm, lo, hi, pt, v4, v5, v6, ls, hs, r, h0, h1, h2, h3, h4, h5, h6⟩ := h
  have tk := e.tk hl
  exact ⟨p, dx, nm, lo, hi, pt, v4, v5, v6, ls, hs, r, e _ _ (fun z => by rw [z, hl] at h0; cases h0) h0, tk _ _ h1, tk _ _ h2, h3.mono fun _ _ z => z.tk tk, tk _ _ h4, h5.mono fun _ _ z => z.tk tk, tk _ _ h6⟩
end L2

set_option Elab.async false
set_option linter.all false
set_option maxRecDepth 100000
set_option maxHeartbeats 4000000

namespace Fw
open PySem L2 Bd


noncomputable def top (i : Nat) : Stmt := PySem.Challenge.pw_furrow_k31_turns.main.body.getD i (.Pass ⟨0, 0, 0, 0⟩)
noncomputable abbrev s_Number_init : Stmt := inClass (top 5) 0
noncomputable abbrev s_Value_init : Stmt := inClass (top 6) 0
noncomputable abbrev s_Cell_init : Stmt := inClass (top 7) 0
noncomputable abbrev s_Joined_init : Stmt := inClass (top 8) 0
noncomputable abbrev s_Deed_init : Stmt := inClass (top 10) 0
noncomputable abbrev s_Program_init : Stmt := inClass (top 11) 0
noncomputable abbrev s_Walk_init : Stmt := inClass (top 20) 0
noncomputable abbrev s_placed : Stmt := top 2
noncomputable abbrev s_stood_for : Stmt := top 3
noncomputable abbrev s_named : Stmt := top 12
noncomputable abbrev s_nested : Stmt := top 13
noncomputable abbrev s_items_within : Stmt := top 14
noncomputable abbrev s_neighbours : Stmt := top 15
noncomputable abbrev s_turns : Stmt := top 21
noncomputable abbrev s_every_turn : Stmt := top 22
noncomputable abbrev s_take_room : Stmt := top 23
noncomputable abbrev s_deeds_among : Stmt := top 24
noncomputable abbrev s_count_loops : Stmt := top 25
noncomputable abbrev s_count_loop : Stmt := top 26
noncomputable abbrev s_bounds_of : Stmt := top 27
noncomputable abbrev s_tell_items : Stmt := top 28
noncomputable abbrev s_tell_loop : Stmt := top 29
noncomputable abbrev s_l_cell : Stmt := top 31
noncomputable abbrev s_l_whole : Stmt := top 32
noncomputable abbrev s_l_mixed : Stmt := top 33
noncomputable abbrev s_l_name : Stmt := top 34
noncomputable abbrev s_l_spots : Stmt := top 35
noncomputable abbrev s_l_cell_of : Stmt := top 36
noncomputable abbrev s_l_leaf : Stmt := top 37
noncomputable abbrev s_l_term : Stmt := top 38
noncomputable abbrev s_l_loop : Stmt := top 39
noncomputable abbrev s_l_row : Stmt := top 40
noncomputable abbrev s_l_heads : Stmt := top 41
noncomputable abbrev s_l_rows : Stmt := top 42
noncomputable abbrev s_l_many : Stmt := top 43
noncomputable abbrev s_l_size : Stmt := top 44
noncomputable abbrev s_l_object : Stmt := top 45
noncomputable abbrev s_l_made : Stmt := top 46
noncomputable abbrev s_l_around : Stmt := top 47
noncomputable abbrev s_l_stand : Stmt := top 48
noncomputable abbrev s_l_levels : Stmt := top 49
noncomputable abbrev s_l_key : Stmt := top 50
noncomputable abbrev s_l_is_turn : Stmt := top 51
noncomputable abbrev s_l_rising : Stmt := top 52
noncomputable abbrev s_l_stretched : Stmt := top 53
noncomputable abbrev s_law : Stmt := top 54
theorem scM {N P : List Str} {sc : Scope} (a : sc.kind = .function := by rfl) (b : sc.isCoroutine = false := by rfl) (c : sc.isGenerator = false := by rfl) (d : N.Nodup := by decide +kernel) (e : N.take P.length = P := by rfl) (f : ∀ x ∈ P, sc.names.lookup x = some .local ∨ sc.names.lookup x = some .cell := by decide +kernel) (g : ∀ y ∈ sc.names, y.2 ≠ .free := by decide +kernel) : FnScope N P sc := ⟨a, b, c, d, e, f, g⟩
theorem sc_Number_init : FnScope ["self", "n"] ["self", "n"] (defScope s_Number_init) := scM
theorem sc_Value_init : FnScope ["self", "name"] ["self", "name"] (defScope s_Value_init) := scM
theorem sc_Cell_init : FnScope ["self", "table", "spots"] ["self", "table", "spots"] (defScope s_Cell_init) := scM
theorem sc_Joined_init : FnScope ["self", "sign", "left", "right"] ["self", "sign", "left", "right"] (defScope s_Joined_init) := scM
theorem sc_Deed_init : FnScope ["self", "names", "lows", "highs", "table", "spots", "term", "path"] ["self", "names", "lows", "highs", "table", "spots", "term", "path"] (defScope s_Deed_init) := scM
theorem sc_Program_init : FnScope ["self", "size", "deeds"] ["self", "size", "deeds"] (defScope s_Program_init) := scM
theorem sc_Walk_init : FnScope ["self", "deeds", "most"] ["self", "deeds", "most"] (defScope s_Walk_init) := scM
theorem sc_placed : FnScope ["spots", "values"] ["spots", "values"] (defScope s_placed) := scM
theorem sc_stood_for : FnScope ["spot", "values"] ["spot", "values"] (defScope s_stood_for) := scM
theorem sc_named : FnScope ["deed", "values"] ["deed", "values"] (defScope s_named) := scM
theorem sc_nested : FnScope ["deeds"] ["deeds"] (defScope s_nested) := scM
theorem sc_items_within : FnScope ["deeds", "numbers", "depth", "items", "group", "k"] ["deeds", "numbers", "depth"] (defScope s_items_within) := scM
theorem sc_neighbours : FnScope ["deeds", "numbers", "depth", "groups", "k"] ["deeds", "numbers", "depth"] (defScope s_neighbours) := scM
theorem sc_turns : FnScope ["program", "most", "items", "walk"] ["program", "most"] (defScope s_turns) := scM
theorem sc_every_turn : FnScope ["deeds", "walk"] ["deeds"] (defScope s_every_turn) := scM
theorem sc_take_room : FnScope ["walk", "many"] ["walk", "many"] (defScope s_take_room) := scM
theorem sc_deeds_among : FnScope ["items"] ["items"] (defScope s_deeds_among) := scM
theorem sc_count_loops : FnScope ["walk", "items", "values", "k", "inner"] ["walk", "items", "values"] (defScope s_count_loops) := scM
theorem sc_count_loop : FnScope ["walk", "k", "items", "values", "bounds", "many", "deeds", "value"] ["walk", "k", "items", "values"] (defScope s_count_loop) := scM
theorem sc_bounds_of : FnScope ["deed", "values", "e"] ["deed", "values"] (defScope s_bounds_of) := scM
theorem sc_tell_items : FnScope ["walk", "items", "values", "k", "inner"] ["walk", "items", "values"] (defScope s_tell_items) := scM
theorem sc_tell_loop : FnScope ["walk", "k", "items", "values", "bounds", "value"] ["walk", "k", "items", "values"] (defScope s_tell_loop) := scM
theorem sc_l_cell : FnScope ["_law_script", "_law_k", "_law_number"] ["_law_script", "_law_k"] (defScope s_l_cell) := scM
theorem sc_l_whole : FnScope ["_law_found"] ["_law_found"] (defScope s_l_whole) := scM
theorem sc_l_mixed : FnScope ["_law_cell_here", "_law_k", "_law_number"] ["_law_cell_here", "_law_k"] (defScope s_l_mixed) := scM
theorem sc_l_name : FnScope ["_law_cell_here", "_law_e", "_law_some", "_law_number", "_law_word", "_law_k", "_law_at", "_law_name_here"] ["_law_cell_here", "_law_e"] (defScope s_l_name) := scM
theorem sc_l_spots : FnScope ["_law_number", "_law_bases", "_law_many_here", "_law_off", "_law_spots_here", "_law_k", "_law_part", "_law_base"] ["_law_number", "_law_bases", "_law_many_here", "_law_off"] (defScope s_l_spots) := scM
theorem sc_l_cell_of : FnScope ["_law_number", "_law_bases", "_law_heads_here", "_law_table", "_law_many_here", "_law_off"] ["_law_number", "_law_bases", "_law_heads_here"] (defScope s_l_cell_of) := scM
theorem sc_l_leaf : FnScope ["_law_number", "_law_bases", "_law_heads_here", "_law_table", "_law_spots_here"] ["_law_number", "_law_bases", "_law_heads_here"] (defScope s_l_leaf) := scM
theorem sc_l_term : FnScope ["_law_cell_here", "_law_bases", "_law_heads_here", "_law_term_here", "_law_k", "_law_sign", "_law_leaf_here"] ["_law_cell_here", "_law_bases", "_law_heads_here"] (defScope s_l_term) := scM
theorem sc_l_loop : FnScope ["_law_number", "_law_far", "_law_stack", "_law_cell_here", "_law_about", "_law_bases", "_law_low", "_law_high", "_law_more", "_law_low_spot", "_law_turn", "_law_name_here"] ["_law_number", "_law_far", "_law_stack", "_law_cell_here"] (defScope s_l_loop) := scM
theorem sc_l_row : FnScope ["_law_cell_here", "_law_stack", "_law_path", "_law_heads_here", "_law_bases", "_law_names", "_law_lows", "_law_highs", "_law_table", "_law_spots_here"] ["_law_cell_here", "_law_stack", "_law_path", "_law_heads_here"] (defScope s_l_row) := scM
theorem sc_l_heads : FnScope ["_law_script", "_law_cell_here", "_law_number", "_law_off", "_law_heads_here", "_law_t"] ["_law_script"] (defScope s_l_heads) := scM
theorem sc_l_rows : FnScope ["_law_script", "_law_many_here", "_law_far", "_law_stack", "_law_counts", "_law_path", "_law_rows_here", "_law_k", "_law_cell_here", "_law_number", "_law_closed", "_law_close", "_law_opens", "_law_e", "_law_loop_here"] ["_law_script", "_law_many_here"] (defScope s_l_rows) := scM
theorem sc_l_many : FnScope ["_law_script"] ["_law_script"] (defScope s_l_many) := scM
theorem sc_l_size : FnScope ["_law_script", "_law_cell_here"] ["_law_script"] (defScope s_l_size) := scM
theorem sc_l_object : FnScope ["_law_term_here"] ["_law_term_here"] (defScope s_l_object) := scM
theorem sc_l_made : FnScope ["_law_size_here", "_law_rows_here", "_law_deeds"] ["_law_size_here", "_law_rows_here"] (defScope s_l_made) := scM
theorem sc_l_around : FnScope ["_law_names", "_law_values", "_law_around_here", "_law_name_here", "_law_value"] ["_law_names", "_law_values"] (defScope s_l_around) := scM
theorem sc_l_stand : FnScope ["_law_spots_here", "_law_around_here", "_law_place", "_law_name_here", "_law_n"] ["_law_spots_here", "_law_around_here"] (defScope s_l_stand) := scM
theorem sc_l_levels : FnScope ["_law_row_here", "_law_levels_here", "_law_e", "_law_level", "_law_values", "_law_low", "_law_high"] ["_law_row_here"] (defScope s_l_levels) := scM
theorem sc_l_key : FnScope ["_law_row_here", "_law_values", "_law_parts", "_law_e"] ["_law_row_here", "_law_values"] (defScope s_l_key) := scM
theorem sc_l_is_turn : FnScope ["_law_turn", "_law_rows_here", "_law_row_here", "_law_e", "_law_low", "_law_high"] ["_law_turn", "_law_rows_here"] (defScope s_l_is_turn) := scM
theorem sc_l_rising : FnScope ["_law_found", "_law_rows_here", "_law_keys", "_law_one", "_law_other"] ["_law_found", "_law_rows_here"] (defScope s_l_rising) := scM
theorem sc_l_stretched : FnScope ["_law_script", "_law_rows_here", "_law_number", "_law_row_here", "_law_high"] ["_law_script", "_law_rows_here"] (defScope s_l_stretched) := scM
theorem sc_law : FnScope ["_law_script", "_law_rows_here", "_law_program", "_law_found", "_law_turn", "_law_kept"] ["_law_script"] (defScope s_law) := scM
theorem c_l_loop_0 : compB (mkSc [(".0", .local), ("_law_one", .local)]) (defScope s_l_loop) ["_law_number", "_law_far", "_law_stack", "_law_cell_here", "_law_about", "_law_bases", "_law_low", "_law_high", "_law_more", "_law_low_spot", "_law_turn", "_law_name_here"] ["_law_one"] [none] = true := by decide +kernel
theorem c_l_loop_0n : (["_law_one"] : List Str).Nodup := by decide +kernel
theorem c_l_row_0 : compB (mkSc [(".0", .local), ("_law_one", .local)]) (defScope s_l_row) ["_law_cell_here", "_law_stack", "_law_path", "_law_heads_here", "_law_bases", "_law_names", "_law_lows", "_law_highs", "_law_table", "_law_spots_here"] ["_law_one"] [none] = true := by decide +kernel
theorem c_l_row_0n : (["_law_one"] : List Str).Nodup := by decide +kernel
theorem c_l_row_1 : compB (mkSc [(".0", .local), ("_law_one", .local)]) (defScope s_l_row) ["_law_cell_here", "_law_stack", "_law_path", "_law_heads_here", "_law_bases", "_law_names", "_law_lows", "_law_highs", "_law_table", "_law_spots_here"] ["_law_one"] [none] = true := by decide +kernel
theorem c_l_row_1n : (["_law_one"] : List Str).Nodup := by decide +kernel
theorem c_l_row_2 : compB (mkSc [(".0", .local), ("_law_one", .local)]) (defScope s_l_row) ["_law_cell_here", "_law_stack", "_law_path", "_law_heads_here", "_law_bases", "_law_names", "_law_lows", "_law_highs", "_law_table", "_law_spots_here"] ["_law_one"] [none] = true := by decide +kernel
theorem c_l_row_2n : (["_law_one"] : List Str).Nodup := by decide +kernel
theorem c_l_row_3 : compB (mkSc [(".0", .local), ("_law_one", .local)]) (defScope s_l_row) ["_law_cell_here", "_law_stack", "_law_path", "_law_heads_here", "_law_bases", "_law_names", "_law_lows", "_law_highs", "_law_table", "_law_spots_here"] ["_law_one"] [none] = true := by decide +kernel
theorem c_l_row_3n : (["_law_one"] : List Str).Nodup := by decide +kernel
theorem c_placed_0 : compB (mkSc [(".0", .local), ("spot", .local), ("stood_for", .globalImplicit), ("values", .free)]) (defScope s_placed) ["spots", "values"] ["spot", "values"] [none, some 1] = true := by decide +kernel
theorem c_placed_0n : (["spot", "values"] : List Str).Nodup := by decide +kernel
theorem c_deeds_among_0 : compB (mkSc [(".0", .local), ("k", .local), ("inner", .local)]) (defScope s_deeds_among) ["items"] ["k", "inner"] [none, none] = true := by decide +kernel
theorem c_deeds_among_0n : (["k", "inner"] : List Str).Nodup := by decide +kernel
theorem c_l_made_0 : compB (mkSc [(".0", .local), ("_law_row_here", .local), ("Deed", .globalImplicit), ("_law_object", .globalImplicit)]) (defScope s_l_made) ["_law_size_here", "_law_rows_here", "_law_deeds"] ["_law_row_here"] [none] = true := by decide +kernel
theorem c_l_made_0n : (["_law_row_here"] : List Str).Nodup := by decide +kernel
theorem c_l_rising_0 : compB (mkSc [(".0", .local), ("_law_turn", .local), ("_law_key", .globalImplicit), ("_law_rows_here", .free)]) (defScope s_l_rising) ["_law_found", "_law_rows_here", "_law_keys", "_law_one", "_law_other"] ["_law_turn", "_law_rows_here"] [none, some 1] = true := by decide +kernel
theorem c_l_rising_0n : (["_law_turn", "_law_rows_here"] : List Str).Nodup := by decide +kernel
theorem c_law_0 : compB (mkSc [(".0", .local), ("_law_row_here", .local), ("len", .globalImplicit), ("_law_levels", .globalImplicit)]) (defScope s_law) ["_law_script", "_law_rows_here", "_law_program", "_law_found", "_law_turn", "_law_kept"] ["_law_row_here"] [none] = true := by decide +kernel
theorem c_law_0n : (["_law_row_here"] : List Str).Nodup := by decide +kernel
theorem c_law_1 : compB (mkSc [(".0", .local), ("_law_turn", .local), ("len", .globalImplicit), ("_law_rows_here", .free)]) (defScope s_law) ["_law_script", "_law_rows_here", "_law_program", "_law_found", "_law_turn", "_law_kept"] ["_law_turn", "_law_rows_here"] [none, some 1] = true := by decide +kernel
theorem c_law_1n : (["_law_turn", "_law_rows_here"] : List Str).Nodup := by decide +kernel
structure DnA (K : PySem.W.Frag) (x : Str) (st : Stmt) (f : Addr) (d : FuncData) : Prop where
  a : PySem.W.nsIn K mainGlobals x = some (some (.ref f))
  F : Fun K x x st f d
structure DcA (K : PySem.W.Frag) (C : Addr) (x q : Str) (st : Stmt) (f : Addr) (d : FuncData) : Prop where
  a : PySem.W.findIn K (.ref C) x = some (some (.ref f))
  i : PySem.W.isFn K (.ref f) = true
  F : Fun K x q st f d
structure ClA (K : PySem.W.Frag) (C : Addr) (x : Str) : Prop where
  a : PySem.W.nsIn K mainGlobals x = some (some (.ref C))
  pg : PySem.W.plainGet K C Str.empty = true
  hd : PySem.W.hasDictIn K C = true
  po : PySem.W.plainOver K C = true
  sa : PySem.W.findIn K (.ref C) "__setattr__" = some (some (.builtin "object.__setattr__"))
  mi : PySem.W.makesIn K C = true
  kc : PySem.W.keepIn K (.ref C) = true
noncomputable abbrev BdA (x q : Str) (st : Stmt) (ps : List Str) : Prop := ∀ (kV doc pm : Value) (an : Option Addr) (cdv ct : Value) (us : List Value), us.length = ps.length → bindArgs (PySem.W.fnOf x q (defArgs st) (defBody st) (defScope st) .none kV doc pm an cdv ct) ⟨us, []⟩ = pure (ps.zip us)
set_option genSizeOf false in
set_option genInjectivity false in
structure Ad where
  f_Number_init : Addr
  d_Number_init : FuncData
  f_Value_init : Addr
  d_Value_init : FuncData
  f_Cell_init : Addr
  d_Cell_init : FuncData
  f_Joined_init : Addr
  d_Joined_init : FuncData
  f_Deed_init : Addr
  d_Deed_init : FuncData
  f_Program_init : Addr
  d_Program_init : FuncData
  f_Walk_init : Addr
  d_Walk_init : FuncData
  f_placed : Addr
  d_placed : FuncData
  f_stood_for : Addr
  d_stood_for : FuncData
  f_named : Addr
  d_named : FuncData
  f_nested : Addr
  d_nested : FuncData
  f_items_within : Addr
  d_items_within : FuncData
  f_neighbours : Addr
  d_neighbours : FuncData
  f_turns : Addr
  d_turns : FuncData
  f_every_turn : Addr
  d_every_turn : FuncData
  f_take_room : Addr
  d_take_room : FuncData
  f_deeds_among : Addr
  d_deeds_among : FuncData
  f_count_loops : Addr
  d_count_loops : FuncData
  f_count_loop : Addr
  d_count_loop : FuncData
  f_bounds_of : Addr
  d_bounds_of : FuncData
  f_tell_items : Addr
  d_tell_items : FuncData
  f_tell_loop : Addr
  d_tell_loop : FuncData
  f_l_cell : Addr
  d_l_cell : FuncData
  f_l_whole : Addr
  d_l_whole : FuncData
  f_l_mixed : Addr
  d_l_mixed : FuncData
  f_l_name : Addr
  d_l_name : FuncData
  f_l_spots : Addr
  d_l_spots : FuncData
  f_l_cell_of : Addr
  d_l_cell_of : FuncData
  f_l_leaf : Addr
  d_l_leaf : FuncData
  f_l_term : Addr
  d_l_term : FuncData
  f_l_loop : Addr
  d_l_loop : FuncData
  f_l_row : Addr
  d_l_row : FuncData
  f_l_heads : Addr
  d_l_heads : FuncData
  f_l_rows : Addr
  d_l_rows : FuncData
  f_l_many : Addr
  d_l_many : FuncData
  f_l_size : Addr
  d_l_size : FuncData
  f_l_object : Addr
  d_l_object : FuncData
  f_l_made : Addr
  d_l_made : FuncData
  f_l_around : Addr
  d_l_around : FuncData
  f_l_stand : Addr
  d_l_stand : FuncData
  f_l_levels : Addr
  d_l_levels : FuncData
  f_l_key : Addr
  d_l_key : FuncData
  f_l_is_turn : Addr
  d_l_is_turn : FuncData
  f_l_rising : Addr
  d_l_rising : FuncData
  f_l_stretched : Addr
  d_l_stretched : FuncData
  f_law : Addr
  d_law : FuncData
  c_Term : Addr
  c_Number : Addr
  c_Value : Addr
  c_Cell : Addr
  c_Joined : Addr
  c_Deed : Addr
  c_Program : Addr
  c_Walk : Addr
structure Tx (K : PySem.W.Frag) (mg : Str → Option Value) (a : Ad) : Prop where
  F_Number_init : Fun K "__init__" "Number.__init__" s_Number_init a.f_Number_init a.d_Number_init
  b_Number_init : Binds K a.d_Number_init ["self", "n"] []
  F_Value_init : Fun K "__init__" "Value.__init__" s_Value_init a.f_Value_init a.d_Value_init
  b_Value_init : Binds K a.d_Value_init ["self", "name"] []
  F_Cell_init : Fun K "__init__" "Cell.__init__" s_Cell_init a.f_Cell_init a.d_Cell_init
  b_Cell_init : Binds K a.d_Cell_init ["self", "table", "spots"] []
  F_Joined_init : Fun K "__init__" "Joined.__init__" s_Joined_init a.f_Joined_init a.d_Joined_init
  b_Joined_init : Binds K a.d_Joined_init ["self", "sign", "left", "right"] []
  F_Deed_init : Fun K "__init__" "Deed.__init__" s_Deed_init a.f_Deed_init a.d_Deed_init
  b_Deed_init : Binds K a.d_Deed_init ["self", "names", "lows", "highs", "table", "spots", "term", "path"] []
  F_Program_init : Fun K "__init__" "Program.__init__" s_Program_init a.f_Program_init a.d_Program_init
  b_Program_init : Binds K a.d_Program_init ["self", "size", "deeds"] []
  F_Walk_init : Fun K "__init__" "Walk.__init__" s_Walk_init a.f_Walk_init a.d_Walk_init
  b_Walk_init : Binds K a.d_Walk_init ["self", "deeds", "most"] []
  F_placed : Fun K "placed" "placed" s_placed a.f_placed a.d_placed
  b_placed : Binds K a.d_placed ["spots", "values"] []
  m_placed : mg "placed" = some (.ref a.f_placed)
  F_stood_for : Fun K "stood_for" "stood_for" s_stood_for a.f_stood_for a.d_stood_for
  b_stood_for : Binds K a.d_stood_for ["spot", "values"] []
  m_stood_for : mg "stood_for" = some (.ref a.f_stood_for)
  F_named : Fun K "named" "named" s_named a.f_named a.d_named
  b_named : Binds K a.d_named ["deed", "values"] []
  m_named : mg "named" = some (.ref a.f_named)
  F_nested : Fun K "nested" "nested" s_nested a.f_nested a.d_nested
  b_nested : Binds K a.d_nested ["deeds"] []
  m_nested : mg "nested" = some (.ref a.f_nested)
  F_items_within : Fun K "items_within" "items_within" s_items_within a.f_items_within a.d_items_within
  b_items_within : Binds K a.d_items_within ["deeds", "numbers", "depth"] []
  m_items_within : mg "items_within" = some (.ref a.f_items_within)
  F_neighbours : Fun K "neighbours" "neighbours" s_neighbours a.f_neighbours a.d_neighbours
  b_neighbours : Binds K a.d_neighbours ["deeds", "numbers", "depth"] []
  m_neighbours : mg "neighbours" = some (.ref a.f_neighbours)
  F_turns : Fun K "turns" "turns" s_turns a.f_turns a.d_turns
  b_turns : Binds K a.d_turns ["program", "most"] []
  m_turns : mg "turns" = some (.ref a.f_turns)
  F_every_turn : Fun K "every_turn" "every_turn" s_every_turn a.f_every_turn a.d_every_turn
  b_every_turn : Binds K a.d_every_turn ["deeds"] []
  m_every_turn : mg "every_turn" = some (.ref a.f_every_turn)
  F_take_room : Fun K "take_room" "take_room" s_take_room a.f_take_room a.d_take_room
  b_take_room : Binds K a.d_take_room ["walk", "many"] []
  m_take_room : mg "take_room" = some (.ref a.f_take_room)
  F_deeds_among : Fun K "deeds_among" "deeds_among" s_deeds_among a.f_deeds_among a.d_deeds_among
  b_deeds_among : Binds K a.d_deeds_among ["items"] []
  m_deeds_among : mg "deeds_among" = some (.ref a.f_deeds_among)
  F_count_loops : Fun K "count_loops" "count_loops" s_count_loops a.f_count_loops a.d_count_loops
  b_count_loops : Binds K a.d_count_loops ["walk", "items", "values"] []
  m_count_loops : mg "count_loops" = some (.ref a.f_count_loops)
  F_count_loop : Fun K "count_loop" "count_loop" s_count_loop a.f_count_loop a.d_count_loop
  b_count_loop : Binds K a.d_count_loop ["walk", "k", "items", "values"] []
  m_count_loop : mg "count_loop" = some (.ref a.f_count_loop)
  F_bounds_of : Fun K "bounds_of" "bounds_of" s_bounds_of a.f_bounds_of a.d_bounds_of
  b_bounds_of : Binds K a.d_bounds_of ["deed", "values"] []
  m_bounds_of : mg "bounds_of" = some (.ref a.f_bounds_of)
  F_tell_items : Fun K "tell_items" "tell_items" s_tell_items a.f_tell_items a.d_tell_items
  b_tell_items : Binds K a.d_tell_items ["walk", "items", "values"] []
  m_tell_items : mg "tell_items" = some (.ref a.f_tell_items)
  F_tell_loop : Fun K "tell_loop" "tell_loop" s_tell_loop a.f_tell_loop a.d_tell_loop
  b_tell_loop : Binds K a.d_tell_loop ["walk", "k", "items", "values"] []
  m_tell_loop : mg "tell_loop" = some (.ref a.f_tell_loop)
  F_l_cell : Fun K "_law_cell" "_law_cell" s_l_cell a.f_l_cell a.d_l_cell
  b_l_cell : Binds K a.d_l_cell ["_law_script", "_law_k"] []
  m_l_cell : mg "_law_cell" = some (.ref a.f_l_cell)
  F_l_whole : Fun K "_law_whole" "_law_whole" s_l_whole a.f_l_whole a.d_l_whole
  b_l_whole : Binds K a.d_l_whole ["_law_found"] []
  m_l_whole : mg "_law_whole" = some (.ref a.f_l_whole)
  F_l_mixed : Fun K "_law_mixed" "_law_mixed" s_l_mixed a.f_l_mixed a.d_l_mixed
  b_l_mixed : Binds K a.d_l_mixed ["_law_cell_here", "_law_k"] []
  m_l_mixed : mg "_law_mixed" = some (.ref a.f_l_mixed)
  F_l_name : Fun K "_law_name" "_law_name" s_l_name a.f_l_name a.d_l_name
  b_l_name : Binds K a.d_l_name ["_law_cell_here", "_law_e"] []
  m_l_name : mg "_law_name" = some (.ref a.f_l_name)
  F_l_spots : Fun K "_law_spots" "_law_spots" s_l_spots a.f_l_spots a.d_l_spots
  b_l_spots : Binds K a.d_l_spots ["_law_number", "_law_bases", "_law_many_here", "_law_off"] []
  m_l_spots : mg "_law_spots" = some (.ref a.f_l_spots)
  F_l_cell_of : Fun K "_law_cell_of" "_law_cell_of" s_l_cell_of a.f_l_cell_of a.d_l_cell_of
  b_l_cell_of : Binds K a.d_l_cell_of ["_law_number", "_law_bases", "_law_heads_here"] []
  m_l_cell_of : mg "_law_cell_of" = some (.ref a.f_l_cell_of)
  F_l_leaf : Fun K "_law_leaf" "_law_leaf" s_l_leaf a.f_l_leaf a.d_l_leaf
  b_l_leaf : Binds K a.d_l_leaf ["_law_number", "_law_bases", "_law_heads_here"] []
  m_l_leaf : mg "_law_leaf" = some (.ref a.f_l_leaf)
  F_l_term : Fun K "_law_term" "_law_term" s_l_term a.f_l_term a.d_l_term
  b_l_term : Binds K a.d_l_term ["_law_cell_here", "_law_bases", "_law_heads_here"] []
  m_l_term : mg "_law_term" = some (.ref a.f_l_term)
  F_l_loop : Fun K "_law_loop" "_law_loop" s_l_loop a.f_l_loop a.d_l_loop
  b_l_loop : Binds K a.d_l_loop ["_law_number", "_law_far", "_law_stack", "_law_cell_here"] []
  m_l_loop : mg "_law_loop" = some (.ref a.f_l_loop)
  F_l_row : Fun K "_law_row" "_law_row" s_l_row a.f_l_row a.d_l_row
  b_l_row : Binds K a.d_l_row ["_law_cell_here", "_law_stack", "_law_path", "_law_heads_here"] []
  m_l_row : mg "_law_row" = some (.ref a.f_l_row)
  F_l_heads : Fun K "_law_heads" "_law_heads" s_l_heads a.f_l_heads a.d_l_heads
  b_l_heads : Binds K a.d_l_heads ["_law_script"] []
  m_l_heads : mg "_law_heads" = some (.ref a.f_l_heads)
  F_l_rows : Fun K "_law_rows" "_law_rows" s_l_rows a.f_l_rows a.d_l_rows
  b_l_rows : Binds K a.d_l_rows ["_law_script", "_law_many_here"] []
  m_l_rows : mg "_law_rows" = some (.ref a.f_l_rows)
  F_l_many : Fun K "_law_many" "_law_many" s_l_many a.f_l_many a.d_l_many
  b_l_many : Binds K a.d_l_many ["_law_script"] []
  m_l_many : mg "_law_many" = some (.ref a.f_l_many)
  F_l_size : Fun K "_law_size" "_law_size" s_l_size a.f_l_size a.d_l_size
  b_l_size : Binds K a.d_l_size ["_law_script"] []
  m_l_size : mg "_law_size" = some (.ref a.f_l_size)
  F_l_object : Fun K "_law_object" "_law_object" s_l_object a.f_l_object a.d_l_object
  b_l_object : Binds K a.d_l_object ["_law_term_here"] []
  m_l_object : mg "_law_object" = some (.ref a.f_l_object)
  F_l_made : Fun K "_law_made" "_law_made" s_l_made a.f_l_made a.d_l_made
  b_l_made : Binds K a.d_l_made ["_law_size_here", "_law_rows_here"] []
  m_l_made : mg "_law_made" = some (.ref a.f_l_made)
  F_l_around : Fun K "_law_around" "_law_around" s_l_around a.f_l_around a.d_l_around
  b_l_around : Binds K a.d_l_around ["_law_names", "_law_values"] []
  m_l_around : mg "_law_around" = some (.ref a.f_l_around)
  F_l_stand : Fun K "_law_stand" "_law_stand" s_l_stand a.f_l_stand a.d_l_stand
  b_l_stand : Binds K a.d_l_stand ["_law_spots_here", "_law_around_here"] []
  m_l_stand : mg "_law_stand" = some (.ref a.f_l_stand)
  F_l_levels : Fun K "_law_levels" "_law_levels" s_l_levels a.f_l_levels a.d_l_levels
  b_l_levels : Binds K a.d_l_levels ["_law_row_here"] []
  m_l_levels : mg "_law_levels" = some (.ref a.f_l_levels)
  F_l_key : Fun K "_law_key" "_law_key" s_l_key a.f_l_key a.d_l_key
  b_l_key : Binds K a.d_l_key ["_law_row_here", "_law_values"] []
  m_l_key : mg "_law_key" = some (.ref a.f_l_key)
  F_l_is_turn : Fun K "_law_is_turn" "_law_is_turn" s_l_is_turn a.f_l_is_turn a.d_l_is_turn
  b_l_is_turn : Binds K a.d_l_is_turn ["_law_turn", "_law_rows_here"] []
  m_l_is_turn : mg "_law_is_turn" = some (.ref a.f_l_is_turn)
  F_l_rising : Fun K "_law_rising" "_law_rising" s_l_rising a.f_l_rising a.d_l_rising
  b_l_rising : Binds K a.d_l_rising ["_law_found", "_law_rows_here"] []
  m_l_rising : mg "_law_rising" = some (.ref a.f_l_rising)
  F_l_stretched : Fun K "_law_stretched" "_law_stretched" s_l_stretched a.f_l_stretched a.d_l_stretched
  b_l_stretched : Binds K a.d_l_stretched ["_law_script", "_law_rows_here"] []
  m_l_stretched : mg "_law_stretched" = some (.ref a.f_l_stretched)
  F_law : Fun K "law" "law" s_law a.f_law a.d_law
  b_law : Binds K a.d_law ["_law_script"] []
  m_law : mg "law" = some (.ref a.f_law)
  cl_Term : Cls K a.c_Term
  mc_Term : mg "Term" = some (.ref a.c_Term)
  cl_Number : Cls K a.c_Number
  mc_Number : mg "Number" = some (.ref a.c_Number)
  mk_Number : Mk K a.c_Number a.f_Number_init
  n_Number_n : NoAttr K a.c_Number "n"
  cl_Value : Cls K a.c_Value
  mc_Value : mg "Value" = some (.ref a.c_Value)
  mk_Value : Mk K a.c_Value a.f_Value_init
  n_Value_name : NoAttr K a.c_Value "name"
  cl_Cell : Cls K a.c_Cell
  mc_Cell : mg "Cell" = some (.ref a.c_Cell)
  mk_Cell : Mk K a.c_Cell a.f_Cell_init
  n_Cell_table : NoAttr K a.c_Cell "table"
  n_Cell_spots : NoAttr K a.c_Cell "spots"
  cl_Joined : Cls K a.c_Joined
  mc_Joined : mg "Joined" = some (.ref a.c_Joined)
  mk_Joined : Mk K a.c_Joined a.f_Joined_init
  n_Joined_sign : NoAttr K a.c_Joined "sign"
  n_Joined_left : NoAttr K a.c_Joined "left"
  n_Joined_right : NoAttr K a.c_Joined "right"
  cl_Deed : Cls K a.c_Deed
  mc_Deed : mg "Deed" = some (.ref a.c_Deed)
  mk_Deed : Mk K a.c_Deed a.f_Deed_init
  n_Deed_names : NoAttr K a.c_Deed "names"
  n_Deed_lows : NoAttr K a.c_Deed "lows"
  n_Deed_highs : NoAttr K a.c_Deed "highs"
  n_Deed_table : NoAttr K a.c_Deed "table"
  n_Deed_spots : NoAttr K a.c_Deed "spots"
  n_Deed_term : NoAttr K a.c_Deed "term"
  n_Deed_path : NoAttr K a.c_Deed "path"
  cl_Program : Cls K a.c_Program
  mc_Program : mg "Program" = some (.ref a.c_Program)
  mk_Program : Mk K a.c_Program a.f_Program_init
  n_Program_size : NoAttr K a.c_Program "size"
  n_Program_deeds : NoAttr K a.c_Program "deeds"
  cl_Walk : Cls K a.c_Walk
  mc_Walk : mg "Walk" = some (.ref a.c_Walk)
  mk_Walk : Mk K a.c_Walk a.f_Walk_init
  n_Walk_deeds : NoAttr K a.c_Walk "deeds"
  n_Walk_room : NoAttr K a.c_Walk "room"
  n_Walk_told : NoAttr K a.c_Walk "told"
  z_bool : mg "bool" = none
  z_dict : mg "dict" = none
  z_int : mg "int" = none
  z_isinstance : mg "isinstance" = none
  z_len : mg "len" = none
  z_list : mg "list" = none
  z_max : mg "max" = none
  z_min : mg "min" = none
  z_range : mg "range" = none
  z_sum : mg "sum" = none
  z_tuple : mg "tuple" = none
  z_zip : mg "zip" = none
noncomputable def csOf (a : Ad) : Cs := ⟨a.c_Number, a.c_Value, a.c_Cell, a.c_Joined⟩
section
variable {P : Program} {w : World} {K : PySem.W.Frag} {mg : Str → Option Value} {base : Heap} {a : Ad}
theorem ok_whole (T : Tx K mg a) : FnOk P w K mg base CX0 1 a.f_l_whole a.d_l_whole ["_law_found"] spWhole := by
  refine T.F_l_whole.ok sc_l_whole (fun vs H Q E h => ?_) (fun cdv A outer s H vs Q E hr h => ?_)
  · obtain ⟨_, rfl, _⟩ := h; rfl
  obtain ⟨x, rfl, hx, q⟩ := h
  refine ⟨_, (pss_one (ps_ret (pe_and (pe_callB call_isi (by rfl) T.z_isinstance bt_isinstance (pa_cons (pv 0) (pa_cons (pe_bltn (v := .ty "int") (by rfl) T.z_int bt_int rfl) pa_nil))) (pe_one (pe_not (pe_callB call_isi (by rfl) T.z_isinstance bt_isinstance (pa_cons (pv 0) (pa_cons (pe_bltn (v := .ty "bool") (by rfl) T.z_bool bt_bool rfl) pa_nil)))))))), ?_⟩
  cases x with
  | int i => exact ⟨_, rfl, _, _, _, _, _, rfl, rfl, .int i, rfl, _, rfl, _, rfl, _, _, _, _, _, rfl, rfl, .int i, rfl, _, rfl, q⟩
  | bl b => exact ⟨_, rfl, _, _, _, _, _, rfl, rfl, .bl b, rfl, _, rfl, _, rfl, _, _, _, _, _, rfl, rfl, .bl b, rfl, _, rfl, q⟩
  | non => exact ⟨_, rfl, _, _, _, _, _, rfl, rfl, .non, rfl, _, rfl, q⟩
  | str z => exact ⟨_, rfl, _, _, _, _, _, rfl, rfl, .str z, rfl, _, rfl, q⟩
  | _ => cases hx

theorem ok_cell (T : Tx K mg a) : FnOk P w K mg base CX0 1 a.f_l_cell a.d_l_cell ["_law_script", "_law_k"] (spCellA K) := by
  refine T.F_l_cell.ok sc_l_cell (fun vs H Q E h => ?_) (fun cdv A outer s H vs Q E hr h => ?_)
  · obtain ⟨_, _, _, rfl, _⟩ := h; rfl
  obtain ⟨p, ns, k, rfl, hS, h0, h1, q⟩ := h
  refine ⟨_, (pss_cons (ps_if (pt_cmpR op_lt (pv 1) (pe_callB call_len_seq (by rfl) T.z_len bt_len (pa_cons (pv 0) pa_nil)) (nomark _))
    (pss_one (ps_ret (pe_ix ix_list (pv 0) (pv 1) (fun _ _ => rfl))))
    pss_nil)
    (pss_cons (ps_set (i := 2) sc_l_cell.nd rfl (Or.inl rfl) (pe_op op_add (pe_op op_mul (pv 1) pe_int) pe_int))
    (pss_cons (ps_if (pt_cmpR op_gt (pe_callB call_len_seq (by rfl) T.z_len bt_len (pa_cons (pv 0) pa_nil)) pe_int (nomark _))
    (pss_one (ps_set (i := 2) sc_l_cell.nd rfl (Or.inl rfl) (pe_op op_mod (pe_op op_add (pe_op op_mul (pe_ix ix_list (pv 0) (pe_op op_mod (pe_op op_mul (pv 1) pe_int) (pe_callB call_len_seq (by rfl) T.z_len bt_len (pa_cons (pv 0) pa_nil))) (fun _ _ => rfl)) pe_int) (pe_op op_mul (pv 1) pe_int)) pe_int)))
    pss_nil)
    (pss_one (ps_ret (pe_op op_mod (pe_op op_mul (pv 2) (pv 2)) pe_int)))))), ?_⟩
  have hl : (ns.map V.int).length = ns.length := List.length_map _
  have p64 : (2 : Int) ^ 64 = 18446744073709551616 := by decide
  refine ⟨_, rfl, _, rfl, p, _, rfl, .inl hS, _, _, rfl, rfl, _, rfl, ?_⟩
  refine ite2 (fun c => ?_) (fun c => ?_)
  · have c' := dT c
    rw [hl] at c'
    exact ⟨_, rfl, _, rfl, p, _, _, _, rfl, rfl, hS, cell_in h0 c', q _⟩
  refine ⟨_, rfl, _, _, rfl, rfl, .inr ⟨by decide, by decide⟩, _, _, rfl, rfl, ?_⟩
  refine ⟨_, rfl, p, _, rfl, .inl hS, _, _, rfl, rfl, _, rfl, ?_⟩
  refine ite2 (fun c2 => ?_) (fun c2 => ?_)
  · have c2 := dT c2
    have m0 := Int.emod_nonneg (k * 7) (show ((ns.map V.int).length : Int) ≠ 0 by omega)
    have m1 := Int.emod_lt_of_pos (k * 7) c2
    refine ⟨_, rfl, _, rfl, _, _, rfl, rfl, .inr ⟨by decide, by decide⟩, _, rfl, p, _, rfl, .inl hS, _, _, rfl, rfl, c2, ?_⟩
    refine ⟨p, _, _, _, rfl, rfl, hS, cell_in m0 (by rw [hl] at m1 ⊢; exact m1), _, _, rfl, rfl, .inr ⟨by decide, by decide⟩, _, rfl, _, _, rfl, rfl, .inr ⟨by decide, by decide⟩, _, _, rfl, rfl, _, _, rfl, rfl, (by show (0 : Int) < 2147483647; decide), ?_⟩
    have b0 := Int.emod_nonneg (ns.getD (k * 7 % ((ns.map V.int).length : Int)).toNat 0 * 48271 + k * 7919) (show (2147483647 : Int) ≠ 0 by decide)
    have b1 := Int.emod_lt_of_pos (ns.getD (k * 7 % ((ns.map V.int).length : Int)).toNat 0 * 48271 + k * 7919) (show (0 : Int) < 2147483647 by decide)
    exact ⟨_, rfl, _, rfl, _, _, rfl, rfl, .inl ⟨by omega, by omega⟩, _, _, rfl, rfl, (by show (0 : Int) < 2147483629; decide), q _⟩
  · exact ⟨_, rfl, _, rfl, _, _, rfl, rfl, .inl ⟨by omega, by omega⟩, _, _, rfl, rfl, (by show (0 : Int) < 2147483629; decide), q _⟩

theorem ok_cellD (T : Tx K mg a) : FnOk P w K mg base CX0 1 a.f_l_cell a.d_l_cell ["_law_script", "_law_k"] (spCellD K) := by
  refine T.F_l_cell.ok sc_l_cell (fun vs H Q E h => ?_) (fun cdv A outer s H vs Q E hr h => ?_)
  · obtain ⟨_, _, _, rfl, _⟩ := h; rfl
  obtain ⟨p, ns, k, rfl, hS, h0, h1, q⟩ := h
  refine ⟨_, (pss_cons (ps_if (pt_cmpR op_lt (pv 1) (pe_callB call_len_seq (by rfl) T.z_len bt_len (pa_cons (pv 0) pa_nil)) (nomark _))
    (pss_one (ps_ret (pe_ix ix_list (pv 0) (pv 1) (fun _ _ => rfl))))
    pss_nil)
    (pss_cons (ps_set (i := 2) sc_l_cell.nd rfl (Or.inl rfl) (pe_op op_add (pe_op op_mul (pv 1) pe_int) pe_int))
    (pss_cons (ps_if (pt_cmpR op_gt (pe_callB call_len_seq (by rfl) T.z_len bt_len (pa_cons (pv 0) pa_nil)) pe_int (nomark _))
    (pss_one (ps_set (i := 2) sc_l_cell.nd rfl (Or.inl rfl) (pe_op op_mod (pe_op op_add (pe_op op_mul (pe_ix ix_list (pv 0) (pe_op op_mod (pe_op op_mul (pv 1) pe_int) (pe_callB call_len_seq (by rfl) T.z_len bt_len (pa_cons (pv 0) pa_nil))) (fun _ _ => rfl)) pe_int) (pe_op op_mul (pv 1) pe_int)) pe_int)))
    pss_nil)
    (pss_one (ps_ret (pe_op op_mod (pe_op op_mul (pv 2) (pv 2)) pe_int)))))), ?_⟩
  have hl : (ns.map V.int).length = ns.length := List.length_map _
  have p64 : (2 : Int) ^ 64 = 18446744073709551616 := by decide
  refine ⟨_, rfl, _, rfl, p, _, rfl, .inl hS, _, _, rfl, rfl, _, rfl, ?_⟩
  unfold cellD at q
  refine ite2 (fun c => ?_) (fun c => ?_)
  · have c' := dT c
    rw [hl] at c'
    rw [if_pos c'] at q
    exact ⟨_, rfl, _, rfl, p, _, _, _, rfl, rfl, hS, cell_in h0 c', q⟩
  have c' := dF c
  rw [hl] at c'
  rw [if_neg c'] at q
  refine ⟨_, rfl, _, _, rfl, rfl, .inr ⟨by decide, by decide⟩, _, _, rfl, rfl, ?_⟩
  refine ⟨_, rfl, p, _, rfl, .inl hS, _, _, rfl, rfl, _, rfl, ?_⟩
  refine ite2 (fun c2 => ?_) (fun c2 => ?_)
  · have c2 := dT c2
    rw [if_pos (by rw [hl] at c2; omega)] at q
    have m0 := Int.emod_nonneg (k * 7) (show ((ns.map V.int).length : Int) ≠ 0 by omega)
    have m1 := Int.emod_lt_of_pos (k * 7) c2
    refine ⟨_, rfl, _, rfl, _, _, rfl, rfl, .inr ⟨by decide, by decide⟩, _, rfl, p, _, rfl, .inl hS, _, _, rfl, rfl, c2, ?_⟩
    refine ⟨p, _, _, _, rfl, rfl, hS, cell_in m0 (by rw [hl] at m1 ⊢; exact m1), _, _, rfl, rfl, .inr ⟨by decide, by decide⟩, _, rfl, _, _, rfl, rfl, .inr ⟨by decide, by decide⟩, _, _, rfl, rfl, _, _, rfl, rfl, (by show (0 : Int) < 2147483647; decide), ?_⟩
    have b0 := Int.emod_nonneg (ns.getD (k * 7 % ((ns.map V.int).length : Int)).toNat 0 * 48271 + k * 7919) (show (2147483647 : Int) ≠ 0 by decide)
    have b1 := Int.emod_lt_of_pos (ns.getD (k * 7 % ((ns.map V.int).length : Int)).toNat 0 * 48271 + k * 7919) (show (0 : Int) < 2147483647 by decide)
    exact ⟨_, rfl, _, rfl, _, _, rfl, rfl, .inl ⟨by omega, by omega⟩, _, _, rfl, rfl, (by show (0 : Int) < 2147483629; decide), by rw [hl]; exact q⟩
  · have c2 := dF c2
    rw [if_neg (by rw [hl] at c2; omega)] at q
    exact ⟨_, rfl, _, rfl, _, _, rfl, rfl, .inl ⟨by omega, by omega⟩, _, _, rfl, rfl, (by show (0 : Int) < 2147483629; decide), q⟩

theorem ok_mixed (T : Tx K mg a) : FnOk P w K mg base CX0 1 a.f_l_mixed a.d_l_mixed ["_law_cell_here", "_law_k"] spMix2 := by
  refine T.F_l_mixed.ok sc_l_mixed (fun vs H Q E h => ?_) (fun cdv A outer s H vs Q E hr h => ?_)
  · obtain ⟨_, _, rfl, _⟩ := h; rfl
  obtain ⟨c, k, rfl, q⟩ := h
  refine ⟨_, (pss_cons (ps_set (i := 2) sc_l_mixed.nd rfl (Or.inl rfl) (pe_op op_mod (pe_op op_mul (pe_op op_add (pe_op op_add (pv 0) (pe_op op_mul pe_int (pv 1))) pe_int) pe_int) pe_int))
    (pss_one (ps_ret (pe_op op_mod (pe_op op_mul (pv 2) (pv 2)) pe_int)))), ?_⟩
  have p64 : (2 : Int) ^ 64 = 18446744073709551616 := by decide
  have b0 := Int.emod_nonneg ((c + 7919 * k + 1) * 48271) (show (2147483647 : Int) ≠ 0 by decide)
  have b1 := Int.emod_lt_of_pos ((c + 7919 * k + 1) * 48271) (show (0 : Int) < 2147483647 by decide)
  refine ⟨_, rfl, _, rfl, _, _, rfl, rfl, .inl ⟨by decide, by decide⟩, _, _, rfl, rfl, _, _, rfl, rfl, _, _, rfl, rfl, .inr ⟨by decide, by decide⟩, _, _, rfl, rfl, (by show (0 : Int) < 2147483647; decide), ?_⟩
  exact ⟨_, rfl, _, rfl, _, _, rfl, rfl, .inl ⟨by omega, by omega⟩, _, _, rfl, rfl, (by show (0 : Int) < 2147483629; decide), q⟩

theorem ok_name (T : Tx K mg a) : FnOk P w K mg base CX0 2 a.f_l_name a.d_l_name ["_law_cell_here", "_law_e"] spName := by
  have G_l_mixed := ok_mixed (P := P) (w := w) (base := base) T
  refine T.F_l_name.ok sc_l_name (fun vs H Q E h => ?_) (fun cdv A outer s H vs Q E hr h => ?_)
  · obtain ⟨_, _, rfl, _⟩ := h; rfl
  obtain ⟨c, e, rfl, e0, e1, q⟩ := h
  refine ⟨_, (pss_cons (ps_set (i := 2) sc_l_name.nd rfl (Or.inl rfl) pe_str)
    (pss_cons (ps_set (i := 3) sc_l_name.nd rfl (Or.inl rfl) (pe_call G_l_mixed (hr.mono (by omega)) (by rfl) T.m_l_mixed T.F_l_mixed.kp T.b_l_mixed .nil pass0 (pa_cons (pv 0) (pa_cons pe_int pa_nil))))
    (pss_cons (ps_set (i := 4) sc_l_name.nd rfl (Or.inl rfl) pe_str)
    (pss_cons (ps_for PassesOwn.never rfl (pi_range1 (by rfl) T.z_range (pa_cons (pe_op op_mod (pv 3) pe_int) pa_nil)) (pg_name (i := 5) sc_l_name.nd rfl (Or.inl rfl))
    (pss_one (ps_set (i := 4) sc_l_name.nd rfl (Or.inl rfl) (pe_op op_add_str (pv 4) (pe_ix ix_str (pv 2) (pe_op op_mod (pe_op op_fdiv (pv 3) (pe_op op_add (pv 5) pe_int)) pe_int) (fun _ _ => rfl))))))
    (pss_cons (ps_set (i := 6) sc_l_name.nd rfl (Or.inl rfl) (pe_op op_mod (pe_op op_fdiv (pv 3) pe_int) (pe_op op_add (pe_callB call_len_str (by rfl) T.z_len bt_len (pa_cons (pv 4) pa_nil)) pe_int)))
    (pss_cons (ps_set (i := 7) sc_l_name.nd rfl (Or.inl rfl) (pe_op op_add_str (pe_op op_add_str (pe_slice sl_str (pv 4) po_none (po_some (pv 6))) (pe_ix ix_str (pv 2) (pe_op op_mod (pe_op op_add (pe_op op_fdiv (pv 3) pe_int) (pe_op op_mul pe_int (pv 1))) pe_int) (fun _ _ => rfl))) (pe_slice sl_str (pv 4) (po_some (pv 6)) po_none)))
    (pss_cons (ps_if (pt_cmpR op_eq (pe_op op_mod (pe_op op_fdiv (pv 3) pe_int) pe_int) pe_int (nomark _))
    (pss_one (ps_set (i := 7) sc_l_name.nd rfl (Or.inl rfl) (pe_slice sl_str (pe_op op_add_str (pv 4) pe_str) po_none (po_some (pe_op op_add pe_int (pv 1))))))
    pss_nil)
    (pss_cons (ps_if (pt_cmpR op_in_seq (pv 7) (pe_tupq (paq_cons pe_str (paq_cons pe_str (paq_cons pe_str paq_nil star_C) star_C) star_C)) (by with_unfolding_all rfl))
    (pss_one (ps_set (i := 7) sc_l_name.nd rfl (Or.inl rfl) (pe_op op_add_str (pv 7) pe_str)))
    pss_nil)
    (pss_one (ps_ret (pv 7))))))))))), ?_⟩
  refine ⟨_, rfl, c, 11, rfl, ?_⟩
  obtain ⟨m0, m1⟩ := mix_b c 11
  generalize mixF c 11 = m at q m0 m1 ⊢
  have l0 := Int.emod_nonneg m (show (8 : Int) ≠ 0 by decide)
  have l1 := Int.emod_lt_of_pos m (show (0 : Int) < 8 by decide)
  dsimp only [gName]
  refine ⟨_, rfl, _, _, rfl, rfl, (by show (0 : Int) < 8; decide), m % 8, rfl, by omega, by omega, ?_⟩
  have hL := nmL_b m
  refine for_range (lo := 0) (n := nmL m) (fun i σ' H' => H' = H ∧ ∃ o5 o6 o7, σ' = [some (.int c), some (.int e), some (.str abc), some (.int m), some (.str (sOf (nmW m i))), o5, o6, o7]) ⟨rfl, _, _, _, rfl⟩ (fun i σ' H' hi p => ?_) (fun σ' H' p => ?_)
  · obtain ⟨rfl, o5, o6, o7, rfl⟩ := p
    have e0' : (0 : Int) + (i : Int) = (i : Int) := by omega
    rw [e0']
    refine ⟨_, rfl, _, rfl, _, rfl, _, rfl, _, _, rfl, rfl, _, _, rfl, rfl, ⟨(by show (0 : Int) < (i : Int) + 9; omega), (by show (i : Int) + 9 < 1073741824; omega)⟩, _, _, rfl, rfl, (by show (0 : Int) < 26; decide), _, _, _, rfl, rfl, abc_len, abc_at _, _, _, rfl, rfl, ?_, ?_⟩
    · rw [len_sOf, nmW_len]; exact szl (by show i + 1 ≤ 1000000; omega)
    have eW : sOf (nmW m i) ++ (⟨#[letC (m / ((i : Int) + 9))]⟩ : Str) = sOf (nmW m (i + 1)) := cds_ext (by
      rw [cds_app, cds_sOf, cds_sOf]
      unfold nmW
      rw [List.range_succ, List.map_append]
      rfl)
    exact ⟨rfl, _, _, _, congrArg (fun z => [some (V.int c), some (.int e), some (.str abc), some (.int m), some (.str z), some (.int (i : Int)), o6, o7]) eW⟩
  obtain ⟨rfl, o5, o6, o7, rfl⟩ := p
  have wl : (sOf (nmW m (nmL m))).length = nmL m := by rw [len_sOf, nmW_len]
  obtain ⟨a0, a1⟩ := nmAt_b m
  refine ⟨_, rfl, _, _, rfl, rfl, ⟨by decide, by decide⟩, _, rfl, _, rfl, ?_⟩
  rw [wl]
  refine ⟨szl (by omega), _, _, rfl, rfl, _, _, rfl, rfl, (by show (0 : Int) < (nmL m : Int) + 1; omega), ?_⟩
  dsimp only [gName]
  rw [← a1]
  have hc := nmW_len m (nmL m)
  -- the name
  refine ⟨_, rfl, _, rfl, _, rfl, _, rfl, szl (by omega), _, rfl, _, rfl, _, _, rfl, rfl, ⟨by decide, by decide⟩, _, rfl, _, _, rfl, rfl, .inl ⟨by decide, by decide⟩, _, _, rfl, rfl, _, _, rfl, rfl, (by show (0 : Int) < 26; decide), _, _, _, rfl, rfl, abc_len, abc_at _, _, _, rfl, rfl, ?_, ?_⟩
  · rw [len_sOf, cds_sOf, cut_to _ (by omega)]
    exact szl (by rw [List.length_take]; show _ + 1 ≤ 1000000; omega)
  refine ⟨_, rfl, _, rfl, _, rfl, _, rfl, szl (by omega), ?_⟩
  rw [cds_sOf, cut_to _ (by omega), cut_from _ (by omega)]
  have eA : sOf ((nmW m (nmL m)).take ((nmAt m : Nat) : Int).toNat) ++ (⟨#[letC (m / 72 + 5 * e)]⟩ : Str) ++ sOf ((nmW m (nmL m)).drop ((nmAt m : Nat) : Int).toNat) = sOf (nmA m e) := cds_ext (by rw [cds_app, cds_app, cds_sOf, cds_sOf, cds_sOf]; rfl)
  refine ⟨_, _, rfl, rfl, ?_, ?_⟩
  · rw [len_app, len_sOf, len_sOf, List.length_take, List.length_drop]
    exact szl (by show _ + 1 + _ ≤ 1000000; omega)
  rw [eA]
  dsimp only [gName]
  refine seq_any (fun σ2 H2 => H2 = H' ∧ ∃ o5 o6, σ2 = [some (.int c), some (.int e), some (.str abc), some (.int m), some (.str (sOf (nmW m (nmL m)))), o5, o6, some (.str (sOf (nmR m e)))]) (fun σ2 H2 mm => ?_) (fun rest => ?_)
  · obtain ⟨rfl, o5, o6, rfl⟩ := mm
    have rb := nmR_b (m := m) e0 e1
    refine seq_any (fun σ3 H3 => Same H2 H3 ∧ ∃ o5 o6, σ3 = [some (.int c), some (.int e), some (.str abc), some (.int m), some (.str (sOf (nmW m (nmL m)))), o5, o6, some (.str (sOf (nmC m e)))]) (fun σ3 H3 mm => ?_) (fun rest => ?_)
    · obtain ⟨e3, o5, o6, rfl⟩ := mm
      exact ⟨_, rfl, q _ e3⟩
    · refine ⟨_, rfl, szl (by show 3 ≤ 1000000; decide), fun tp htp => ?_⟩
      refine ⟨tp, [.str "for", .str "end", .str "size"], rfl, .inr (SqT.of upd_same), rfl, rfl, _, rfl, ?_⟩
      show if inV (V.str (sOf (nmR m e))) [.str "for", .str "end", .str "size"] = true then _ else _
      rw [in_resv]
      refine ite2 (fun cc => ?_) (fun cc => ?_)
      · refine ⟨_, rfl, _, _, rfl, rfl, ?_, ?_⟩
        · have hz2 : (Str.ofString "s").length = 1 := by decide +kernel
          rw [len_sOf, hz2]
          exact szl (by omega)
        · have ee : sOf (nmR m e) ++ Str.ofString "s" = sOf (nmC m e) := cds_ext (by
            rw [cds_app, cds_sOf, cds_sOf]
            unfold nmC
            rw [if_pos (dT cc)]
            congr 1)
          exact rest _ _ ⟨same_new htp _, o5, o6, congrArg (fun z => [some (V.int c), some (.int e), some (.str abc), some (.int m), some (.str (sOf (nmW m (nmL m)))), o5, o6, some (.str z)]) ee⟩
      · have ee : sOf (nmR m e) = sOf (nmC m e) := by
          unfold nmC
          rw [if_neg (dF cc)]
        exact rest _ _ ⟨same_new htp _, o5, o6, congrArg (fun z => [some (V.int c), some (.int e), some (.str abc), some (.int m), some (.str (sOf (nmW m (nmL m)))), o5, o6, some (.str z)]) ee⟩
  · refine ⟨_, rfl, _, _, rfl, rfl, ⟨by decide, by decide⟩, _, _, rfl, rfl, (by show (0 : Int) < 4; decide), rfl, _, rfl, ?_⟩
    have key : (V.int (m / 5003 % 4) = V.int 1) ↔ m / 5003 % 4 = 1 := ⟨fun e => V.int.inj e, fun e => by rw [e]⟩
    refine ite2 (fun cc => ?_) (fun cc => ?_)
    · have c2 := key.mp (dT cc)
      refine ⟨_, rfl, _, _, rfl, rfl, ?_, ?_⟩
      · have hz : (Str.ofString "qrstuvwx").length = 8 := by decide +kernel
        rw [wl, hz]
        exact szl (by omega)
      refine ⟨_, rfl, _, _, rfl, rfl, _, rfl, _, rfl, ?_, ?_⟩
      · rw [len_app, wl]
        have hz : (Str.ofString "qrstuvwx").length = 8 := by decide +kernel
        rw [hz]
        exact szl (by omega)
      have ee : sOf (cutC (cds (sOf (nmW m (nmL m)) ++ Str.ofString "qrstuvwx")) none (some (5 + e))) = sOf (nmR m e) := by
        rw [cds_app, cds_sOf, cut_to _ (by omega)]
        unfold nmR
        rw [if_pos c2]
        rfl
      exact rest _ _ ⟨rfl, _, _, congrArg (fun z => [some (V.int c), some (.int e), some (.str abc), some (.int m), some (.str (sOf (nmW m (nmL m)))), o5, some (V.int (nmAt m : Int)), some (.str z)]) ee⟩
    · have c2 := fun z => dF cc (key.mpr z)
      have ee : sOf (nmA m e) = sOf (nmR m e) := by
        unfold nmR
        rw [if_neg c2]
      exact rest _ _ ⟨rfl, _, _, congrArg (fun z => [some (V.int c), some (.int e), some (.str abc), some (.int m), some (.str (sOf (nmW m (nmL m)))), o5, some (V.int (nmAt m : Int)), some (.str z)]) ee⟩

theorem ok_spots (T : Tx K mg a) : FnOk P w K mg base CX0 1 a.f_l_spots a.d_l_spots ["_law_number", "_law_bases", "_law_many_here", "_law_off"] spSpots := by
  refine T.F_l_spots.ok sc_l_spots (fun vs H Q E h => ?_) (fun cdv A outer s H vs Q E hr h => ?_)
  · obtain ⟨_, _, _, _, rfl, _⟩ := h; rfl
  obtain ⟨n, m, off, b, rfl, n0, ⟨bs, hb, hb0, hb1, hbp⟩, m0, m1, q⟩ := h
  refine ⟨_, (pss_cons (ps_set (i := 4) sc_l_spots.nd rfl (Or.inl rfl) (pe_lst pa_nil))
    (pss_cons (ps_for PassesOwn.never rfl (pi_range1 (by rfl) T.z_range (pa_cons (pv 2) pa_nil)) (pg_name (i := 5) sc_l_spots.nd rfl (Or.inl rfl))
    (pss_cons (ps_set (i := 6) sc_l_spots.nd rfl (Or.inl rfl) (pe_op op_fdiv (pv 0) (pe_ix ix_list (pe_lstq (paq_cons pe_int (paq_cons pe_int (paq_cons pe_int paq_nil star_C) star_C) star_C)) (pv 5) (fun _ _ => rfl))))
    (pss_cons (ps_set (i := 7) sc_l_spots.nd rfl (Or.inl rfl) (pe_ix ix_list (pv 1) (pe_op op_mod (pv 6) (pe_callB call_len_seq (by rfl) T.z_len bt_len (pa_cons (pv 1) pa_nil))) (fun _ _ => rfl)))
    (pss_one (ps_expr (pe_bm PySem.F.plainAttrs_list PySem.F.slot_list_append PySem.F.type_list_append mt_append (pv 4) (pa_cons (pe_tup (pa_cons (pe_ix ix_tup (pv 7) pe_int (fun _ _ => rfl)) (pa_cons (pe_op op_sub (pe_op op_add (pv 3) (pe_op op_mod (pe_op op_fdiv (pv 6) pe_int) pe_int)) (pe_ix ix_tup (pv 7) pe_int (fun _ _ => rfl))) pa_nil))) pa_nil)))))))
    (pss_one (ps_ret (pe_callTy call_tuple_of (by rfl) T.z_tuple bt_tuple (pa_cons (pv 4) pa_nil)))))), ?_⟩
  refine ⟨szl (by show 0 ≤ 1000000; decide), fun l hl => ?_⟩
  refine ⟨_, rfl, m, rfl, by omega, by omega, ?_⟩
  have hb2 : (0 : Int) < (bs.length : Int) := by omega
  refine for_range (lo := 0) (n := m.toNat) (fun i σ' H' => Same H H' ∧ (∃ o5 o6 o7, σ' = [some (.int n), some (.ref b), some (.int m), some (.int off), some (.ref l), o5, o6, o7]) ∧ ∃ (xs : List V), H' l = some (.lst xs) ∧ xs.length = i ∧ PairsAt H' xs) ⟨same_new hl _, ⟨_, _, _, rfl⟩, [], upd_same, rfl, fun v hv => by cases hv⟩ (fun i σ' H' hi p => ?_) (fun σ' H' p => ?_)
  · obtain ⟨e, ⟨o5, o6, o7, rfl⟩, xs, hx, xl, tr⟩ := p
    have hi3 : (i : Int) < 3 := by omega
    obtain ⟨d, hd, ed⟩ := pickN (L := [1, 12, 144]) (i := 0 + (i : Int)) 3 rfl (by omega) (by omega)
    have hd : 0 < d ∧ d < 1073741824 := by
      simp only [List.mem_cons, List.not_mem_nil, or_false] at hd
      omega
    refine ⟨_, rfl, szl (by show 3 ≤ 1000000; decide), fun q1 hq1 => ?_⟩
    have s1 := same_new hq1 (.lst [V.int 1, V.int 12, V.int 144])
    refine ⟨_, rfl, q1, _, _, _, rfl, rfl, SqL.of upd_same, ed, _, _, rfl, rfl, hd, ?_⟩
    dsimp only [gName]
    have hb3 := s1 _ _ (e _ _ hb)
    have hx3 := s1 _ _ hx
    have e3 := e.trans s1
    have tr3 := tr.over s1
    generalize upd H' q1 (.lst [V.int 1, V.int 12, V.int 144]) = H2 at hb3 hx3 e3 tr3 s1
    generalize n / d = pt
    obtain ⟨v, hv, ev⟩ := at_mem (vs := bs) (i := pt % (bs.length : Int)) (Int.emod_nonneg _ (by omega)) (Int.emod_lt_of_pos _ hb2)
    obtain ⟨t, z, k, rfl, ht⟩ := hbp v hv
    have ht3 := e3 _ _ ht
    refine ⟨_, rfl, _, rfl, _, rfl, b, _, rfl, .inl (SqL.of hb3), _, _, rfl, rfl, hb2, b, _, _, _, rfl, rfl, SqL.of hb3, ev, ?_⟩
    dsimp only [gName]
    refine ⟨_, rfl, .inl ⟨rfl, _, SqL.of hx3⟩, _, rfl, t, _, 0, _, rfl, rfl, SqT.of ht3, rfl, _, rfl, _, rfl, _, _, rfl, rfl, ⟨by decide, by decide⟩, _, _, rfl, rfl, (by show (0 : Int) < 3; decide), _, _, rfl, rfl, _, rfl, t, _, 1, _, rfl, rfl, SqT.of ht3, rfl, _, _, rfl, rfl, szl (by show 2 ≤ 1000000; decide), fun t4 ht4 => ?_⟩
    have s4 := same_new ht4 (.tup [V.str z, V.int (off + pt / 4 % 3 - k)])
    have hx4 := s4 _ _ hx3
    have tr4 := tr3.over s4
    have hn4 : t4 ≠ l := fun z => by rw [z, hx3] at ht4; cases ht4
    refine ⟨l, _, _, rfl, rfl, hx4, szlt (by omega), ?_⟩
    refine ⟨fun a o ha => by rw [upd_ne (ne_of_none ha hl)]; exact s4 _ _ (e3 _ _ ha), ⟨_, _, _, rfl⟩, xs ++ [.ref t4], upd_same, by rw [List.length_append, xl]; rfl, fun v hv => ?_⟩
    rcases List.mem_append.mp hv with h | h
    · obtain ⟨t, z, n, rfl, ht⟩ := tr4 v h
      exact ⟨t, z, n, rfl, by rw [upd_ne (ne_of ht hx4 (by intro z; cases z))]; exact ht⟩
    · rw [List.mem_singleton] at h
      exact ⟨t4, z, _, h, by rw [upd_ne hn4]; exact upd_same⟩
  · obtain ⟨e, ⟨o5, o6, o7, rfl⟩, xs, hx, xl, tr⟩ := p
    refine ⟨_, rfl, l, _, rfl, .inl ⟨SqL.of hx, fun t ht => ?_⟩⟩
    exact q t _ (e.trans (same_new ht _)) ⟨xs, upd_same, by omega, tr.over (same_new ht _)⟩

theorem ok_cell_of (T : Tx K mg a) : FnOk P w K mg base CX0 2 a.f_l_cell_of a.d_l_cell_of ["_law_number", "_law_bases", "_law_heads_here"] spCellOf := by
  have G_l_spots := ok_spots (P := P) (w := w) (base := base) T
  refine T.F_l_cell_of.ok sc_l_cell_of (fun vs H Q E h => ?_) (fun cdv A outer s H vs Q E hr h => ?_)
  · obtain ⟨_, _, _, rfl, _⟩ := h; rfl
  obtain ⟨n, b, hd, rfl, n0, hB, ⟨hs, hh, hl, hp⟩, q⟩ := h
  refine ⟨_, (pss_cons (ps_asg (pe_ix ix_list (pv 2) (pe_ix ix_list (pe_lstq (paq_cons pe_int (paq_cons pe_int (paq_cons pe_int (paq_cons pe_int (paq_cons pe_int (paq_cons pe_int paq_nil star_C) star_C) star_C) star_C) star_C) star_C)) (pe_op op_mod (pv 0) pe_int) (fun _ _ => rfl)) (fun _ _ => rfl)) (pg_tup rfl (pgs_cons (pg_name (i := 3) sc_l_cell_of.nd rfl (Or.inl rfl)) (pgs_cons (pg_name (i := 4) sc_l_cell_of.nd rfl (Or.inl rfl)) (pgs_cons (pg_name (i := 5) sc_l_cell_of.nd rfl (Or.inl rfl)) pgs_nil)))))
    (pss_one (ps_ret (pe_tup (pa_cons (pv 3) (pa_cons (pe_call G_l_spots (hr.mono (by omega)) (by rfl) T.m_l_spots T.F_l_spots.kp T.b_l_spots .nil pass0 (pa_cons (pe_op op_fdiv (pv 0) pe_int) (pa_cons (pv 1) (pa_cons (pv 4) (pa_cons (pv 5) pa_nil))))) pa_nil)))))), ?_⟩
  have f0 := Int.emod_nonneg n (show (6 : Int) ≠ 0 by decide)
  have f1 := Int.emod_lt_of_pos n (show (0 : Int) < 6 by decide)
  obtain ⟨d, hd2, ed⟩ := pickN (L := [0, 0, 0, 1, 1, 2]) (i := n % 6) 6 rfl f0 (by omega)
  have hd2 : 0 ≤ d ∧ d < 3 := by
    simp only [List.mem_cons, List.not_mem_nil, or_false] at hd2
    omega
  obtain ⟨v, hv, ev⟩ := at_mem (vs := hs) (i := d) hd2.1 (by omega)
  obtain ⟨t, z, m, k, rfl, ht, m0, m1⟩ := hp v hv
  refine ⟨_, rfl, szl (by show 6 ≤ 1000000; decide), fun q1 hq1 => ?_⟩
  have s1 := same_new hq1 (.lst [V.int 0, V.int 0, V.int 0, V.int 1, V.int 1, V.int 2])
  refine ⟨_, rfl, _, _, rfl, rfl, (by show (0 : Int) < 6; decide), q1, _, _, _, rfl, rfl, SqL.of upd_same, ed, hd, _, _, _, rfl, rfl, SqL.of (s1 _ _ hh), ev, ?_⟩
  refine ⟨t, _, rfl, SqT.of (s1 _ _ ht), rfl, _, _, rfl, _, _, rfl, _, _, rfl, rfl, ?_⟩
  dsimp only [gName]
  refine ⟨_, rfl, _, rfl, _, _, rfl, rfl, ⟨by decide, by decide⟩, _, rfl, _, rfl, _, rfl, n / 6, m, k, b, rfl, Int.ediv_nonneg n0 (by decide), hB.over s1, m0, m1, fun r H2 e2 hsp => ⟨szl (by show 2 ≤ 1000000; decide), fun t2 ht2 => ?_⟩⟩
  have s3 := same_new ht2 (.tup [V.str z, V.ref r])
  exact q t2 _ (s1.trans (e2.trans s3)) ⟨z, r, upd_same, hsp.over s3⟩

theorem ok_leaf (T : Tx K mg a) : FnOk P w K mg base CX0 3 a.f_l_leaf a.d_l_leaf ["_law_number", "_law_bases", "_law_heads_here"] spLeaf2 := by
  have G_l_cell_of := ok_cell_of (P := P) (w := w) (base := base) T
  refine T.F_l_leaf.ok sc_l_leaf (fun vs H Q E h => ?_) (fun cdv A outer s H vs Q E hr h => ?_)
  · obtain ⟨_, _, _, rfl, _⟩ := h; rfl
  obtain ⟨n, b, hd, rfl, n0, n1, hB, hH, q⟩ := h
  refine ⟨_, (pss_cons (ps_if (pt_cmpR op_gt (pe_op op_mod (pv 0) pe_int) pe_int (nomark _))
    (pss_cons (ps_asg (pe_call G_l_cell_of (hr.mono (by omega)) (by rfl) T.m_l_cell_of T.F_l_cell_of.kp T.b_l_cell_of .nil pass0 (pa_cons (pe_op op_fdiv (pv 0) pe_int) (pa_cons (pv 1) (pa_cons (pv 2) pa_nil)))) (pg_tup rfl (pgs_cons (pg_name (i := 3) sc_l_leaf.nd rfl (Or.inl rfl)) (pgs_cons (pg_name (i := 4) sc_l_leaf.nd rfl (Or.inl rfl)) pgs_nil))))
    (pss_one (ps_ret (pe_tupq (paq_cons pe_str (paq_cons (pv 3) (paq_cons (pv 4) paq_nil star_N) star_N) star_C)))))
    pss_nil)
    (pss_cons (ps_if (PW.pt (pw_and (pt_cmpR op_eq (pe_op op_mod (pv 0) pe_int) pe_int (nomark _)) (pw_and1 (pt_cmpR op_gt (pe_callB call_len_seq (by rfl) T.z_len bt_len (pa_cons (pv 1) pa_nil)) pe_int (nomark _)))))
    (pss_one (ps_ret (pe_tup (pa_cons pe_str (pa_cons (pe_ix ix_tup (pe_ix ix_list (pv 1) (pe_op op_add pe_int (pe_op op_mod (pe_op op_fdiv (pv 0) pe_int) (pe_op op_sub (pe_callB call_len_seq (by rfl) T.z_len bt_len (pa_cons (pv 1) pa_nil)) pe_int))) (fun _ _ => rfl)) pe_int (fun _ _ => rfl)) pa_nil)))))
    pss_nil)
    (pss_one (ps_ret (pe_tup (pa_cons pe_str (pa_cons (pe_ix ix_list (pe_lst (pa_cons (pe_op op_mod (pe_op op_fdiv (pv 0) pe_int) pe_int) (pa_cons (pe_op op_mod (pe_op op_mul (pv 0) (pv 0)) (pe_op op_pow pe_int pe_int)) pa_nil))) (pe_op op_mod (pe_op op_fdiv (pv 0) pe_int) pe_int) (fun _ _ => rfl)) pa_nil))))))), ?_⟩
  have p64 : (2 : Int) ^ 64 = 18446744073709551616 := by decide
  have d4 : 0 ≤ n / 4 := Int.ediv_nonneg n0 (by decide)
  refine ⟨_, rfl, _, _, rfl, rfl, (by show (0 : Int) < 4; decide), _, _, rfl, rfl, _, rfl, ?_⟩
  refine ite2 (fun c => ?_) (fun c => ?_)
  · refine ⟨_, rfl, _, _, rfl, rfl, ⟨by decide, by decide⟩, _, rfl, _, rfl, n / 4, b, hd, rfl, d4, hB, hH, fun r H1 e1 hC => ?_⟩
    obtain ⟨z, p, hr1, hsp⟩ := hC
    refine ⟨r, _, rfl, SqT.of hr1, rfl, _, _, rfl, _, _, rfl, rfl, ?_⟩
    dsimp only [gName]
    refine ⟨_, rfl, _, rfl, szl (by show 3 ≤ 1000000; decide), fun t2 ht2 => ?_⟩
    have s2 := same_new ht2 (.tup [V.str "c", V.str z, V.ref p])
    exact q _ _ _ (e1.trans s2) (.c z upd_same (hsp.over s2))
  · dsimp only [tNext]
    refine seq_any (fun σ' H' => H' = H ∧ σ' = [some (.int n), some (.ref b), some (.ref hd), none, none]) (fun σ' H' pp => ?_) (fun nx => ?_)
    · obtain ⟨rfl, rfl⟩ := pp
      obtain ⟨i, hi, ei⟩ := pickN (L := [n / 4 % 10, n * n % 10 ^ (18 : Int).toNat]) (i := n / 64 % 2) 2 rfl (Int.emod_nonneg _ (by decide)) (Int.emod_lt_of_pos _ (by decide))
      refine ⟨_, rfl, _, _, rfl, rfl, ⟨by decide, by decide⟩, _, _, rfl, rfl, (by show (0 : Int) < 10; decide), _, rfl, _, rfl, _, _, rfl, rfl, .inl ⟨by omega, by omega⟩, _, _, rfl, rfl, ⟨by decide, by decide, by decide⟩, _, _, rfl, rfl, (by show (0 : Int) < 10 ^ (18 : Int).toNat; decide), szl (by show 2 ≤ 1000000; decide), fun q1 hq1 => ?_⟩
      have s1 := same_new hq1 (.lst [V.int (n / 4 % 10), V.int (n * n % 10 ^ (18 : Int).toNat)])
      refine ⟨_, rfl, _, _, rfl, rfl, ⟨by decide, by decide⟩, _, _, rfl, rfl, (by show (0 : Int) < 2; decide), q1, _, _, _, rfl, rfl, SqL.of upd_same, ei, szl (by show 2 ≤ 1000000; decide), fun t2 ht2 => ?_⟩
      exact q _ _ _ (s1.trans (same_new ht2 _)) (.n i upd_same)
    · obtain ⟨bs, hb, hb0, hb1, hbp⟩ := hB
      refine ⟨_, rfl, _, _, rfl, rfl, (by show (0 : Int) < 4; decide), rfl, _, rfl, ?_⟩
      refine ite2 (fun c2 => ?_) (fun c2 => iteF (nx _ _ ⟨rfl, rfl⟩))
      refine ⟨_, rfl, b, _, rfl, .inl (SqL.of hb), _, _, rfl, rfl, _, rfl, ?_⟩
      refine ite2 (fun c3 => ?_) (fun c3 => nx _ _ ⟨rfl, rfl⟩)
      have c3 := dT c3
      have hb2 : (0 : Int) < (bs.length : Int) - 1 := by omega
      have e0 := Int.emod_nonneg (n / 4) (show ((bs.length : Int) - 1) ≠ 0 by omega)
      have e1 := Int.emod_lt_of_pos (n / 4) hb2
      obtain ⟨v, hv, ev⟩ := at_mem (vs := bs) (i := 1 + n / 4 % ((bs.length : Int) - 1)) (by omega) (by omega)
      obtain ⟨t, z, k, rfl, ht⟩ := hbp v hv
      refine ⟨_, rfl, _, rfl, _, _, rfl, rfl, ⟨by decide, by decide⟩, _, rfl, b, _, rfl, .inl (SqL.of hb), _, _, rfl, rfl, _, _, rfl, rfl, hb2, _, _, rfl, rfl, b, _, _, _, rfl, rfl, SqL.of hb, ev, t, _, 0, _, rfl, rfl, SqT.of ht, rfl, szl (by show 2 ≤ 1000000; decide), fun t2 ht2 => ?_⟩
      exact q _ _ _ (same_new ht2 _) (.v z upd_same)

theorem ok_term (T : Tx K mg a) : FnOk P w K mg base CX0 4 a.f_l_term a.d_l_term ["_law_cell_here", "_law_bases", "_law_heads_here"] spTerm2 := by
  have G_l_mixed := ok_mixed (P := P) (w := w) (base := base) T
  have G_l_leaf := ok_leaf (P := P) (w := w) (base := base) T
  refine T.F_l_term.ok sc_l_term (fun vs H Q E h => ?_) (fun cdv A outer s H vs Q E hr h => ?_)
  · obtain ⟨_, _, _, rfl, _⟩ := h; rfl
  obtain ⟨c, b, hd, rfl, hB, hH, q⟩ := h
  refine ⟨_, (pss_cons (ps_set (i := 3) sc_l_term.nd rfl (Or.inl rfl) (pe_call G_l_leaf (hr.mono (by omega)) (by rfl) T.m_l_leaf T.F_l_leaf.kp T.b_l_leaf .nil pass0 (pa_cons (pe_call G_l_mixed (hr.mono (by omega)) (by rfl) T.m_l_mixed T.F_l_mixed.kp T.b_l_mixed .nil pass0 (pa_cons (pv 0) (pa_cons pe_int pa_nil))) (pa_cons (pv 1) (pa_cons (pv 2) pa_nil)))))
    (pss_cons (ps_for PassesOwn.never rfl (pi_range1 (by rfl) T.z_range (pa_cons (pe_op op_mod (pe_call G_l_mixed (hr.mono (by omega)) (by rfl) T.m_l_mixed T.F_l_mixed.kp T.b_l_mixed .nil pass0 (pa_cons (pv 0) (pa_cons pe_int pa_nil))) pe_int) pa_nil)) (pg_name (i := 4) sc_l_term.nd rfl (Or.inl rfl))
    (pss_cons (ps_set (i := 5) sc_l_term.nd rfl (Or.inl rfl) (pe_ix ix_list (pe_lstq (paq_cons pe_str (paq_cons pe_str (paq_cons pe_str paq_nil star_C) star_C) star_C)) (pe_op op_mod (pe_op op_fdiv (pe_call G_l_mixed (hr.mono (by omega)) (by rfl) T.m_l_mixed T.F_l_mixed.kp T.b_l_mixed .nil pass0 (pa_cons (pv 0) (pa_cons pe_int pa_nil))) (pe_op op_add pe_int (pv 4))) pe_int) (fun _ _ => rfl)))
    (pss_cons (ps_set (i := 6) sc_l_term.nd rfl (Or.inl rfl) (pe_call G_l_leaf (hr.mono (by omega)) (by rfl) T.m_l_leaf T.F_l_leaf.kp T.b_l_leaf .nil pass0 (pa_cons (pe_call G_l_mixed (hr.mono (by omega)) (by rfl) T.m_l_mixed T.F_l_mixed.kp T.b_l_mixed .nil pass0 (pa_cons (pv 0) (pa_cons (pe_op op_add pe_int (pv 4)) pa_nil))) (pa_cons (pv 1) (pa_cons (pv 2) pa_nil)))))
    (pss_one (ps_if (pt_cmpR op_eq (pe_op op_mod (pe_op op_fdiv (pe_call G_l_mixed (hr.mono (by omega)) (by rfl) T.m_l_mixed T.F_l_mixed.kp T.b_l_mixed .nil pass0 (pa_cons (pv 0) (pa_cons pe_int pa_nil))) (pe_op op_add pe_int (pv 4))) pe_int) pe_int (nomark _))
    (pss_one (ps_set (i := 3) sc_l_term.nd rfl (Or.inl rfl) (pe_tupq (paq_cons (pv 5) (paq_cons (pv 6) (paq_cons (pv 3) paq_nil star_N) star_N) star_N))))
    (pss_one (ps_set (i := 3) sc_l_term.nd rfl (Or.inl rfl) (pe_tupq (paq_cons (pv 5) (paq_cons (pv 3) (paq_cons (pv 6) paq_nil star_N) star_N) star_N)))))))))
    (pss_one (ps_ret (pv 3))))), ?_⟩
  obtain ⟨a0, a1⟩ := mix_b c 5
  refine ⟨_, rfl, c, 5, rfl, _, rfl, _, rfl, mixF c 5, b, hd, rfl, a0, by omega, hB, hH, fun x0 H1 rs0 e1 tm0 => ?_⟩
  dsimp only [gName]
  have f0 := Int.emod_nonneg (mixF c 6) (show (3 : Int) ≠ 0 by decide)
  have f1 := Int.emod_lt_of_pos (mixF c 6) (show (0 : Int) < 3 by decide)
  obtain ⟨g0, g1⟩ := mix_b c 7
  refine ⟨_, rfl, c, 6, rfl, _, _, rfl, rfl, (by show (0 : Int) < 3; decide), _, rfl, by omega, by omega, ?_⟩
  refine for_range (lo := 0) (n := (mixF c 6 % 3).toNat) (fun i σ' H' => Same H H' ∧ ∃ (x : V) (m : Nat) (rs : Reads) (o4 o5 o6 : Option V), σ' = [some (.int c), some (.ref b), some (.ref hd), some x, o4, o5, o6] ∧ m = i + 1 ∧ TmT H' m x rs) ⟨e1, x0, 1, rs0, _, _, _, rfl, rfl, tm0⟩ (fun i σ' H' hi p => ?_) (fun σ' H' p => ?_)
  · obtain ⟨e, x, m, rs, o4, o5, o6, rfl, hm, tm⟩ := p
    have e0' : (0 : Int) + (i : Int) = (i : Int) := by omega
    rw [e0']
    refine ⟨szl (by show 3 ≤ 1000000; decide), fun q1 hq1 => ?_⟩
    have s1 := same_new hq1 (.lst [V.str "+", V.str "-", V.str "*"])
    have k0 := Int.emod_nonneg (mixF c 7 / (1 + (i : Int))) (show (3 : Int) ≠ 0 by decide)
    have k1 := Int.emod_lt_of_pos (mixF c 7 / (1 + (i : Int))) (show (0 : Int) < 3 by decide)
    obtain ⟨v, hv, ev⟩ := at_mem (vs := [V.str "+", V.str "-", V.str "*"]) (i := mixF c 7 / (1 + (i : Int)) % 3) k0 (by show _ < (3 : Int); omega)
    obtain ⟨z, hz, rfl⟩ : ∃ z ∈ [Str.ofString "+", Str.ofString "-", Str.ofString "*"], v = .str z := by
      simp only [List.mem_cons, List.not_mem_nil, or_false] at hv
      rcases hv with rfl | rfl | rfl
      · exact ⟨_, List.mem_cons_self, rfl⟩
      · exact ⟨_, List.mem_cons_of_mem _ List.mem_cons_self, rfl⟩
      · exact ⟨_, List.mem_cons_of_mem _ (List.mem_cons_of_mem _ List.mem_cons_self), rfl⟩
    refine ⟨_, rfl, c, 7, rfl, _, rfl, _, _, rfl, rfl, _, _, rfl, rfl, ⟨(by show (0 : Int) < 1 + (i : Int); omega), (by show 1 + (i : Int) < 1073741824; omega)⟩, _, _, rfl, rfl, (by show (0 : Int) < 3; decide), q1, _, _, _, rfl, rfl, SqL.of upd_same, ev, ?_⟩
    dsimp only [gName]
    have e2 := e.trans s1
    have tm2 := tm.over s1
    generalize upd H' q1 (.lst [V.str "+", V.str "-", V.str "*"]) = H2 at e2 tm2
    obtain ⟨b0, b1⟩ := mix_b c (8 + (i : Int))
    refine ⟨_, rfl, _, rfl, _, _, rfl, rfl, c, 8 + (i : Int), rfl, _, rfl, _, rfl, mixF c (8 + (i : Int)), b, hd, rfl, b0, by omega, hB.over e2, hH.over e2, fun x3 H3 rs3 e3 tm3 => ?_⟩
    dsimp only [gName]
    have tm2' := tm2.over e3
    have e23 := e2.trans e3
    refine ⟨_, rfl, c, 7, rfl, _, rfl, _, _, rfl, rfl, _, _, rfl, rfl, ⟨(by show (0 : Int) < 5 + (i : Int); omega), (by show 5 + (i : Int) < 1073741824; omega)⟩, _, _, rfl, rfl, (by show (0 : Int) < 2; decide), rfl, _, rfl, ?_⟩
    refine ite2 (fun cc => ?_) (fun cc => ?_)
    · refine ⟨_, rfl, _, rfl, _, rfl, szl (by show 3 ≤ 1000000; decide), fun t4 ht4 => ?_⟩
      have s4 := same_new ht4 (.tup [V.str z, x3, x])
      exact ⟨e23.trans s4, _, 1 + m, _, _, _, _, rfl, by omega, .j z hz upd_same (tm3.over s4) (tm2'.over s4)⟩
    · refine ⟨_, rfl, _, rfl, _, rfl, szl (by show 3 ≤ 1000000; decide), fun t4 ht4 => ?_⟩
      have s4 := same_new ht4 (.tup [V.str z, x, x3])
      exact ⟨e23.trans s4, _, m + 1, _, _, _, _, rfl, by omega, .j z hz upd_same (tm2'.over s4) (tm3.over s4)⟩
  · obtain ⟨e, x, m, rs, o4, o5, o6, rfl, hm, tm⟩ := p
    exact ⟨_, rfl, q _ _ m rs e (by omega) tm⟩

theorem ok_loop31 (T : Tx K mg a) : FnOk P w K mg base CX0 3 a.f_l_loop a.d_l_loop ["_law_number", "_law_far", "_law_stack", "_law_cell_here"] spLoop31 := by
  have G_l_name := ok_name (P := P) (w := w) (base := base) T
  refine T.F_l_loop.ok sc_l_loop (fun vs H Q E h => ?_) (fun cdv A outer s H vs Q E hr h => ?_)
  · obtain ⟨_, _, _, _, _, rfl, _⟩ := h; rfl
  obtain ⟨n, far, c, st, S, rfl, n0, ⟨vs, hv, hall⟩, k10, htn, far0, far1, q⟩ := h
  refine ⟨_, (pss_cons (ps_set (i := 4) sc_l_loop.nd rfl (Or.inl rfl) (pe_ix ix_list (pe_lstq (paq_cons pe_int (paq_cons pe_int (paq_cons (pv 1) paq_nil star_N) star_C) star_C)) (pe_op op_mod (pv 0) pe_int) (fun _ _ => rfl)))
    (pss_cons (ps_set (i := 5) sc_l_loop.nd rfl (Or.inl rfl) (pe_op op_cat (pe_lst (pa_cons (pe_tup (pa_cons pe_str (pa_cons pe_int pa_nil))) pa_nil)) (pe_compB ["_law_one"] [none] (by rfl) (pi_list (pv 2)) c_l_loop_0 (fun _ _ _ _ _ _ => ⟨(pg_name (i := 0) c_l_loop_0n rfl (Or.inl rfl)), pts_nil, (pe_tup (pa_cons (pe_ix (show IxR _ (rIxT K) from ix_tup) (pv 0) pe_int (fun _ _ => rfl)) (pa_cons (pe_ix (show IxR _ (rIxT K) from ix_tup) (pv 0) pe_int (fun _ _ => rfl)) pa_nil)))⟩))))
    (pss_cons (ps_set (i := 6) sc_l_loop.nd rfl (Or.inl rfl) (pe_ix ix_list (pv 5) (pe_op op_mod (pe_op op_fdiv (pv 0) pe_int) (pe_callB call_len_seq (by rfl) T.z_len bt_len (pa_cons (pv 5) pa_nil))) (fun _ _ => rfl)))
    (pss_cons (ps_set (i := 7) sc_l_loop.nd rfl (Or.inl rfl) (pe_ix ix_list (pv 5) (pe_op op_mod (pe_op op_fdiv (pv 0) pe_int) (pe_callB call_len_seq (by rfl) T.z_len bt_len (pa_cons (pv 5) pa_nil))) (fun _ _ => rfl)))
    (pss_cons (ps_set (i := 8) sc_l_loop.nd rfl (Or.inl rfl) (pe_ix ix_list (pe_lstq (paq_cons pe_int (paq_cons pe_int (paq_cons pe_int (paq_cons pe_int (paq_cons pe_int (paq_cons pe_int (paq_cons (pe_un un_neg pe_int) (paq_cons pe_int paq_nil star_C) star_U) star_C) star_C) star_C) star_C) star_C) star_C)) (pe_op op_mod (pe_op op_fdiv (pv 0) pe_int) pe_int) (fun _ _ => rfl)))
    (pss_cons (ps_set (i := 9) sc_l_loop.nd rfl (Or.inl rfl) (pe_tup (pa_cons (pe_ix ix_tup (pv 6) pe_int (fun _ _ => rfl)) (pa_cons (pe_op op_add (pe_op op_sub (pv 4) (pe_ix ix_tup (pv 6) pe_int (fun _ _ => rfl))) (pe_op op_mod (pe_op op_fdiv (pv 0) pe_int) pe_int)) pa_nil))))
    (pss_cons (ps_set (i := 10) sc_l_loop.nd rfl (Or.inl rfl) (pe_op op_mod (pe_op op_fdiv (pv 0) pe_int) pe_int))
    (pss_cons (ps_if (pt_cmpR (op_neS (hu64 hr)) (pv 2) (pe_lst pa_nil) (nomark _))
    (pss_one (ps_set (i := 10) sc_l_loop.nd rfl (Or.inl rfl) (pe_ix ix_tup (pe_ix ix_list (pv 2) pe_int (fun _ _ => rfl)) pe_int (fun _ _ => rfl))))
    pss_nil)
    (pss_cons (ps_set (i := 11) sc_l_loop.nd rfl (Or.inl rfl) (pe_call G_l_name (hr.mono (by omega)) (by rfl) T.m_l_name T.F_l_name.kp T.b_l_name .nil pass0 (pa_cons (pv 3) (pa_cons (pe_op op_mod (pe_op op_add (pe_callB call_len_seq (by rfl) T.z_len bt_len (pa_cons (pv 2) pa_nil)) (pv 10)) pe_int) pa_nil))))
    (pss_one (ps_ret (pe_tupq (paq_cons (pv 11) (paq_cons (pv 9) (paq_cons (pe_tup (pa_cons (pe_ix ix_tup (pv 7) pe_int (fun _ _ => rfl)) (pa_cons (pe_op op_add (pe_op op_sub (pv 4) (pe_ix ix_tup (pv 7) pe_int (fun _ _ => rfl))) (pv 8)) pa_nil))) (paq_cons (pv 4) (paq_cons (pv 10) paq_nil star_N) star_N) star_T) star_N) star_N))))))))))))), ?_⟩
  have hk := hall.1
  -- about
  obtain ⟨ab, hab, eab⟩ := pickN (L := [0, 0, far]) (i := n % 3) 3 rfl (Int.emod_nonneg _ (by decide)) (Int.emod_lt_of_pos _ (by decide))
  refine ⟨_, rfl, szl (by show 3 ≤ 1000000; decide), fun q1 hq1 => ⟨_, rfl, _, _, rfl, rfl, (by show (0 : Int) < 3; decide), q1, _, _, _, rfl, rfl, SqL.of upd_same, eab, ?_⟩⟩
  have e1 := same_new hq1 (.lst [V.int 0, V.int 0, V.int far])
  dsimp only [gName]
  generalize upd H q1 (.lst [V.int 0, V.int 0, V.int far]) = H1 at e1
  have abb : -(10 ^ 17) ≤ ab ∧ ab ≤ 10 ^ 17 := by
    simp only [List.mem_cons, List.not_mem_nil, or_false] at hab
    omega
  -- bases
  refine ⟨szl (by show 2 ≤ 1000000; decide), fun t0 ht0 => ⟨szl (by show 1 ≤ 1000000; decide), fun l0 hl0 => ?_⟩⟩
  have e2 := e1.trans ((same_new ht0 (.tup [V.str "", V.int 0])).trans (same_new hl0 (.lst [V.ref t0])))
  have ht02 : (upd (upd H1 t0 (.tup [V.str "", V.int 0])) l0 (.lst [V.ref t0])) t0 = some (.tup [V.str "", V.int 0]) := same_new hl0 _ _ _ upd_same
  have hl02 : (upd (upd H1 t0 (.tup [V.str "", V.int 0])) l0 (.lst [V.ref t0])) l0 = some (.lst [V.ref t0]) := upd_same
  generalize upd (upd H1 t0 (.tup [V.str "", V.int 0])) l0 (.lst [V.ref t0]) = H2 at e2 ht02 hl02
  refine ⟨_, rfl, st, rfl, ⟨_, SqL.of (e2 _ _ hv)⟩, ?_⟩
  refine comp_list (xs := vs) (fun i ys H' => Same H2 H' ∧ ys.length = i ∧ BqAt H' S ys) ⟨Same.refl _, rfl, fun v hv => by cases hv⟩ (szl (by omega)) (fun i ys H' hi p => ⟨SqL.of (p.1 _ _ (e2 _ _ hv)), by omega⟩) (fun i x ys H' hx p => ?_) (fun ys H' p r hr' => ?_)
  · obtain ⟨e3, yl, yp⟩ := p
    obtain ⟨qq, hqq, hlq⟩ := hall.get' hx
    obtain ⟨p0, p1, p2, rfl, h0, _⟩ := hlq.over (e2.trans e3)
    refine ⟨_, rfl, p0, _, 0, _, rfl, rfl, SqT.of h0, rfl, _, rfl, p0, _, 3, _, rfl, rfl, SqT.of h0, rfl, szl (by show 2 ≤ 1000000; decide), fun t4 ht4 => ?_⟩
    have s4 := same_new ht4 (.tup [V.str qq.nm, V.int qq.ab])
    refine ⟨e3.trans s4, by rw [List.length_append, yl]; rfl, fun v hv' => ?_⟩
    rcases List.mem_append.mp hv' with h | h
    · exact (yp.over s4) v h
    · rw [List.mem_singleton] at h
      exact ⟨t4, qq.nm, qq.ab, h, upd_same, .inr ⟨qq, List.mem_of_getElem? hqq, rfl, rfl⟩⟩
  obtain ⟨e3, yl, yp⟩ := p
  have s4 := same_new hr' (.lst ys)
  refine ⟨l0, r, _, _, rfl, rfl, s4 _ _ (e3 _ _ hl02), upd_same, szl (by simp only [List.length_singleton]; omega), fun bl hbl => ?_⟩
  have s5 := same_new hbl (.lst ([V.ref t0] ++ ys))
  have e5 := (e2.trans e3).trans (s4.trans s5)
  have hB : ∃ bs, (upd (upd H' r (.lst ys)) bl (.lst ([V.ref t0] ++ ys))) bl = some (.lst bs) ∧ 0 < bs.length ∧ bs.length ≤ 100 ∧ BqAt (upd (upd H' r (.lst ys)) bl (.lst ([V.ref t0] ++ ys))) S bs := by
    refine ⟨_, upd_same, by rw [List.length_append]; show 0 < 1 + ys.length; omega, by rw [List.length_append]; show 1 + ys.length ≤ 100; omega, fun v hv' => ?_⟩
    rcases List.mem_append.mp hv' with h | h
    · rw [List.mem_singleton] at h
      exact ⟨t0, _, _, h, s5 _ _ (s4 _ _ (e3 _ _ ht02)), .inl ⟨rfl, rfl⟩⟩
    · exact (yp.over (s4.trans s5)) v h
  dsimp only [gName]
  generalize upd (upd H' r (.lst ys)) bl (.lst ([V.ref t0] ++ ys)) = H5 at e5 hB
  clear s4 s5 e3 yp hl02 ht02
  obtain ⟨bs, hb, hb0, hb1, hbp⟩ := hB
  have hb2 : (0 : Int) < (bs.length : Int) := by omega
  -- low, high
  obtain ⟨v1, hv1, ev1⟩ := at_mem (vs := bs) (i := n / 3 % (bs.length : Int)) (Int.emod_nonneg _ (by omega)) (Int.emod_lt_of_pos _ hb2)
  obtain ⟨t1, z1, k1, rfl, ht1, bz1⟩ := hbp v1 hv1
  obtain ⟨v2, hv2, ev2⟩ := at_mem (vs := bs) (i := n / 13 % (bs.length : Int)) (Int.emod_nonneg _ (by omega)) (Int.emod_lt_of_pos _ hb2)
  obtain ⟨t2, z2, k2, rfl, ht2, bz2⟩ := hbp v2 hv2
  refine ⟨_, rfl, _, rfl, _, _, rfl, rfl, ⟨by decide, by decide⟩, _, rfl, bl, _, rfl, .inl (SqL.of hb), _, _, rfl, rfl, hb2, bl, _, _, _, rfl, rfl, SqL.of hb, ev1, ?_⟩
  refine ⟨_, rfl, _, rfl, _, _, rfl, rfl, ⟨by decide, by decide⟩, _, rfl, bl, _, rfl, .inl (SqL.of hb), _, _, rfl, rfl, hb2, bl, _, _, _, rfl, rfl, SqL.of hb, ev2, ?_⟩
  dsimp only [gName]
  -- more
  obtain ⟨mo, hmo, emo⟩ := pickN (L := [2, 1, 3, 0, 1, 2, -1, 1]) (i := n / 53 % 8) 8 rfl (Int.emod_nonneg _ (by decide)) (Int.emod_lt_of_pos _ (by decide))
  refine ⟨_, rfl, szl (by show 8 ≤ 1000000; decide), fun q2 hq2 => ⟨_, rfl, _, _, rfl, rfl, ⟨by decide, by decide⟩, _, _, rfl, rfl, (by show (0 : Int) < 8; decide), q2, _, _, _, rfl, rfl, SqL.of upd_same, emo, ?_⟩⟩
  have mob : -1 ≤ mo ∧ mo ≤ 3 := by
    simp only [List.mem_cons, List.not_mem_nil, or_false] at hmo
    omega
  have s6 := same_new hq2 (.lst [V.int 2, V.int 1, V.int 3, V.int 0, V.int 1, V.int 2, V.int (-1), V.int 1])
  dsimp only [gName]
  generalize upd H5 q2 (.lst [V.int 2, V.int 1, V.int 3, V.int 0, V.int 1, V.int 2, V.int (-1), V.int 1]) = H6 at s6
  have ht16 := s6 _ _ ht1
  have ht26 := s6 _ _ ht2
  have e6 := e5.trans s6
  -- low spot
  refine ⟨_, rfl, t1, _, 0, _, rfl, rfl, SqT.of ht16, rfl, _, rfl, _, rfl, t1, _, 1, _, rfl, rfl, SqT.of ht16, rfl, _, _, rfl, rfl, _, rfl, _, _, rfl, rfl, ⟨by decide, by decide⟩, _, _, rfl, rfl, (by show (0 : Int) < 2; decide), _, _, rfl, rfl, szl (by show 2 ≤ 1000000; decide), fun ls hls => ?_⟩
  have s7 := same_new hls (.tup [V.str z1, V.int (ab - k1 + n / 500 % 2)])
  have hls7 : (upd H6 ls (.tup [V.str z1, V.int (ab - k1 + n / 500 % 2)])) ls = some (.tup [V.str z1, V.int (ab - k1 + n / 500 % 2)]) := upd_same
  dsimp only [gName]
  generalize upd H6 ls (.tup [V.str z1, V.int (ab - k1 + n / 500 % 2)]) = H7 at s7 hls7
  have ht27 := s7 _ _ ht26
  have e7 := e6.trans s7
  refine ⟨_, rfl, _, _, rfl, rfl, ⟨by decide, by decide⟩, _, _, rfl, rfl, (by show (0 : Int) < 3; decide), ?_⟩
  have u0 := Int.emod_nonneg (n / 4000) (show (3 : Int) ≠ 0 by decide)
  have u1 := Int.emod_lt_of_pos (n / 4000) (show (0 : Int) < 3 by decide)
  dsimp only [gName]
  generalize n / 4000 % 3 = u at u0 u1 ⊢
  have hv7 := e7 _ _ hv
  obtain ⟨ts, tr, td, tl⟩ := lp_tr (K := K) (H := H7) (vs := vs) fun v hv' => by
    obtain ⟨j, hj⟩ := List.mem_iff_getElem?.mp hv'
    obtain ⟨qq, hqq, hlq⟩ := hall.get' hj
    obtain ⟨p0, p1, p2, rfl, h0, h1, h2⟩ := hlq.over e7
    have := htn qq (List.mem_of_getElem? hqq)
    exact ⟨p0, p1, p2, qq.nm, qq.lz, qq.hz, qq.ln, qq.hn, qq.ab, qq.tn, rfl, h0, h1, h2, this.1, this.2⟩
  refine seq_any (fun σ' H' => Same H7 H' ∧ ∃ u : Int, 0 ≤ u ∧ u ≤ 2 ∧ (∀ r, S.head? = some r → u = r.tn) ∧ σ' = [some (.int n), some (.int far), some (.ref st), some (.int c), some (.int ab), some (.ref bl), some (.ref t1), some (.ref t2), some (.int mo), some (.ref ls), some (.int u), none]) (fun σ' H8 pp => ?_) (fun nx => ?_)
  · obtain ⟨e8, u, u0, u1, hu, rfl⟩ := pp
    have f0 := Int.emod_nonneg ((vs.length : Int) + u) (show (3 : Int) ≠ 0 by decide)
    have f1 := Int.emod_lt_of_pos ((vs.length : Int) + u) (show (0 : Int) < 3 by decide)
    refine ⟨_, rfl, _, rfl, st, _, rfl, .inl (SqL.of (e8 _ _ hv7)), _, rfl, _, _, rfl, rfl, _, _, rfl, rfl, (by show (0 : Int) < 3; decide), c, _, rfl, f0, by omega, fun H9 e9 => ?_⟩
    dsimp only [gName]
    have e89 := e8.trans e9
    have ht29 := e89 _ _ ht27
    refine ⟨_, rfl, _, rfl, _, rfl, t2, _, 0, _, rfl, rfl, SqT.of ht29, rfl, _, rfl, _, rfl, t2, _, 1, _, rfl, rfl, SqT.of ht29, rfl, _, _, rfl, rfl, _, rfl, _, _, rfl, rfl, szl (by show 2 ≤ 1000000; decide), fun hs hhs => ⟨_, rfl, _, rfl, szl (by show 5 ≤ 1000000; decide), fun rr hrr => ?_⟩⟩
    have sA := same_new hhs (.tup [V.str z2, V.int (ab - k2 + mo)])
    have sB := same_new hrr (.tup [V.str (sOf (nmC (mixF c 11) (((vs.length : Int) + u) % 3))), V.ref ls, V.ref hs, V.int ab, V.int u])
    exact q _ _ ⟨nmF c (((vs.length : Int) + u) % 3), z1, ab - k1 + n / 500 % 2, z2, ab - k2 + mo, ab, u⟩ (e7.trans (e89.trans (sA.trans sB))) ⟨rr, ls, hs, rfl, upd_same, sB _ _ (sA _ _ (e89 _ _ hls7)), sB _ _ upd_same⟩ ⟨⟨by rw [hk], u0, u1, hu, bz1.bs, bz2.bs⟩, abb, ⟨k1, _, bz1, rfl, Int.emod_nonneg _ (by decide), by have := Int.emod_lt_of_pos (n / 500) (show (0 : Int) < 2 by decide); omega⟩, ⟨k2, mo, bz2, rfl, mob⟩⟩
  · refine ⟨_, rfl, szl (by show 0 ≤ 1000000; decide), fun z hz => ?_⟩
    have s8 := same_new hz (.lst [])
    refine ⟨_, _, .lst (SqL.of (s8 _ _ hv7)) (tr.over s8), .lst (SqL.of upd_same) .nil, ⟨_, rfl⟩, ⟨_, rfl⟩, (by rw [simT]; cases ts <;> rfl), (by rw [depT]; omega), _, rfl, ?_⟩
    cases ts with
    | nil =>
      refine iteE (v := false) rfl (iteF (nx _ _ ⟨s8, u, u0, by omega, fun r hr => ?_, rfl⟩))
      have : S = [] := List.eq_nil_of_length_eq_zero (by rw [← hk, ← tl]; rfl)
      rw [this] at hr
      cases hr
    | cons t0' ts' =>
      refine iteE (v := true) rfl (iteT ?_)
      have hpos : 0 < vs.length := by rw [← tl]; exact Nat.succ_pos _
      have h0 : vs[0]? = some vs[0] := List.getElem?_eq_getElem hpos
      have hS0 : S[0]? = some S[0] := List.getElem?_eq_getElem (by omega)
      obtain ⟨p0, p1, p2, ev0, g0, _⟩ := (hall.2 0 _ _ h0 hS0).over (e7.trans s8)
      have at0 : atI vs (0 : Int) = some (.ref p0) := by rw [← ev0]; exact atI_nat (j := 0) h0
      have hr0 := htn S[0] (List.getElem_mem _)
      refine ⟨_, rfl, st, _, 0, _, rfl, rfl, SqL.of (s8 _ _ hv7), at0, p0, _, 4, _, rfl, rfl, SqT.of g0, rfl, ?_⟩
      refine nx _ _ ⟨s8, _, hr0.1, hr0.2, fun r hr => ?_, rfl⟩
      rw [List.head?_eq_getElem?, hS0] at hr
      cases hr
      rfl

theorem ok_inin (T : Tx K mg a) : FnOk P w K mg base CX0 1 a.f_Number_init a.d_Number_init ["self", "n"] (spIni a.c_Number ["n"]) := by
  refine T.F_Number_init.ok sc_Number_init (fun vs H Q E h => ?_) (fun cdv A outer s H vs Q E hr h => ?_)
  · obtain ⟨_, _, vs, rfl, hl, _⟩ := h; rw [List.length_cons, hl]; rfl
  obtain ⟨x, dx, vs, rfl, hl, hx, q⟩ := h
  obtain ⟨n, rfl⟩ : ∃ n, vs = [n] := by match vs, hl with | [n], _ => exact ⟨n, rfl⟩
  refine ⟨_, (pss_one (ps_fld (pv 0) (pv 1) rfl)), ?_⟩
  exact ⟨_, rfl, _, rfl, x, _, dx, _, rfl, hx, T.cl_Number, T.n_Number_n, (by show 0 < 1000; decide), q _ (fun b o e hb => by rw [upd_ne hb]; exact e) ⟨dx, upd_same⟩⟩
theorem ok_iniv (T : Tx K mg a) : FnOk P w K mg base CX0 1 a.f_Value_init a.d_Value_init ["self", "name"] (spIni a.c_Value ["name"]) := by
  refine T.F_Value_init.ok sc_Value_init (fun vs H Q E h => ?_) (fun cdv A outer s H vs Q E hr h => ?_)
  · obtain ⟨_, _, vs, rfl, hl, _⟩ := h; rw [List.length_cons, hl]; rfl
  obtain ⟨x, dx, vs, rfl, hl, hx, q⟩ := h
  obtain ⟨n, rfl⟩ : ∃ n, vs = [n] := by match vs, hl with | [n], _ => exact ⟨n, rfl⟩
  refine ⟨_, (pss_one (ps_fld (pv 0) (pv 1) rfl)), ?_⟩
  exact ⟨_, rfl, _, rfl, x, _, dx, _, rfl, hx, T.cl_Value, T.n_Value_name, (by show 0 < 1000; decide), q _ (fun b o e hb => by rw [upd_ne hb]; exact e) ⟨dx, upd_same⟩⟩
theorem ok_inic (T : Tx K mg a) : FnOk P w K mg base CX0 1 a.f_Cell_init a.d_Cell_init ["self", "table", "spots"] (spIni a.c_Cell ["table", "spots"]) := by
  refine T.F_Cell_init.ok sc_Cell_init (fun vs H Q E h => ?_) (fun cdv A outer s H vs Q E hr h => ?_)
  · obtain ⟨_, _, vs, rfl, hl, _⟩ := h; rw [List.length_cons, hl]; rfl
  obtain ⟨x, dx, vs, rfl, hl, hx, q⟩ := h
  obtain ⟨n, m, rfl⟩ : ∃ n m, vs = [n, m] := by match vs, hl with | [n, m], _ => exact ⟨n, m, rfl⟩
  refine ⟨_, (pss_cons (ps_fld (pv 0) (pv 1) rfl)
    (pss_one (ps_fld (pv 0) (pv 2) rfl))), ?_⟩
  refine ⟨_, rfl, _, rfl, x, _, dx, _, rfl, hx, T.cl_Cell, T.n_Cell_table, (by show 0 < 1000; decide), ?_⟩
  refine ⟨_, rfl, _, rfl, x, _, dx, _, rfl, upd_same, T.cl_Cell, T.n_Cell_spots, (by show 1 < 1000; decide), ?_⟩
  exact q _ (fun b o e hb => by repeat rw [upd_ne hb]
                                exact e) ⟨dx, upd_same⟩
theorem ok_inij (T : Tx K mg a) : FnOk P w K mg base CX0 1 a.f_Joined_init a.d_Joined_init ["self", "sign", "left", "right"] (spIni a.c_Joined ["sign", "left", "right"]) := by
  refine T.F_Joined_init.ok sc_Joined_init (fun vs H Q E h => ?_) (fun cdv A outer s H vs Q E hr h => ?_)
  · obtain ⟨_, _, vs, rfl, hl, _⟩ := h; rw [List.length_cons, hl]; rfl
  obtain ⟨x, dx, vs, rfl, hl, hx, q⟩ := h
  obtain ⟨n, m, o, rfl⟩ : ∃ n m o, vs = [n, m, o] := by match vs, hl with | [n, m, o], _ => exact ⟨n, m, o, rfl⟩
  refine ⟨_, (pss_cons (ps_fld (pv 0) (pv 1) rfl)
    (pss_cons (ps_fld (pv 0) (pv 2) rfl)
    (pss_one (ps_fld (pv 0) (pv 3) rfl)))), ?_⟩
  refine ⟨_, rfl, _, rfl, x, _, dx, _, rfl, hx, T.cl_Joined, T.n_Joined_sign, (by show 0 < 1000; decide), ?_⟩
  refine ⟨_, rfl, _, rfl, x, _, dx, _, rfl, upd_same, T.cl_Joined, T.n_Joined_left, (by show 1 < 1000; decide), ?_⟩
  refine ⟨_, rfl, _, rfl, x, _, dx, _, rfl, upd_same, T.cl_Joined, T.n_Joined_right, (by show 2 < 1000; decide), ?_⟩
  exact q _ (fun b o e hb => by repeat rw [upd_ne hb]
                                exact e) ⟨dx, upd_same⟩

theorem ok_dinit (T : Tx K mg a) : FnOk P w K mg base CX0 1 a.f_Deed_init a.d_Deed_init ["self", "names", "lows", "highs", "table", "spots", "term", "path"] (spDInit a.c_Deed) := by
  refine T.F_Deed_init.ok sc_Deed_init (fun vs H Q E h => ?_) (fun cdv A outer s H vs Q E hr h => ?_)
  · obtain ⟨_, _, _, _, _, _, _, _, _, rfl, _⟩ := h; rfl
  obtain ⟨x, dx, v1, v2, v3, v4, v5, v6, v7, rfl, hx, q⟩ := h
  refine ⟨_, (pss_cons (ps_fld (pv 0) (pv 1) rfl)
    (pss_cons (ps_fld (pv 0) (pv 2) rfl)
    (pss_cons (ps_fld (pv 0) (pv 3) rfl)
    (pss_cons (ps_fld (pv 0) (pv 4) rfl)
    (pss_cons (ps_fld (pv 0) (pv 5) rfl)
    (pss_cons (ps_fld (pv 0) (pv 6) rfl)
    (pss_one (ps_fld (pv 0) (pv 7) rfl)))))))), ?_⟩
  refine ⟨_, rfl, _, rfl, x, _, dx, _, rfl, hx, T.cl_Deed, T.n_Deed_names, (by show 0 < 1000; decide), ?_⟩
  refine ⟨_, rfl, _, rfl, x, _, dx, _, rfl, upd_same, T.cl_Deed, T.n_Deed_lows, (by show 1 < 1000; decide), ?_⟩
  refine ⟨_, rfl, _, rfl, x, _, dx, _, rfl, upd_same, T.cl_Deed, T.n_Deed_highs, (by show 2 < 1000; decide), ?_⟩
  refine ⟨_, rfl, _, rfl, x, _, dx, _, rfl, upd_same, T.cl_Deed, T.n_Deed_table, (by show 3 < 1000; decide), ?_⟩
  refine ⟨_, rfl, _, rfl, x, _, dx, _, rfl, upd_same, T.cl_Deed, T.n_Deed_spots, (by show 4 < 1000; decide), ?_⟩
  refine ⟨_, rfl, _, rfl, x, _, dx, _, rfl, upd_same, T.cl_Deed, T.n_Deed_term, (by show 5 < 1000; decide), ?_⟩
  refine ⟨_, rfl, _, rfl, x, _, dx, _, rfl, upd_same, T.cl_Deed, T.n_Deed_path, (by show 6 < 1000; decide), ?_⟩
  exact q _ (fun b o e hb => by repeat rw [upd_ne hb]
                                exact e) ⟨dx, upd_same⟩

theorem ok_pini (T : Tx K mg a) : FnOk P w K mg base CX0 1 a.f_Program_init a.d_Program_init ["self", "size", "deeds"] (spPIni K a.c_Program) := by
  refine T.F_Program_init.ok sc_Program_init (fun vs H Q E h => ?_) (fun cdv A outer s H vs Q E hr h => ?_)
  · obtain ⟨_, _, _, _, _, rfl, _⟩ := h; rfl
  obtain ⟨x, dx, sz, p, ys, rfl, hx, hp, q⟩ := h
  refine ⟨_, (pss_cons (ps_fld (pv 0) (pv 1) rfl)
    (pss_one (ps_fld (pv 0) (pe_callTy call_list_of (by rfl) T.z_list bt_list (pa_cons (pv 2) pa_nil)) rfl))), ?_⟩
  refine ⟨_, rfl, _, rfl, x, _, dx, _, rfl, hx, T.cl_Program, T.n_Program_size, (by show 0 < 1000; decide), ?_⟩
  refine ⟨_, rfl, p, ys, rfl, .inl (SqL.updI hp hx), fun l hl => ?_⟩
  have nxl : x ≠ l := fun e => by rw [e, upd_same] at hl; cases hl
  have hlH : H l = none := by rw [upd_ne (Ne.symm nxl)] at hl; exact hl
  refine ⟨_, rfl, x, _, dx, _, rfl, (by rw [upd_ne nxl]; exact upd_same), T.cl_Program, T.n_Program_deeds, (by show 1 < 1000; decide), ?_⟩
  refine q l _ hlH (fun b o e hb => ?_) ?_ ⟨dx, upd_same⟩
  · rw [upd_ne hb, upd_ne (ne_of_none e hlH), upd_ne hb]
    exact e
  · rw [upd_ne (Ne.symm nxl)]
    exact upd_same

theorem ok_object (T : Tx K mg a) : ∀ n : Nat, FnOk P w K mg base CX0 (n + 2) a.f_l_object a.d_l_object ["_law_term_here"] (spObj (csOf a) n)
  | 0 => by
    have no : ∀ vs H Q E, ¬ spObj (csOf a) 0 vs H Q E := fun vs H Q E h => by
      obtain ⟨x, m, rs, _, hm, tm, _⟩ := h
      have := tm.pos
      omega
    exact ⟨fun vs H Q E h => absurd h (no vs H Q E), fun A outer s H args us vs Q E _ _ _ _ h => absurd h (no vs H Q E)⟩
  | n + 1 => by
    have G_Number_init := ok_inin (P := P) (w := w) (base := base) T
    have G_Value_init := ok_iniv (P := P) (w := w) (base := base) T
    have G_Cell_init := ok_inic (P := P) (w := w) (base := base) T
    have G_Joined_init := ok_inij (P := P) (w := w) (base := base) T
    have G_l_object := ok_object T n
    refine T.F_l_object.ok sc_l_object (fun vs H Q E h => ?_) (fun cdv A outer s H vs Q E hr h => ?_)
    · obtain ⟨_, _, _, rfl, _⟩ := h; rfl
    obtain ⟨x, m, rs, rfl, hm, tm, q⟩ := h
    refine ⟨_, (pss_cons (ps_if (pt_cmpR op_eq (pe_ix ix_tup (pv 0) pe_int (fun _ _ => rfl)) pe_str (nomark _))
    (pss_one (ps_ret (pe_make T.mk_Number G_Number_init (hr.mono (by omega)) (by rfl) T.mc_Number T.b_Number_init .nil pass0 (pa_cons (pe_ix ix_tup (pv 0) pe_int (fun _ _ => rfl)) pa_nil))))
    pss_nil)
    (pss_cons (ps_if (pt_cmpR op_eq (pe_ix ix_tup (pv 0) pe_int (fun _ _ => rfl)) pe_str (nomark _))
    (pss_one (ps_ret (pe_make T.mk_Value G_Value_init (hr.mono (by omega)) (by rfl) T.mc_Value T.b_Value_init .nil pass0 (pa_cons (pe_ix ix_tup (pv 0) pe_int (fun _ _ => rfl)) pa_nil))))
    pss_nil)
    (pss_cons (ps_if (pt_cmpR op_eq (pe_ix ix_tup (pv 0) pe_int (fun _ _ => rfl)) pe_str (nomark _))
    (pss_one (ps_ret (pe_make T.mk_Cell G_Cell_init (hr.mono (by omega)) (by rfl) T.mc_Cell T.b_Cell_init .nil pass0 (pa_cons (pe_ix ix_tup (pv 0) pe_int (fun _ _ => rfl)) (pa_cons (pe_ix ix_tup (pv 0) pe_int (fun _ _ => rfl)) pa_nil)))))
    pss_nil)
    (pss_one (ps_ret (pe_make T.mk_Joined G_Joined_init (hr.mono (by omega)) (by rfl) T.mc_Joined T.b_Joined_init .nil pass0 (pa_cons (pe_ix ix_tup (pv 0) pe_int (fun _ _ => rfl)) (pa_cons (pe_call G_l_object (hr.mono (by omega)) (by rfl) T.m_l_object T.F_l_object.kp T.b_l_object .nil pass0 (pa_cons (pe_ix ix_tup (pv 0) pe_int (fun _ _ => rfl)) pa_nil)) (pa_cons (pe_call G_l_object (hr.mono (by omega)) (by rfl) T.m_l_object T.F_l_object.kp T.b_l_object .nil pass0 (pa_cons (pe_ix ix_tup (pv 0) pe_int (fun _ _ => rfl)) pa_nil)) pa_nil))))))))), ?_⟩
    cases tm with
    | @n t i h =>
      refine ⟨_, rfl, t, _, 0, _, rfl, rfl, SqT.of h, rfl, rfl, _, rfl, iteE (v := true) (decide_eq_true rfl) (iteT ?_)⟩
      refine ⟨_, rfl, t, _, 1, _, rfl, rfl, SqT.of h, rfl, fun x dx nx ndx ne => ⟨x, dx, [_], rfl, rfl, upd_same, fun H2 k2 hx2 => ⟨rfl, ?_⟩⟩⟩
      obtain ⟨dx2, hx2⟩ := hx2
      exact q _ _ (made_same nx ndx k2) (.num i hx2)
    | @v t z h =>
      refine ⟨_, rfl, t, _, 0, _, rfl, rfl, SqT.of h, rfl, rfl, _, rfl, iteE (v := false) (dS (by decide +kernel)) (iteF ?_)⟩
      refine ⟨_, rfl, t, _, 0, _, rfl, rfl, SqT.of h, rfl, rfl, _, rfl, iteE (v := true) (decide_eq_true rfl) (iteT ?_)⟩
      refine ⟨_, rfl, t, _, 1, _, rfl, rfl, SqT.of h, rfl, fun x dx nx ndx ne => ⟨x, dx, [_], rfl, rfl, upd_same, fun H2 k2 hx2 => ⟨rfl, ?_⟩⟩⟩
      obtain ⟨dx2, hx2⟩ := hx2
      exact q _ _ (made_same nx ndx k2) (.val z hx2)
    | @c t p z h hsp =>
      refine ⟨_, rfl, t, _, 0, _, rfl, rfl, SqT.of h, rfl, rfl, _, rfl, iteE (v := false) (dS (by decide +kernel)) (iteF ?_)⟩
      refine ⟨_, rfl, t, _, 0, _, rfl, rfl, SqT.of h, rfl, rfl, _, rfl, iteE (v := false) (dS (by decide +kernel)) (iteF ?_)⟩
      refine ⟨_, rfl, t, _, 0, _, rfl, rfl, SqT.of h, rfl, rfl, _, rfl, iteE (v := true) (decide_eq_true rfl) (iteT ?_)⟩
      refine ⟨_, rfl, t, _, 1, _, rfl, rfl, SqT.of h, rfl, _, rfl, t, _, 2, _, rfl, rfl, SqT.of h, rfl, fun x dx nx ndx ne => ⟨x, dx, [_, _], rfl, rfl, upd_same, fun H2 k2 hx2 => ⟨rfl, ?_⟩⟩⟩
      obtain ⟨dx2, hx2⟩ := hx2
      exact q _ _ (made_same nx ndx k2) (.cel z hx2)
    | @j t l r m1 m2 rs us z hz h tl tr =>
      obtain ⟨z1, z2, z3⟩ := sign_ne hz
      have := tl.pos
      have := tr.pos
      refine ⟨_, rfl, t, _, 0, _, rfl, rfl, SqT.of h, rfl, rfl, _, rfl, iteE (v := false) (dS z1) (iteF ?_)⟩
      refine ⟨_, rfl, t, _, 0, _, rfl, rfl, SqT.of h, rfl, rfl, _, rfl, iteE (v := false) (dS z2) (iteF ?_)⟩
      refine ⟨_, rfl, t, _, 0, _, rfl, rfl, SqT.of h, rfl, rfl, _, rfl, iteE (v := false) (dS z3) (iteF ?_)⟩
      refine ⟨_, rfl, t, _, 0, _, rfl, rfl, SqT.of h, rfl, _, rfl, t, _, 1, _, rfl, rfl, SqT.of h, rfl, l, m1, rs, rfl, by omega, tl, fun y1 H1 e1 o1 => ?_⟩
      refine ⟨_, rfl, t, _, 2, _, rfl, rfl, SqT.of (e1 _ _ h), rfl, r, m2, us, rfl, by omega, tr.over e1, fun y2 H2 e2 o2 => ?_⟩
      refine fun x dx nx ndx ne => ⟨x, dx, [_, _, _], rfl, rfl, upd_same, fun H3 k3 hx3 => ⟨rfl, ?_⟩⟩
      obtain ⟨dx3, hx3⟩ := hx3
      have e3 := made_same nx ndx k3
      refine q _ _ (e1.trans (e2.trans e3)) ?_
      exact .joi z hx3 ((o1.over e2).over e3) (o2.over e3)

theorem ok_heads (T : Tx K mg a) : FnOk P w K mg base CX0 3 a.f_l_heads a.d_l_heads ["_law_script"] (spHeads2 K) := by
  have G_l_cell := ok_cell (P := P) (w := w) (base := base) T
  have G_l_mixed := ok_mixed (P := P) (w := w) (base := base) T
  have G_l_name := ok_name (P := P) (w := w) (base := base) T
  refine T.F_l_heads.ok sc_l_heads (fun vs H Q E h => ?_) (fun cdv A outer s H vs Q E hr h => ?_)
  · obtain ⟨_, _, rfl, _⟩ := h; rfl
  obtain ⟨p, ns, rfl, hp, q⟩ := h
  refine ⟨_, (pss_cons (ps_set (i := 1) sc_l_heads.nd rfl (Or.inl rfl) (pe_call G_l_cell (hr.mono (by omega)) (by rfl) T.m_l_cell T.F_l_cell.kp T.b_l_cell .nil pass0 (pa_cons (pv 0) (pa_cons pe_int pa_nil))))
    (pss_cons (ps_set (i := 2) sc_l_heads.nd rfl (Or.inl rfl) (pe_call G_l_mixed (hr.mono (by omega)) (by rfl) T.m_l_mixed T.F_l_mixed.kp T.b_l_mixed .nil pass0 (pa_cons (pv 1) (pa_cons pe_int pa_nil))))
    (pss_cons (ps_set (i := 3) sc_l_heads.nd rfl (Or.inl rfl) (pe_ix ix_list (pe_lstq (paq_cons pe_int (paq_cons pe_int (paq_cons (pe_op op_sub (pe_op op_mod (pv 1) (pe_op op_add (pe_op op_mul pe_int (pe_op op_pow pe_int pe_int)) pe_int)) (pe_op op_pow pe_int pe_int)) paq_nil star_B) star_C) star_C)) (pe_op op_mod (pv 2) pe_int) (fun _ _ => rfl)))
    (pss_cons (ps_set (i := 4) sc_l_heads.nd rfl (Or.inl rfl) (pe_lst pa_nil))
    (pss_cons (ps_for PassesOwn.never rfl (pi_range1 (by rfl) T.z_range (pa_cons pe_int pa_nil)) (pg_name (i := 5) sc_l_heads.nd rfl (Or.inl rfl))
    (pss_one (ps_expr (pe_bm PySem.F.plainAttrs_list PySem.F.slot_list_append PySem.F.type_list_append mt_append (pv 4) (pa_cons (pe_tupq (paq_cons (pe_call G_l_name (hr.mono (by omega)) (by rfl) T.m_l_name T.F_l_name.kp T.b_l_name .nil pass0 (pa_cons (pe_op op_fdiv (pv 2) pe_int) (pa_cons (pv 5) pa_nil))) (paq_cons (pe_ix ix_list (pe_lstq (paq_cons pe_int (paq_cons pe_int (paq_cons pe_int (paq_cons pe_int (paq_cons pe_int (paq_cons pe_int paq_nil star_C) star_C) star_C) star_C) star_C) star_C)) (pe_op op_mod (pe_op op_add (pe_op op_fdiv (pv 2) pe_int) (pv 5)) pe_int) (fun _ _ => rfl)) (paq_cons (pv 3) paq_nil star_N) star_S) star_K)) pa_nil)))))
    (pss_one (ps_ret (pv 4)))))))), ?_⟩
  refine ⟨_, rfl, p, ns, 0, rfl, hp, by decide, by decide, fun c => ?_⟩
  dsimp only [gName]
  refine ⟨_, rfl, c, 0, rfl, ?_⟩
  obtain ⟨m0, m1⟩ := mix_b c 0
  generalize mixF c 0 = m at m0 m1 ⊢
  dsimp only [gName]
  obtain ⟨of', _, eof⟩ := pickN (L := [0, 0, c % (2 * 10 ^ (17 : Int).toNat + 1) - 10 ^ (17 : Int).toNat]) (i := m % 3) 3 rfl (Int.emod_nonneg _ (by decide)) (Int.emod_lt_of_pos _ (by decide))
  refine ⟨_, rfl, _, _, rfl, rfl, ⟨by decide, by decide, by decide⟩, _, _, rfl, rfl, .inl ⟨by decide, by decide⟩, _, _, rfl, rfl, _, _, rfl, rfl, (by show (0 : Int) < 2 * 10 ^ (17 : Int).toNat + 1; decide), _, _, rfl, rfl, ⟨by decide, by decide, by decide⟩, _, _, rfl, rfl, szl (by show 3 ≤ 1000000; decide), fun q1 hq1 => ?_⟩
  have s1 := same_new hq1 (.lst [V.int 0, V.int 0, V.int (c % (2 * 10 ^ (17 : Int).toNat + 1) - 10 ^ (17 : Int).toNat)])
  refine ⟨_, rfl, _, _, rfl, rfl, (by show (0 : Int) < 3; decide), q1, _, _, _, rfl, rfl, SqL.of upd_same, eof, ?_⟩
  dsimp only [gName]
  generalize upd H q1 (.lst [V.int 0, V.int 0, V.int (c % (2 * 10 ^ (17 : Int).toNat + 1) - 10 ^ (17 : Int).toNat)]) = H1 at s1
  refine ⟨szl (by show 0 ≤ 1000000; decide), fun l hl => ?_⟩
  have hl0 : H l = none := s1.free hl
  dsimp only [gName]
  refine ⟨3, rfl, by decide, by decide, ?_⟩
  refine for_range (lo := 0) (n := 3) (fun i σ' H' => Same H1 H' ∧ (∃ o5, σ' = [some (.ref p), some (.int c), some (.int m), some (.int of'), some (.ref l), o5]) ∧ ∃ xs : List V, H' l = some (.lst xs) ∧ xs.length = i ∧ ∀ v ∈ xs, ∃ (t : Addr) (z : Str) (m n : Int), v = .ref t ∧ H' t = some (.tup [.str z, .int m, .int n]) ∧ 1 ≤ m ∧ m ≤ 3) ⟨same_new hl _, ⟨_, rfl⟩, [], upd_same, rfl, fun v hv => by cases hv⟩ (fun i σ' H' hi pp => ?_) (fun σ' H' pp => ?_)
  · obtain ⟨e, ⟨o5, rfl⟩, xs, hx, xl, hxs⟩ := pp
    have e0' : (0 : Int) + (i : Int) = (i : Int) := by omega
    rw [e0']
    refine ⟨_, rfl, .inl ⟨rfl, _, SqL.of hx⟩, _, rfl, _, _, rfl, rfl, ⟨by decide, by decide⟩, _, rfl, m / 3, (i : Int), rfl, by omega, by omega, fun H2 e2 => ⟨szl (by show 6 ≤ 1000000; decide), fun q2 hq2 => ?_⟩⟩
    obtain ⟨k, hk, ek⟩ := pickN (L := [1, 2, 1, 3, 1, 2]) (i := (m / 7 + (i : Int)) % 6) 6 rfl (Int.emod_nonneg _ (by decide)) (Int.emod_lt_of_pos _ (by decide))
    have hk : 1 ≤ k ∧ k ≤ 3 := by
      simp only [List.mem_cons, List.not_mem_nil, or_false] at hk
      omega
    have s3 := same_new hq2 (.lst [V.int 1, V.int 2, V.int 1, V.int 3, V.int 1, V.int 2])
    refine ⟨_, rfl, _, _, rfl, rfl, ⟨by decide, by decide⟩, _, rfl, _, _, rfl, rfl, _, _, rfl, rfl, (by show (0 : Int) < 6; decide), q2, _, _, _, rfl, rfl, SqL.of upd_same, ek, _, rfl, szl (by show 3 ≤ 1000000; decide), fun t4 ht4 => ?_⟩
    have s4 := same_new ht4 (.tup [V.str (sOf (nmC (mixF (m / 3) 11) (i : Int))), V.int k, V.int of'])
    have e4 := e2.trans (s3.trans s4)
    have hx4 := e4 _ _ hx
    have ne4 : t4 ≠ l := fun z => by rw [z, s3 _ _ (e2 _ _ hx)] at ht4; cases ht4
    refine ⟨l, _, _, rfl, rfl, hx4, szlt (by omega), ?_⟩
    refine ⟨fun a o ha => by rw [upd_ne (ne_of_none ha hl)]; exact e4 _ _ (e _ _ ha), ⟨_, rfl⟩, _, upd_same, by rw [List.length_append, xl]; rfl, fun v hv => ?_⟩
    rcases List.mem_append.mp hv with hv | hv
    · obtain ⟨t, z, m', n', rfl, ht, h1, h2⟩ := hxs v hv
      exact ⟨t, z, m', n', rfl, by rw [upd_ne (ne_of ht hx (by intro z; cases z))]; exact e4 _ _ ht, h1, h2⟩
    · rw [List.mem_singleton] at hv
      exact ⟨t4, _, k, of', hv, by rw [upd_ne ne4]; exact upd_same, hk.1, hk.2⟩
  · obtain ⟨e, ⟨o5, rfl⟩, xs, hx, xl, hxs⟩ := pp
    exact ⟨_, rfl, q l _ (s1.trans e) ⟨xs, hx, xl, hxs⟩⟩

theorem ok_row31 (T : Tx K mg a) : FnOk P w K mg base CX0 5 a.f_l_row a.d_l_row ["_law_cell_here", "_law_stack", "_law_path", "_law_heads_here"] spRow31 := by
  have G_l_mixed := ok_mixed (P := P) (w := w) (base := base) T
  have G_l_cell_of := ok_cell_of (P := P) (w := w) (base := base) T
  have G_l_term := ok_term (P := P) (w := w) (base := base) T
  refine T.F_l_row.ok sc_l_row (fun vs H Q E h => ?_) (fun cdv A outer s H vs Q E hr h => ?_)
  · obtain ⟨_, _, _, _, _, _, rfl, _⟩ := h; rfl
  obtain ⟨c, st, pt, hd, S, ps, rfl, ⟨vs, hv, hall⟩, k10, hpt, hH, q⟩ := h
  refine ⟨_, (pss_cons (ps_set (i := 4) sc_l_row.nd rfl (Or.inl rfl) (pe_op op_cat (pe_lst (pa_cons (pe_tup (pa_cons pe_str (pa_cons pe_int pa_nil))) pa_nil)) (pe_compB ["_law_one"] [none] (by rfl) (pi_list (pv 1)) c_l_row_0 (fun _ _ _ _ _ _ => ⟨(pg_name (i := 0) c_l_row_0n rfl (Or.inl rfl)), pts_nil, (pe_tup (pa_cons (pe_ix (show IxR _ (rIxT K) from ix_tup) (pv 0) pe_int (fun _ _ => rfl)) (pa_cons (pe_ix (show IxR _ (rIxT K) from ix_tup) (pv 0) pe_int (fun _ _ => rfl)) pa_nil)))⟩))))
    (pss_cons (ps_set (i := 5) sc_l_row.nd rfl (Or.inl rfl) (pe_callTy call_tuple_of (by rfl) T.z_tuple bt_tuple (pa_cons (pe_compB ["_law_one"] [none] (by rfl) (pi_list (pv 1)) c_l_row_1 (fun _ _ _ _ _ _ => ⟨(pg_name (i := 0) c_l_row_1n rfl (Or.inl rfl)), pts_nil, (pe_ix (show IxR _ (rIxT K) from ix_tup) (pv 0) pe_int (fun _ _ => rfl))⟩)) pa_nil)))
    (pss_cons (ps_set (i := 6) sc_l_row.nd rfl (Or.inl rfl) (pe_callTy call_tuple_of (by rfl) T.z_tuple bt_tuple (pa_cons (pe_compB ["_law_one"] [none] (by rfl) (pi_list (pv 1)) c_l_row_2 (fun _ _ _ _ _ _ => ⟨(pg_name (i := 0) c_l_row_2n rfl (Or.inl rfl)), pts_nil, (pe_ix (show IxR _ (rIxT K) from ix_tup) (pv 0) pe_int (fun _ _ => rfl))⟩)) pa_nil)))
    (pss_cons (ps_set (i := 7) sc_l_row.nd rfl (Or.inl rfl) (pe_callTy call_tuple_of (by rfl) T.z_tuple bt_tuple (pa_cons (pe_compB ["_law_one"] [none] (by rfl) (pi_list (pv 1)) c_l_row_3 (fun _ _ _ _ _ _ => ⟨(pg_name (i := 0) c_l_row_3n rfl (Or.inl rfl)), pts_nil, (pe_ix (show IxR _ (rIxT K) from ix_tup) (pv 0) pe_int (fun _ _ => rfl))⟩)) pa_nil)))
    (pss_cons (ps_asg (pe_call G_l_cell_of (hr.mono (by omega)) (by rfl) T.m_l_cell_of T.F_l_cell_of.kp T.b_l_cell_of .nil pass0 (pa_cons (pe_call G_l_mixed (hr.mono (by omega)) (by rfl) T.m_l_mixed T.F_l_mixed.kp T.b_l_mixed .nil pass0 (pa_cons (pv 0) (pa_cons pe_int pa_nil))) (pa_cons (pv 4) (pa_cons (pv 3) pa_nil)))) (pg_tup rfl (pgs_cons (pg_name (i := 8) sc_l_row.nd rfl (Or.inl rfl)) (pgs_cons (pg_name (i := 9) sc_l_row.nd rfl (Or.inl rfl)) pgs_nil))))
    (pss_one (ps_ret (pe_tupq (paq_cons (pv 5) (paq_cons (pv 6) (paq_cons (pv 7) (paq_cons (pv 8) (paq_cons (pv 9) (paq_cons (pe_call G_l_term (hr.mono (by omega)) (by rfl) T.m_l_term T.F_l_term.kp T.b_l_term .nil pass0 (pa_cons (pv 0) (pa_cons (pv 4) (pa_cons (pv 3) pa_nil)))) (paq_cons (pe_callTy call_tuple_of (by rfl) T.z_tuple bt_tuple (pa_cons (pv 2) pa_nil)) paq_nil star_K) star_K) star_N) star_N) star_N) star_N) star_N))))))))), ?_⟩
  have hk : vs.length = S.length := hall.1
  -- bases
  refine ⟨szl (by show 2 ≤ 1000000; decide), fun t0 ht0 => ⟨szl (by show 1 ≤ 1000000; decide), fun l0 hl0 => ?_⟩⟩
  have e2 := (same_new ht0 (.tup [V.str "", V.int 0])).trans (same_new hl0 (.lst [V.ref t0]))
  have ht02 : (upd (upd H t0 (.tup [V.str "", V.int 0])) l0 (.lst [V.ref t0])) t0 = some (.tup [V.str "", V.int 0]) := same_new hl0 _ _ _ upd_same
  have hl02 : (upd (upd H t0 (.tup [V.str "", V.int 0])) l0 (.lst [V.ref t0])) l0 = some (.lst [V.ref t0]) := upd_same
  generalize upd (upd H t0 (.tup [V.str "", V.int 0])) l0 (.lst [V.ref t0]) = H2 at e2 ht02 hl02
  refine ⟨_, rfl, st, rfl, ⟨_, SqL.of (e2 _ _ hv)⟩, ?_⟩
  refine comp_list (xs := vs) (fun i ys H' => Same H2 H' ∧ ys.length = i ∧ PairsAt H' ys) ⟨Same.refl _, rfl, fun v hv => by cases hv⟩ (szl (by omega)) (fun i ys H' hi p => ⟨SqL.of (p.1 _ _ (e2 _ _ hv)), by omega⟩) (fun i x ys H' hx p => ?_) (fun ys H' p r hr' => ?_)
  · obtain ⟨e3, yl, yp⟩ := p
    obtain ⟨qq, hqq, hlq⟩ := hall.get' hx
    obtain ⟨p0, p1, p2, rfl, h0, _⟩ := hlq.over (e2.trans e3)
    refine ⟨_, rfl, p0, _, 0, _, rfl, rfl, SqT.of h0, rfl, _, rfl, p0, _, 3, _, rfl, rfl, SqT.of h0, rfl, szl (by show 2 ≤ 1000000; decide), fun t4 ht4 => ?_⟩
    have s4 := same_new ht4 (.tup [V.str qq.nm, V.int qq.ab])
    refine ⟨e3.trans s4, by rw [List.length_append, yl]; rfl, fun v hv' => ?_⟩
    rcases List.mem_append.mp hv' with h | h
    · exact (yp.over s4) v h
    · rw [List.mem_singleton] at h
      exact ⟨t4, qq.nm, qq.ab, h, upd_same⟩
  obtain ⟨e3, yl, yp⟩ := p
  have s4 := same_new hr' (.lst ys)
  refine ⟨l0, r, _, _, rfl, rfl, s4 _ _ (e3 _ _ hl02), upd_same, szl (by simp only [List.length_singleton]; omega), fun bl hbl => ?_⟩
  have s5 := same_new hbl (.lst ([V.ref t0] ++ ys))
  have e5 := (e2.trans e3).trans (s4.trans s5)
  have hB : BasesAt (upd (upd H' r (.lst ys)) bl (.lst ([V.ref t0] ++ ys))) bl := by
    refine ⟨_, upd_same, by rw [List.length_append]; show 0 < 1 + ys.length; omega, by rw [List.length_append]; show 1 + ys.length ≤ 100; omega, fun v hv' => ?_⟩
    rcases List.mem_append.mp hv' with h | h
    · rw [List.mem_singleton] at h
      exact ⟨t0, _, _, h, s5 _ _ (s4 _ _ (e3 _ _ ht02))⟩
    · exact (yp.over (s4.trans s5)) v h
  dsimp only [gName]
  generalize upd (upd H' r (.lst ys)) bl (.lst ([V.ref t0] ++ ys)) = H5 at e5 hB
  clear s4 s5 e3 yp hl02 ht02 yl hr' hbl e2 hl0 ht0
  -- the names
  refine ⟨_, rfl, st, rfl, ⟨_, SqL.of (e5 _ _ hv)⟩, ?_⟩
  refine comp_list (xs := vs) (fun i ys H' => H' = H5 ∧ ys = (nmsOf (S.take i)).map V.str) ⟨rfl, rfl⟩ (szl (by omega)) (fun i ys H' hi p => by obtain ⟨rfl, rfl⟩ := p; exact ⟨SqL.of (e5 _ _ hv), by unfold nmsOf; rw [List.length_map, List.length_map, List.length_take]; omega⟩) (fun i x ys H' hx p => ?_) (fun y1 H6 p r1 hr1 => ?_)
  · obtain ⟨rfl, rfl⟩ := p
    obtain ⟨qq, hqq, hlq⟩ := hall.get' hx
    obtain ⟨p0, p1, p2, rfl, h0, _⟩ := hlq.over e5
    refine ⟨_, rfl, p0, _, 0, _, rfl, rfl, SqT.of h0, rfl, rfl, ?_⟩
    unfold nmsOf
    rw [take_snoc hqq, List.map_append, List.map_append]
    rfl
  obtain ⟨rfl, ey1⟩ := p
  rw [List.take_of_length_le (by omega)] at ey1
  refine ⟨r1, _, rfl, .inl ⟨SqL.of upd_same, fun u1 hu1 => ?_⟩⟩
  have s6 := (same_new hr1 (.lst y1)).trans (same_new hu1 (.tup y1))
  have hu7 : (upd (upd H6 r1 (.lst y1)) u1 (.tup y1)) u1 = some (.tup y1) := upd_same
  dsimp only [gName]
  generalize upd (upd H6 r1 (.lst y1)) u1 (.tup y1) = H7 at s6 hu7
  have e7 := e5.trans s6
  -- the lows
  refine ⟨_, rfl, st, rfl, ⟨_, SqL.of (e7 _ _ hv)⟩, ?_⟩
  refine comp_list (xs := vs) (fun i ys H' => H' = H7 ∧ All2 (fun v q => SpoAt H7 v (q.lz, q.ln)) ys (S.take i)) ⟨rfl, .nil⟩ (szl (by omega)) (fun i ys H' hi p => by obtain ⟨rfl, p⟩ := p; exact ⟨SqL.of (e7 _ _ hv), by rw [p.1, List.length_take]; omega⟩) (fun i x ys H' hx p => ?_) (fun y2 H8 p r2 hr2 => ?_)
  · obtain ⟨rfl, yl⟩ := p
    obtain ⟨qq, hqq, hlq⟩ := hall.get' hx
    obtain ⟨p0, p1, p2, rfl, h0, h1, h2⟩ := hlq.over e7
    refine ⟨_, rfl, p0, _, 1, _, rfl, rfl, SqT.of h0, rfl, rfl, ?_⟩
    rw [take_snoc hqq]
    exact yl.snoc ⟨p1, rfl, h1⟩
  obtain ⟨rfl, ay2⟩ := p
  rw [List.take_of_length_le (by omega)] at ay2
  refine ⟨r2, _, rfl, .inl ⟨SqL.of upd_same, fun u2 hu2 => ?_⟩⟩
  have s8 := (same_new hr2 (.lst y2)).trans (same_new hu2 (.tup y2))
  have hu2' : (upd (upd H8 r2 (.lst y2)) u2 (.tup y2)) u2 = some (.tup y2) := upd_same
  dsimp only [gName]
  generalize upd (upd H8 r2 (.lst y2)) u2 (.tup y2) = H9 at s8 hu2'
  have e9 := e7.trans s8
  -- the highs
  refine ⟨_, rfl, st, rfl, ⟨_, SqL.of (e9 _ _ hv)⟩, ?_⟩
  refine comp_list (xs := vs) (fun i ys H' => H' = H9 ∧ All2 (fun v q => SpoAt H9 v (q.hz, q.hn)) ys (S.take i)) ⟨rfl, .nil⟩ (szl (by omega)) (fun i ys H' hi p => by obtain ⟨rfl, p⟩ := p; exact ⟨SqL.of (e9 _ _ hv), by rw [p.1, List.length_take]; omega⟩) (fun i x ys H' hx p => ?_) (fun y3 HA p r3 hr3 => ?_)
  · obtain ⟨rfl, yl⟩ := p
    obtain ⟨qq, hqq, hlq⟩ := hall.get' hx
    obtain ⟨p0, p1, p2, rfl, h0, h1, h2⟩ := hlq.over e9
    refine ⟨_, rfl, p0, _, 2, _, rfl, rfl, SqT.of h0, rfl, rfl, ?_⟩
    rw [take_snoc hqq]
    exact yl.snoc ⟨p2, rfl, h2⟩
  obtain ⟨rfl, ay3⟩ := p
  rw [List.take_of_length_le (by omega)] at ay3
  refine ⟨r3, _, rfl, .inl ⟨SqL.of upd_same, fun u3 hu3 => ?_⟩⟩
  have sA := (same_new hr3 (.lst y3)).trans (same_new hu3 (.tup y3))
  have hu3' : (upd (upd HA r3 (.lst y3)) u3 (.tup y3)) u3 = some (.tup y3) := upd_same
  dsimp only [gName]
  generalize upd (upd HA r3 (.lst y3)) u3 (.tup y3) = HB at sA hu3'
  have eB := e9.trans sA
  have hB2 := hB.over (s6.trans (s8.trans sA))
  -- the cell, the term
  refine ⟨_, rfl, c, 4, rfl, _, rfl, _, rfl, mixF c 4, bl, hd, rfl, (mix_b c 4).1, hB2, hH.over eB, fun rc HC eC hC => ?_⟩
  obtain ⟨z, p, hrc, hsp⟩ := hC
  refine ⟨rc, _, rfl, SqT.of hrc, rfl, _, _, rfl, _, _, rfl, rfl, ?_⟩
  dsimp only [gName]
  have eBC := eB.trans eC
  refine ⟨_, rfl, _, rfl, _, rfl, _, rfl, _, rfl, _, rfl, _, rfl, _, rfl, c, bl, hd, rfl, hB2.over eC, hH.over eBC, fun x HD m rs eD m3 tm => ?_⟩
  have eD' := eBC.trans eD
  refine ⟨_, rfl, pt, _, rfl, .inl ⟨SqL.of (eD' _ _ hpt), fun u4 hu4 => ⟨szl (by show 7 ≤ 1000000; decide), fun rr hrr => ?_⟩⟩⟩
  have sE := (same_new hu4 (.tup (ps.map V.int))).trans (same_new hrr (.tup [V.ref u1, V.ref u2, V.ref u3, V.str z, V.ref p, x, V.ref u4]))
  have eE := eC.trans (eD.trans sE)
  refine q rr _ z p m rs (eD'.trans sE) ⟨rr, u1, u2, u3, u4, x, y2, y3, rfl, upd_same, ?_, (sA.trans eE) _ _ hu2', ay2.mono fun _ _ w => w.tk (Same.tk (s8.trans (sA.trans eE))), eE _ _ hu3', ay3.mono fun _ _ w => w.tk (Same.tk (sA.trans eE)), same_new hrr _ _ _ upd_same, tm.over sE⟩ m3
  rw [← ey1]
  exact ((s8.trans sA).trans eE) _ _ hu7

theorem ok_rows31 (T : Tx K mg a) : FnOk P w K mg base CX0 6 a.f_l_rows a.d_l_rows ["_law_script", "_law_many_here"] (spRows31 K) := by
  have G_l_cell := ok_cellD (P := P) (w := w) (base := base) T
  have G_l_mixed := ok_mixed (P := P) (w := w) (base := base) T
  have G_l_loop := ok_loop31 (P := P) (w := w) (base := base) T
  have G_l_row := ok_row31 (P := P) (w := w) (base := base) T
  have G_l_heads := ok_heads (P := P) (w := w) (base := base) T
  refine T.F_l_rows.ok sc_l_rows (fun vs H Q E h => ?_) (fun cdv A outer s H vs Q E hr h => ?_)
  · obtain ⟨_, _, _, rfl, _⟩ := h; rfl
  obtain ⟨p, ns, n, rfl, hp, h63, n6, q⟩ := h
  refine ⟨_, (pss_cons (ps_set (i := 2) sc_l_rows.nd rfl (Or.inl rfl) (pe_op op_sub (pe_op op_mod (pe_call G_l_cell (hr.mono (by omega)) (by rfl) T.m_l_cell T.F_l_cell.kp T.b_l_cell .nil pass0 (pa_cons (pv 0) (pa_cons pe_int pa_nil))) (pe_op op_add (pe_op op_mul pe_int (pe_op op_pow pe_int pe_int)) pe_int)) (pe_op op_pow pe_int pe_int)))
    (pss_cons (ps_set (i := 3) sc_l_rows.nd rfl (Or.inl rfl) (pe_lst pa_nil))
    (pss_cons (ps_set (i := 4) sc_l_rows.nd rfl (Or.inl rfl) (pe_lst (pa_cons pe_int pa_nil)))
    (pss_cons (ps_set (i := 5) sc_l_rows.nd rfl (Or.inl rfl) (pe_lst pa_nil))
    (pss_cons (ps_set (i := 6) sc_l_rows.nd rfl (Or.inl rfl) (pe_lst pa_nil))
    (pss_cons (ps_for PassesOwn.never rfl (pi_range1 (by rfl) T.z_range (pa_cons (pv 1) pa_nil)) (pg_name (i := 7) sc_l_rows.nd rfl (Or.inl rfl))
    (pss_cons (ps_set (i := 8) sc_l_rows.nd rfl (Or.inl rfl) (pe_call G_l_cell (hr.mono (by omega)) (by rfl) T.m_l_cell T.F_l_cell.kp T.b_l_cell .nil pass0 (pa_cons (pv 0) (pa_cons (pe_op op_add pe_int (pv 7)) pa_nil))))
    (pss_cons (ps_set (i := 9) sc_l_rows.nd rfl (Or.inl rfl) (pe_call G_l_mixed (hr.mono (by omega)) (by rfl) T.m_l_mixed T.F_l_mixed.kp T.b_l_mixed .nil pass0 (pa_cons (pv 8) (pa_cons pe_int pa_nil))))
    (pss_cons (ps_set (i := 10) sc_l_rows.nd rfl (Or.inl rfl) pe_non)
    (pss_cons (ps_for PassesOwn.never rfl (pi_range1 (by rfl) T.z_range (pa_cons (pe_op op_mod (pv 9) (pe_op op_add (pe_callB call_len_seq (by rfl) T.z_len bt_len (pa_cons (pv 3) pa_nil)) pe_int)) pa_nil)) (pg_name (i := 11) sc_l_rows.nd rfl (Or.inl rfl))
    (pss_cons (ps_set (i := 10) sc_l_rows.nd rfl (Or.inl rfl) (pe_ix ix_list (pv 3) (pe_un un_neg pe_int) (fun _ _ => rfl)))
    (pss_cons (ps_set (i := 3) sc_l_rows.nd rfl (Or.inl rfl) (pe_slice sl_list (pv 3) po_none (po_some (pe_un un_neg pe_int))))
    (pss_cons (ps_set (i := 4) sc_l_rows.nd rfl (Or.inl rfl) (pe_slice sl_list (pv 4) po_none (po_some (pe_un un_neg pe_int))))
    (pss_one (ps_set (i := 5) sc_l_rows.nd rfl (Or.inl rfl) (pe_slice sl_list (pv 5) po_none (po_some (pe_un un_neg pe_int)))))))))
    (pss_cons (ps_set (i := 12) sc_l_rows.nd rfl (Or.inl rfl) (pe_ix ix_list (pe_lstq (paq_cons pe_int (paq_cons pe_int (paq_cons pe_int (paq_cons pe_int (paq_cons pe_int (paq_cons pe_int (paq_cons pe_int (paq_cons pe_int paq_nil star_C) star_C) star_C) star_C) star_C) star_C) star_C) star_C)) (pe_op op_mod (pe_op op_fdiv (pv 9) pe_int) pe_int) (fun _ _ => rfl)))
    (pss_cons (ps_if (pt_cmpR op_gt (pv 7) pe_int (nomark _))
    (pss_one (ps_set (i := 12) sc_l_rows.nd rfl (Or.inl rfl) (pe_ix ix_list (pe_lstq (paq_cons pe_int (paq_cons pe_int (paq_cons pe_int (paq_cons pe_int (paq_cons pe_int (paq_cons pe_int (paq_cons pe_int (paq_cons pe_int paq_nil star_C) star_C) star_C) star_C) star_C) star_C) star_C) star_C)) (pe_op op_mod (pe_op op_fdiv (pv 9) pe_int) pe_int) (fun _ _ => rfl))))
    pss_nil)
    (pss_cons (ps_for PassesOwn.never rfl (pi_range1 (by rfl) T.z_range (pa_cons (pe_callB (call_min2 rfl) (by rfl) T.z_min bt_min (pa_cons (pv 12) (pa_cons (pe_op op_sub pe_int (pe_callB call_len_seq (by rfl) T.z_len bt_len (pa_cons (pv 3) pa_nil))) pa_nil))) pa_nil)) (pg_name (i := 13) sc_l_rows.nd rfl (Or.inl rfl))
    (pss_cons (ps_set (i := 14) sc_l_rows.nd rfl (Or.inl rfl) (pe_call G_l_loop (hr.mono (by omega)) (by rfl) T.m_l_loop T.F_l_loop.kp T.b_l_loop .nil pass0 (pa_cons (pe_call G_l_mixed (hr.mono (by omega)) (by rfl) T.m_l_mixed T.F_l_mixed.kp T.b_l_mixed .nil pass0 (pa_cons (pv 8) (pa_cons (pe_op op_add pe_int (pv 13)) pa_nil))) (pa_cons (pv 2) (pa_cons (pv 3) (pa_cons (pe_call G_l_cell (hr.mono (by omega)) (by rfl) T.m_l_cell T.F_l_cell.kp T.b_l_cell .nil pass0 (pa_cons (pv 0) (pa_cons pe_int pa_nil))) pa_nil))))))
    (pss_cons (ps_if (PW.pt (pw_and (pt_cmpR op_eq (pv 13) pe_int (nomark _)) (pw_and (pt_cmpR op_notN (pv 10) pe_non (nomark _)) (pw_and1 (pt_cmpR op_eq (pe_op op_mod (pe_op op_fdiv (pv 9) pe_int) pe_int) pe_int (nomark _))))))
    (pss_one (ps_set (i := 14) sc_l_rows.nd rfl (Or.inl rfl) (pv 10)))
    pss_nil)
    (pss_cons (ps_set (i := 3) sc_l_rows.nd rfl (Or.inl rfl) (pe_op op_cat (pv 3) (pe_lst (pa_cons (pv 14) pa_nil))))
    (pss_cons (ps_set (i := 5) sc_l_rows.nd rfl (Or.inl rfl) (pe_op op_cat (pv 5) (pe_lst (pa_cons (pe_ix ix_list (pv 4) (pe_un un_neg pe_int) (fun _ _ => rfl)) pa_nil))))
    (pss_one (ps_set (i := 4) sc_l_rows.nd rfl (Or.inl rfl) (pe_op op_cat (pe_slice sl_list (pv 4) po_none (po_some (pe_un un_neg pe_int))) (pe_lst (pa_cons (pe_op op_add (pe_ix ix_list (pv 4) (pe_un un_neg pe_int) (fun _ _ => rfl)) pe_int) (pa_cons pe_int pa_nil)))))))))))
    (pss_cons (ps_expr (pe_bm PySem.F.plainAttrs_list PySem.F.slot_list_append PySem.F.type_list_append mt_append (pv 6) (pa_cons (pe_call G_l_row (hr.mono (by omega)) (by rfl) T.m_l_row T.F_l_row.kp T.b_l_row .nil pass0 (pa_cons (pv 8) (pa_cons (pv 3) (pa_cons (pe_op op_cat (pv 5) (pe_lst (pa_cons (pe_ix ix_list (pv 4) (pe_un un_neg pe_int) (fun _ _ => rfl)) pa_nil))) (pa_cons (pe_call G_l_heads (hr.mono (by omega)) (by rfl) T.m_l_heads T.F_l_heads.kp T.b_l_heads .nil pass0 (pa_cons (pv 0) pa_nil)) pa_nil))))) pa_nil)))
    (pss_one (ps_set (i := 4) sc_l_rows.nd rfl (Or.inl rfl) (pe_op op_cat (pe_slice sl_list (pv 4) po_none (po_some (pe_un un_neg pe_int))) (pe_lst (pa_cons (pe_op op_add (pe_ix ix_list (pv 4) (pe_un un_neg pe_int) (fun _ _ => rfl)) pe_int) pa_nil))))))))))))))
    (pss_one (ps_ret (pv 6))))))))), ?_⟩
  refine ⟨_, rfl, p, ns, 2, rfl, hp, by decide, by decide, _, _, rfl, rfl, ⟨by decide, by decide, by decide⟩, _, _, rfl, rfl, .inl ⟨by decide, by decide⟩, _, _, rfl, rfl, _, _, rfl, rfl, (by show (0 : Int) < 2 * 10 ^ (17 : Int).toNat + 1; decide), _, _, rfl, rfl, ⟨by decide, by decide, by decide⟩, _, _, rfl, rfl, ?_⟩
  dsimp only [gName]
  have fb : -(10 ^ 17) ≤ cellD ns 2 % (2 * 10 ^ (17 : Int).toNat + 1) - 10 ^ (17 : Int).toNat ∧ cellD ns 2 % (2 * 10 ^ (17 : Int).toNat + 1) - 10 ^ (17 : Int).toNat ≤ 10 ^ 17 := by
    have g0 := Int.emod_nonneg (cellD ns 2) (show (2 * 10 ^ (17 : Int).toNat + 1 : Int) ≠ 0 by decide)
    have g1 := Int.emod_lt_of_pos (cellD ns 2) (show (0 : Int) < 2 * 10 ^ (17 : Int).toNat + 1 by decide)
    have g2 : (10 : Int) ^ (17 : Int).toNat = 10 ^ 17 := rfl
    rw [g2] at g0 g1 ⊢
    omega
  generalize cellD ns 2 % (2 * 10 ^ (17 : Int).toNat + 1) - 10 ^ (17 : Int).toNat = far at fb
  refine ⟨szl (by show 0 ≤ 1000000; decide), fun st0 hst0 => ?_⟩
  have s1 := same_new hst0 (.lst [])
  have h1a : (upd H st0 (.lst [])) st0 = some (.lst []) := upd_same
  dsimp only [gName]
  generalize upd H st0 (.lst []) = H1 at s1 h1a
  refine ⟨szl (by show 1 ≤ 1000000; decide), fun co0 hco0 => ?_⟩
  have s2 := same_new hco0 (.lst [V.int 0])
  have h2b : (upd H1 co0 (.lst [V.int 0])) co0 = some (.lst [V.int 0]) := upd_same
  have h2a := s2 _ _ h1a
  dsimp only [gName]
  generalize upd H1 co0 (.lst [V.int 0]) = H2 at s2 h2a h2b
  refine ⟨szl (by show 0 ≤ 1000000; decide), fun pa0 hpa0 => ?_⟩
  have s3 := same_new hpa0 (.lst [])
  have h3c : (upd H2 pa0 (.lst [])) pa0 = some (.lst []) := upd_same
  have h3a := s3 _ _ h2a
  have h3b := s3 _ _ h2b
  dsimp only [gName]
  generalize upd H2 pa0 (.lst []) = H3 at s3 h3a h3b h3c
  refine ⟨szl (by show 0 ≤ 1000000; decide), fun ro hro => ?_⟩
  have s4 := same_new hro (.lst [])
  have h4d : (upd H3 ro (.lst [])) ro = some (.lst []) := upd_same
  have h4a := s4 _ _ h3a
  have h4b := s4 _ _ h3b
  have h4c := s4 _ _ h3c
  have e4 := s1.trans (s2.trans (s3.trans s4))
  have ro0 : H ro = none := (s1.trans (s2.trans s3)).free hro
  have na : st0 ≠ ro := ne_of_none h3a hro
  have nb : co0 ≠ ro := ne_of_none h3b hro
  have nc : pa0 ≠ ro := ne_of_none h3c hro
  dsimp only [gName]
  generalize upd H3 ro (.lst []) = H4 at s4 h4a h4b h4c h4d e4
  refine ⟨_, rfl, (n : Int), rfl, by omega, by omega, ?_⟩
  rw [Int.toNat_natCast]
  -- the state between two rows
  refine for_range (lo := 0) (n := n) (fun i σ' H' => ∃ (st co pa : Addr) (k : Nat) (vs : List V) (C Pp : List Int) (xs : List V) (Rs : List R3) (o7 o8 o9 o10 o11 o12 o13 o14 : Option V), σ' = [some (.ref p), some (.int (n : Int)), some (.int far), some (.ref st), some (.ref co), some (.ref pa), some (.ref ro), o7, o8, o9, o10, o11, o12, o13, o14] ∧ Same H H' ∧ H' st = some (.lst vs) ∧ vs.length = k ∧ (∃ S, All2 (LpIs H') vs S ∧ Dr3 Rs S C Pp (cellD ns 1)) ∧ k ≤ 3 ∧ H' co = some (.lst (C.map V.int)) ∧ C.length = k + 1 ∧ H' pa = some (.lst (Pp.map V.int)) ∧ Pp.length = k ∧ st ≠ ro ∧ co ≠ ro ∧ pa ≠ ro ∧ H' ro = some (.lst xs) ∧ All2 (R3At H') xs Rs ∧ Rs.length = i ∧ ((∀ R ∈ Rs, ROk (cellD ns 1) R) ∧ Rs.Pairwise Par)) ⟨st0, co0, pa0, 0, [], [0], [], [], [], _, _, _, _, _, _, _, _, rfl, e4, h4a, rfl, ⟨[], .nil, Dr3.nil _⟩, by decide, h4b, rfl, h4c, rfl, na, nb, nc, h4d, .nil, rfl, ⟨fun R hR => (by cases hR), .nil⟩⟩ (fun i σ' H' hi pp => ?_) (fun σ' H' pp => ?_)
  rotate_left
  · obtain ⟨st, co, pa, k, vs, C, Pp, xs, Rs, _, _, _, _, _, _, _, _, rfl, e, _, _, _, _, _, _, _, _, _, _, _, hxs, axs, Rl, Rok⟩ := pp
    exact ⟨_, rfl, q ro _ Rs e ⟨xs, hxs, axs⟩ Rl Rok.1 Rok.2⟩
  obtain ⟨st, co, pa, k, vs, C, Pp, xs, Rs, o7, o8, o9, o10, o11, o12, o13, o14, rfl, e, hst, vl, vlp, k3, hco, Cl, hpa, Pl, nst, nco, npa, hxs, axs, Rl, Rok⟩ := pp
  have xl := axs.1
  obtain ⟨S0, aS, dr⟩ := vlp
  refine ⟨_, rfl, _, rfl, _, _, rfl, rfl, p, ns, _, rfl, e.seq hp, by omega, by omega, ?_⟩
  dsimp only [gName]
  generalize cellD ns (3 + (0 + (i : Int))) = ci
  refine ⟨_, rfl, ci, 0, rfl, ?_⟩
  obtain ⟨a0, a1⟩ := mix_b ci 0
  dsimp only [gName]
  generalize mixF ci 0 = nn at a0 a1
  refine seq_asgC ?_
  -- closing
  have f0 := Int.emod_nonneg nn (show ((vs.length : Int) + 1) ≠ 0 by omega)
  have f1 := Int.emod_lt_of_pos nn (show (0 : Int) < (vs.length : Int) + 1 by omega)
  refine seq_any (fun σ' H2 => ∃ (st co pa : Addr) (k : Nat) (vs : List V) (C Pp : List Int) (cl : V) (o10 : Option V), σ' = [some (.ref p), some (.int (n : Int)), some (.int far), some (.ref st), some (.ref co), some (.ref pa), some (.ref ro), some (.int (0 + (i : Int))), some (.int ci), some (.int nn), some cl, o10, o12, o13, o14] ∧ Same H' H2 ∧ H2 st = some (.lst vs) ∧ vs.length = k ∧ (∃ S, All2 (LpIs H2) vs S ∧ Dr3 Rs S C Pp (cellD ns 1) ∧ (cl = .non ∨ ∃ q, LpIs H2 cl q ∧ NewL S (cellD ns 1) q)) ∧ k ≤ 3 ∧ H2 co = some (.lst (C.map V.int)) ∧ C.length = k + 1 ∧ H2 pa = some (.lst (Pp.map V.int)) ∧ Pp.length = k ∧ st ≠ ro ∧ co ≠ ro ∧ pa ≠ ro ∧ True) (fun σ' H2 pp => ?_) (fun nx => ?_)
  rotate_left
  · refine ⟨_, rfl, _, rfl, st, _, rfl, .inl (SqL.of hst), _, _, rfl, rfl, _, _, rfl, rfl, (by show (0 : Int) < (vs.length : Int) + 1; omega), _, rfl, by omega, by omega, ?_⟩
    refine for_range (lo := 0) (n := (nn % ((vs.length : Int) + 1)).toNat) (fun j σ' H2 => ∃ (st co pa : Addr) (k2 : Nat) (vs2 : List V) (C Pp : List Int) (cl : V) (o10 : Option V), σ' = [some (.ref p), some (.int (n : Int)), some (.int far), some (.ref st), some (.ref co), some (.ref pa), some (.ref ro), some (.int (0 + (i : Int))), some (.int ci), some (.int nn), some cl, o10, o12, o13, o14] ∧ Same H' H2 ∧ H2 st = some (.lst vs2) ∧ vs2.length = k2 ∧ (∃ S, All2 (LpIs H2) vs2 S ∧ Dr3 Rs S C Pp (cellD ns 1) ∧ (cl = .non ∨ ∃ q, LpIs H2 cl q ∧ NewL S (cellD ns 1) q)) ∧ k2 + j = vs.length ∧ H2 co = some (.lst (C.map V.int)) ∧ C.length = k2 + 1 ∧ H2 pa = some (.lst (Pp.map V.int)) ∧ Pp.length = k2 ∧ st ≠ ro ∧ co ≠ ro ∧ pa ≠ ro ∧ True) ⟨st, co, pa, k, vs, C, Pp, .non, _, rfl, Same.refl _, hst, vl, ⟨S0, aS, dr, .inl rfl⟩, by omega, hco, Cl, hpa, Pl, nst, nco, npa, True.intro⟩ (fun j σ' H2 hj pp => ?_) (fun σ' H2 pp => ?_)
    rotate_left
    · obtain ⟨st, co, pa, k2, vs2, C, Pp, cl, o10, rfl, e2, g1, g2, g3, g4, g5, g6, g7, g8, g9, g10, g11, g12⟩ := pp
      exact nx _ _ ⟨st, co, pa, k2, vs2, C, Pp, cl, _, rfl, e2, g1, g2, g3, by omega, g5, g6, g7, g8, g9, g10, g11, g12⟩
    obtain ⟨st, co, pa, k2, vs2, C, Pp, cl, o10, rfl, e2, g1, g2, g3, g4, g5, g6, g7, g8, g9, g10, g11, g12⟩ := pp
    have kp : 0 < k2 := by omega
    obtain ⟨vs3, v0, rfl, v3l⟩ := snoc_of (l := vs2) (n := k2 - 1) (by omega)
    obtain ⟨C3, c0, rfl, C3l⟩ := snoc_of (l := C) (n := k2) (by omega)
    obtain ⟨P3, p0, rfl, P3l⟩ := snoc_of (l := Pp) (n := k2 - 1) (by omega)
    obtain ⟨S2, aS2, dr2, _⟩ := g3
    obtain ⟨S3, q0, rfl, S3l⟩ := snoc_of (l := S2) (n := k2 - 1) (by have := aS2.1; rw [List.length_append, List.length_singleton] at this; omega)
    obtain ⟨aS3, lv0⟩ := all2_snoc aS2
    obtain ⟨dr3, nw0⟩ := dr2.pop
    have at0 : atI (vs3 ++ [v0]) (-1) = some v0 := atI_last vs3 v0
    refine ⟨_, rfl, _, rfl, st, _, _, _, rfl, rfl, SqL.of g1, at0, ?_⟩
    dsimp only [gName]
    refine ⟨_, rfl, _, rfl, _, rfl, st, _, rfl, SqL.of g1, fun n1 hn1 => ?_⟩
    rw [show cutV (vs3 ++ [v0]) none (some (-1)) = vs3 from cutV_neg vs3 [v0] (Nat.succ_pos _) rfl]
    have t1 := same_new hn1 (.lst vs3)
    have k1 : (upd H2 n1 (.lst vs3)) n1 = some (.lst vs3) := upd_same
    have m1 : n1 ≠ ro := fun z => by rw [z, e2 _ _ hxs] at hn1; cases hn1
    dsimp only [gName]
    generalize upd H2 n1 (.lst vs3) = HA at t1 k1
    refine ⟨_, rfl, _, rfl, _, rfl, co, _, rfl, SqL.of (t1 _ _ g5), fun n2 hn2 => ?_⟩
    rw [List.map_append, show cutV (C3.map V.int ++ [c0].map V.int) none (some (-1)) = C3.map V.int from cutV_neg (C3.map V.int) [V.int c0] (Nat.succ_pos _) rfl]
    have t2 := same_new hn2 (.lst (C3.map V.int))
    have k2' : (upd HA n2 (.lst (C3.map V.int))) n2 = some (.lst (C3.map V.int)) := upd_same
    have m2 : n2 ≠ ro := fun z => by rw [z, t1 _ _ (e2 _ _ hxs)] at hn2; cases hn2
    dsimp only [gName]
    generalize upd HA n2 (.lst (C3.map V.int)) = HB at t2 k2'
    refine ⟨_, rfl, _, rfl, _, rfl, pa, _, rfl, SqL.of (t2 _ _ (t1 _ _ g7)), fun n3 hn3 => ?_⟩
    rw [List.map_append, show cutV (P3.map V.int ++ [p0].map V.int) none (some (-1)) = P3.map V.int from cutV_neg (P3.map V.int) [V.int p0] (Nat.succ_pos _) rfl]
    have t3 := same_new hn3 (.lst (P3.map V.int))
    have m3 : n3 ≠ ro := fun z => by rw [z, t2 _ _ (t1 _ _ (e2 _ _ hxs))] at hn3; cases hn3
    have tt := t1.trans (t2.trans t3)
    refine ⟨n1, n2, n3, k2 - 1, vs3, C3, P3, v0, _, rfl, e2.trans tt, (t2.trans t3) _ _ k1, v3l, ⟨S3, aS3.mono fun _ _ z => z.over tt, dr3, .inr ⟨q0, lv0.over tt, nw0⟩⟩, by omega, t3 _ _ k2', by omega, upd_same, by omega, m1, m2, m3, True.intro⟩
  obtain ⟨st, co, pa, k, vs, C, Pp, cl, o10', rfl, e2, hst, vl, vlp, k3, hco, Cl, hpa, Pl, nst, nco, npa, _⟩ := pp
  obtain ⟨S1, aS1, dr1, hcl'⟩ := vlp
  -- how many are opened
  have e02 := e.trans e2
  have hxs2 := e2 _ _ hxs
  have axs2 := axs.mono fun _ _ z => z.over e2
  have opl : ∀ {v : List Int}, v.length = 8 → (∀ x ∈ v, 0 ≤ x ∧ x ≤ 3) → ∃ d, atI (v.map V.int) (nn / 4 % 8) = some (.int d) ∧ 0 ≤ d ∧ d ≤ 3 := fun {v} hv ha => by
    obtain ⟨d, hd, ed⟩ := pickN (L := v) (i := nn / 4 % 8) 8 hv (Int.emod_nonneg _ (by decide)) (Int.emod_lt_of_pos _ (by decide))
    exact ⟨d, ed, ha d hd⟩
  obtain ⟨d1, ed1, b1⟩ := opl (v := [1, 2, 2, 3, 1, 2, 0, 1]) rfl (by decide)
  obtain ⟨d2, ed2, b2⟩ := opl (v := [0, 1, 0, 1, 2, 0, 1, 0]) rfl (by decide)
  refine ⟨szl (by show 8 ≤ 1000000; decide), fun q1 hq1 => ⟨_, rfl, _, _, rfl, rfl, ⟨by decide, by decide⟩, _, _, rfl, rfl, (by show (0 : Int) < 8; decide), q1, _, _, _, rfl, rfl, SqL.of upd_same, ed1, ?_⟩⟩
  have t1 := same_new hq1 (.lst [V.int 1, V.int 2, V.int 2, V.int 3, V.int 1, V.int 2, V.int 0, V.int 1])
  dsimp only [gName]
  generalize upd H2 q1 (.lst [V.int 1, V.int 2, V.int 2, V.int 3, V.int 1, V.int 2, V.int 0, V.int 1]) = HA at t1
  refine seq_any (fun σ' H5 => ∃ op : Int, σ' = [some (.ref p), some (.int (n : Int)), some (.int far), some (.ref st), some (.ref co), some (.ref pa), some (.ref ro), some (.int (0 + (i : Int))), some (.int ci), some (.int nn), some cl, o10', some (.int op), o13, o14] ∧ Same H2 H5 ∧ 0 ≤ op ∧ op ≤ 3) (fun σ' H5 pp => ?_) (fun nx => ?_)
  rotate_left
  · refine ⟨_, rfl, _, _, rfl, rfl, _, rfl, ite2 (fun _ => ?_) (fun _ => ?_)⟩
    · refine ⟨szl (by show 8 ≤ 1000000; decide), fun q2 hq2 => ⟨_, rfl, _, _, rfl, rfl, ⟨by decide, by decide⟩, _, _, rfl, rfl, (by show (0 : Int) < 8; decide), q2, _, _, _, rfl, rfl, SqL.of upd_same, ed2, ?_⟩⟩
      exact nx _ _ ⟨_, rfl, t1.trans (same_new hq2 _), b2⟩
    · exact nx _ _ ⟨_, rfl, t1, b1⟩
  obtain ⟨op, rfl, t2, op0, op3⟩ := pp
  have hst5 := t2 _ _ hst
  -- opening
  refine seq_any (fun σ' H6 => ∃ (st co pa : Addr) (k : Nat) (vs : List V) (C Pp : List Int) (o13 o14 : Option V), σ' = [some (.ref p), some (.int (n : Int)), some (.int far), some (.ref st), some (.ref co), some (.ref pa), some (.ref ro), some (.int (0 + (i : Int))), some (.int ci), some (.int nn), some cl, o10', some (.int op), o13, o14] ∧ Same H2 H6 ∧ H6 st = some (.lst vs) ∧ vs.length = k ∧ (∃ S, All2 (LpIs H6) vs S ∧ Dr3 Rs S C Pp (cellD ns 1)) ∧ k ≤ 3 ∧ H6 co = some (.lst (C.map V.int)) ∧ C.length = k + 1 ∧ H6 pa = some (.lst (Pp.map V.int)) ∧ Pp.length = k ∧ st ≠ ro ∧ co ≠ ro ∧ pa ≠ ro) (fun σ' H6 pp => ?_) (fun nx => ?_)
  rotate_left
  · refine ⟨_, rfl, _, rfl, st, _, rfl, .inl (SqL.of hst5), _, _, rfl, rfl, _, _, rfl, _, rfl, ?_, ?_, ?_⟩
    · split <;> omega
    · split <;> omega
    obtain ⟨m0, em0, m0l⟩ : ∃ m0 : Nat, (if 3 - (vs.length : Int) < op then 3 - (vs.length : Int) else op) = (m0 : Int) ∧ vs.length + m0 ≤ 3 := by
      split
      · exact ⟨(3 - (vs.length : Int)).toNat, by omega, by omega⟩
      · exact ⟨op.toNat, by omega, by omega⟩
    rw [em0, Int.toNat_natCast]
    refine for_range (lo := 0) (n := m0) (fun j σ' H6 => ∃ (st co pa : Addr) (k2 : Nat) (vs2 : List V) (C Pp : List Int) (o13 o14 : Option V), σ' = [some (.ref p), some (.int (n : Int)), some (.int far), some (.ref st), some (.ref co), some (.ref pa), some (.ref ro), some (.int (0 + (i : Int))), some (.int ci), some (.int nn), some cl, o10', some (.int op), o13, o14] ∧ Same H2 H6 ∧ H6 st = some (.lst vs2) ∧ vs2.length = k2 ∧ (∃ S, All2 (LpIs H6) vs2 S ∧ Dr3 Rs S C Pp (cellD ns 1) ∧ (j = 0 → cl = .non ∨ ∃ q, LpIs H6 cl q ∧ NewL S (cellD ns 1) q)) ∧ k2 = vs.length + j ∧ H6 co = some (.lst (C.map V.int)) ∧ C.length = k2 + 1 ∧ H6 pa = some (.lst (Pp.map V.int)) ∧ Pp.length = k2 ∧ st ≠ ro ∧ co ≠ ro ∧ pa ≠ ro) ⟨st, co, pa, k, vs, C, Pp, _, _, rfl, t2, hst5, vl, ⟨S1, aS1.mono fun _ _ z => z.over t2, dr1, fun _ => hcl'.imp id fun ⟨q, h1, h2⟩ => ⟨q, h1.over t2, h2⟩⟩, by omega, t2 _ _ hco, Cl, t2 _ _ hpa, Pl, nst, nco, npa⟩ (fun j σ' H6 hj pp => ?_) (fun σ' H6 pp => ?_)
    rotate_left
    · obtain ⟨st, co, pa, k2, vs2, C, Pp, o13, o14, rfl, e3, g1, g2, g3, g4, g5, g6, g7, g8, g9, g10, g11⟩ := pp
      exact nx _ _ ⟨st, co, pa, k2, vs2, C, Pp, _, _, rfl, e3, g1, g2, (let ⟨S, x, y, _⟩ := g3; ⟨S, x, y⟩), by omega, g5, g6, g7, g8, g9, g10, g11⟩
    obtain ⟨st, co, pa, k2, vs2, C, Pp, o13, o14, rfl, e3, g1, g2, g3, g4, g5, g6, g7, g8, g9, g10, g11⟩ := pp
    obtain ⟨S, aS', dr', hc0⟩ := g3
    obtain ⟨z0, z1⟩ := mix_b ci (1 + (0 + (j : Int)))
    refine ⟨_, rfl, _, rfl, _, _, rfl, rfl, ci, _, rfl, _, rfl, _, rfl, _, rfl, p, ns, 1, rfl, (e02.trans e3).seq hp, by decide, by decide, _, far, _, st, S, rfl, z0, ⟨vs2, g1, aS'⟩, by have := aS'.1; omega, dr'.so.tn, fb.1, fb.2, fun x H7 qn e7 lx nwq => ?_⟩
    dsimp only [gName]
    refine seq_any (fun σ' H8 => H8 = H7 ∧ ∃ y, (∃ q, LpIs H7 y q ∧ NewL S (cellD ns 1) q) ∧ σ' = [some (.ref p), some (.int (n : Int)), some (.int far), some (.ref st), some (.ref co), some (.ref pa), some (.ref ro), some (.int (0 + (i : Int))), some (.int ci), some (.int nn), some cl, o10', some (.int op), some (.int (0 + (j : Int))), some y]) (fun σ' H8 pp => ?_) (fun nx2 => ?_)
    rotate_left
    · refine ⟨_, rfl, rfl, _, rfl, ite2 (fun c00 => ?_) (fun _ => nx2 _ _ ⟨rfl, x, ⟨qn, lx, nwq⟩, rfl⟩)⟩
      refine ⟨_, rfl, rfl, _, rfl, ite2 (fun cc => ?_) (fun _ => nx2 _ _ ⟨rfl, x, ⟨qn, lx, nwq⟩, rfl⟩)⟩
      refine ⟨_, rfl, _, _, rfl, rfl, ⟨by decide, by decide⟩, _, _, rfl, rfl, (by show (0 : Int) < 3; decide), rfl, _, rfl, ite2 (fun _ => ?_) (fun _ => nx2 _ _ ⟨rfl, x, ⟨qn, lx, nwq⟩, rfl⟩)⟩
      have j0 : j = 0 := by have := V.int.inj (of_decide_eq_true c00); omega
      rcases hc0 j0 with rfl | ⟨q', l1, l2⟩
      · exact absurd cc (by decide)
      · exact ⟨_, rfl, nx2 _ _ ⟨rfl, cl, ⟨q', l1.over e7, l2⟩, rfl⟩⟩
    obtain ⟨rfl, y, ⟨qy, ly, nwy⟩, rfl⟩ := pp
    -- the stack, the path, the counts
    have g1' := e7 _ _ g1
    have g5' := e7 _ _ g5
    have g7' := e7 _ _ g7
    have hx7 := e7 _ _ (e3 _ _ hxs2)
    obtain ⟨C3, c0, rfl, C3l⟩ := snoc_of (l := C) (n := k2) (by omega)
    have atc : atI ((C3 ++ [c0]).map V.int) (-1) = some (.int c0) := by rw [List.map_append]; exact atI_last _ _
    refine ⟨_, rfl, _, rfl, szl (by show 1 ≤ 1000000; decide), fun u1 hu1 => ?_⟩
    have w1 := same_new hu1 (.lst [y])
    refine ⟨st, u1, _, _, rfl, rfl, w1 _ _ g1', upd_same, szl (by rw [List.length_singleton]; omega), fun n1 hn1 => ?_⟩
    have w2 := w1.trans (same_new hn1 (.lst (vs2 ++ [y])))
    have f1 : (upd (upd H8 u1 (.lst [y])) n1 (.lst (vs2 ++ [y]))) n1 = some (.lst (vs2 ++ [y])) := upd_same
    have m1 : n1 ≠ ro := fun z => by rw [z, w1 _ _ hx7] at hn1; cases hn1
    dsimp only [gName]
    generalize upd (upd H8 u1 (.lst [y])) n1 (.lst (vs2 ++ [y])) = HB at w2 f1
    refine ⟨_, rfl, _, rfl, _, rfl, co, _, _, _, rfl, rfl, SqL.of (w2 _ _ g5'), atc, szl (by show 1 ≤ 1000000; decide), fun u2 hu2 => ?_⟩
    have w3 := same_new hu2 (.lst [V.int c0])
    refine ⟨pa, u2, _, _, rfl, rfl, w3 _ _ (w2 _ _ g7'), upd_same, szl (by rw [List.length_map, List.length_singleton]; omega), fun n2 hn2 => ?_⟩
    have w4 := w3.trans (same_new hn2 (.lst (Pp.map V.int ++ [V.int c0])))
    have f2 : (upd (upd HB u2 (.lst [V.int c0])) n2 (.lst (Pp.map V.int ++ [V.int c0]))) n2 = some (.lst (Pp.map V.int ++ [V.int c0])) := upd_same
    have m2 : n2 ≠ ro := fun z => by rw [z, w3 _ _ (w2 _ _ hx7)] at hn2; cases hn2
    dsimp only [gName]
    generalize upd (upd HB u2 (.lst [V.int c0])) n2 (.lst (Pp.map V.int ++ [V.int c0])) = HC at w4 f2
    have w24 := w2.trans w4
    refine ⟨_, rfl, _, rfl, _, rfl, co, _, rfl, SqL.of (w24 _ _ g5'), fun u3 hu3 => ?_⟩
    rw [List.map_append, show cutV (C3.map V.int ++ [c0].map V.int) none (some (-1)) = C3.map V.int from cutV_neg (C3.map V.int) [V.int c0] (Nat.succ_pos _) rfl]
    have w5 := same_new hu3 (.lst (C3.map V.int))
    rw [List.map_append] at atc g5'
    refine ⟨_, rfl, _, rfl, co, _, _, _, rfl, rfl, SqL.of (w5 _ _ (w24 _ _ g5')), atc, _, _, rfl, rfl, szl (by show 2 ≤ 1000000; decide), fun u4 hu4 => ?_⟩
    have w6 := same_new hu4 (.lst [V.int (c0 + 1), V.int 0])
    refine ⟨u3, u4, _, _, rfl, rfl, w6 _ _ upd_same, upd_same, szl (by rw [List.length_map]; show C3.length + 2 ≤ _; omega), fun n3 hn3 => ?_⟩
    have w7 := w5.trans (w6.trans (same_new hn3 (.lst (C3.map V.int ++ [V.int (c0 + 1), V.int 0]))))
    have m3 : n3 ≠ ro := fun z => by rw [z, (w5.trans w6) _ _ (w24 _ _ hx7)] at hn3; cases hn3
    have wA := w24.trans w7
    refine ⟨n1, n3, n2, k2 + 1, vs2 ++ [y], C3 ++ [c0 + 1, 0], Pp ++ [c0], _, _, rfl, e3.trans (e7.trans wA), (w4.trans w7) _ _ f1, by rw [List.length_append, List.length_singleton]; omega, ⟨S ++ [qy], (aS'.mono fun _ _ z => z.over (e7.trans wA)).snoc (ly.over wA), dr'.push (by have := aS'.1; omega) nwy, fun z => by omega⟩, by omega, ?_, by rw [List.length_append]; show C3.length + 2 = _; omega, ?_, by rw [List.length_append, List.length_singleton]; omega, m1, m3, m2⟩
    · rw [upd_same, List.map_append]; rfl
    · rw [List.map_append]; exact w7 _ _ f2
  obtain ⟨st, co, pa, k, vs, C, Pp, o13', o14', rfl, e3, hst, vl, vlp, k3, hco, Cl, hpa, Pl, nst, nco, npa⟩ := pp
  obtain ⟨S, aSS, drr⟩ := vlp
  have e03 := e02.trans e3
  have hx3 := e3 _ _ hxs2
  have axs3 := axs2.mono fun _ _ z => z.over e3
  obtain ⟨C3, c0, rfl, C3l⟩ := snoc_of (l := C) (n := k) (by omega)
  have atc : atI ((C3 ++ [c0]).map V.int) (-1) = some (.int c0) := by rw [List.map_append]; exact atI_last _ _
  refine ⟨_, rfl, .inl ⟨rfl, _, SqL.of hx3⟩, _, rfl, _, rfl, _, rfl, _, rfl, _, rfl, co, _, _, _, rfl, rfl, SqL.of hco, atc, szl (by show 1 ≤ 1000000; decide), fun u2 hu2 => ?_⟩
  have w3 := same_new hu2 (.lst [V.int c0])
  refine ⟨pa, u2, _, _, rfl, rfl, w3 _ _ hpa, upd_same, szl (by rw [List.length_map, List.length_singleton]; omega), fun n2 hn2 => ?_⟩
  have w4 := w3.trans (same_new hn2 (.lst (Pp.map V.int ++ [V.int c0])))
  have f2 : (upd (upd H6 u2 (.lst [V.int c0])) n2 (.lst (Pp.map V.int ++ [V.int c0]))) n2 = some (.lst (Pp.map V.int ++ [V.int c0])) := upd_same
  generalize upd (upd H6 u2 (.lst [V.int c0])) n2 (.lst (Pp.map V.int ++ [V.int c0])) = HC at w4 f2
  refine ⟨_, rfl, p, ns, rfl, (e03.trans w4).seq hp, fun hd HD eD hH => ?_⟩
  have wD := w4.trans eD
  refine ⟨ci, st, n2, hd, S, Pp ++ [c0], rfl, ⟨vs, wD _ _ hst, aSS.mono fun _ _ z => z.over wD⟩, by have := aSS.1; omega, by rw [List.map_append]; exact eD _ _ f2, hH, fun r HE z pz m rs eE r5 m3 => ?_⟩
  have wE := wD.trans eE
  have hxE := wE _ _ hx3
  refine ⟨ro, _, _, rfl, rfl, hxE, szlt (by omega), ?_⟩
  have tkF := TK.upd (o := .lst (xs ++ [V.ref r])) hxE
  have nlF : NL HE (upd HE ro (.lst (xs ++ [V.ref r]))) := NL.upd hxE
  have keep : ∀ b o, b ≠ ro → HE b = some o → (upd HE ro (.lst (xs ++ [V.ref r]))) b = some o := fun b o hb h => by rw [upd_ne hb]; exact h
  have fr : (upd HE ro (.lst (xs ++ [V.ref r]))) ro = some (.lst (xs ++ [V.ref r])) := upd_same
  have axF : All2 (R3At (upd HE ro (.lst (xs ++ [V.ref r])))) (xs ++ [V.ref r]) (Rs ++ [⟨S, Pp ++ [c0], z, pz, m, rs⟩]) := (axs3.mono fun _ _ q => (q.over wE).tk tkF).snoc (r5.tk tkF)
  have same : Same H (upd HE ro (.lst (xs ++ [V.ref r]))) := fun b o hb => keep b o (ne_of_none hb ro0) (wE _ _ (e03 _ _ hb))
  have vlF : All2 (LpIs (upd HE ro (.lst (xs ++ [V.ref r])))) vs S := aSS.mono fun _ _ z => (z.over wE).tk tkF
  have drR := Dr3.row (R := ⟨S, Pp ++ [c0], z, pz, m, rs⟩) drr rfl
  have hstF := keep _ _ nst (wE _ _ hst)
  have hcoF := keep _ _ nco (wE _ _ hco)
  have hpaF := keep _ _ npa (wE _ _ hpa)
  have rlen := r5
  generalize upd HE ro (.lst (xs ++ [V.ref r])) = HF at fr axF same vlF hstF hcoF hpaF
  refine ⟨_, rfl, _, rfl, _, rfl, co, _, rfl, SqL.of hcoF, fun u3 hu3 => ?_⟩
  rw [List.map_append, show cutV (C3.map V.int ++ [c0].map V.int) none (some (-1)) = C3.map V.int from cutV_neg (C3.map V.int) [V.int c0] (Nat.succ_pos _) rfl]
  have w5 := same_new hu3 (.lst (C3.map V.int))
  rw [List.map_append] at atc hcoF
  refine ⟨_, rfl, _, rfl, co, _, _, _, rfl, rfl, SqL.of (w5 _ _ hcoF), atc, _, _, rfl, rfl, szl (by show 1 ≤ 1000000; decide), fun u4 hu4 => ?_⟩
  have w6 := same_new hu4 (.lst [V.int (c0 + 1)])
  refine ⟨u3, u4, _, _, rfl, rfl, w6 _ _ upd_same, upd_same, szl (by rw [List.length_map, List.length_singleton]; omega), fun n3 hn3 => ?_⟩
  have w7 := w5.trans (w6.trans (same_new hn3 (.lst (C3.map V.int ++ [V.int (c0 + 1)]))))
  have m3' : n3 ≠ ro := fun q => by rw [q, (w5.trans w6) _ _ fr] at hn3; cases hn3
  refine ⟨st, n3, pa, k, vs, C3 ++ [c0 + 1], Pp, _, _, _, _, _, _, _, _, _, _, rfl, same.trans w7, w7 _ _ hstF, vl, ⟨S, vlF.mono fun _ _ z => z.over w7, drR.1⟩, k3, ?_, by rw [List.length_append, List.length_singleton]; omega, w7 _ _ hpaF, Pl, nst, m3', npa, w7 _ _ fr, axF.mono fun _ _ q => q.over w7, by rw [List.length_append, List.length_singleton]; omega, ⟨fun R hR => ?_, List.pairwise_append.mpr ⟨Rok.2, List.pairwise_singleton _ _, fun R' h1 R h2 => by rw [List.mem_singleton.mp h2]; exact drR.2 R' h1⟩⟩⟩
  · rw [upd_same, List.map_append]; rfl
  · rcases List.mem_append.mp hR with q | q
    · exact Rok.1 R q
    · rw [List.mem_singleton.mp q]
      exact ⟨drr.so, by show (Pp ++ [c0]).length = S.length + 1; rw [List.length_append, List.length_singleton, drr.pl], m3⟩

theorem ok_stood14 (T : Tx K mg a) : FnOk P w K mg base CX0 1 a.f_stood_for a.d_stood_for ["spot", "values"] spStood14 := by
  refine T.F_stood_for.ok sc_stood_for (fun vs H Q E h => ?_) (fun cdv A outer s H vs Q E hr h => ?_)
  · obtain ⟨_, _, _, _, rfl, _⟩ := h; rfl
  obtain ⟨x, d, ⟨z, n⟩, kn, rfl, ⟨t, rfl, ht⟩, hd, hz, q⟩ := h
  refine ⟨_, (pss_cons (ps_if (pt_cmpR op_eq (pe_ix ix_tup (pv 0) pe_int (fun _ _ => rfl)) pe_str (nomark _))
    (pss_one (ps_ret (pe_ix ix_tup (pv 0) pe_int (fun _ _ => rfl))))
    pss_nil)
    (pss_one (ps_ret (pe_op op_add (pe_dget (hu_of hr) (pv 1) (pe_ix ix_tup (pv 0) pe_int (fun _ _ => rfl)) (fun _ _ => rfl)) (pe_ix ix_tup (pv 0) pe_int (fun _ _ => rfl)))))), ?_⟩
  refine ⟨_, rfl, t, _, 0, _, rfl, rfl, SqT.of ht, rfl, rfl, _, rfl, ite2 (fun c => ?_) (fun c => ?_)⟩
  · have c : z = "" := by have := of_decide_eq_true c; injection this
    refine ⟨_, rfl, t, _, 1, _, rfl, rfl, SqT.of ht, rfl, ?_⟩
    unfold stW at q
    rw [if_pos c] at q
    exact q
  · have c : ¬ z = "" := fun e => dF c (congrArg V.str e)
    have hz : z ∈ kn.map (·.1) := by
      rcases hz with e | e
      · exact absurd e c
      · exact e
    have g := DGet.k (H := H) (a := d) (kvs := kvOf kn) (k := Sum.inr z) hd
    rw [kv_get hz] at g
    refine ⟨_, rfl, _, rfl, t, _, 0, _, rfl, rfl, SqT.of ht, rfl, d, .int (lkN kn z), rfl, g, _, rfl, t, _, 1, _, rfl, rfl, SqT.of ht, rfl, _, _, rfl, rfl, ?_⟩
    unfold stW at q
    rw [if_neg c] at q
    exact q

theorem ok_placed14 (T : Tx K mg a) : FnOk P w K mg base CX0 2 a.f_placed a.d_placed ["spots", "values"] spPlaced14 := by
  have G_stood_for := ok_stood14 (P := P) (w := w) (base := base) T
  refine T.F_placed.ok sc_placed (fun vs H Q E h => ?_) (fun cdv A outer s H vs Q E hr h => ?_)
  · obtain ⟨_, _, _, _, _, rfl, _⟩ := h; rfl
  obtain ⟨t, d, xs, sp, kn, rfl, ht, ax, hd, hs, l10, q⟩ := h
  refine ⟨_, (pss_one (ps_ret (pe_callTy call_tuple_of (by rfl) T.z_tuple bt_tuple (pa_cons (pe_compB ["spot", "values"] [none, some 1] (by rfl) (pi_tup (pv 0)) c_placed_0 (fun _ _ _ _ _ _ => ⟨(pg_name (i := 0) c_placed_0n rfl (Or.inl rfl)), pts_nil, (pe_call G_stood_for (hr.mono (by omega)) (by rfl) T.m_stood_for T.F_stood_for.kp T.b_stood_for .nil pass0 (pa_cons (pv 0) (pa_cons (pv 1) pa_nil)))⟩)) pa_nil)))), ?_⟩
  have xl := ax.1
  refine ⟨_, rfl, t, rfl, ⟨_, SqT.of ht⟩, ?_⟩
  refine comp_tup (xs := xs) (fun i ys H' => H' = H ∧ ys = ((sp.take i).map (stW kn)).map V.int) ⟨rfl, rfl⟩ (szl (by omega)) (fun i ys H' hi pp => ⟨by rw [pp.1]; exact SqT.of ht, by rw [pp.2, List.length_map, List.length_map, List.length_take]; omega⟩) (fun i x ys H' hc pp => ?_) (fun ys H' pp r hr => ?_)
  · obtain ⟨rfl, rfl⟩ := pp
    obtain ⟨s, hs', hx⟩ := ax.get' hc
    refine ⟨_, rfl, _, rfl, x, d, s, kn, rfl, hx, hd, hs s (List.mem_of_getElem? hs'), rfl, ?_⟩
    rw [take_snoc hs', List.map_append, List.map_append]
    rfl
  obtain ⟨rfl, rfl⟩ := pp
  rw [List.take_of_length_le (by omega)]
  refine ⟨r, _, rfl, .inl ⟨SqL.of upd_same, fun r2 hr2 => ?_⟩⟩
  exact q r2 _ ((same_new hr _).trans (same_new hr2 _)) upd_same

theorem ok_named31 (T : Tx K mg a) : FnOk P w K mg base CX0 1 a.f_named a.d_named ["deed", "values"] (spNamed31 a.c_Deed) := by
  refine T.F_named.ok sc_named (fun vs H Q E h => ?_) (fun cdv A outer s H vs Q E hr h => ?_)
  · obtain ⟨_, _, _, _, rfl, _⟩ := h; rfl
  obtain ⟨x, t, D, us, rfl, ⟨p, dx, nm, lo, hi, pt, v4, v5, v6, ls, hs, rfl, h0, h1, _⟩, ok, ht, hl, q⟩ := h
  refine ⟨_, (pss_one (ps_ret (pe_dictzu rfl (by rfl) T.z_dict (by rfl) T.z_zip (pa_cons (pe_fld (pv 0) rfl) (pa_cons (pv 1) pa_nil))))), ?_⟩
  have nl : (nms D).length = D.loops.length := by unfold nms; rw [List.length_map]
  refine ⟨_, rfl, p, _, dx, _, _, rfl, h0, T.cl_Deed, T.n_Deed_names, rfl, _, rfl, nm, t, (nms D).map Sum.inr, us.map V.int, rfl, ?_, SqT.of ht, by rw [List.length_map, List.length_map, nl]; exact hl, fun l hl' => ?_⟩
  · have e : ((nms D).map Sum.inr).map kV = D.loops.map fun t => V.str t.nm := by unfold nms; rw [List.map_map, List.map_map]; rfl
    rw [e]
    exact SqT.of h1
  · have e := putZ_kvU [] (nms D) us (by rw [nl]; exact hl) ok.nd (fun _ _ h => by cases h)
    rw [show putZ [] ((nms D).map Sum.inr) (us.map V.int) = kvOf ((nms D).zip us) from e]
    exact q l hl'

theorem ok_bounds31 (T : Tx K mg a) : FnOk P w K mg base CX0 3 a.f_bounds_of a.d_bounds_of ["deed", "values"] (spBounds31 a.c_Deed) := by
  have G_placed := ok_placed14 (P := P) (w := w) (base := base) T
  have G_named := ok_named31 (P := P) (w := w) (base := base) T
  refine T.F_bounds_of.ok sc_bounds_of (fun vs H Q E h => ?_) (fun cdv A outer s H vs Q E hr h => ?_)
  · obtain ⟨_, _, _, _, rfl, _⟩ := h; rfl
  obtain ⟨x, t, D, us, rfl, hx, ok, ht, hl, q⟩ := h
  refine ⟨_, (pss_cons (ps_set (i := 2) sc_bounds_of.nd rfl (Or.inl rfl) (pe_callB call_len_seq (by rfl) T.z_len bt_len (pa_cons (pv 1) pa_nil)))
    (pss_one (ps_ret (pe_call G_placed (hr.mono (by omega)) (by rfl) T.m_placed T.F_placed.kp T.b_placed .nil pass0 (pa_cons (pe_tup (pa_cons (pe_ix ix_tup (pe_fld (pv 0) rfl) (pv 2) (fun _ _ => rfl)) (pa_cons (pe_ix ix_tup (pe_fld (pv 0) rfl) (pv 2) (fun _ _ => rfl)) pa_nil))) (pa_cons (pe_call G_named (hr.mono (by omega)) (by rfl) T.m_named T.F_named.kp T.b_named .nil pass0 (pa_cons (pv 0) (pa_cons (pv 1) pa_nil))) pa_nil)))))), ?_⟩
  obtain ⟨p, dx, nm, lo, hi, pt, v4, v5, v6, ls, hs, rfl, h0, h1, h2, h3, h4, h5, h6⟩ := id hx
  have hD : D.loops[us.length]? = some D.loops[us.length] := List.getElem?_eq_getElem hl
  generalize D.loops[us.length] = tt at hD
  obtain ⟨v1, hv1, sp1⟩ := h3.get hD
  obtain ⟨v2, hv2, sp2⟩ := h5.get hD
  have bs := ok.bs _ _ hD
  refine ⟨_, rfl, t, _, rfl, .inr (SqT.of ht), ?_⟩
  rw [List.length_map]
  dsimp only [gName]
  refine ⟨_, rfl, p, _, dx, _, _, rfl, h0, T.cl_Deed, T.n_Deed_lows, rfl, _, rfl, lo, _, _, v1, rfl, rfl, SqT.of h2, atI_nat hv1, ?_⟩
  refine ⟨_, rfl, p, _, dx, _, _, rfl, h0, T.cl_Deed, T.n_Deed_highs, rfl, _, rfl, hi, _, _, v2, rfl, rfl, SqT.of h4, atI_nat hv2, szl (by show 2 ≤ 1000000; decide), fun u hu => ?_⟩
  have s1 := same_new hu (.tup [v1, v2])
  have hu1 : (upd H u (.tup [v1, v2])) u = some (.tup [v1, v2]) := upd_same
  generalize upd H u (.tup [v1, v2]) = H1 at s1 hu1
  refine ⟨_, rfl, _, rfl, .ref p, t, D, us, rfl, hx.over s1, ok, s1 _ _ ht, Nat.le_of_lt hl, fun l hl1 => ?_⟩
  have s2 := same_new hl1 (.dK (kvOf ((nms D).zip us)))
  have k1 : (upd H1 l (.dK (kvOf ((nms D).zip us)))) l = some (.dK (kvOf ((nms D).zip us))) := upd_same
  generalize upd H1 l (.dK (kvOf ((nms D).zip us))) = H2 at s2 k1
  have s12 := s1.trans s2
  have zn := zip_names (Nat.le_of_lt hl)
  refine ⟨u, l, [v1, v2], [tt.lo, tt.hi], (nms D).zip us, rfl, s2 _ _ hu1, .cons (sp1.tk (Same.tk s12)) (.cons (sp2.tk (Same.tk s12)) .nil), k1, fun s hs => ?_, by show 2 ≤ 10; decide, fun r H' e hr => ?_⟩
  · rw [zn]
    rcases List.mem_cons.mp hs with rfl | hs
    · exact bs.1
    · rw [List.mem_singleton.mp hs]; exact bs.2
  · refine q r H' (s12.trans e) ?_
    rw [hr]
    unfold bD
    rw [hD]
    rfl

theorem ok_neigh31 (T : Tx K mg a) : FnOk P w K mg base CX0 1 a.f_neighbours a.d_neighbours ["deeds", "numbers", "depth"] (spNeigh31 a.c_Deed) := by
  refine T.F_neighbours.ok sc_neighbours (fun vs H Q E h => ?_) (fun cdv A outer s H vs Q E hr h => ?_)
  · obtain ⟨_, _, _, _, _, rfl, _⟩ := h; rfl
  obtain ⟨dl, nl, d, Ds, ns, rfl, ⟨xs, hdl, ax⟩, hnl, hin, nlen, q⟩ := h
  refine ⟨_, (pss_cons (ps_set (i := 3) sc_neighbours.nd rfl (Or.inl rfl) (pe_lst pa_nil))
    (pss_cons (ps_for PassesOwn.never rfl (pi_list (pv 1)) (pg_name (i := 4) sc_neighbours.nd rfl (Or.inl rfl))
    (pss_one (ps_if (PW.pt (pw_and (pt_truth (pv 3) (fun _ => rfl)) (pw_and1 (pt_cmpR op_eq (pe_ix ix_tup (pe_fld (pe_ix ix_list (pv 0) (pe_ix ix_list (pe_ix ix_list (pv 3) (pe_un un_neg pe_int) (fun _ _ => rfl)) pe_int (fun _ _ => rfl)) (fun _ _ => rfl)) rfl) (pv 2) (fun _ _ => rfl)) (pe_ix ix_tup (pe_fld (pe_ix ix_list (pv 0) (pv 4) (fun _ _ => rfl)) rfl) (pv 2) (fun _ _ => rfl)) (nomark _)))))
    (pss_one (ps_expr (pe_bm PySem.F.plainAttrs_list PySem.F.slot_list_append PySem.F.type_list_append mt_append (pe_ix ix_list (pv 3) (pe_un un_neg pe_int) (fun _ _ => rfl)) (pa_cons (pv 4) pa_nil))))
    (pss_one (ps_expr (pe_bm PySem.F.plainAttrs_list PySem.F.slot_list_append PySem.F.type_list_append mt_append (pv 3) (pa_cons (pe_lst (pa_cons (pv 4) pa_nil)) pa_nil)))))))
    (pss_one (ps_ret (pv 3))))), ?_⟩
  refine ⟨szl (by show 0 ≤ 1000000; decide), fun gl hgl => ?_⟩
  have s1 := same_new hgl (.lst [])
  have hgl1 : (upd H gl (.lst [])) gl = some (.lst []) := upd_same
  dsimp only [gName]
  generalize upd H gl (.lst []) = H1 at s1 hgl1
  have nln : (ilst ns).length = ns.length := by unfold ilst; rw [List.length_map]
  refine ⟨_, rfl, nl, rfl, ⟨_, SqL.of (s1 _ _ hnl)⟩, ?_⟩
  refine for_list (xs := ilst ns) (fun i σ' H' => ∃ (ys : List V) (G : List (List Nat)) (o4 : Option V), σ' = [some (.ref dl), some (.ref nl), some (.int (d : Int)), some (.ref gl), o4] ∧ Same H H' ∧ H' gl = some (.lst ys) ∧ GSt H H' gl ys G ∧ GP Ds d (ns.take i) G ∧ G.length ≤ i) ⟨[], [], _, rfl, s1, hgl1, .inl ⟨rfl, rfl⟩, .nil, Nat.le_refl _⟩ (fun i σ' H' _ pp => by obtain ⟨_, _, _, _, e, _⟩ := pp; exact SqL.of (e _ _ hnl)) (fun i x σ' H' hx pp => ?_) (fun σ' H' pp => ?_)
  rotate_left
  · obtain ⟨ys, G, o4, rfl, e, hg, st, gp, _⟩ := pp
    rw [nln, List.take_length] at gp
    exact ⟨_, rfl, q gl _ G e hgl (st.all hg) gp.isG⟩
  obtain ⟨ys, G, o4, rfl, e, hg, st, gp, glen⟩ := pp
  have hi : i < ns.length := by have := (List.getElem?_eq_some_iff.mp hx).1; omega
  have hk : ns[i]? = some ns[i] := List.getElem?_eq_getElem hi
  obtain ⟨k, ek⟩ : ∃ k, ns[i] = k := ⟨_, rfl⟩
  rw [ek] at hk
  have exk : x = V.int (k : Int) := by unfold ilst at hx; rw [List.getElem?_map, hk] at hx; exact (Option.some.inj hx).symm
  subst exk
  obtain ⟨D, hD, ok, hd⟩ := hin k (List.mem_of_getElem? hk)
  obtain ⟨v, hv, ⟨p, dx, nm, lo, hi2, pt, v4, v5, v6, ls, hs, rfl, h0, h1, h2, h3, h4, h5, h8⟩⟩ := ax.get hD
  have pk : atI (D.path.map V.int) (d : Int) = some (.int (pat Ds d k)) := by
    rw [pat_some hD]
    exact cell_in (ns := D.path) (k := (d : Int)) (Int.natCast_nonneg _) (by have := ok.pl; omega)
  have tks : ns.take (i + 1) = ns.take i ++ [k] := take_snoc hk
  rw [tks]
  have yl := st.len
  dsimp only [gName]
  refine if_any (fun H2 => H2 = H' ∧ ∀ g h, G.getLast? = some g → g.head? = some h → pat Ds d h ≠ pat Ds d k) (fun H2 pp => ?_) (fun els => ?_)
  · obtain ⟨rfl, hne⟩ := pp
    refine ⟨_, rfl, .inl ⟨rfl, _, SqL.of hg⟩, _, rfl, szl (by show 1 ≤ 1000000; decide), fun l hl => ?_⟩
    have s2 := same_new hl (.lst [V.int (k : Int)])
    refine ⟨gl, _, _, rfl, rfl, s2 _ _ hg, szlt (by omega), ?_⟩
    refine ⟨ys ++ [.ref l], G ++ [[k]], _, rfl, fun b ob eb => by rw [upd_ne (ne_of_none eb hgl)]; exact s2 _ _ (e _ _ eb), upd_same, st.new hg hl (e.free hl), .new gp hne, by rw [List.length_append, List.length_singleton]; omega⟩
  · refine ⟨_, rfl, _, .inl ⟨_, SqL.of hg, rfl⟩, ?_⟩
    have il0 : ∀ {h : Nat} {g : List Nat}, atI (ilst (h :: g)) (0 : Int) = some (.int (h : Int)) := fun {h g} => by unfold ilst; exact atI_nat (j := 0) rfl
    rcases st with ⟨rfl, rfl⟩ | ⟨ys', l, G', h, g, rfl, rfl, hall, hl, nlg, hl0⟩
    · exact iteF (els _ ⟨rfl, fun g h hG => by cases hG⟩)
    have ne1 : (!(ys' ++ [V.ref l]).isEmpty) = true := by cases ys' <;> rfl
    rw [ne1]
    refine iteT ?_
    have hmem : h ∈ ns := by
      have := gp.isG.mem (h :: g) (by simp) h List.mem_cons_self
      exact List.mem_of_mem_take this
    obtain ⟨Dh, hDh, okh, hdh⟩ := hin h hmem
    obtain ⟨vh, hvh, ⟨p', dx', nm', lo', hi', pt', v4', v5', v6', ls', hs', rfl, k0, _, _, _, _, _, k8⟩⟩ := ax.get hDh
    have ph : atI (Dh.path.map V.int) (d : Int) = some (.int (pat Ds d h)) := by
      rw [pat_some hDh]
      exact cell_in (ns := Dh.path) (k := (d : Int)) (Int.natCast_nonneg _) (by have := okh.pl; omega)
    refine ⟨_, rfl, _, rfl, _, rfl, gl, _, _, _, rfl, rfl, SqL.of hg, atI_neg _ _ [] rfl, l, _, _, _, rfl, rfl, SqL.of hl, il0, dl, _, _, _, rfl, rfl, SqL.of (e _ _ hdl), atI_nat hvh, p', _, dx', _, _, rfl, e _ _ k0, T.cl_Deed, T.n_Deed_path, rfl, _, rfl, pt', _, _, _, rfl, rfl, SqT.of (e _ _ k8), ph, ?_⟩
    refine ⟨_, rfl, _, rfl, dl, _, _, _, rfl, rfl, SqL.of (e _ _ hdl), atI_nat hv, p, _, dx, _, _, rfl, e _ _ h0, T.cl_Deed, T.n_Deed_path, rfl, _, rfl, pt, _, _, _, rfl, rfl, SqT.of (e _ _ h8), pk, rfl, _, rfl, ?_⟩
    by_cases c : pat Ds d h = pat Ds d k
    · refine iteE (v := true) (decide_eq_true (congrArg V.int c)) (iteT ?_)
      refine ⟨_, rfl, _, rfl, gl, _, _, _, rfl, rfl, SqL.of hg, atI_neg _ _ [] rfl, .inl ⟨rfl, _, SqL.of hl⟩, _, rfl, l, _, _, rfl, rfl, hl, szlt ?_, ?_⟩
      · have := gp.isG.glen (h :: g) (by simp)
        unfold ilst
        rw [List.length_map]
        rw [List.length_take] at this
        omega
      · refine ⟨ys' ++ [.ref l], G' ++ [h :: g ++ [k]], _, rfl, fun b ob eb => by rw [upd_ne (ne_of_none eb hl0)]; exact e _ _ eb, by rw [upd_ne nlg.symm]; exact hg, ?_, .more gp c, by rw [List.length_append, List.length_singleton] at glen ⊢; omega⟩
        refine .inr ⟨ys', l, G', h, g ++ [k], rfl, rfl, ?_, ?_, nlg, hl0⟩
        · rw [wo2_upd_r]; exact hall
        · rw [upd_same, show ilst (h :: (g ++ [k])) = ilst (h :: g) ++ [V.int (k : Int)] from by unfold ilst; exact List.map_append (l₁ := h :: g) (l₂ := [k])]
    · refine iteE (v := false) (decide_eq_false fun z => c (V.int.inj z)) (iteF ?_)
      refine els _ ⟨rfl, fun g1 h1 hG hh => ?_⟩
      rw [List.getLast?_append] at hG
      cases hG
      cases hh
      exact c

theorem ok_items31 (T : Tx K mg a) : ∀ n : Nat, FnOk P w K mg base CX0 (n + 2) a.f_items_within a.d_items_within ["deeds", "numbers", "depth"] (spItemsW31 a.c_Deed n)
  | 0 => by
    have no : ∀ vs H Q E, ¬ spItemsW31 a.c_Deed 0 vs H Q E := fun vs H Q E h => by
      obtain ⟨dl, nl, d, Ds, ns, ds, _, _, _, _, _, _, _, h1, h2, _⟩ := h
      omega
    exact ⟨fun vs H Q E h => absurd h (no vs H Q E), fun A outer s H args us vs Q E _ _ _ _ h => absurd h (no vs H Q E)⟩
  | n + 1 => by
    have G_neighbours := ok_neigh31 (P := P) (w := w) (base := base) T
    have G_items_within := ok_items31 T n
    refine T.F_items_within.ok sc_items_within (fun vs H Q E h => ?_) (fun cdv A outer s H vs Q E hr h => ?_)
    · obtain ⟨_, _, _, _, _, _, rfl, _⟩ := h; rfl
    obtain ⟨dl, nl, d, Ds, ns, ds, rfl, hDo, hnl, hin, nlen, got, cc, d3, dn, q⟩ := h
    refine ⟨_, (pss_cons (ps_set (i := 3) sc_items_within.nd rfl (Or.inl rfl) (pe_lst pa_nil))
    (pss_cons (ps_for PassesOwn.never rfl (pi_list (pe_call G_neighbours (hr.mono (by omega)) (by rfl) T.m_neighbours T.F_neighbours.kp T.b_neighbours .nil pass0 (pa_cons (pv 0) (pa_cons (pv 1) (pa_cons (pv 2) pa_nil))))) (pg_name (i := 4) sc_items_within.nd rfl (Or.inl rfl))
    (pss_cons (ps_set (i := 5) sc_items_within.nd rfl (Or.inl rfl) (pe_ix ix_list (pv 4) pe_int (fun _ _ => rfl)))
    (pss_one (ps_if (pt_cmpR op_eq (pe_callB call_len_seq (by rfl) T.z_len bt_len (pa_cons (pe_fld (pe_ix ix_list (pv 0) (pv 5) (fun _ _ => rfl)) rfl) pa_nil)) (pv 2) (nomark _))
    (pss_one (ps_expr (pe_bm PySem.F.plainAttrs_list PySem.F.slot_list_append PySem.F.type_list_append mt_append (pv 3) (pa_cons (pe_tup (pa_cons (pv 5) (pa_cons pe_non pa_nil))) pa_nil))))
    (pss_one (ps_expr (pe_bm PySem.F.plainAttrs_list PySem.F.slot_list_append PySem.F.type_list_append mt_append (pv 3) (pa_cons (pe_tup (pa_cons (pv 5) (pa_cons (pe_call G_items_within (hr.mono (by omega)) (by rfl) T.m_items_within T.F_items_within.kp T.b_items_within .nil pass0 (pa_cons (pv 0) (pa_cons (pv 4) (pa_cons (pe_op op_add (pv 2) pe_int) pa_nil)))) pa_nil))) pa_nil))))))))
    (pss_one (ps_ret (pv 3))))), ?_⟩
    refine ⟨szl (by show 0 ≤ 1000000; decide), fun it hit => ?_⟩
    have s1 := same_new hit (.lst [])
    have hit1 : (upd H it (.lst [])) it = some (.lst []) := upd_same
    dsimp only [gName]
    generalize upd H it (.lst []) = H1 at s1 hit1
    refine ⟨_, rfl, _, rfl, _, rfl, dl, nl, d, Ds, ns, rfl, hDo.over s1, s1 _ _ hnl, hin, nlen, fun gl H2 G e2 hglN hG isG => ?_⟩
    obtain ⟨ys, hgl, ay⟩ := hG
    have e02 := s1.trans e2
    have ngi : gl ≠ it := (ne_of_none hit1 hglN).symm
    refine ⟨gl, rfl, ⟨_, SqL.of hgl⟩, ?_⟩
    refine for_list (xs := ys) (fun i σ' H' => ∃ (zs : List V) (f : Pw.Fs) (done rest : List Nat) (o4 o5 : Option V), σ' = [some (.ref dl), some (.ref nl), some (.int (d : Int)), some (.ref it), o4, o5] ∧ (∀ b o, b ≠ it → H2 b = some o → H' b = some o) ∧ H' it = some (.lst zs) ∧ FsAt (nwi H H' it) f zs ∧ Pw.IsF (getD Ds) f done d ∧ IsG Ds d rest (G.drop i) ∧ ns = done ++ rest ∧ fdep f ≤ n + 1 ∧ zs.length ≤ done.length ∧ (∀ x y, done.getLast? = some x → rest.head? = some y → pat Ds d x ≠ pat Ds d y)) ⟨[], .nil, [], ns, _, _, rfl, fun _ _ _ h => h, e2 _ _ hit1, rfl, rfl, isG, rfl, Nat.zero_le _, Nat.le_refl _, fun x y hx => by cases hx⟩ (fun i σ' H' _ pp => by obtain ⟨_, _, _, _, _, _, _, k, _⟩ := pp; exact SqL.of (k _ _ ngi hgl)) (fun i x σ' H' hx pp => ?_) (fun σ' H' pp => ?_)
    rotate_left
    · obtain ⟨zs, f, done, rest, o4, o5, rfl, k, hz, fa, isf, ig, en, fd, zl, _⟩ := pp
      rw [ay.1, List.drop_length] at ig
      cases ig
      rw [List.append_nil] at en
      subst en
      exact ⟨_, rfl, q it _ f zs (fun b o hb => k b o (ne_of_none hb hit) (e02 _ _ hb)) hit hz (fa.over nwi_nw) isf fd zl⟩
    obtain ⟨zs, f, done, rest, o4, o5, rfl, k, hz, fa, isf, ig, en, fd, zl, hdf⟩ := pp
    obtain ⟨g, hg, l, rfl, hl⟩ := ay.get' hx
    have dc : G.drop i = g :: G.drop (i + 1) := by
      obtain ⟨hh, rfl⟩ := List.getElem?_eq_some_iff.mp hg
      exact List.drop_eq_getElem_cons hh
    rw [dc] at ig
    generalize G.drop (i + 1) = G2 at ig
    cases ig with
    | @cons kk g' rest' _ i1 i2 i3 =>
    have nli : l ≠ it := fun z => by
      have h1 := e2 _ _ hit1
      rw [← z, hl] at h1
      cases h1
    have keep : ∀ {b o}, H b = some o → H' b = some o := fun {b o} hb => k b o (ne_of_none hb hit) (e02 _ _ hb)
    have eH : Same H H' := fun b o hb => keep hb
    have hl' : H' l = some (.lst (ilst (kk :: g'))) := k _ _ nli hl
    subst en
    obtain ⟨D, hD, ok, hdl⟩ := hin kk (by simp)
    have hDo' := hDo.over eH
    obtain ⟨xs, hxs, ax⟩ := hDo'
    obtain ⟨v, hv, hvo⟩ := ax.get hD
    obtain ⟨p, dx, nm, lo, hi2, pt, v4, v5, v6, ls, hs, rfl, h0, h1, h2, h3, h4, h5, h8⟩ := id hvo
    obtain ⟨ds1, ds2, rfl, got1, got2⟩ := Pw.Got.split got
    obtain ⟨dsg, ds3, rfl, got3, got4⟩ := Pw.Got.split (ns := kk :: g') got2
    have ccg : Pw.CC d dsg := Pw.CC.left (Pw.CC.right cc)
    have memD : ∀ x ∈ done, ∃ a, getD Ds x = some a := fun x hx => by
      obtain ⟨Dx, hDx, _⟩ := hin x (List.mem_append_left _ hx)
      exact ⟨_, getD_some hDx⟩
    have diff : ∀ (x y : Nat) (a b : Pw.Dd LpT Str), done.getLast? = some x → (kk :: g').head? = some y → getD Ds x = some a → getD Ds y = some b → a.path.getD d 0 ≠ b.path.getD d 0 := fun x y a b hx hy ha hb => by
      obtain ⟨Da, hDa, rfl⟩ := getD_inv ha
      obtain ⟨Db, hDb, rfl⟩ := getD_inv hb
      have := hdf x y hx (by cases hy; rfl)
      rw [pat_some hDa, pat_some hDb] at this
      exact this
    have nxt : ∀ x y, (done ++ (kk :: g')).getLast? = some x → rest'.head? = some y → pat Ds d x ≠ pat Ds d y := fun x y hx hy => by
      have hx' : x ∈ kk :: g' := by
        rw [List.getLast?_append] at hx
        cases hgl2 : (kk :: g').getLast? with
        | none => simp at hgl2
        | some z =>
          rw [hgl2] at hx
          cases hx
          exact List.mem_of_getLast? hgl2
      have e : pat Ds d x = pat Ds d kk := by
        rcases List.mem_cons.mp hx' with rfl | h
        · rfl
        · exact i1 x h
      rw [e]
      exact (i2 y hy).symm
    have zlen : zs.length ≤ 10 := by rw [List.length_append] at nlen; omega
    have nlen2 : (kk :: g').length ≤ 10 := by
      have := nlen
      rw [List.length_append, List.length_append] at this
      omega
    dsimp only [gName]
    refine ⟨_, rfl, l, _, _, _, rfl, rfl, SqL.of hl', (show atI (ilst (kk :: g')) (0 : Int) = some (.int (kk : Int)) from by unfold ilst; exact atI_nat (j := 0) rfl), ?_⟩
    dsimp only [gName]
    refine ⟨_, rfl, _, rfl, dl, _, _, _, rfl, rfl, SqL.of hxs, atI_nat hv, p, _, dx, _, _, rfl, h0, T.cl_Deed, T.n_Deed_names, rfl, nm, _, rfl, .inr (SqT.of h1), _, rfl, rfl, _, rfl, ?_⟩
    rw [List.length_map]
    by_cases c : D.loops.length = d
    · refine iteE (v := true) (decide_eq_true (congrArg (fun m : Nat => V.int (m : Int)) c)) (iteT ?_)
      have g0 : g' = [] := by
        cases g' with
        | nil => rfl
        | cons k2 g2 =>
          cases got3 with
          | cons q1 q2 =>
            cases q2 with
            | cons q3 q4 =>
              rw [getD_some hD] at q1
              cases q1
              obtain ⟨D2, hD2, rfl⟩ := getD_inv q3
              obtain ⟨⟨cx, c1, c2⟩, _⟩ := ccg
              have c3 : cx ≤ D.loops.length := c2.1
              have ce : cx = d := by omega
              subst ce
              have := i1 k2 List.mem_cons_self
              rw [pat_some hD2, pat_some hD] at this
              exact absurd this.symm c2.2.2.2.2
      subst g0
      refine ⟨_, rfl, .inl ⟨rfl, _, SqL.of hz⟩, _, rfl, szl (by show 2 ≤ 1000000; decide), fun t ht => ?_⟩
      have s3 := same_new ht (.tup [V.int (kk : Int), V.non])
      refine ⟨it, _, _, rfl, rfl, s3 _ _ hz, szlt (by omega), ?_⟩
      have nti : t ≠ it := (ne_of_none hz ht).symm
      refine ⟨zs ++ [.ref t], fapp f (.leaf kk .nil), done ++ [kk], rest', _, _, rfl, fun b o hb h => by rw [upd_ne hb]; exact s3 _ _ (k b o hb h), upd_same, ?_, isF_app isf ⟨[], D.dd, rfl, getD_some hD, c, rfl⟩ diff memD, i3, by rw [List.append_assoc], Nat.le_trans (fdep_app f _) (Nat.max_le.mpr ⟨fd, by show max 1 0 ≤ n + 1; omega⟩), by rw [List.length_append, List.length_append]; exact Nat.add_le_add zl (Nat.le_refl _), nxt⟩
      exact (fa.over (nwi_mono fun b o hb h => by rw [upd_ne hb]; exact s3 _ _ h)).app ⟨t, [], rfl, nwi_get (eH.free ht) nti (by rw [upd_ne nti]; exact upd_same), rfl⟩
    · refine iteE (v := false) (decide_eq_false fun z => c (by have := V.int.inj z; omega)) (iteF ?_)
      have hlt : d < D.loops.length := by omega
      have ll := ok.ll
      have hv2 : ∀ y ∈ dsg, y.path.getD d 0 = D.dd.path.getD d 0 := fun y hy => by
        obtain ⟨k', hk', e⟩ := got3.mem y hy
        obtain ⟨D', hD', rfl⟩ := getD_inv e
        have : pat Ds d k' = pat Ds d kk := by
          rcases List.mem_cons.mp hk' with rfl | h
          · rfl
          · exact i1 k' h
        rw [pat_some hD', pat_some hD] at this
        exact this
      have up := (Pw.CC.up ccg hv2 (fun y hy => by
        obtain ⟨k', hk', e⟩ := got3.head hy
        cases hk'
        rw [getD_some hD] at e
        cases e
        exact hlt)).1
      have hin2 : InZ Ds (d + 1) (kk :: g') := fun x hx => by
        obtain ⟨Dx, hDx, okx, _⟩ := hin x (List.mem_append_right _ (List.mem_append_left _ hx))
        refine ⟨Dx, hDx, okx, ?_⟩
        obtain ⟨y, hy, ey⟩ := got3.find hx
        rw [getD_some hDx] at ey
        cases ey
        exact Pw.CC.le up _ hy
      have nlen3 : zs.length + 1 ≤ 11 := by omega
      refine ⟨_, rfl, .inl ⟨rfl, _, SqL.of hz⟩, _, rfl, _, rfl, _, rfl, _, rfl, _, _, rfl, rfl, dl, l, d + 1, Ds, kk :: g', dsg, rfl, ⟨xs, hxs, ax⟩, hl', hin2, nlen2, got3, up, by omega, by omega, fun r H3 sub ws e3 hrN hr3 fs3 is3 fd3 wl3 => ⟨szl (by show 2 ≤ 1000000; decide), fun t ht => ?_⟩⟩
      have s4 := same_new ht (.tup [V.int (kk : Int), V.ref r])
      have hz3 := e3 _ _ hz
      refine ⟨it, _, _, rfl, rfl, s4 _ _ hz3, szlt (by omega), ?_⟩
      have nti : t ≠ it := (ne_of_none hz3 ht).symm
      have nri : r ≠ it := (ne_of_none hz hrN).symm
      refine ⟨zs ++ [.ref t], fapp f (.node kk sub .nil), done ++ (kk :: g'), rest', _, _, rfl, fun b o hb h => by rw [upd_ne hb]; exact s4 _ _ (e3 _ _ (k b o hb h)), upd_same, ?_, isF_app isf ⟨g', [], D.dd, by simp, getD_some hD, hlt, fun x hx b hb => ?_, fun x b hx => (by cases hx), is3, rfl⟩ diff memD, i3, by rw [List.append_assoc], Nat.le_trans (fdep_app f _) (Nat.max_le.mpr ⟨fd, by show max (fdep sub + 1) 0 ≤ n + 1; omega⟩), by rw [List.length_append, List.length_append]; exact Nat.add_le_add zl (by rw [List.length_cons, List.length_cons]; exact Nat.succ_le_succ (Nat.zero_le _)), nxt⟩
      · have up4 : ∀ b o, b ≠ it → H3 b = some o → (upd (upd H3 t (.tup [V.int (kk : Int), V.ref r])) it (.lst (zs ++ [.ref t]))) b = some o := fun b o hb h => by rw [upd_ne hb]; exact s4 _ _ h
        exact (fa.over (nwi_mono fun b o hb h => up4 b o hb (e3 _ _ h))).app ⟨t, r, ws, [], rfl, nwi_get (eH.free (e3.free ht)) nti (by rw [upd_ne nti]; exact upd_same), nwi_get (eH.free hrN) nri (up4 _ _ nri hr3), (fs3.over (nw_nwi eH hz)).over (nwi_mono up4), rfl⟩
      · obtain ⟨Db, hDb, rfl⟩ := getD_inv hb
        have := i1 x hx
        rw [pat_some hDb, pat_some hD] at this
        exact this

theorem ok_nested31 (T : Tx K mg a) : FnOk P w K mg base CX0 7 a.f_nested a.d_nested ["deeds"] (spNested31 a.c_Deed) := by
  have G_items_within := ok_items31 (P := P) (w := w) (base := base) T 4
  refine T.F_nested.ok sc_nested (fun vs H Q E h => ?_) (fun cdv A outer s H vs Q E hr h => ?_)
  · obtain ⟨_, _, rfl, _⟩ := h; rfl
  obtain ⟨dl, Ds, rfl, hDo, ok, q⟩ := h
  refine ⟨_, (pss_one (ps_ret (pe_call G_items_within (hr.mono (by omega)) (by rfl) T.m_items_within T.F_items_within.kp T.b_items_within .nil pass0 (pa_cons (pv 0) (pa_cons (pe_lrange rfl (by rfl) T.z_list (by rfl) T.z_range (pa_cons (pe_callB call_len_seq (by rfl) T.z_len bt_len (pa_cons (pv 0) pa_nil)) pa_nil)) (pa_cons pe_int pa_nil)))))), ?_⟩
  obtain ⟨xs, hdl, ax⟩ := id hDo
  have xl := ax.1
  refine ⟨_, rfl, _, rfl, dl, _, rfl, .inl (SqL.of hdl), xs.length, rfl, by have := ok.2.1; omega, fun nl hnl => ?_⟩
  have s1 := same_new hnl (.lst (upto xs.length))
  have hnl1 : (upd H nl (.lst (upto xs.length))) nl = some (.lst (ilst (List.range Ds.length))) := by rw [upd_same, xl]; rfl
  generalize upd H nl (.lst (upto xs.length)) = H1 at s1 hnl1
  refine ⟨dl, nl, 0, Ds, List.range Ds.length, Ds.map Dw.dd, rfl, hDo.over s1, hnl1, fun k hk => ?_, by rw [List.length_range]; exact ok.2.1, got_range, ok.2.2, by decide, by decide, fun r H' f ys e hrN hr2 fs isf fd xl2 => ?_⟩
  · rw [List.mem_range] at hk
    exact ⟨Ds[k], List.getElem?_eq_getElem hk, ok.1 _ (List.getElem_mem hk), Nat.zero_le _⟩
  · exact q r _ f ys (s1.trans e) (s1.free hrN) hr2 (fs.over (nw_mono s1)) isf fd (by rw [List.length_range] at xl2; have := ok.2.1; omega)

theorem ok_tellL (T : Tx K mg a) (n : Nat) (G_tell_items : FnOk P w K mg base CX0 (2 * n + 5) a.f_tell_items a.d_tell_items ["walk", "items", "values"] (spTellI a.c_Walk a.c_Deed n)) : FnOk P w K mg base CX0 (2 * n + 6) a.f_tell_loop a.d_tell_loop ["walk", "k", "items", "values"] (spTellL a.c_Walk a.c_Deed n) := by
  have G_bounds_of := ok_bounds31 (P := P) (w := w) (base := base) T
  refine T.F_tell_loop.ok sc_tell_loop (fun vs H Q E h => ?_) (fun cdv A outer s H vs Q E hr h => ?_)
  · obtain ⟨_, _, _, _, _, _, _, _, _, _, _, _, _, _, rfl, _⟩ := h; rfl
  obtain ⟨wk, l, il, vt, room, HF, Ds, f, k, D, ns, xs, ts, us, rfl, W, ok, hD, hu, hil, fs, fd, isf, ft, hvt, hl, sz, q⟩ := h
  refine ⟨_, (pss_cons (ps_set (i := 4) sc_tell_loop.nd rfl (Or.inl rfl) (pe_call G_bounds_of (hr.mono (by omega)) (by rfl) T.m_bounds_of T.F_bounds_of.kp T.b_bounds_of .nil pass0 (pa_cons (pe_ix ix_list (pe_fld (pv 0) rfl) (pv 1) (fun _ _ => rfl)) (pa_cons (pv 3) pa_nil))))
    (pss_one (ps_for PassesOwn.never rfl (pi_range2 (by rfl) T.z_range (pa_cons (pe_ix ix_tup (pv 4) pe_int (fun _ _ => rfl)) (pa_cons (pe_op op_add (pe_ix ix_tup (pv 4) pe_int (fun _ _ => rfl)) pe_int) pa_nil))) (pg_name (i := 5) sc_tell_loop.nd rfl (Or.inl rfl))
    (pss_one (ps_expr (pe_call G_tell_items (hr.mono (by omega)) (by rfl) T.m_tell_items T.F_tell_items.kp T.b_tell_items .nil pass0 (pa_cons (pv 0) (pa_cons (pv 2) (pa_cons (pe_op op_catH (pv 3) (pe_tup (pa_cons (pv 5) pa_nil))) pa_nil))))))))), ?_⟩
  obtain ⟨⟨dx, dl, hw, hDo⟩, eF, _, _⟩ := id W
  obtain ⟨ys, hys, ay⟩ := hDo.over eF
  obtain ⟨v, hv, hvo⟩ := ay.get hD
  have okD := ok D (List.mem_of_getElem? hD)
  refine ⟨_, rfl, wk, _, dx, _, _, rfl, hw, T.cl_Walk, T.n_Walk_deeds, rfl, _, rfl, dl, _, _, _, rfl, rfl, SqL.of hys, atI_nat hv, _, rfl, v, vt, D, us, rfl, hvo, okD, hvt, hu, fun bt H1 e1 hbt => ?_⟩
  have eb : bW Ds k us = bD D us := bW_some hD us
  rw [← eb] at hbt
  obtain ⟨⟨b1, b2, b3, b4⟩, fsub, _⟩ := ft
  generalize hlo : (bW Ds k us).1 = lo at hbt b1 b2 fsub
  generalize hhi : (bW Ds k us).2 = hi at hbt b3 b4 fsub
  dsimp only [gName]
  refine ⟨_, rfl, bt, _, 0, _, rfl, rfl, SqT.of hbt, rfl, _, rfl, bt, _, 1, _, rfl, rfl, SqT.of hbt, rfl, _, _, rfl, rfl, _, _, rfl, ⟨by omega, by omega, by omega, by omega⟩, ?_⟩
  have et : Tn.tl (bW Ds) (.node k f .nil) us = (Tn.rng lo hi).flatMap fun v => Tn.tl (bW Ds) f (us ++ [v]) := by
    show (Tn.rng (bW Ds k us).1 (bW Ds k us).2).flatMap (fun v => Tn.tl (bW Ds) f (us ++ [v])) ++ [] = _
    rw [List.append_nil, hlo, hhi]
  rw [et] at sz q
  have W1 := W.bt hl (Bt.same e1)
  have hl1 := e1 _ _ hl
  refine for_range (lo := lo) (n := (hi + 1 - lo).toNat) (fun i σ' H2 => ∃ (ts2 : List V) (o5 : Option V), σ' = [some (.ref wk), some (.int (k : Int)), some (.ref il), some (.ref vt), some (.ref bt), o5] ∧ Bt l H1 H2 ∧ H2 l = some (.lst (ts ++ ts2)) ∧ All2 (TnAt H2) ts2 (((Tn.rng lo hi).take i).flatMap fun v => Tn.tl (bW Ds) f (us ++ [v]))) ⟨[], _, rfl, fun _ _ _ h => h, by rw [List.append_nil]; exact hl1, .nil⟩ (fun i σ' H2 hi2 pp => ?_) (fun σ' H2 pp => ?_)
  rotate_left
  · obtain ⟨ts2, o5, rfl, bt2, hl2, al⟩ := pp
    rw [List.take_of_length_le (by rw [Tn.rng_len]; exact Nat.le_refl _)] at al
    exact q _ ts2 ((Bt.same e1).trans bt2) hl2 al
  obtain ⟨ts2, o5, rfl, bt2, hl2, al⟩ := pp
  have rl := Tn.rng_len (lo := lo) (hi := hi)
  have ri : (Tn.rng lo hi)[i]? = some (lo + (i : Int)) := Tn.rng_get hi2
  rw [take_snoc ri, List.flatMap_append]
  have len2 : ts2.length = (((Tn.rng lo hi).take i).flatMap fun v => Tn.tl (bW Ds) f (us ++ [v])).length := al.1
  have tot : (((Tn.rng lo hi).take i).flatMap fun v => Tn.tl (bW Ds) f (us ++ [v])).length + (Tn.tl (bW Ds) f (us ++ [lo + (i : Int)])).length ≤ ((Tn.rng lo hi).flatMap fun v => Tn.tl (bW Ds) f (us ++ [v])).length := Tn.flat_len ri
  have tk2 := (bt2.tk hl1)
  have hvt2 := tk2 _ _ (e1 _ _ hvt)
  dsimp only [gName]
  refine ⟨_, rfl, _, rfl, _, rfl, _, rfl, szl (by show 1 ≤ 1000000; decide), fun u hu2 => ?_⟩
  have s3 := same_new hu2 (.tup [V.int (lo + (i : Int))])
  refine ⟨vt, u, _, _, rfl, rfl, s3 _ _ hvt2, upd_same, szl (by rw [List.length_map, List.length_singleton]; have := okD.ll; omega), fun p H3 e3 hp => ?_⟩
  have e23 := s3.trans e3
  have W3 := (W1.bt hl1 bt2).bt hl2 (Bt.same e23)
  have hl3 := e23 _ _ hl2
  have hp' : H3 p = some (.tup ((us ++ [lo + (i : Int)]).map V.int)) := by rw [hp, List.map_append]; rfl
  refine ⟨wk, l, il, p, room, HF, Ds, f, ns, xs, ts ++ ts2, us ++ [lo + (i : Int)], rfl, W3, ok, hil, fs, fd, by rw [List.length_append]; exact isf, fsub _ (by omega) (by omega), hp', hl3, by rw [List.length_append]; omega, fun H4 ts3 bt4 hl4 al4 => ?_⟩
  refine ⟨ts2 ++ ts3, _, rfl, (bt2.trans (Bt.same e23)).trans bt4, by rw [← List.append_assoc]; exact hl4, ?_⟩
  rw [show ([lo + (i : Int)].flatMap fun v => Tn.tl (bW Ds) f (us ++ [v])) = Tn.tl (bW Ds) f (us ++ [lo + (i : Int)]) from List.append_nil _]
  exact (al.mono fun _ _ z => (z.over e23).tk (bt4.tk hl3)).app al4
theorem ok_tellI (T : Tx K mg a) : ∀ n : Nat, FnOk P w K mg base CX0 (2 * n + 5) a.f_tell_items a.d_tell_items ["walk", "items", "values"] (spTellI a.c_Walk a.c_Deed n)
  | 0 => by
    have no : ∀ vs H Q E, ¬ spTellI a.c_Walk a.c_Deed 0 vs H Q E := fun vs H Q E h => by
      obtain ⟨_, _, _, _, _, _, _, _, _, _, _, _, _, _, _, _, _, h1, _⟩ := h
      exact Nat.not_lt_zero _ h1
    exact ⟨fun vs H Q E h => absurd h (no vs H Q E), fun A outer s H args us vs Q E _ _ _ _ h => absurd h (no vs H Q E)⟩
  | n + 1 => by
    have G_tell_loop := ok_tellL T n (ok_tellI T n)
    refine T.F_tell_items.ok sc_tell_items (fun vs H Q E h => ?_) (fun cdv A outer s H vs Q E hr h => ?_)
    · obtain ⟨_, _, _, _, _, _, _, _, _, _, _, _, rfl, _⟩ := h; rfl
    obtain ⟨wk, l, il, vt, room, HF, Ds, f, ns, xs, ts, us, rfl, W, ok, hil, fs, fd, isf, ft, hvt, hl, sz, q⟩ := h
    refine ⟨_, (pss_one (ps_for PassesOwn.never rfl (pi_list (pv 1)) (pg_tup rfl (pgs_cons (pg_name (i := 3) sc_tell_items.nd rfl (Or.inl rfl)) (pgs_cons (pg_name (i := 4) sc_tell_items.nd rfl (Or.inl rfl)) pgs_nil)))
    (pss_one (ps_if (pt_cmpR op_isN (pv 4) pe_non (nomark _))
    (pss_one (ps_expr (pe_bm PySem.F.plainAttrs_list PySem.F.slot_list_append PySem.F.type_list_append mt_append (pe_fld (pv 0) rfl) (pa_cons (pe_tup (pa_cons (pv 3) (pa_cons (pv 2) pa_nil))) pa_nil))))
    (pss_one (ps_expr (pe_call G_tell_loop (hr.mono (by omega)) (by rfl) T.m_tell_loop T.F_tell_loop.kp T.b_tell_loop .nil pass0 (pa_cons (pv 0) (pa_cons (pv 3) (pa_cons (pv 4) (pa_cons (pv 2) pa_nil))))))))))), ?_⟩
    have eF := W.same
    have nil_l : il ≠ l := ne_of_none hil W.nl
    refine ⟨_, rfl, il, rfl, ⟨_, SqL.of (eF _ _ hil)⟩, ?_⟩
    refine for_list (xs := xs) (fun i σ' H' => ∃ (g : Pw.Fs) (ns' : List Nat) (L : List (Nat × List Int)) (ts2 : List V) (o3 o4 : Option V), σ' = [some (.ref wk), some (.ref il), some (.ref vt), o3, o4] ∧ Bt l H H' ∧ H' l = some (.lst (ts ++ ts2)) ∧ All2 (TnAt H') ts2 L ∧ FsAt HF g (xs.drop i) ∧ fdep g < n + 1 ∧ Pw.IsF (getD Ds) g ns' us.length ∧ Fit (bW Ds) g us ∧ Tn.tl (bW Ds) f us = L ++ Tn.tl (bW Ds) g us) ⟨f, ns, [], [], _, _, rfl, fun _ _ _ h => h, by rw [List.append_nil]; exact hl, .nil, fs, fd, isf, ft, rfl⟩ (fun i σ' H' _ pp => by obtain ⟨_, _, _, _, _, _, _, b, _⟩ := pp; exact SqL.of (b _ _ nil_l (eF _ _ hil))) (fun i x σ' H' hx pp => ?_) (fun σ' H' pp => ?_)
    rotate_left
    · obtain ⟨g, ns', L, ts2, o3, o4, rfl, b, hl', al, fs, fdg, isg, ftg, eT⟩ := pp
      rw [List.drop_length] at fs
      cases g with
      | nil =>
        rw [show Tn.tl (bW Ds) Pw.Fs.nil us = [] from rfl, List.append_nil] at eT
        rw [← eT] at al
        exact q _ ts2 b hl' al
      | leaf k r => obtain ⟨_, _, z, _⟩ := fs; cases z
      | node k s r => obtain ⟨_, _, _, _, z, _⟩ := fs; cases z
    obtain ⟨g, ns', L, ts2, o3, o4, rfl, b, hl', al, fs, fdg, isg, ftg, eT⟩ := pp
    have dc : xs.drop i = x :: xs.drop (i + 1) := by
      obtain ⟨hh, rfl⟩ := List.getElem?_eq_some_iff.mp hx
      exact List.drop_eq_getElem_cons hh
    rw [dc] at fs
    have W' := W.bt hl b
    have eF' := W'.same
    have tk := b.tk hl
    have alen : ts2.length = L.length := al.1
    rw [eT, List.length_append] at sz
    obtain ⟨dx, dl, hw, hDo⟩ := W'.w
    cases g with
    | nil => cases fs
    | leaf k rest =>
      obtain ⟨t, xs', ex, ht, fs'⟩ := fs
      cases ex
      obtain ⟨ns2, aa, rfl, r1, r2, r3⟩ := isg
      have e2 : Tn.tl (bW Ds) (.leaf k rest) us = (k, us) :: Tn.tl (bW Ds) rest us := rfl
      rw [e2, List.length_cons] at sz
      refine ⟨t, _, rfl, SqT.of (eF' _ _ ht), rfl, _, _, rfl, _, _, rfl, rfl, ?_⟩
      refine ⟨_, rfl, rfl, _, rfl, iteE (v := true) (decide_eq_true rfl) (iteT ?_)⟩
      refine ⟨_, rfl, wk, _, dx, _, _, rfl, hw, T.cl_Walk, T.n_Walk_told, rfl, .inl ⟨rfl, _, SqL.of hl'⟩, _, rfl, _, rfl, szl (by show 2 ≤ 1000000; decide), fun u hu => ?_⟩
      have s3 := same_new hu (.tup [V.int (k : Int), V.ref vt])
      have hl3 := s3 _ _ hl'
      refine ⟨l, _, _, rfl, rfl, hl3, szlt (by rw [List.length_append]; omega), ?_⟩
      have bb : Bt l H' (upd (upd H' u (.tup [V.int (k : Int), V.ref vt])) l (.lst (ts ++ ts2 ++ [.ref u]))) := (Bt.same s3).trans Bt.put
      have tk3 := bb.tk hl'
      have nul : u ≠ l := (ne_of_none hl' hu).symm
      refine ⟨rest, ns2, L ++ [(k, us)], ts2 ++ [.ref u], _, _, rfl, b.trans bb, by rw [upd_same, List.append_assoc], (al.mono fun _ _ z => z.tk tk3).snoc ⟨u, vt, rfl, by rw [upd_ne nul]; exact upd_same, tk3 _ _ (tk _ _ hvt)⟩, fs', by have : max 1 (fdep rest) < n + 1 := fdg; omega, r3, ftg, by rw [eT, e2, List.append_assoc]; rfl⟩
    | node k sub rest =>
      obtain ⟨t, l2, ws, xs', ex, ht, hl2, fsub, fs'⟩ := fs
      cases ex
      obtain ⟨gg, ns2, aa, rfl, r1, r2, r3, r4, r5, r6⟩ := isg
      obtain ⟨D, hD, rfl⟩ := getD_inv r1
      obtain ⟨f1, f2, f3⟩ := ftg
      have e2 : Tn.tl (bW Ds) (.node k sub rest) us = Tn.tl (bW Ds) (.node k sub .nil) us ++ Tn.tl (bW Ds) rest us := by
        show _ ++ Tn.tl (bW Ds) rest us = (_ ++ []) ++ Tn.tl (bW Ds) rest us
        rw [List.append_nil]
      rw [e2, List.length_append] at sz
      refine ⟨t, _, rfl, SqT.of (eF' _ _ ht), rfl, _, _, rfl, _, _, rfl, rfl, ?_⟩
      refine ⟨_, rfl, rfl, _, rfl, iteE (v := false) (decide_eq_false fun z => by cases z) (iteF ?_)⟩
      have fdm : max (fdep sub + 1) (fdep rest) < n + 1 := fdg
      refine ⟨_, rfl, _, rfl, _, rfl, _, rfl, wk, l, l2, vt, room, HF, Ds, sub, k, D, k :: gg, ws, ts ++ ts2, us, rfl, W', ok, hD, r2, hl2, fsub, by omega, r5, ⟨f1, f2, True.intro⟩, tk _ _ hvt, hl', by rw [List.length_append]; omega, fun H3 ts3 b3 hl3 al3 => ?_⟩
      refine ⟨rest, ns2, L ++ Tn.tl (bW Ds) (.node k sub .nil) us, ts2 ++ ts3, _, _, rfl, b.trans b3, by rw [← List.append_assoc]; exact hl3, (al.mono fun _ _ z => z.tk (b3.tk hl')).app al3, fs', by omega, r6, f3, by rw [eT, e2, List.append_assoc]⟩

theorem ok_winit (T : Tx K mg a) : FnOk P w K mg base CX0 1 a.f_Walk_init a.d_Walk_init ["self", "deeds", "most"] (spWInit a.c_Walk) := by
  refine T.F_Walk_init.ok sc_Walk_init (fun vs H Q E h => ?_) (fun cdv A outer s H vs Q E hr h => ?_)
  · obtain ⟨_, _, _, _, rfl, _⟩ := h; rfl
  obtain ⟨r, dx, d, m, rfl, h0, q⟩ := h
  refine ⟨_, (pss_cons (ps_fld (pv 0) (pv 1) rfl)
    (pss_cons (ps_fld (pv 0) (pv 2) rfl)
    (pss_one (ps_fld (pv 0) (pe_lst pa_nil) rfl)))), ?_⟩
  refine ⟨_, rfl, _, rfl, r, _, dx, _, rfl, h0, T.cl_Walk, T.n_Walk_deeds, (by show 0 < 1000; decide), ?_⟩
  refine ⟨_, rfl, _, rfl, r, _, dx, _, rfl, upd_same, T.cl_Walk, T.n_Walk_room, (by show 1 < 1000; decide), ?_⟩
  rw [upd_upd]
  refine ⟨szl (by show 0 ≤ 1000000; decide), fun l hl => ?_⟩
  have nrl : r ≠ l := fun e => by rw [e, upd_same] at hl; cases hl
  have hlH : H l = none := by rw [upd_ne (Ne.symm nrl)] at hl; exact hl
  refine ⟨_, rfl, r, _, dx, _, rfl, (by rw [upd_ne nrl]; exact upd_same), T.cl_Walk, T.n_Walk_told, (by show 2 < 1000; decide), ?_⟩
  have e : upd (upd (upd H r (.ins a.c_Walk dx [("deeds", d), ("room", .int m)])) l (.lst [])) r (.ins a.c_Walk dx [("deeds", d), ("room", .int m), ("told", .ref l)]) = upd (upd H l (.lst [])) r (.ins a.c_Walk dx [("deeds", d), ("room", .int m), ("told", .ref l)]) := by
    funext b
    by_cases c : b = r
    · subst c; rw [upd_same, upd_same]
    · rw [upd_ne c, upd_ne c]
      by_cases c2 : b = l
      · subst c2; rw [upd_same, upd_same]
      · rw [upd_ne c2, upd_ne c2, upd_ne c]
  show Q .non (upd (upd (upd H r (.ins a.c_Walk dx [("deeds", d), ("room", .int m)])) l (.lst [])) r (.ins a.c_Walk dx [("deeds", d), ("room", .int m), ("told", .ref l)]))
  rw [e]
  exact q l hlH

theorem ok_room (T : Tx K mg a) : FnOk P w K mg base CX0 1 a.f_take_room a.d_take_room ["walk", "many"] (spRoom a.c_Walk) := by
  refine T.F_take_room.ok sc_take_room (fun vs H Q E h => ?_) (fun cdv A outer s H vs Q E hr h => ?_)
  · obtain ⟨_, _, _, _, _, _, rfl, _⟩ := h; rfl
  obtain ⟨wk, l, dx, dl, m, room, rfl, h0, hm, q⟩ := h
  refine ⟨_, (pss_cons (ps_if (pt_cmpR op_gt (pv 1) (pe_fld (pv 0) rfl) (nomark _))
    (pss_one ps_never)
    pss_nil)
    (pss_one (ps_fldaug (pv 0) (pv 1) in_sub))), ?_⟩
  refine ⟨_, rfl, _, rfl, wk, _, dx, _, _, rfl, h0, T.cl_Walk, T.n_Walk_room, rfl, _, _, rfl, rfl, _, rfl, iteE (v := false) (decide_eq_false (by omega)) (iteF ?_)⟩
  refine ⟨_, rfl, wk, _, dx, _, _, rfl, h0, T.cl_Walk, T.n_Walk_room, rfl, _, rfl, _, _, rfl, rfl, dx, _, h0, (by show 3 < 1000; decide), ?_⟩
  exact q

theorem ok_among (T : Tx K mg a) : FnOk P w K mg base CX0 1 a.f_deeds_among a.d_deeds_among ["items"] (spAmong) := by
  refine T.F_deeds_among.ok sc_deeds_among (fun vs H Q E h => ?_) (fun cdv A outer s H vs Q E hr h => ?_)
  · obtain ⟨_, _, _, rfl, _⟩ := h; rfl
  obtain ⟨il, xs, f, rfl, hil, fs, xl, q⟩ := h
  refine ⟨_, (pss_one (ps_ret (pe_callB call_len_seq (by rfl) T.z_len bt_len (pa_cons (pe_compB ["k", "inner"] [none, none] (by rfl) (pi_list (pv 0)) c_deeds_among_0 (fun _ _ _ _ _ _ => ⟨(show PG _ _ (gTup K 2 _) from (pg_tup rfl (pgs_cons (pg_name (i := 0) c_deeds_among_0n rfl (Or.inl rfl)) (pgs_cons (pg_name (i := 1) c_deeds_among_0n rfl (Or.inl rfl)) pgs_nil)))), (pts_one (pt_cmpR op_isN (pv 1) pe_non (nomark _))), (pv 0)⟩)) pa_nil)))), ?_⟩
  refine ⟨_, rfl, il, rfl, ⟨_, SqL.of hil⟩, ?_⟩
  refine comp_listG (xs := xs) (fun i zs H' => H' = H ∧ zs.length ≤ i ∧ ∃ g, FsAt H g (xs.drop i) ∧ zs.length + lvs g = lvs f) ⟨rfl, Nat.le_refl _, f, fs, Nat.zero_add _⟩ (szl (by omega)) (fun i zs H' hi pp => ⟨by rw [pp.1]; exact SqL.of hil, pp.2.1⟩) (fun i x zs H' hx pp => ?_) (fun zs H' pp r hr => ?_)
  · obtain ⟨rfl, zl, g, fs, e⟩ := pp
    have dc : xs.drop i = x :: xs.drop (i + 1) := by
      obtain ⟨hh, rfl⟩ := List.getElem?_eq_some_iff.mp hx
      exact List.drop_eq_getElem_cons hh
    rw [dc] at fs
    cases g with
    | nil => cases fs
    | leaf k rest =>
      obtain ⟨t, xs', ex, ht, fs'⟩ := fs
      cases ex
      have e2 : lvs (.leaf k rest) = 1 + lvs rest := rfl
      refine ⟨t, _, rfl, SqT.of ht, rfl, _, _, rfl, _, _, rfl, rfl, outs2 (ρ := []) _ _, ?_⟩
      refine ⟨_, rfl, rfl, _, rfl, iteE (v := true) (decide_eq_true rfl) (iteT ?_)⟩
      refine ⟨_, rfl, rfl, by rw [List.length_append, List.length_singleton]; omega, rest, fs', by rw [List.length_append, List.length_singleton]; omega⟩
    | node k sub rest =>
      obtain ⟨t, l2, ws, xs', ex, ht, hl2, fsub, fs'⟩ := fs
      cases ex
      have e2 : lvs (.node k sub rest) = lvs rest := rfl
      refine ⟨t, _, rfl, SqT.of ht, rfl, _, _, rfl, _, _, rfl, rfl, outs2 (ρ := []) _ _, ?_⟩
      refine ⟨_, rfl, rfl, _, rfl, iteE (v := false) (decide_eq_false fun z => by cases z) (iteF ?_)⟩
      exact ⟨rfl, by omega, rest, fs', by omega⟩
  obtain ⟨rfl, zl, g, fs, e⟩ := pp
  rw [List.drop_length] at fs
  have el : zs.length = lvs f := by
    cases g with
    | nil => exact e
    | leaf k r => obtain ⟨_, _, z, _⟩ := fs; cases z
    | node k s r => obtain ⟨_, _, _, _, z, _⟩ := fs; cases z
  refine ⟨r, _, rfl, .inl (SqL.of upd_same), ?_⟩
  rw [el]
  exact q _ (same_new hr _)

theorem ok_cntL (T : Tx K mg a) (n : Nat) (G_count_loops : FnOk P w K mg base CX0 (2 * n + 5) a.f_count_loops a.d_count_loops ["walk", "items", "values"] (spCntI a.c_Walk a.c_Deed n)) : FnOk P w K mg base CX0 (2 * n + 6) a.f_count_loop a.d_count_loop ["walk", "k", "items", "values"] (spCntL a.c_Walk a.c_Deed n) := by
  have G_bounds_of := ok_bounds31 (P := P) (w := w) (base := base) T
  have G_deeds_among := ok_among (P := P) (w := w) (base := base) T
  have G_take_room := ok_room (P := P) (w := w) (base := base) T
  refine T.F_count_loop.ok sc_count_loop (fun vs H Q E h => ?_) (fun cdv A outer s H vs Q E hr h => ?_)
  · obtain ⟨_, _, _, _, _, _, _, _, _, _, _, _, _, _, _, rfl, _⟩ := h; rfl
  obtain ⟨wk, l, il, vt, dx, dl, room, HF, Ds, f, k, D, ns, xs, us, rfl, W, ok, hD, hu, hil, fs, xl, fd, isf, nl, ft, hvt, ro, q⟩ := h
  refine ⟨_, (pss_cons (ps_set (i := 4) sc_count_loop.nd rfl (Or.inl rfl) (pe_call G_bounds_of (hr.mono (by omega)) (by rfl) T.m_bounds_of T.F_bounds_of.kp T.b_bounds_of .nil pass0 (pa_cons (pe_ix ix_list (pe_fld (pv 0) rfl) (pv 1) (fun _ _ => rfl)) (pa_cons (pv 3) pa_nil))))
    (pss_cons (ps_set (i := 5) sc_count_loop.nd rfl (Or.inl rfl) (pe_callB (call_max2 rfl) (by rfl) T.z_max bt_max (pa_cons (pe_op op_add (pe_op op_sub (pe_ix ix_tup (pv 4) pe_int (fun _ _ => rfl)) (pe_ix ix_tup (pv 4) pe_int (fun _ _ => rfl))) pe_int) (pa_cons pe_int pa_nil))))
    (pss_cons (ps_set (i := 6) sc_count_loop.nd rfl (Or.inl rfl) (pe_call G_deeds_among (hr.mono (by omega)) (by rfl) T.m_deeds_among T.F_deeds_among.kp T.b_deeds_among .nil pass0 (pa_cons (pv 2) pa_nil)))
    (pss_cons (ps_expr (pe_call G_take_room (hr.mono (by omega)) (by rfl) T.m_take_room T.F_take_room.kp T.b_take_room .nil pass0 (pa_cons (pv 0) (pa_cons (pe_op op_mul (pv 5) (pe_op op_add pe_int (pv 6))) pa_nil))))
    (pss_one (ps_if (pt_cmpR op_lt (pv 6) (pe_callB call_len_seq (by rfl) T.z_len bt_len (pa_cons (pv 2) pa_nil)) (nomark _))
    (pss_one (ps_for PassesOwn.never rfl (pi_range2 (by rfl) T.z_range (pa_cons (pe_ix ix_tup (pv 4) pe_int (fun _ _ => rfl)) (pa_cons (pe_op op_add (pe_ix ix_tup (pv 4) pe_int (fun _ _ => rfl)) pe_int) pa_nil))) (pg_name (i := 7) sc_count_loop.nd rfl (Or.inl rfl))
    (pss_one (ps_expr (pe_call G_count_loops (hr.mono (by omega)) (by rfl) T.m_count_loops T.F_count_loops.kp T.b_count_loops .nil pass0 (pa_cons (pv 0) (pa_cons (pv 2) (pa_cons (pe_op op_catH (pv 3) (pe_tup (pa_cons (pv 7) pa_nil))) pa_nil))))))))
    pss_nil)))))), ?_⟩
  have okD := ok D (List.mem_of_getElem? hD)
  obtain ⟨ys, hys, ay⟩ := W.d.over W.same
  obtain ⟨v, hv, hvo⟩ := ay.get hD
  refine ⟨_, rfl, wk, _, dx, _, _, rfl, W.w, T.cl_Walk, T.n_Walk_deeds, rfl, _, rfl, dl, _, _, _, rfl, rfl, SqL.of hys, atI_nat hv, _, rfl, v, vt, D, us, rfl, hvo, okD, hvt, hu, fun bt H1 e1 hbt => ?_⟩
  have eb : bW Ds k us = bD D us := bW_some hD us
  rw [← eb] at hbt
  obtain ⟨⟨b1, b2, b3, b4⟩, fsub, _⟩ := ft
  have ec : cst (bW Ds) (.node k f .nil) us = wid (bW Ds k us) * (1 + (lvs f : Int)) + (if lvs f < itm f then ((Tn.rng (bW Ds k us).1 (bW Ds k us).2).map fun v => cst (bW Ds) f (us ++ [v])).sum else 0) := Int.add_zero _
  rw [ec] at ro q
  have ewid : wid (bW Ds k us) = if (bW Ds k us).2 - (bW Ds k us).1 + 1 < 0 then 0 else (bW Ds k us).2 - (bW Ds k us).1 + 1 := rfl
  rw [ewid] at ro q
  generalize hlo : (bW Ds k us).1 = lo at hbt b1 b2 fsub ro q
  generalize hhi : (bW Ds k us).2 = hi at hbt b3 b4 fsub ro q
  have W1 := W.over e1
  have l10 : lvs f ≤ 10 := by have := lvs_le f; have := itm_len fs; omega
  dsimp only [gName]
  refine ⟨_, rfl, bt, _, 1, _, rfl, rfl, SqT.of hbt, rfl, _, rfl, bt, _, 0, _, rfl, rfl, SqT.of hbt, rfl, _, _, rfl, rfl, _, _, rfl, rfl, _, _, rfl, ?_⟩
  dsimp only [gName]
  refine ⟨_, rfl, il, xs, f, rfl, W1.same _ _ hil, fs.over W1.same, xl, fun H2 e2 => ?_⟩
  have W2 := W1.over e2
  have hbt2 := e2 _ _ hbt
  have e12 := e1.trans e2
  dsimp only [gName]
  have nnS : 0 ≤ ((Tn.rng lo hi).map fun v => cst (bW Ds) f (us ++ [v])).sum := sum_nn fun x hx => by
    obtain ⟨v, _, rfl⟩ := List.mem_map.mp hx
    exact cst_nn f (us ++ [v])
  generalize hm : (if hi - lo + 1 < 0 then 0 else hi - lo + 1) * (1 + (lvs f : Int)) = m at ro q
  have ml : m ≤ room := by split at ro <;> omega
  refine ⟨_, rfl, _, rfl, _, rfl, _, _, rfl, rfl, _, _, rfl, rfl, .inr ⟨by omega, by omega⟩, wk, l, dx, dl, m, room, ?_, W2.w, ml, ?_⟩
  · rw [← hm]; rfl
  have bw : Bt wk H2 (upd H2 wk (.ins a.c_Walk dx [("deeds", .ref dl), ("room", .int (room - m)), ("told", .ref l)])) := Bt.put
  have ww : WkAt a.c_Walk (upd H2 wk (.ins a.c_Walk dx [("deeds", .ref dl), ("room", .int (room - m)), ("told", .ref l)])) wk (room - m) l dx dl := upd_same
  generalize upd H2 wk (.ins a.c_Walk dx [("deeds", .ref dl), ("room", .int (room - m)), ("told", .ref l)]) = H3 at bw ww
  have W3 := W2.set bw ww
  have nbt : bt ≠ wk := fun z => by have := W2.w; rw [← z] at this; unfold WkAt at this; rw [hbt2] at this; cases this
  have nvt : vt ≠ wk := fun z => by have := W.w; rw [← z] at this; unfold WkAt at this; rw [hvt] at this; cases this
  have hbt3 := bw _ _ nbt hbt2
  have hvt3 := bw _ _ nvt (e12 _ _ hvt)
  have b3w : Bt wk H H3 := (Bt.same e12).trans bw
  refine ⟨_, rfl, _, rfl, il, xs, rfl, .inl (SqL.of (W3.same _ _ hil)), _, _, rfl, rfl, _, rfl, ?_⟩
  rw [itm_len fs]
  by_cases c : lvs f < itm f
  · refine iteE (v := true) (decide_eq_true (by omega)) (iteT ?_)
    rw [if_pos c] at ro q
    refine ⟨_, rfl, bt, _, 0, _, rfl, rfl, SqT.of hbt3, rfl, _, rfl, bt, _, 1, _, rfl, rfl, SqT.of hbt3, rfl, _, _, rfl, rfl, _, _, rfl, ⟨by omega, by omega, by omega, by omega⟩, ?_⟩
    generalize hS : ((Tn.rng lo hi).map fun v => cst (bW Ds) f (us ++ [v])) = S at ro q nnS
    have Snn : ∀ x ∈ S, 0 ≤ x := fun x hx => by
      rw [← hS] at hx
      obtain ⟨v, _, rfl⟩ := List.mem_map.mp hx
      exact cst_nn f (us ++ [v])
    have Sl : S.length = (hi + 1 - lo).toNat := by rw [← hS, List.length_map, Tn.rng_len]
    refine for_range (lo := lo) (n := (hi + 1 - lo).toNat) (fun i σ' H4 => ∃ (o7 : Option V), σ' = [some (.ref wk), some (.int (k : Int)), some (.ref il), some (.ref vt), some (.ref bt), some (.int (if hi - lo + 1 < 0 then 0 else hi - lo + 1)), some (.int (lvs f : Int)), o7] ∧ Bt wk H3 H4 ∧ WkAt a.c_Walk H4 wk (room - m - (S.take i).sum) l dx dl) ⟨_, rfl, fun _ _ _ h => h, by rw [List.take_zero, List.sum_nil, Int.sub_zero]; exact ww⟩ (fun i σ' H4 hi2 pp => ?_) (fun σ' H4 pp => ?_)
    rotate_left
    · obtain ⟨o7, rfl, b4, w4⟩ := pp
      rw [List.take_of_length_le (by omega)] at w4
      exact q _ (b3w.trans b4) (by rw [show room - (m + S.sum) = room - m - S.sum by omega]; exact w4)
    obtain ⟨o7, rfl, b4, w4⟩ := pp
    have si : S[i]? = some (cst (bW Ds) f (us ++ [lo + (i : Int)])) := by rw [← hS, List.getElem?_map, Tn.rng_get hi2]; rfl
    obtain ⟨s1, s2⟩ := sum_at Snn si
    have W4 := W3.set b4 w4
    have hvt4 := b4 _ _ nvt hvt3
    dsimp only [gName]
    refine ⟨_, rfl, _, rfl, _, rfl, _, rfl, szl (by show 1 ≤ 1000000; decide), fun u hu2 => ?_⟩
    have s5 := same_new hu2 (.tup [V.int (lo + (i : Int))])
    refine ⟨vt, u, _, _, rfl, rfl, s5 _ _ hvt4, upd_same, szl (by rw [List.length_map, List.length_singleton]; have := okD.ll; omega), fun p H5 e5 hp => ?_⟩
    have e45 := s5.trans e5
    have hp' : H5 p = some (.tup ((us ++ [lo + (i : Int)]).map V.int)) := by rw [hp, List.map_append]; rfl
    refine ⟨wk, l, il, p, dx, dl, _, HF, Ds, f, ns, xs, us ++ [lo + (i : Int)], rfl, W4.over e45, ok, hil, fs, xl, fd, by rw [List.length_append]; exact isf, nl, fsub _ (by omega) (by omega), hp', by omega, fun H6 b6 w6 => ?_⟩
    exact ⟨_, rfl, (b4.trans (Bt.same e45)).trans b6, by rw [s2, show room - m - ((S.take i).sum + cst (bW Ds) f (us ++ [lo + (i : Int)])) = room - m - (S.take i).sum - cst (bW Ds) f (us ++ [lo + (i : Int)]) by omega]; exact w6⟩
  · refine iteE (v := false) (decide_eq_false (by omega)) (iteF ?_)
    rw [if_neg c] at q
    exact q _ b3w (by rw [show room - (m + 0) = room - m by omega]; exact ww)
theorem ok_cntI (T : Tx K mg a) : ∀ n : Nat, FnOk P w K mg base CX0 (2 * n + 5) a.f_count_loops a.d_count_loops ["walk", "items", "values"] (spCntI a.c_Walk a.c_Deed n)
  | 0 => by
    have no : ∀ vs H Q E, ¬ spCntI a.c_Walk a.c_Deed 0 vs H Q E := fun vs H Q E h => by
      obtain ⟨_, _, _, _, _, _, _, _, _, _, _, _, _, _, _, _, _, _, _, h1, _⟩ := h
      exact Nat.not_lt_zero _ h1
    exact ⟨fun vs H Q E h => absurd h (no vs H Q E), fun A outer s H args us vs Q E _ _ _ _ h => absurd h (no vs H Q E)⟩
  | n + 1 => by
    have G_count_loop := ok_cntL T n (ok_cntI T n)
    refine T.F_count_loops.ok sc_count_loops (fun vs H Q E h => ?_) (fun cdv A outer s H vs Q E hr h => ?_)
    · obtain ⟨_, _, _, _, _, _, _, _, _, _, _, _, _, rfl, _⟩ := h; rfl
    obtain ⟨wk, l, il, vt, dx, dl, room, HF, Ds, f, ns, xs, us, rfl, W, ok, hil, fs, xl, fd, isf, nl, ft, hvt, ro, q⟩ := h
    refine ⟨_, (pss_one (ps_for PassesOwn.never rfl (pi_list (pv 1)) (pg_tup rfl (pgs_cons (pg_name (i := 3) sc_count_loops.nd rfl (Or.inl rfl)) (pgs_cons (pg_name (i := 4) sc_count_loops.nd rfl (Or.inl rfl)) pgs_nil)))
    (pss_one (ps_if (pt_cmpR op_notN (pv 4) pe_non (nomark _))
    (pss_one (ps_expr (pe_call G_count_loop (hr.mono (by omega)) (by rfl) T.m_count_loop T.F_count_loop.kp T.b_count_loop .nil pass0 (pa_cons (pv 0) (pa_cons (pv 3) (pa_cons (pv 4) (pa_cons (pv 2) pa_nil)))))))
    pss_nil)))), ?_⟩
    have eF := W.same
    refine ⟨_, rfl, il, rfl, ⟨_, SqL.of (eF _ _ hil)⟩, ?_⟩
    have nil_w : il ≠ wk := ne_of_none hil W.nw
    have nvt : vt ≠ wk := fun z => by have := W.w; rw [← z] at this; unfold WkAt at this; rw [hvt] at this; cases this
    refine for_list (xs := xs) (fun i σ' H' => ∃ (g : Pw.Fs) (ns' : List Nat) (c : Int) (o3 o4 : Option V), σ' = [some (.ref wk), some (.ref il), some (.ref vt), o3, o4] ∧ Bt wk H H' ∧ WkAt a.c_Walk H' wk (room - c) l dx dl ∧ FsAt HF g (xs.drop i) ∧ fdep g < n + 1 ∧ Pw.IsF (getD Ds) g ns' us.length ∧ ns'.length ≤ 10 ∧ Fit (bW Ds) g us ∧ cst (bW Ds) f us = c + cst (bW Ds) g us) ⟨f, ns, 0, _, _, rfl, fun _ _ _ h => h, by rw [Int.sub_zero]; exact W.w, fs, fd, isf, nl, ft, (Int.zero_add _).symm⟩ (fun i σ' H' _ pp => by obtain ⟨_, _, _, _, _, _, b, _⟩ := pp; exact SqL.of (b _ _ nil_w (eF _ _ hil))) (fun i x σ' H' hx pp => ?_) (fun σ' H' pp => ?_)
    rotate_left
    · obtain ⟨g, ns', c, o3, o4, rfl, b, w', fs, fdg, isg, nlg, ftg, eT⟩ := pp
      rw [List.drop_length] at fs
      cases g with
      | nil =>
        rw [show cst (bW Ds) Pw.Fs.nil us = 0 from rfl, Int.add_zero] at eT
        rw [← eT] at w'
        exact q _ b w'
      | leaf k r => obtain ⟨_, _, z, _⟩ := fs; cases z
      | node k s r => obtain ⟨_, _, _, _, z, _⟩ := fs; cases z
    obtain ⟨g, ns', c, o3, o4, rfl, b, w', fs, fdg, isg, nlg, ftg, eT⟩ := pp
    have dc : xs.drop i = x :: xs.drop (i + 1) := by
      obtain ⟨hh, rfl⟩ := List.getElem?_eq_some_iff.mp hx
      exact List.drop_eq_getElem_cons hh
    rw [dc] at fs
    have W' := W.set b w'
    have eF' := W'.same
    cases g with
    | nil => cases fs
    | leaf k rest =>
      obtain ⟨t, xs', ex, ht, fs'⟩ := fs
      cases ex
      obtain ⟨ns2, aa, rfl, r1, r2, r3⟩ := isg
      refine ⟨t, _, rfl, SqT.of (eF' _ _ ht), rfl, _, _, rfl, _, _, rfl, rfl, ?_⟩
      refine ⟨_, rfl, rfl, _, rfl, iteE (v := false) (ndF rfl) (iteF ?_)⟩
      exact ⟨rest, ns2, c, _, _, rfl, b, w', fs', by have : max 1 (fdep rest) < n + 1 := fdg; omega, r3, by rw [List.length_cons] at nlg; omega, ftg, eT⟩
    | node k sub rest =>
      obtain ⟨t, l2, ws, xs', ex, ht, hl2, fsub, fs'⟩ := fs
      cases ex
      obtain ⟨gg, ns2, aa, rfl, r1, r2, r3, r4, r5, r6⟩ := isg
      obtain ⟨D, hD, rfl⟩ := getD_inv r1
      obtain ⟨f1, f2, f3⟩ := ftg
      have e2 : cst (bW Ds) (.node k sub rest) us = cst (bW Ds) (.node k sub .nil) us + cst (bW Ds) rest us := by
        show _ + cst (bW Ds) rest us = (_ + 0) + cst (bW Ds) rest us
        rw [Int.add_zero]
      have n3 := cst_nn (B := bW Ds) rest us
      have n4 := cst_nn (B := bW Ds) (.node k sub .nil) us
      have wl : ws.length ≤ 10 := by
        have := isf_items r5
        have := itm_len fsub
        rw [List.length_append] at nlg
        omega
      rw [List.length_append] at nlg
      refine ⟨t, _, rfl, SqT.of (eF' _ _ ht), rfl, _, _, rfl, _, _, rfl, rfl, ?_⟩
      refine ⟨_, rfl, rfl, _, rfl, iteE (v := true) (ndT fun z => by cases z) (iteT ?_)⟩
      have fdm : max (fdep sub + 1) (fdep rest) < n + 1 := fdg
      refine ⟨_, rfl, _, rfl, _, rfl, _, rfl, wk, l, l2, vt, dx, dl, room - c, HF, Ds, sub, k, D, k :: gg, ws, us, rfl, W', ok, hD, r2, hl2, fsub, wl, by omega, r5, by omega, ⟨f1, f2, True.intro⟩, b _ _ nvt hvt, by omega, fun H3 b3 w3 => ?_⟩
      exact ⟨rest, ns2, c + cst (bW Ds) (.node k sub .nil) us, _, _, rfl, b.trans b3, by rw [show room - (c + cst (bW Ds) (.node k sub .nil) us) = room - c - cst (bW Ds) (.node k sub .nil) us by omega]; exact w3, fs', by omega, r6, by omega, f3, by omega⟩

theorem ok_every (T : Tx K mg a) : FnOk P w K mg base CX0 16 a.f_every_turn a.d_every_turn ["deeds"] (spEvery a.c_Deed) := by
  have G_Walk_init := ok_winit (P := P) (w := w) (base := base) T
  have G_nested := ok_nested31 (P := P) (w := w) (base := base) T
  have G_tell_items := ok_tellI (P := P) (w := w) (base := base) T 5
  refine T.F_every_turn.ok sc_every_turn (fun vs H Q E h => ?_) (fun cdv A outer s H vs Q E hr h => ?_)
  · obtain ⟨_, _, rfl, _⟩ := h; rfl
  obtain ⟨dl, Ds, rfl, hDo, ok, sm, q⟩ := h
  refine ⟨_, (pss_cons (ps_set (i := 1) sc_every_turn.nd rfl (Or.inl rfl) (pe_make T.mk_Walk G_Walk_init (hr.mono (by omega)) (by rfl) T.mc_Walk T.b_Walk_init .nil pass0 (pa_cons (pv 0) (pa_cons pe_int pa_nil))))
    (pss_cons (ps_expr (pe_call G_tell_items (hr.mono (by omega)) (by rfl) T.m_tell_items T.F_tell_items.kp T.b_tell_items .nil pass0 (pa_cons (pv 1) (pa_cons (pe_call G_nested (hr.mono (by omega)) (by rfl) T.m_nested T.F_nested.kp T.b_nested .nil pass0 (pa_cons (pv 0) pa_nil)) (pa_cons (pe_tup pa_nil) pa_nil)))))
    (pss_one (ps_ret (pe_fld (pv 1) rfl))))), ?_⟩
  refine ⟨_, rfl, ?_⟩
  intro x dx hx hdx hxd
  refine ⟨x, dx, .ref dl, 0, rfl, upd_same, fun l hl => ⟨rfl, ?_⟩⟩
  obtain ⟨hl0, nlx, s1, hl1, hx1⟩ := walk_new (fs := [("deeds", .ref dl), ("room", .int 0), ("told", .ref l)]) hx hdx hl
  dsimp only [gName]
  generalize upd (upd (upd (upd H dx (.own x)) x (.ins a.c_Walk dx [])) l (.lst [])) x (.ins a.c_Walk dx [("deeds", .ref dl), ("room", .int 0), ("told", .ref l)]) = H1 at s1 hl1 hx1
  refine ⟨_, rfl, _, rfl, dl, Ds, rfl, hDo.over s1, ok, fun r H2 f xs e2 hrN hr2 fs isf fd xl => ?_⟩
  obtain ⟨ft, tl4, _⟩ := sm f isf
  refine ⟨szl (by show 0 ≤ 1000000; decide), fun u hu => ?_⟩
  have s3 := same_new hu (.tup [])
  have hu3 : (upd H2 u (.tup [])) u = some (.tup []) := upd_same
  generalize upd H2 u (.tup []) = H3 at s3 hu3
  have e12 := s1.trans e2
  have W : Wk a.c_Walk a.c_Deed H3 (cutH H2 l x) x l 0 Ds := ⟨⟨dx, dl, s3 _ _ (e2 _ _ hx1), hDo.over (cutH_old e12 hl0 hx)⟩, cutH_same.trans s3, cutH_l, cutH_x⟩
  have hil : cutH H2 l x r = some (.lst xs) := by rw [cutH_get (ne_of_none hl1 hrN).symm (ne_of_none hx1 hrN).symm]; exact hr2
  refine ⟨x, l, r, u, 0, cutH H2 l x, Ds, f, List.range Ds.length, xs, [], [], rfl, W, ok.1, hil, fs.over (cutH_new hl1 hx1), by omega, isf, ft, hu3, s3 _ _ (e2 _ _ hl1), by show 0 + (Tn.tl (bW Ds) f []).length ≤ 500000; omega, fun H4 ts b4 hl4 al4 => ?_⟩
  have hx4 := b4 _ _ (Ne.symm nlx) (s3 _ _ (e2 _ _ hx1))
  refine ⟨_, rfl, x, _, dx, _, _, rfl, hx4, T.cl_Walk, T.n_Walk_told, rfl, ?_⟩
  exact q l H4 ts f (fun b o hb => b4 _ _ (ne_of_none hb hl0) (s3 _ _ (e12 _ _ hb))) hl0 hl4 isf al4
theorem ok_turns (T : Tx K mg a) : FnOk P w K mg base CX0 17 a.f_turns a.d_turns ["program", "most"] (spTurns31 a.c_Program a.c_Deed) := by
  have G_Walk_init := ok_winit (P := P) (w := w) (base := base) T
  have G_nested := ok_nested31 (P := P) (w := w) (base := base) T
  have G_take_room := ok_room (P := P) (w := w) (base := base) T
  have G_deeds_among := ok_among (P := P) (w := w) (base := base) T
  have G_count_loops := ok_cntI (P := P) (w := w) (base := base) T 5
  have G_every_turn := ok_every (P := P) (w := w) (base := base) T
  refine T.F_turns.ok sc_turns (fun vs H Q E h => ?_) (fun cdv A outer s H vs Q E hr h => ?_)
  · obtain ⟨_, _, _, _, _, rfl, _⟩ := h; rfl
  obtain ⟨x, dx, dl, sz, Ds, rfl, hx, hDo, ok, sm, q⟩ := h
  refine ⟨_, (pss_cons (ps_set (i := 2) sc_turns.nd rfl (Or.inl rfl) (pe_call G_nested (hr.mono (by omega)) (by rfl) T.m_nested T.F_nested.kp T.b_nested .nil pass0 (pa_cons (pe_fld (pv 0) rfl) pa_nil)))
    (pss_cons (ps_set (i := 3) sc_turns.nd rfl (Or.inl rfl) (pe_make T.mk_Walk G_Walk_init (hr.mono (by omega)) (by rfl) T.mc_Walk T.b_Walk_init .nil pass0 (pa_cons (pe_fld (pv 0) rfl) (pa_cons (pv 1) pa_nil))))
    (pss_cons (ps_expr (pe_call G_take_room (hr.mono (by omega)) (by rfl) T.m_take_room T.F_take_room.kp T.b_take_room .nil pass0 (pa_cons (pv 3) (pa_cons (pe_call G_deeds_among (hr.mono (by omega)) (by rfl) T.m_deeds_among T.F_deeds_among.kp T.b_deeds_among .nil pass0 (pa_cons (pv 2) pa_nil)) pa_nil))))
    (pss_cons (ps_expr (pe_call G_count_loops (hr.mono (by omega)) (by rfl) T.m_count_loops T.F_count_loops.kp T.b_count_loops .nil pass0 (pa_cons (pv 3) (pa_cons (pv 2) (pa_cons (pe_tup pa_nil) pa_nil)))))
    (pss_one (ps_ret (pe_call G_every_turn (hr.mono (by omega)) (by rfl) T.m_every_turn T.F_every_turn.kp T.b_every_turn .nil pass0 (pa_cons (pe_fld (pv 0) rfl) pa_nil)))))))), ?_⟩
  refine ⟨_, rfl, x, _, dx, _, _, rfl, hx, T.cl_Program, T.n_Program_deeds, rfl, dl, Ds, rfl, hDo, ok, fun il H1 f xs e1 hilN hil fs isf fd xl => ?_⟩
  obtain ⟨ft, tl4, cs⟩ := sm f isf
  dsimp only [gName]
  refine ⟨_, rfl, x, _, dx, _, _, rfl, e1 _ _ hx, T.cl_Program, T.n_Program_deeds, rfl, _, rfl, ?_⟩
  intro wk dw hw hdw hwd
  refine ⟨wk, dw, .ref dl, 1000000, rfl, upd_same, fun l hl => ⟨rfl, ?_⟩⟩
  obtain ⟨hl0, nlx, s2, hl1, hw1⟩ := walk_new (fs := [("deeds", .ref dl), ("room", .int 1000000), ("told", .ref l)]) hw hdw hl
  dsimp only [gName]
  generalize upd (upd (upd (upd H1 dw (.own wk)) wk (.ins a.c_Walk dw [])) l (.lst [])) wk (.ins a.c_Walk dw [("deeds", .ref dl), ("room", .int 1000000), ("told", .ref l)]) = H2 at s2 hl1 hw1
  have fs1 := fs.over nw_same
  have c0 := cst_nn (B := bW Ds) f []
  refine ⟨_, rfl, _, rfl, il, xs, f, rfl, s2 _ _ hil, fs1.over s2, xl, fun H3 e3 => ?_⟩
  refine ⟨wk, l, dw, dl, (lvs f : Int), 1000000, rfl, e3 _ _ hw1, by omega, ?_⟩
  have b3 : Bt wk H3 (upd H3 wk (.ins a.c_Walk dw [("deeds", .ref dl), ("room", .int (1000000 - (lvs f : Int))), ("told", .ref l)])) := Bt.put
  have w3 : WkAt a.c_Walk (upd H3 wk (.ins a.c_Walk dw [("deeds", .ref dl), ("room", .int (1000000 - (lvs f : Int))), ("told", .ref l)])) wk (1000000 - (lvs f : Int)) l dw dl := upd_same
  generalize upd H3 wk (.ins a.c_Walk dw [("deeds", .ref dl), ("room", .int (1000000 - (lvs f : Int))), ("told", .ref l)]) = H4 at b3 w3
  have k14 : Same H1 H4 := fun b o h => b3 _ _ (ne_of_none h hw) (e3 _ _ (s2 _ _ h))
  refine ⟨_, rfl, _, rfl, szl (by show 0 ≤ 1000000; decide), fun u hu => ?_⟩
  have s5 := same_new hu (.tup [])
  have hu5 : (upd H4 u (.tup [])) u = some (.tup []) := upd_same
  generalize upd H4 u (.tup []) = H5 at s5 hu5
  have W : Wr a.c_Walk a.c_Deed H5 H1 wk l dw dl (1000000 - (lvs f : Int)) Ds := ⟨s5 _ _ w3, hDo.over e1, k14.trans s5, hw⟩
  refine ⟨wk, l, il, u, dw, dl, _, H1, Ds, f, List.range Ds.length, xs, [], rfl, W, ok.1, hil, fs1, xl, by omega, isf, by rw [List.length_range]; exact ok.2.1, ft, hu5, by omega, fun H6 b6 w6 => ?_⟩
  have k16 : Same H1 H6 := fun b o h => b6 _ _ (ne_of_none h hw) (s5 _ _ (k14 _ _ h))
  have k06 := e1.trans k16
  refine ⟨_, rfl, x, _, dx, _, _, rfl, k06 _ _ hx, T.cl_Program, T.n_Program_deeds, rfl, dl, Ds, rfl, hDo.over k06, ok, sm, fun r H7 ys g e7 hrN hr7 isg al7 => ?_⟩
  exact q r H7 ys g (k06.trans e7) (k06.free hrN) hr7 isg al7

theorem ok_many31 (T : Tx K mg a) : FnOk P w K mg base CX0 2 a.f_l_many a.d_l_many ["_law_script"] (spMany31 K) := by
  have G_l_cell := ok_cell (P := P) (w := w) (base := base) T
  have G_l_mixed := ok_mixed (P := P) (w := w) (base := base) T
  refine T.F_l_many.ok sc_l_many (fun vs H Q E h => ?_) (fun cdv A outer s H vs Q E hr h => ?_)
  · obtain ⟨_, _, rfl, _⟩ := h; rfl
  obtain ⟨p, ns, rfl, hp, h63, q⟩ := h
  refine ⟨_, (pss_one (ps_ret (pe_ix ix_list (pe_lstq (paq_cons pe_int (paq_cons pe_int (paq_cons pe_int (paq_cons pe_int (paq_cons pe_int (paq_cons pe_int (paq_cons pe_int (paq_cons pe_int paq_nil star_C) star_C) star_C) star_C) star_C) star_C) star_C) star_C)) (pe_op op_mod (pe_call G_l_mixed (hr.mono (by omega)) (by rfl) T.m_l_mixed T.F_l_mixed.kp T.b_l_mixed .nil pass0 (pa_cons (pe_call G_l_cell (hr.mono (by omega)) (by rfl) T.m_l_cell T.F_l_cell.kp T.b_l_cell .nil pass0 (pa_cons (pv 0) (pa_cons pe_int pa_nil))) (pa_cons pe_int pa_nil))) pe_int) (fun _ _ => rfl)))), ?_⟩
  refine ⟨szl (by show 8 ≤ 1000000; decide), fun l hl => ?_⟩
  have s1 := same_new hl (.lst [V.int 1, V.int 2, V.int 3, V.int 2, V.int 1, V.int 3, V.int 2, V.int 4])
  refine ⟨_, rfl, p, ns, 0, rfl, s1.seq hp, by decide, by decide, fun c => ⟨c, 1, rfl, _, _, rfl, rfl, (by show (0 : Int) < 8; decide), ?_⟩⟩
  obtain ⟨d, hd, ed⟩ := pickN (L := [1, 2, 3, 2, 1, 3, 2, 4]) (i := mixF c 1 % 8) 8 rfl (Int.emod_nonneg _ (by decide)) (Int.emod_lt_of_pos _ (by decide))
  have hd : 1 ≤ d ∧ d ≤ 4 := by
    simp only [List.mem_cons, List.not_mem_nil, or_false] at hd
    omega
  obtain ⟨n, rfl⟩ : ∃ n : Nat, d = (n : Int) := ⟨d.toNat, by omega⟩
  exact ⟨l, _, _, _, rfl, rfl, SqL.of upd_same, ed, q _ n s1 (by omega) (by omega)⟩

theorem ok_size (T : Tx K mg a) : FnOk P w K mg base CX0 2 a.f_l_size a.d_l_size ["_law_script"] (spSize55 K) := by
  have G_l_cell := ok_cell (P := P) (w := w) (base := base) T
  have G_l_mixed := ok_mixed (P := P) (w := w) (base := base) T
  refine T.F_l_size.ok sc_l_size (fun vs H Q E h => ?_) (fun cdv A outer s H vs Q E hr h => ?_)
  · obtain ⟨_, _, rfl, _⟩ := h; rfl
  obtain ⟨p, ns, rfl, hp, h63, q⟩ := h
  refine ⟨_, (pss_cons (ps_set (i := 1) sc_l_size.nd rfl (Or.inl rfl) (pe_call G_l_cell (hr.mono (by omega)) (by rfl) T.m_l_cell T.F_l_cell.kp T.b_l_cell .nil pass0 (pa_cons (pv 0) (pa_cons pe_int pa_nil))))
    (pss_one (ps_ret (pe_ix ix_list (pe_lst (pa_cons (pe_op op_add pe_int (pe_op op_mod (pv 1) pe_int)) (pa_cons (pe_op op_add pe_int (pe_op op_mod (pv 1) (pe_op op_sub (pe_op op_pow pe_int pe_int) pe_int))) pa_nil))) (pe_op op_mod (pe_call G_l_mixed (hr.mono (by omega)) (by rfl) T.m_l_mixed T.F_l_mixed.kp T.b_l_mixed .nil pass0 (pa_cons (pv 1) (pa_cons pe_int pa_nil))) pe_int) (fun _ _ => rfl))))), ?_⟩
  refine ⟨_, rfl, p, ns, 1, rfl, hp, by decide, by decide, fun c => ?_⟩
  dsimp only [gName]
  refine ⟨_, rfl, _, _, rfl, rfl, (by show (0 : Int) < 9; decide), _, _, rfl, rfl, _, rfl, _, _, rfl, rfl, ⟨by decide, by decide, by decide⟩, _, _, rfl, rfl, _, _, rfl, rfl, (by show (0 : Int) < 10 ^ (18 : Int).toNat - 2; decide), _, _, rfl, rfl, szl (by show 2 ≤ 1000000; decide), fun l hl => ?_⟩
  have s1 := same_new hl (.lst [V.int (2 + c % 9), V.int (2 + c % (10 ^ (18 : Int).toNat - 2))])
  refine ⟨_, rfl, c, 0, rfl, _, _, rfl, rfl, (by show (0 : Int) < 2; decide), ?_⟩
  obtain ⟨d, hd, ed⟩ := pickN (L := [2 + c % 9, 2 + c % (10 ^ (18 : Int).toNat - 2)]) (i := mixF c 0 % 2) 2 rfl (Int.emod_nonneg _ (by decide)) (Int.emod_lt_of_pos _ (by decide))
  exact ⟨l, _, _, _, rfl, rfl, SqL.of upd_same, ed, q _ d s1⟩

theorem ok_made31 (T : Tx K mg a) : FnOk P w K mg base CX0 103 a.f_l_made a.d_l_made ["_law_size_here", "_law_rows_here"] (spMade31 a.c_Program a.c_Deed) := by
  have G_Deed_init := ok_dinit (P := P) (w := w) (base := base) T
  have G_Program_init := ok_pini (P := P) (w := w) (base := base) T
  have G_l_object := ok_object (P := P) (w := w) (base := base) T 100
  refine T.F_l_made.ok sc_l_made (fun vs H Q E h => ?_) (fun cdv A outer s H vs Q E hr h => ?_)
  · obtain ⟨_, _, _, rfl, _⟩ := h; rfl
  obtain ⟨n, l, Rs, rfl, ⟨xs, hl, ax⟩, n6, ok, q⟩ := h
  refine ⟨_, (pss_cons (ps_setcompB (i := 2) ["_law_row_here"] [none] sc_l_made.nd rfl (Or.inl rfl) (by rfl) (pi_list (pv 1)) c_l_made_0 (fun _ _ _ _ _ _ => ⟨(pg_name (i := 0) c_l_made_0n rfl (Or.inl rfl)), pts_nil, (pe_make T.mk_Deed G_Deed_init (hr.mono (by omega)) (by rfl) T.mc_Deed T.b_Deed_init .nil pass0 (pa_cons (pe_ix (show IxR _ (rIxT K) from ix_tup) (pv 0) pe_int (fun _ _ => rfl)) (pa_cons (pe_ix (show IxR _ (rIxT K) from ix_tup) (pv 0) pe_int (fun _ _ => rfl)) (pa_cons (pe_ix (show IxR _ (rIxT K) from ix_tup) (pv 0) pe_int (fun _ _ => rfl)) (pa_cons (pe_ix (show IxR _ (rIxT K) from ix_tup) (pv 0) pe_int (fun _ _ => rfl)) (pa_cons (pe_ix (show IxR _ (rIxT K) from ix_tup) (pv 0) pe_int (fun _ _ => rfl)) (pa_cons (pe_call G_l_object (hr.mono (by omega)) (by rfl) T.m_l_object T.F_l_object.kp T.b_l_object .nil pass0 (pa_cons (pe_ix (show IxR _ (rIxT K) from ix_tup) (pv 0) pe_int (fun _ _ => rfl)) pa_nil)) (pa_cons (pe_ix (show IxR _ (rIxT K) from ix_tup) (pv 0) pe_int (fun _ _ => rfl)) pa_nil))))))))⟩))
    (pss_one (ps_ret (pe_make T.mk_Program G_Program_init (hr.mono (by omega)) (by rfl) T.mc_Program T.b_Program_init .nil pass0 (pa_cons (pv 0) (pa_cons (pv 2) pa_nil)))))), ?_⟩
  have xl := ax.1
  refine ⟨_, rfl, l, rfl, ⟨_, SqL.of hl⟩, ?_⟩
  refine comp_list (xs := xs) (fun i ys H' => Same H H' ∧ All2 (D3At a.c_Deed H') ys (Rs.take i)) ⟨Same.refl _, .nil⟩ (szl (by omega)) (fun i ys H' hi pp => ⟨SqL.of (pp.1 _ _ hl), by rw [pp.2.1, List.length_take]; omega⟩) (fun i x ys H' hx pp => ?_) (fun ys H' pp dl hdl => ?_)
  · obtain ⟨e, ay⟩ := pp
    obtain ⟨R, hR, r, u1, u2, u3, u4, x, ls, hs, rfl, hr1, hu1, hu2, als, hu3, ahs, hu4, tm⟩ := ax.get' hx
    have rok := ok R (List.mem_of_getElem? hR)
    have hr1' := e _ _ hr1
    refine ⟨_, rfl, r, _, 0, _, rfl, rfl, SqT.of hr1', rfl, _, rfl, r, _, 1, _, rfl, rfl, SqT.of hr1', rfl, _, rfl, r, _, 2, _, rfl, rfl, SqT.of hr1', rfl, _, rfl, r, _, 3, _, rfl, rfl, SqT.of hr1', rfl, _, rfl, r, _, 4, _, rfl, rfl, SqT.of hr1', rfl, _, rfl, r, _, 5, _, rfl, rfl, SqT.of hr1', rfl, ?_⟩
    refine ⟨x, R.m, R.rs, rfl, by omega, tm.over e, fun y H2 e2 to => ?_⟩
    refine ⟨_, rfl, r, _, 6, _, rfl, rfl, SqT.of (e2 _ _ hr1'), rfl, ?_⟩
    intro d dd hd hdd hne2
    refine ⟨d, dd, _, _, _, _, _, _, _, rfl, upd_same, fun HB kB hdB => ⟨rfl, ?_⟩⟩
    obtain ⟨dxB, hdB⟩ := hdB
    have eAB := made_same hd hdd kB
    have eB := e2.trans eAB
    refine ⟨e.trans eB, ?_⟩
    rw [take_snoc hR]
    exact (ay.mono fun _ _ z => z.over eB).snoc ⟨d, dxB, u1, u2, u3, u4, _, _, _, ls, hs, rfl, hdB, by rw [eB _ _ (e _ _ hu1)]; show some (HO.tup ((nmsOf R.S).map V.str)) = some (HO.tup ((R.S.map lpT).map fun t => V.str t.nm)); unfold nmsOf; rw [List.map_map, List.map_map]; rfl, eB _ _ (e _ _ hu2), all2_map (als.mono fun _ _ z => z.tk (Same.tk (e.trans eB))), eB _ _ (e _ _ hu3), all2_map (ahs.mono fun _ _ z => z.tk (Same.tk (e.trans eB))), eB _ _ (e _ _ hu4)⟩
  obtain ⟨e, ay⟩ := pp
  rw [List.take_of_length_le (by omega)] at ay
  have s1 := same_new hdl (.lst ys)
  have hdl1 : (upd H' dl (.lst ys)) dl = some (.lst ys) := upd_same
  have dl0 := e.free hdl
  dsimp only [gName]
  generalize upd H' dl (.lst ys) = H1 at s1 hdl1
  refine ⟨_, rfl, _, rfl, ?_⟩
  intro x dx hx hdx hxd
  have ntx : dl ≠ x := ne_of_none hdl1 hx
  have ntd : dl ≠ dx := ne_of_none hdl1 hdx
  refine ⟨x, dx, _, dl, ys, rfl, upd_same, SqL.of (by rw [upd_ne ntx, upd_ne ntd]; exact hdl1), fun d5 H6 hd5 k6 hd6 hx6 => ⟨rfl, ?_⟩⟩
  obtain ⟨dx6, hx6⟩ := hx6
  have e6 := made_same hx hdx k6
  have d50 : H d5 = none := by
    have nx5 : d5 ≠ x := fun z => by rw [z, upd_same] at hd5; cases hd5
    rw [upd_ne nx5] at hd5
    by_cases c : d5 = dx
    · rw [c, upd_same] at hd5; cases hd5
    · rw [upd_ne c] at hd5; exact (e.trans s1).free hd5
  exact q x dx6 d5 ys H6 (e.trans (s1.trans e6)) ((e.trans s1).free hx) hx6 d50 hd6 (ay.mono fun _ _ z => z.over (s1.trans e6))

theorem ok_stretched (T : Tx K mg a) : FnOk P w K mg base CX0 2 a.f_l_stretched a.d_l_stretched ["_law_script", "_law_rows_here"] (spStretched K) := by
  have G_l_cell := ok_cell (P := P) (w := w) (base := base) T
  have G_l_mixed := ok_mixed (P := P) (w := w) (base := base) T
  refine T.F_l_stretched.ok sc_l_stretched (fun vs H Q E h => ?_) (fun cdv A outer s H vs Q E hr h => ?_)
  · obtain ⟨_, _, _, _, rfl, _⟩ := h; rfl
  obtain ⟨sc, l, ns, Rs, rfl, hsc, h63, ⟨xs, hl, ax⟩, r0, r4, rok, pr, q⟩ := h
  refine ⟨_, (pss_cons (ps_set (i := 2) sc_l_stretched.nd rfl (Or.inl rfl) (pe_call G_l_mixed (hr.mono (by omega)) (by rfl) T.m_l_mixed T.F_l_mixed.kp T.b_l_mixed .nil pass0 (pa_cons (pe_call G_l_cell (hr.mono (by omega)) (by rfl) T.m_l_cell T.F_l_cell.kp T.b_l_cell .nil pass0 (pa_cons (pv 0) (pa_cons pe_int pa_nil))) (pa_cons pe_int pa_nil))))
    (pss_cons (ps_set (i := 3) sc_l_stretched.nd rfl (Or.inl rfl) (pe_ix ix_list (pv 1) pe_int (fun _ _ => rfl)))
    (pss_cons (ps_if (PW.pt (pw_or (pt_cmpR op_ne (pe_op op_mod (pv 2) pe_int) pe_int (nomark _)) (pw_or1 (pt_cmpR op_ne (pe_callB call_len_seq (by rfl) T.z_len bt_len (pa_cons (pe_ix ix_tup (pv 3) pe_int (fun _ _ => rfl)) pa_nil)) pe_int (nomark _)))))
    (pss_one (ps_ret (pv 1)))
    pss_nil)
    (pss_cons (ps_set (i := 4) sc_l_stretched.nd rfl (Or.inl rfl) (pe_tup (pa_cons pe_str (pa_cons (pe_op op_add (pe_op op_add (pe_ix ix_tup (pe_ix ix_tup (pe_ix ix_tup (pv 3) pe_int (fun _ _ => rfl)) pe_int (fun _ _ => rfl)) pe_int (fun _ _ => rfl)) pe_int) (pe_op op_mod (pe_op op_fdiv (pv 2) pe_int) pe_int)) pa_nil))))
    (pss_one (ps_ret (pe_lst (pa_cons (pe_tupq (paq_cons (pe_ix ix_tup (pv 3) pe_int (fun _ _ => rfl)) (paq_cons (pe_ix ix_tup (pv 3) pe_int (fun _ _ => rfl)) (paq_cons (pe_tup (pa_cons (pv 4) pa_nil)) (paq_cons (pe_ix ix_tup (pv 3) pe_int (fun _ _ => rfl)) (paq_cons (pe_ix ix_tup (pv 3) pe_int (fun _ _ => rfl)) (paq_cons (pe_ix ix_tup (pv 3) pe_int (fun _ _ => rfl)) (paq_cons (pe_ix ix_tup (pv 3) pe_int (fun _ _ => rfl)) paq_nil star_S) star_S) star_S) star_S) star_T) star_S) star_S)) pa_nil)))))))), ?_⟩
  refine ⟨_, rfl, sc, ns, 2, rfl, hsc, by decide, by decide, fun c => ⟨c, 21, rfl, ?_⟩⟩
  dsimp only [gName]
  generalize mixF c 21 = n
  have hR : Rs[0]? = some Rs[0] := List.getElem?_eq_getElem r0
  generalize Rs[0] = R at hR
  have rokR := rok R (List.mem_of_getElem? hR)
  obtain ⟨v, hv, r, u1, u2, u3, u4, x, ls, hs, rfl, hr1, hu1, hu2, als, hu3, ahs, hu4, tm⟩ := ax.get hR
  refine ⟨_, rfl, l, _, 0, _, rfl, rfl, SqL.of hl, atI_nat (j := 0) hv, ?_⟩
  dsimp only [gName]
  have keep : Q (.ref l) H := q l H Rs (Same.refl _) ⟨xs, hl, ax⟩ (gw_of rok pr r0 r4)
  refine ⟨_, rfl, _, _, rfl, rfl, (by show (0 : Int) < 3; decide), rfl, _, rfl, ?_⟩
  by_cases c1 : n % 3 = 1
  · refine iteE (v := false) (ndF (congrArg V.int c1)) (iteF ?_)
    refine ⟨_, rfl, r, _, 0, _, rfl, rfl, SqT.of hr1, rfl, u1, _, rfl, .inr (SqT.of hu1), rfl, _, rfl, ?_⟩
    have nl : ((nmsOf R.S).map V.str).length = R.S.length := by unfold nmsOf; rw [List.length_map, List.length_map]
    rw [nl]
    by_cases c2 : R.S.length = 1
    · refine iteE (v := false) (ndF (congrArg (fun m : Nat => V.int (m : Int)) c2)) (iteF ?_)
      obtain ⟨qq, hS⟩ : ∃ qq, R.S = [qq] := List.length_eq_one_iff.mp c2
      rw [hS] at als
      obtain ⟨v1, hv1, t, rfl, ht⟩ := als.get (i := 0) (a := qq) rfl
      have x0 := Int.emod_nonneg (n / 3) (show (60 : Int) ≠ 0 by decide)
      have x1 := Int.emod_lt_of_pos (n / 3) (show (0 : Int) < 60 by decide)
      refine ⟨_, rfl, r, _, 1, _, rfl, rfl, SqT.of hr1, rfl, u2, _, 0, _, rfl, rfl, SqT.of hu2, atI_nat (j := 0) hv1, t, _, 1, _, rfl, rfl, SqT.of ht, rfl, _, _, rfl, rfl, _, rfl, _, _, rfl, rfl, ⟨by decide, by decide⟩, _, _, rfl, rfl, (by show (0 : Int) < 60; decide), _, _, rfl, rfl, szl (by show 2 ≤ 1000000; decide), fun hh hhh => ?_⟩
      have s1 := same_new hhh (.tup [V.str "", V.int (qq.ln + 40 + n / 3 % 60)])
      have hh1 : (upd H hh (.tup [V.str "", V.int (qq.ln + 40 + n / 3 % 60)])) hh = some (.tup [V.str "", V.int (qq.ln + 40 + n / 3 % 60)]) := upd_same
      dsimp only [gName]
      generalize upd H hh (.tup [V.str "", V.int (qq.ln + 40 + n / 3 % 60)]) = H1 at s1 hh1
      have g1 := s1 _ _ hr1
      refine ⟨_, rfl, r, _, 0, _, rfl, rfl, SqT.of g1, rfl, _, rfl, r, _, 1, _, rfl, rfl, SqT.of g1, rfl, _, rfl, szl (by show 1 ≤ 1000000; decide), fun u hu => ?_⟩
      have s2 := same_new hu (.tup [V.ref hh])
      have hu' : (upd H1 u (.tup [V.ref hh])) u = some (.tup [V.ref hh]) := upd_same
      generalize upd H1 u (.tup [V.ref hh]) = H2 at s2 hu'
      have g2 := s2 _ _ g1
      refine ⟨_, rfl, r, _, 3, _, rfl, rfl, SqT.of g2, rfl, _, rfl, r, _, 4, _, rfl, rfl, SqT.of g2, rfl, _, rfl, r, _, 5, _, rfl, rfl, SqT.of g2, rfl, _, rfl, r, _, 6, _, rfl, rfl, SqT.of g2, rfl, szl (by show 7 ≤ 1000000; decide), fun rr hrr => ⟨szl (by show 1 ≤ 1000000; decide), fun ll hll => ?_⟩⟩
      have s3 := (same_new hrr (.tup [V.ref u1, V.ref u2, V.ref u, V.str R.z, V.ref R.p, x, V.ref u4])).trans (same_new hll (.lst [V.ref rr]))
      have e := s1.trans (s2.trans s3)
      refine q ll _ [R.long qq (n / 3 % 60)] e ⟨_, upd_same, .one ⟨rr, u1, u2, u, u4, x, ls, [.ref hh], rfl, same_new hll _ _ _ upd_same, ?_, e _ _ hu2, ?_, s3 _ _ hu', .one ⟨hh, rfl, (s2.trans s3) _ _ hh1⟩, e _ _ hu4, tm.over e⟩⟩ (gw_long rokR hS x0 (by omega))
      · rw [e _ _ hu1, hS]; rfl
      · refine ⟨als.1, fun i v w hv' hw => ?_⟩
        match i, hw with
        | 0, hw =>
          cases hw
          rw [hv1] at hv'
          cases hv'
          exact ⟨t, rfl, e _ _ ht⟩
        | i + 1, hw => cases hw
    · refine iteE (v := true) (ndT fun z => c2 (by have := V.int.inj z; omega)) (iteT ?_)
      exact ⟨_, rfl, keep⟩
  · refine iteE (v := true) (ndT fun z => c1 (V.int.inj z)) (iteT ?_)
    exact ⟨_, rfl, keep⟩

theorem ok_around (T : Tx K mg a) : FnOk P w K mg base CX0 1 a.f_l_around a.d_l_around ["_law_names", "_law_values"] spAround := by
  refine T.F_l_around.ok sc_l_around (fun vs H Q E h => ?_) (fun cdv A outer s H vs Q E hr h => ?_)
  · obtain ⟨_, _, _, _, rfl, _⟩ := h; rfl
  obtain ⟨nm, vt, zs, W, rfl, hn, hv, hle, hl, nd, q⟩ := h
  refine ⟨_, (pss_cons (ps_set (i := 2) sc_l_around.nd rfl (Or.inl rfl) pe_dnewK)
    (pss_cons (ps_for PassesOwn.never rfl (pi_zipT (by rfl) T.z_zip (pa_cons (pv 0) (pa_cons (pv 1) pa_nil))) (pg_tup rfl (pgs_cons (pg_name (i := 3) sc_l_around.nd rfl (Or.inl rfl)) (pgs_cons (pg_name (i := 4) sc_l_around.nd rfl (Or.inl rfl)) pgs_nil)))
    (pss_one (ps_dput (hu_of hr) (pv 2) (pv 3) (pv 4) rfl)))
    (pss_one (ps_ret (pv 2))))), ?_⟩
  intro d hd
  have e1 := same_new hd (.dK [])
  have hd1 : (upd H d (.dK [])) d = some (.dK []) := upd_same
  dsimp only [gName]
  generalize upd H d (.dK []) = H1 at e1 hd1
  refine ⟨_, rfl, _, rfl, nm, vt, rfl, ⟨_, SqT.of (e1 _ _ hn)⟩, ⟨_, SqT.of (e1 _ _ hv)⟩, ?_⟩
  refine for_zipU (xs := zs.map V.str) (ys := W.map V.int) (by rw [List.length_map, List.length_map]; exact hle) (fun i σ' H' => Same H H' ∧ (∃ o3 o4, σ' = [some (.ref nm), some (.ref vt), some (.ref d), o3, o4]) ∧ ∃ kvs : List (Key × V), H' d = some (.dK kvs) ∧ kvs.length ≤ i ∧ ∀ (j : Nat) (z : Str), j < i → zs[j]? = some z → valV kvs (Sum.inr z : Key) = some (.int (W.getD j 0))) ⟨e1, ⟨_, _, rfl⟩, [], hd1, Nat.le_refl _, fun j z hj => by omega⟩ (fun i σ' H' _ pp => ⟨SqT.of (pp.1 _ _ hn), SqT.of (pp.1 _ _ hv)⟩) (fun i x y Tt σ' H' hx hy pp hT => ?_) (fun σ' H' pp => ?_)
  · obtain ⟨e, ⟨o3, o4, rfl⟩, kvs, hk, kl, kv⟩ := pp
    rw [List.getElem?_map] at hx hy
    obtain ⟨z, hz, rfl⟩ := Option.map_eq_some_iff.mp hx
    obtain ⟨n, hn', rfl⟩ := Option.map_eq_some_iff.mp hy
    have sT := same_new hT (.tup [V.str z, V.int n])
    have hk2 := sT _ _ hk
    have hi := (List.getElem?_eq_some_iff.mp hn').1
    refine ⟨Tt, _, rfl, SqT.of upd_same, rfl, _, _, rfl, _, _, rfl, rfl, ?_⟩
    refine ⟨_, rfl, _, rfl, _, rfl, d, _, rfl, DPut.k (k := Sum.inr z) hk2 (szlt (by omega)), ?_⟩
    refine ⟨fun a o ha => by rw [upd_ne (ne_of_none ha hd)]; exact sT _ _ (e _ _ ha), ⟨_, _, rfl⟩, _, upd_same, Nat.le_trans len_put (by omega), fun j z' hj hz' => ?_⟩
    by_cases c : j = i
    · subst c
      rw [hz] at hz'
      cases hz'
      rw [valV_put, if_pos rfl, List.getD_eq_getElem?_getD, hn']
      rfl
    · rw [valV_put, if_neg (fun w => ?_)]
      · exact kv j z' (by omega) hz'
      · have w := Sum.inr.inj w
        subst w
        obtain ⟨l1, a1⟩ := List.getElem?_eq_some_iff.mp hz'
        obtain ⟨l2, a2⟩ := List.getElem?_eq_some_iff.mp hz
        exact List.pairwise_iff_getElem.mp nd j i l1 l2 (by omega) (by rw [a1, a2])
  · obtain ⟨e, ⟨o3, o4, rfl⟩, kvs, hk, kl, kv⟩ := pp
    rw [List.length_map] at kv
    exact ⟨_, rfl, q d kvs _ e hk kv⟩

theorem ok_stand31 (T : Tx K mg a) : FnOk P w K mg base CX0 1 a.f_l_stand a.d_l_stand ["_law_spots_here", "_law_around_here"] spStand52 := by
  refine T.F_l_stand.ok sc_l_stand (fun vs H Q E h => ?_) (fun cdv A outer s H vs Q E hr h => ?_)
  · obtain ⟨_, _, _, _, _, _, _, _, _, _, _, rfl, _⟩ := h; rfl
  obtain ⟨sp, d, t1, t2, z1, z2, n1, n2, b1, b2, kvs, rfl, hs, h1, h2, hd, hb1, hb2, q⟩ := h
  refine ⟨_, (pss_cons (ps_set (i := 2) sc_l_stand.nd rfl (Or.inl rfl) (pe_lst pa_nil))
    (pss_cons (ps_for PassesOwn.never rfl (pi_tup (pv 0)) (pg_tup rfl (pgs_cons (pg_name (i := 3) sc_l_stand.nd rfl (Or.inl rfl)) (pgs_cons (pg_name (i := 4) sc_l_stand.nd rfl (Or.inl rfl)) pgs_nil)))
    (pss_one (ps_if (pt_cmpR op_eq (pv 3) pe_str (nomark _))
    (pss_one (ps_expr (pe_bm PySem.F.plainAttrs_list PySem.F.slot_list_append PySem.F.type_list_append mt_append (pv 2) (pa_cons (pv 4) pa_nil))))
    (pss_one (ps_expr (pe_bm PySem.F.plainAttrs_list PySem.F.slot_list_append PySem.F.type_list_append mt_append (pv 2) (pa_cons (pe_op op_add (pe_dget (hu_of hr) (pv 1) (pv 3) (fun _ _ => rfl)) (pv 4)) pa_nil)))))))
    (pss_one (ps_ret (pe_callTy call_tuple_of (by rfl) T.z_tuple bt_tuple (pa_cons (pv 2) pa_nil)))))), ?_⟩
  refine ⟨szl (by show 0 ≤ 1000000; decide), fun l hl => ?_⟩
  have e1 := same_new hl (.lst [])
  have hl1 : (upd H l (.lst [])) l = some (.lst []) := upd_same
  dsimp only [gName]
  generalize upd H l (.lst []) = H1 at e1 hl1
  refine ⟨_, rfl, sp, rfl, ⟨_, SqT.of (e1 _ _ hs)⟩, ?_⟩
  refine for_tup (xs := [V.ref t1, V.ref t2]) (fun i σ' H' => Same H H' ∧ (∃ o3 o4, σ' = [some (.ref sp), some (.ref d), some (.ref l), o3, o4]) ∧ H' l = some (.lst ([V.int (b1 + n1), V.int (b2 + n2)].take i))) ⟨e1, ⟨_, _, rfl⟩, hl1⟩ (fun i σ' H' _ pp => SqT.of (pp.1 _ _ hs)) (fun i x σ' H' hx pp => ?_) (fun σ' H' pp => ?_)
  · obtain ⟨e, ⟨o3, o4, rfl⟩, hl'⟩ := pp
    obtain ⟨t, z, n, b, xs, rfl, ht, hb, hl', hx2, hxs⟩ : ∃ (t : Addr) (z : Str) (n b : Int) (xs : List V), x = .ref t ∧ H t = some (.tup [.str z, .int n]) ∧ StB kvs z b ∧ H' l = some (.lst xs) ∧ xs.length ≤ 2 ∧ xs ++ [V.int (b + n)] = [V.int (b1 + n1), V.int (b2 + n2)].take (i + 1) := by
      match i, hx with
      | 0, hx => exact ⟨t1, z1, n1, b1, [], by cases hx; rfl, h1, hb1, hl', Nat.zero_le _, rfl⟩
      | 1, hx => exact ⟨t2, z2, n2, b2, [V.int (b1 + n1)], by cases hx; rfl, h2, hb2, hl', by simp, rfl⟩
      | i + 2, hx => simp at hx
    refine ⟨t, _, rfl, SqT.of (e _ _ ht), rfl, _, _, rfl, _, _, rfl, rfl, ?_⟩
    refine ⟨_, rfl, rfl, _, rfl, ?_⟩
    rcases hb with ⟨rfl, rfl⟩ | ⟨hz, hv⟩
    · refine iteE (v := true) (decide_eq_true rfl) (iteT ?_)
      refine ⟨_, rfl, .inl ⟨rfl, _, SqL.of hl'⟩, _, rfl, l, _, _, rfl, rfl, hl', szlt (by omega), ?_⟩
      rw [Int.zero_add] at hxs
      exact ⟨fun a o ha => by rw [upd_ne (ne_of_none ha hl)]; exact e _ _ ha, ⟨_, _, rfl⟩, by rw [upd_same, hxs]⟩
    · refine iteE (v := false) (dS hz) (iteF ?_)
      refine ⟨_, rfl, .inl ⟨rfl, _, SqL.of hl'⟩, _, rfl, _, rfl, d, _, rfl, (show DGet H' d (kV (Sum.inr z)) _ from hv ▸ DGet.k (e _ _ hd)), _, rfl, _, _, rfl, rfl, l, _, _, rfl, rfl, hl', szlt (by omega), ?_⟩
      exact ⟨fun a o ha => by rw [upd_ne (ne_of_none ha hl)]; exact e _ _ ha, ⟨_, _, rfl⟩, by rw [upd_same, hxs]⟩
  · obtain ⟨e, ⟨o3, o4, rfl⟩, hl'⟩ := pp
    refine ⟨_, rfl, l, _, rfl, .inl ⟨SqL.of hl', fun t ht => ?_⟩⟩
    exact q t _ (e.trans (same_new ht _)) upd_same

theorem ok_isturn (T : Tx K mg a) : FnOk P w K mg base CX0 3 a.f_l_is_turn a.d_l_is_turn ["_law_turn", "_law_rows_here"] (spIsTurn) := by
  have G_l_whole := ok_whole (P := P) (w := w) (base := base) T
  have G_l_around := ok_around (P := P) (w := w) (base := base) T
  have G_l_stand := ok_stand31 (P := P) (w := w) (base := base) T
  refine T.F_l_is_turn.ok sc_l_is_turn (fun vs H Q E h => ?_) (fun cdv A outer s H vs Q E hr h => ?_)
  · obtain ⟨_, _, _, _, _, _, rfl, _⟩ := h; rfl
  obtain ⟨v, rl, Rs, R, k, ws, rfl, ⟨t, u, rfl, ht, hu⟩, ⟨xs, hrl, ax⟩, R10, hk, rg, ⟨wl, wb⟩, q⟩ := h
  refine ⟨_, (pss_cons (ps_if (PW.pt (pw_or (pt_not (pt_val (pe_callB call_isi (by rfl) T.z_isinstance bt_isinstance (pa_cons (pv 0) (pa_cons (pe_bltn (v := .ty "tuple") (by rfl) T.z_tuple bt_tuple rfl) pa_nil))))) (pw_or (pt_cmpR op_ne (pe_callB call_len_seq (by rfl) T.z_len bt_len (pa_cons (pv 0) pa_nil)) pe_int (nomark _)) (pw_or (pt_not (pt_val (pe_call G_l_whole (hr.mono (by omega)) (by rfl) T.m_l_whole T.F_l_whole.kp T.b_l_whole .nil pass0 (pa_cons (pe_ix ix_tup (pv 0) pe_int (fun _ _ => rfl)) pa_nil)))) (pw_or1 (pt_not (pt_chain op_le op_lt pe_int (pe_ix ix_tup (pv 0) pe_int (fun _ _ => rfl)) (pe_callB call_len_seq (by rfl) T.z_len bt_len (pa_cons (pv 1) pa_nil)))))))))
    (pss_one (ps_ret pe_bl))
    pss_nil)
    (pss_cons (ps_set (i := 2) sc_l_is_turn.nd rfl (Or.inl rfl) (pe_ix ix_list (pv 1) (pe_ix ix_tup (pv 0) pe_int (fun _ _ => rfl)) (fun _ _ => rfl)))
    (pss_cons (ps_if (PW.pt (pw_or (pt_not (pt_val (pe_callB call_isi (by rfl) T.z_isinstance bt_isinstance (pa_cons (pe_ix ix_tup (pv 0) pe_int (fun _ _ => rfl)) (pa_cons (pe_bltn (v := .ty "tuple") (by rfl) T.z_tuple bt_tuple rfl) pa_nil))))) (pw_or1 (pt_cmpR op_ne (pe_callB call_len_seq (by rfl) T.z_len bt_len (pa_cons (pe_ix ix_tup (pv 0) pe_int (fun _ _ => rfl)) pa_nil)) (pe_callB call_len_seq (by rfl) T.z_len bt_len (pa_cons (pe_ix ix_tup (pv 2) pe_int (fun _ _ => rfl)) pa_nil)) (nomark _)))))
    (pss_one (ps_ret pe_bl))
    pss_nil)
    (pss_cons (ps_for PassesOwn.never rfl (pi_range1 (by rfl) T.z_range (pa_cons (pe_callB call_len_seq (by rfl) T.z_len bt_len (pa_cons (pe_ix ix_tup (pv 2) pe_int (fun _ _ => rfl)) pa_nil)) pa_nil)) (pg_name (i := 3) sc_l_is_turn.nd rfl (Or.inl rfl))
    (pss_cons (ps_asg (pe_call G_l_stand (hr.mono (by omega)) (by rfl) T.m_l_stand T.F_l_stand.kp T.b_l_stand .nil pass0 (pa_cons (pe_tup (pa_cons (pe_ix ix_tup (pe_ix ix_tup (pv 2) pe_int (fun _ _ => rfl)) (pv 3) (fun _ _ => rfl)) (pa_cons (pe_ix ix_tup (pe_ix ix_tup (pv 2) pe_int (fun _ _ => rfl)) (pv 3) (fun _ _ => rfl)) pa_nil))) (pa_cons (pe_call G_l_around (hr.mono (by omega)) (by rfl) T.m_l_around T.F_l_around.kp T.b_l_around .nil pass0 (pa_cons (pe_ix ix_tup (pv 2) pe_int (fun _ _ => rfl)) (pa_cons (pe_slice sl_tupH (pe_ix ix_tup (pv 0) pe_int (fun _ _ => rfl)) po_none (po_some (pv 3))) pa_nil))) pa_nil))) (pg_tup rfl (pgs_cons (pg_name (i := 4) sc_l_is_turn.nd rfl (Or.inl rfl)) (pgs_cons (pg_name (i := 5) sc_l_is_turn.nd rfl (Or.inl rfl)) pgs_nil))))
    (pss_one (ps_if (PW.pt (pw_or (pt_not (pt_val (pe_call G_l_whole (hr.mono (by omega)) (by rfl) T.m_l_whole T.F_l_whole.kp T.b_l_whole .nil pass0 (pa_cons (pe_ix ix_tup (pe_ix ix_tup (pv 0) pe_int (fun _ _ => rfl)) (pv 3) (fun _ _ => rfl)) pa_nil)))) (pw_or1 (pt_not (pt_chain op_le op_le (pv 4) (pe_ix ix_tup (pe_ix ix_tup (pv 0) pe_int (fun _ _ => rfl)) (pv 3) (fun _ _ => rfl)) (pv 5))))))
    (pss_one (ps_ret pe_bl))
    pss_nil))))
    (pss_one (ps_ret pe_bl)))))), ?_⟩
  have xl := ax.1
  have kl := (List.getElem?_eq_some_iff.mp hk).1
  obtain ⟨v, hv, r, u1, u2, u3, u4, x, ls, hs, rfl, hr1, hu1, hu2, als, hu3, ahs, hu4, tm⟩ := ax.get hk
  have ll := rg.ll
  have nl : ((nmsOf R.S).map V.str).length = R.S.length := by unfold nmsOf; rw [List.length_map, List.length_map]
  refine ⟨_, rfl, _, _, _, _, _, rfl, rfl, .tup ht, rfl, _, rfl, iteF ?_⟩
  refine ⟨_, rfl, t, _, rfl, .inr (SqT.of ht), rfl, _, rfl, iteE (ndF rfl) (iteF ?_)⟩
  refine ⟨_, rfl, t, _, 0, _, rfl, rfl, SqT.of ht, rfl, .int (k : Int), rfl, rfl, _, rfl, iteF ?_⟩
  refine ⟨_, rfl, t, _, 0, _, rfl, rfl, SqT.of ht, rfl, _, _, rfl, rfl, _, rfl, iteE (v := true) (decide_eq_true (by show (0 : Int) ≤ (k : Int); omega)) (iteT ?_)⟩
  refine ⟨_, rfl, rl, _, rfl, .inl (SqL.of hrl), _, _, rfl, rfl, _, rfl, iteE (v := false) (by rw [decide_eq_true (by show (k : Int) < (xs.length : Int); omega)]; rfl) (iteF ?_)⟩
  dsimp only [tNext]
  refine ⟨_, rfl, _, rfl, t, _, 0, _, rfl, rfl, SqT.of ht, rfl, rl, _, _, _, rfl, rfl, SqL.of hrl, atI_nat hv, ?_⟩
  dsimp only [gName]
  refine ⟨_, rfl, t, _, 1, _, rfl, rfl, SqT.of ht, rfl, _, _, _, _, _, rfl, rfl, .tup hu, rfl, _, rfl, iteF ?_⟩
  refine ⟨_, rfl, t, _, 1, _, rfl, rfl, SqT.of ht, rfl, u, _, rfl, .inr (SqT.of hu), _, rfl, r, _, 0, _, rfl, rfl, SqT.of hr1, rfl, u1, _, rfl, .inr (SqT.of hu1), rfl, _, rfl, iteE (ndF (by rw [nl, List.length_map, wl])) (iteF ?_)⟩
  dsimp only [tNext]
  refine ⟨_, rfl, r, _, 0, _, rfl, rfl, SqT.of hr1, rfl, u1, _, rfl, .inr (SqT.of hu1), _, rfl, by rw [nl]; omega, by rw [nl]; omega, ?_⟩
  rw [nl, Int.toNat_natCast]
  refine for_range (lo := 0) (n := R.S.length) (fun i σ' H' => Same H H' ∧ ∃ o3 o4 o5, σ' = [some (.ref t), some (.ref rl), some (.ref r), o3, o4, o5]) ⟨Same.refl _, _, _, _, rfl⟩ (fun i σ' H' hi pp => ?_) (fun σ' H' pp => ?_)
  rotate_left
  · obtain ⟨e, _⟩ := pp
    exact q _ e
  obtain ⟨e, o3, o4, o5, rfl⟩ := pp
  have hq : R.S[i]? = some R.S[i] := List.getElem?_eq_getElem hi
  generalize R.S[i] = qq at hq
  obtain ⟨v1, hv1, t1, rfl, ht1⟩ := als.get hq
  obtain ⟨v2, hv2, t2, rfl, ht2⟩ := ahs.get hq
  have i0 : (0 : Int) + (i : Int) = (i : Int) := Int.zero_add _
  have g1 := e _ _ hr1
  dsimp only [gName]
  refine ⟨_, rfl, r, _, 1, _, rfl, rfl, SqT.of g1, rfl, _, rfl, u2, _, _, _, rfl, rfl, SqT.of (e _ _ hu2), by rw [i0]; exact atI_nat hv1, _, rfl, r, _, 2, _, rfl, rfl, SqT.of g1, rfl, _, rfl, u3, _, _, _, rfl, rfl, SqT.of (e _ _ hu3), by rw [i0]; exact atI_nat hv2, szl (by show 2 ≤ 1000000; decide), fun sp hsp => ?_⟩
  have s1 := same_new hsp (.tup [V.ref t1, V.ref t2])
  have hsp1 : (upd H' sp (.tup [V.ref t1, V.ref t2])) sp = some (.tup [V.ref t1, V.ref t2]) := upd_same
  generalize upd H' sp (.tup [V.ref t1, V.ref t2]) = H1 at s1 hsp1
  have e1 := e.trans s1
  refine ⟨_, rfl, r, _, 0, _, rfl, rfl, SqT.of (e1 _ _ hr1), rfl, _, rfl, t, _, 1, _, rfl, rfl, SqT.of (e1 _ _ ht), rfl, _, rfl, _, rfl, u, _, rfl, e1 _ _ hu, fun sl H2 e2 hsl => ?_⟩
  have cut : cutV (ws.map V.int) none (some (0 + (i : Int))) = (ws.take i).map V.int := by
    rw [i0, show cutV (ws.map V.int) none (some (i : Int)) = (ws.map V.int).take (i : Int).toNat from cut_to (ws.map V.int) (Int.natCast_nonneg _), Int.toNat_natCast, List.map_take]
  rw [cut] at hsl
  have e12 := e1.trans e2
  have tl : (ws.take i).length = i := by rw [List.length_take]; omega
  have nml : (nmsOf R.S).length = R.S.length := by unfold nmsOf; rw [List.length_map]
  refine ⟨u1, sl, nmsOf R.S, ws.take i, rfl, e12 _ _ hu1, hsl, by omega, by omega, rg.nd, fun d kvs H3 e3 hd3 ar => ?_⟩
  have e13 := e12.trans e3
  obtain ⟨sb1, sb2⟩ := bd_stand rg (us := ws.take i) (q := qq) (by rw [tl]; exact hq) ar
  refine ⟨sp, d, t1, t2, qq.lz, qq.hz, qq.ln, qq.hn, _, _, kvs, rfl, (e2.trans e3) _ _ hsp1, e13 _ _ ht1, e13 _ _ ht2, hd3, sb1, sb2, fun p H4 e4 hp => ?_⟩
  have e14 := e13.trans e4
  have wb' := wb i (by omega)
  generalize bD R.dw (ws.take i) = bb at hp wb'
  rw [Int.sub_add_cancel, Int.sub_add_cancel] at hp
  refine ⟨p, _, rfl, SqT.of hp, rfl, _, _, rfl, _, _, rfl, rfl, ?_⟩
  have atw : atI (ws.map V.int) (0 + (i : Int)) = some (.int (ws.getD i 0)) := by
    rw [i0]
    exact cell_in (ns := ws) (k := (i : Int)) (Int.natCast_nonneg _) (by omega)
  refine ⟨_, rfl, t, _, 1, _, rfl, rfl, SqT.of (e14 _ _ ht), rfl, _, rfl, u, _, _, _, rfl, rfl, SqT.of (e14 _ _ hu), atw, .int _, rfl, rfl, _, rfl, iteF ?_⟩
  refine ⟨_, rfl, _, rfl, t, _, 1, _, rfl, rfl, SqT.of (e14 _ _ ht), rfl, _, rfl, u, _, _, _, rfl, rfl, SqT.of (e14 _ _ hu), atw, _, _, rfl, rfl, _, rfl, iteE (v := true) (decide_eq_true wb'.1) (iteT ?_)⟩
  refine ⟨_, rfl, _, _, rfl, rfl, _, rfl, iteE (v := false) (by rw [decide_eq_true wb'.2]; rfl) (iteF ?_)⟩
  exact ⟨e14, _, _, _, rfl⟩

theorem ok_key31 (T : Tx K mg a) : FnOk P w K mg base CX0 1 a.f_l_key a.d_l_key ["_law_row_here", "_law_values"] (spKey31) := by
  refine T.F_l_key.ok sc_l_key (fun vs H Q E h => ?_) (fun cdv A outer s H vs Q E hr h => ?_)
  · obtain ⟨_, _, _, _, rfl, _⟩ := h; rfl
  obtain ⟨v, t, R, w, rfl, hv, rg, ht, wl, q⟩ := h
  refine ⟨_, (pss_cons (ps_set (i := 2) sc_l_key.nd rfl (Or.inl rfl) (pe_lst pa_nil))
    (pss_cons (ps_for PassesOwn.never rfl (pi_range1 (by rfl) T.z_range (pa_cons (pe_callB call_len_seq (by rfl) T.z_len bt_len (pa_cons (pv 1) pa_nil)) pa_nil)) (pg_name (i := 3) sc_l_key.nd rfl (Or.inl rfl))
    (pss_one (ps_set (i := 2) sc_l_key.nd rfl (Or.inl rfl) (pe_op op_cat (pv 2) (pe_lst (pa_cons (pe_ix ix_tup (pe_ix ix_tup (pv 0) pe_int (fun _ _ => rfl)) (pv 3) (fun _ _ => rfl)) (pa_cons (pe_ix ix_tup (pv 1) (pv 3) (fun _ _ => rfl)) pa_nil)))))))
    (pss_one (ps_ret (pe_callTy call_tuple_of (by rfl) T.z_tuple bt_tuple (pa_cons (pe_op op_cat (pv 2) (pe_lst (pa_cons (pe_ix ix_tup (pe_ix ix_tup (pv 0) pe_int (fun _ _ => rfl)) (pe_callB call_len_seq (by rfl) T.z_len bt_len (pa_cons (pv 1) pa_nil)) (fun _ _ => rfl)) pa_nil))) pa_nil)))))), ?_⟩
  obtain ⟨r, u1, u2, u3, u4, x, ls, hs, rfl, hr1, hu1, hu2, als, hu3, ahs, hu4, tm⟩ := hv
  have pl := rg.pl
  have ll := rg.ll
  refine ⟨szl (by show 0 ≤ 1000000; decide), fun p0 hp0 => ?_⟩
  have s1 := same_new hp0 (.lst [])
  have h1 : (upd H p0 (.lst [])) p0 = some (.lst []) := upd_same
  dsimp only [gName]
  generalize upd H p0 (.lst []) = H1 at s1 h1
  refine ⟨_, rfl, t, _, rfl, .inr (SqT.of (s1 _ _ ht)), _, rfl, by rw [List.length_map]; omega, by rw [List.length_map]; omega, ?_⟩
  rw [List.length_map, Int.toNat_natCast]
  refine for_range (lo := 0) (n := w.length) (fun i σ' H' => ∃ (p : Addr) (o3 : Option V), σ' = [some (.ref r), some (.ref t), some (.ref p), o3] ∧ Same H H' ∧ H' p = some (.lst ((prs2 R.path w i).map V.int))) ⟨p0, _, rfl, s1, h1⟩ (fun i σ' H' hi pp => ?_) (fun σ' H' pp => ?_)
  · obtain ⟨p, o3, rfl, e, hp⟩ := pp
    have a1 : atI (R.path.map V.int) (0 + (i : Int)) = some (.int (R.path.getD i 0)) := by
      rw [Int.zero_add]
      exact cell_in (ns := R.path) (k := (i : Int)) (Int.natCast_nonneg _) (by omega)
    have a2 : atI (w.map V.int) (0 + (i : Int)) = some (.int (w.getD i 0)) := by
      rw [Int.zero_add]
      exact cell_in (ns := w) (k := (i : Int)) (Int.natCast_nonneg _) (by omega)
    dsimp only [gName]
    refine ⟨_, rfl, _, rfl, r, _, 6, _, rfl, rfl, SqT.of (e _ _ hr1), rfl, _, rfl, u4, _, _, _, rfl, rfl, SqT.of (e _ _ hu4), a1, _, rfl, _, rfl, t, _, _, _, rfl, rfl, SqT.of (e _ _ ht), a2, szl (by show 2 ≤ 1000000; decide), fun l2 hl2 => ?_⟩
    have s2 := same_new hl2 (.lst [V.int (R.path.getD i 0), V.int (w.getD i 0)])
    have pl2 := prs2_len (p := R.path) (w := w) i
    refine ⟨p, l2, _, _, rfl, rfl, s2 _ _ hp, upd_same, szl (by rw [List.length_map]; show _ + 2 ≤ _; omega), fun n1 hn1 => ?_⟩
    refine ⟨n1, _, rfl, e.trans (s2.trans (same_new hn1 _)), ?_⟩
    rw [upd_same, prs2_s (by omega) hi, List.map_append]
    rfl
  obtain ⟨p, o3, rfl, e, hp⟩ := pp
  have a1 : atI (R.path.map V.int) (w.length : Int) = some (.int (R.path.getD w.length 0)) := cell_in (ns := R.path) (k := (w.length : Int)) (Int.natCast_nonneg _) (by omega)
  have pl2 := prs2_len (p := R.path) (w := w) w.length
  refine ⟨_, rfl, _, rfl, r, _, 6, _, rfl, rfl, SqT.of (e _ _ hr1), rfl, _, rfl, t, _, rfl, .inr (SqT.of (e _ _ ht)), u4, _, _, _, rfl, rfl, SqT.of (e _ _ hu4), by rw [List.length_map]; exact a1, szl (by show 1 ≤ 1000000; decide), fun l2 hl2 => ?_⟩
  have s2 := same_new hl2 (.lst [V.int (R.path.getD w.length 0)])
  refine ⟨p, l2, _, _, rfl, rfl, s2 _ _ hp, upd_same, szl (by rw [List.length_map]; show _ + 1 ≤ _; omega), fun n1 hn1 => ?_⟩
  have s3 := same_new hn1 (.lst ((prs2 R.path w w.length).map V.int ++ [V.int (R.path.getD w.length 0)]))
  refine ⟨n1, _, rfl, .inl ⟨SqL.of upd_same, fun rr hrr => ?_⟩⟩
  refine q rr _ (e.trans (s2.trans (s3.trans (same_new hrr _)))) ?_
  rw [upd_same, inter_eq (by omega), List.map_append]
  rfl

theorem ok_rising31 (T : Tx K mg a) : FnOk P w K mg base CX0 2 a.f_l_rising a.d_l_rising ["_law_found", "_law_rows_here"] (spRising31) := by
  have G_l_key := ok_key31 (P := P) (w := w) (base := base) T
  refine T.F_l_rising.ok sc_l_rising (fun vs H Q E h => ?_) (fun cdv A outer s H vs Q E hr h => ?_)
  · obtain ⟨_, _, _, _, _, rfl, _⟩ := h; rfl
  obtain ⟨fl, rl, xs, L, Rs, rfl, hfl, ax, L4, ⟨rs, hrl, ar⟩, lk, pw, q⟩ := h
  refine ⟨_, (pss_cons (ps_setcompB (i := 2) ["_law_turn", "_law_rows_here"] [none, some 1] sc_l_rising.nd rfl (Or.inl rfl) (by rfl) (pi_list (pv 0)) c_l_rising_0 (fun _ _ _ _ _ _ => ⟨(pg_name (i := 0) c_l_rising_0n rfl (Or.inl rfl)), pts_nil, (pe_call G_l_key (hr.mono (by omega)) (by rfl) T.m_l_key T.F_l_key.kp T.b_l_key .nil pass0 (pa_cons (pe_ix (show IxR _ (rIxL K) from ix_list) (pv 1) (pe_ix (show IxR _ (rIxT K) from ix_tup) (pv 0) pe_int (fun _ _ => rfl)) (fun _ _ => rfl)) (pa_cons (pe_ix (show IxR _ (rIxT K) from ix_tup) (pv 0) pe_int (fun _ _ => rfl)) pa_nil)))⟩))
    (pss_cons (ps_for PassesOwn.never rfl (pi_zip2 (by rfl) T.z_zip (pa_cons (pe_slice sl_list (pv 2) po_none (po_some (pe_un un_neg pe_int))) (pa_cons (pe_slice sl_list (pv 2) (po_some pe_int) po_none) pa_nil))) (pg_tup rfl (pgs_cons (pg_name (i := 3) sc_l_rising.nd rfl (Or.inl rfl)) (pgs_cons (pg_name (i := 4) sc_l_rising.nd rfl (Or.inl rfl)) pgs_nil)))
    (pss_one (ps_if (pt_not (pt_cmpR (op_ltT (Nat.lt_of_succ_lt (hu_of hr))) (pv 3) (pv 4) (nomark _)))
    (pss_one (ps_ret pe_bl))
    pss_nil)))
    (pss_one (ps_ret pe_bl)))), ?_⟩
  have xl := ax.1
  refine ⟨_, rfl, fl, rfl, ⟨_, SqL.of hfl⟩, ?_⟩
  refine comp_list (xs := xs) (fun i zs H' => Same H H' ∧ All2 (PiAt H') zs ((L.take i).map (keyR Rs))) ⟨Same.refl _, .nil⟩ (szl (by omega)) (fun i zs H' hi pp => ⟨SqL.of (pp.1 _ _ hfl), by rw [pp.2.1, List.length_map, List.length_take]; omega⟩) (fun i x zs H' hx pp => ?_) (fun ys H' pp l hl => ?_)
  · obtain ⟨e, az⟩ := pp
    obtain ⟨⟨k, w⟩, hkw, t, u, rfl, ht, hu⟩ := ax.get' hx
    obtain ⟨R, hR, rg, wl⟩ := lk _ (List.mem_of_getElem? hkw)
    obtain ⟨v, hv, hvR⟩ := ar.get hR
    refine ⟨_, rfl, _, rfl, t, _, 0, _, rfl, rfl, SqT.of (e _ _ ht), rfl, rl, _, _, _, rfl, rfl, SqL.of (e _ _ hrl), atI_nat hv, _, rfl, t, _, 1, _, rfl, rfl, SqT.of (e _ _ ht), rfl, v, u, R, w, rfl, hvR.over e, rg, e _ _ hu, wl, fun r H2 e2 hr2 => ?_⟩
    refine ⟨e.trans e2, ?_⟩
    rw [take_snoc hkw, List.map_append]
    exact (az.mono fun _ _ z => z.over e2).snoc ⟨r, rfl, by rw [hr2, keyR_at hR]⟩
  obtain ⟨e, ay⟩ := pp
  rw [List.take_of_length_le (by omega)] at ay
  have s0 := same_new hl (.lst ys)
  have hl0 : (upd H' l (.lst ys)) l = some (.lst ys) := upd_same
  have e := e.trans s0
  have ay := ay.mono fun _ _ z => z.over s0
  dsimp only [gName]
  generalize upd H' l (.lst ys) = H1 at e hl0 ay
  have yl := ay.1
  rw [List.length_map] at yl
  have c1 : cutV ys none (some (-1)) = ys.take (ys.length - 1) := by
    rcases List.eq_nil_or_concat ys with rfl | ⟨zs, z, rfl⟩
    · rfl
    · rw [List.concat_eq_append]
      rw [show cutV (zs ++ [z]) none (some (-1)) = zs from cutV_neg zs [z] (Nat.succ_pos _) rfl, List.length_append, List.length_singleton, Nat.add_sub_cancel, List.take_left' rfl]
  have c2 : cutV ys (some 1) none = ys.drop 1 := cut_from ys (i := 1) (by decide)
  refine ⟨_, rfl, _, rfl, _, rfl, l, _, rfl, SqL.of hl0, fun l1 hl1 => ?_⟩
  rw [c1]
  have s2 := same_new hl1 (.lst (ys.take (ys.length - 1)))
  refine ⟨_, rfl, _, rfl, l, _, rfl, SqL.of (s2 _ _ hl0), fun l2 hl2 => ?_⟩
  rw [c2]
  have s3 := same_new hl2 (.lst (ys.drop 1))
  have e13 := s2.trans s3
  have hl13 := s3 _ _ (show (upd H1 l1 (.lst (ys.take (ys.length - 1)))) l1 = some (.lst (ys.take (ys.length - 1))) from upd_same)
  have hl23 : (upd (upd H1 l1 (.lst (ys.take (ys.length - 1)))) l2 (.lst (ys.drop 1))) l2 = some (.lst (ys.drop 1)) := upd_same
  generalize upd (upd H1 l1 (.lst (ys.take (ys.length - 1)))) l2 (.lst (ys.drop 1)) = H3 at e13 hl13 hl23
  refine ⟨l1, l2, rfl, ⟨_, SqL.of hl13⟩, ⟨_, SqL.of hl23⟩, ?_⟩
  refine for_zip (xs := ys.take (ys.length - 1)) (ys := ys.drop 1) (by rw [List.length_take, List.length_drop]; omega) (fun i σ' H' => Same H3 H' ∧ ∃ o3 o4, σ' = [some (.ref fl), some (.ref rl), some (.ref l), o3, o4]) ⟨Same.refl _, _, _, rfl⟩ (fun i σ' H' _ pp => ⟨SqL.of (pp.1 _ _ hl13), SqL.of (pp.1 _ _ hl23)⟩) (fun i y z Tt σ' H' hy hz pp hT => ?_) (fun σ' H' pp => ?_)
  · obtain ⟨e4, o3, o4, rfl⟩ := pp
    have li := (List.getElem?_eq_some_iff.mp hy).1
    rw [List.length_take] at li
    rw [List.getElem?_take_of_lt (by omega)] at hy
    rw [List.getElem?_drop, Nat.add_comm] at hz
    have ay4 := ay.mono fun _ _ z => z.over (e13.trans e4)
    obtain ⟨k1, hk1, t, rfl, ht⟩ := ay4.get' hy
    obtain ⟨k2, hk2, u, rfl, hu⟩ := ay4.get' hz
    have lt : HT.lexLt k1 k2 = true := by
      rw [List.getElem?_map] at hk1 hk2
      cases g1 : L[i]? with
      | none => rw [g1] at hk1; cases hk1
      | some p1 =>
        cases g2 : L[i + 1]? with
        | none => rw [g2] at hk2; cases hk2
        | some p2 =>
          rw [g1] at hk1
          rw [g2] at hk2
          cases hk1
          cases hk2
          obtain ⟨b1, f1⟩ := List.getElem?_eq_some_iff.mp g1
          obtain ⟨b2, f2⟩ := List.getElem?_eq_some_iff.mp g2
          have := List.pairwise_iff_getElem.mp pw i (i + 1) b1 b2 (by omega)
          rw [f1, f2] at this
          exact this
    have sT := same_new hT (.tup [V.ref t, V.ref u])
    refine ⟨Tt, _, rfl, SqT.of upd_same, rfl, _, _, rfl, _, _, rfl, rfl, ?_⟩
    refine ⟨_, rfl, _, rfl, t, u, k1, k2, rfl, rfl, SqT.of (sT _ _ ht), SqT.of (sT _ _ hu), _, rfl, ?_⟩
    rw [lt]
    exact iteF ⟨e4.trans sT, _, _, rfl⟩
  · exact q _ (e.trans (e13.trans pp.1))

theorem ok_levels31 (T : Tx K mg a) : FnOk P w K mg base CX0 3 a.f_l_levels a.d_l_levels ["_law_row_here"] (spLevels31) := by
  have G_l_around := ok_around (P := P) (w := w) (base := base) T
  have G_l_stand := ok_stand31 (P := P) (w := w) (base := base) T
  refine T.F_l_levels.ok sc_l_levels (fun vs H Q E h => ?_) (fun cdv A outer s H vs Q E hr h => ?_)
  · obtain ⟨_, _, rfl, _⟩ := h; rfl
  obtain ⟨v, R, rfl, hv, rg, lb, q⟩ := h
  refine ⟨_, (pss_cons (ps_set (i := 1) sc_l_levels.nd rfl (Or.inl rfl) (pe_lst (pa_cons (pe_lst (pa_cons (pe_tup pa_nil) pa_nil)) pa_nil)))
    (pss_cons (ps_for PassesOwn.never rfl (pi_range1 (by rfl) T.z_range (pa_cons (pe_callB call_len_seq (by rfl) T.z_len bt_len (pa_cons (pe_ix ix_tup (pv 0) pe_int (fun _ _ => rfl)) pa_nil)) pa_nil)) (pg_name (i := 2) sc_l_levels.nd rfl (Or.inl rfl))
    (pss_cons (ps_set (i := 3) sc_l_levels.nd rfl (Or.inl rfl) (pe_lst pa_nil))
    (pss_cons (ps_for PassesOwn.never rfl (pi_list (pe_ix ix_list (pv 1) (pe_un un_neg pe_int) (fun _ _ => rfl))) (pg_name (i := 4) sc_l_levels.nd rfl (Or.inl rfl))
    (pss_cons (ps_asg (pe_call G_l_stand (hr.mono (by omega)) (by rfl) T.m_l_stand T.F_l_stand.kp T.b_l_stand .nil pass0 (pa_cons (pe_tup (pa_cons (pe_ix ix_tup (pe_ix ix_tup (pv 0) pe_int (fun _ _ => rfl)) (pv 2) (fun _ _ => rfl)) (pa_cons (pe_ix ix_tup (pe_ix ix_tup (pv 0) pe_int (fun _ _ => rfl)) (pv 2) (fun _ _ => rfl)) pa_nil))) (pa_cons (pe_call G_l_around (hr.mono (by omega)) (by rfl) T.m_l_around T.F_l_around.kp T.b_l_around .nil pass0 (pa_cons (pe_ix ix_tup (pv 0) pe_int (fun _ _ => rfl)) (pa_cons (pv 4) pa_nil))) pa_nil))) (pg_tup rfl (pgs_cons (pg_name (i := 5) sc_l_levels.nd rfl (Or.inl rfl)) (pgs_cons (pg_name (i := 6) sc_l_levels.nd rfl (Or.inl rfl)) pgs_nil))))
    (pss_one (ps_while PassesOwn.never (pt_cmpR op_le (pv 5) (pv 6) (nomark _))
    (pss_cons (ps_expr (pe_bm PySem.F.plainAttrs_list PySem.F.slot_list_append PySem.F.type_list_append mt_append (pv 3) (pa_cons (pe_op op_catH (pv 4) (pe_tup (pa_cons (pv 5) pa_nil))) pa_nil)))
    (pss_one (ps_set (i := 5) sc_l_levels.nd rfl (Or.inl rfl) (pe_op op_add (pv 5) pe_int))))))))
    (pss_one (ps_expr (pe_bm PySem.F.plainAttrs_list PySem.F.slot_list_append PySem.F.type_list_append mt_append (pv 1) (pa_cons (pv 3) pa_nil)))))))
    (pss_one (ps_ret (pv 1))))), ?_⟩
  obtain ⟨r, u1, u2, u3, u4, x, ls, hs, rfl, hr1, hu1, hu2, als, hu3, ahs, hu4, tm⟩ := hv
  have ll := rg.ll
  have nl : ((nmsOf R.S).map V.str).length = R.S.length := by unfold nmsOf; rw [List.length_map, List.length_map]
  have nml : (nmsOf R.S).length = R.S.length := by unfold nmsOf; rw [List.length_map]
  refine ⟨szl (by show 0 ≤ 1000000; decide), fun t0 ht0 => ⟨szl (by show 1 ≤ 1000000; decide), fun l0 hl0 => ⟨szl (by show 1 ≤ 1000000; decide), fun lv hlv => ?_⟩⟩⟩
  have s0 := (same_new ht0 (.tup [])).trans ((same_new hl0 (.lst [V.ref t0])).trans (same_new hlv (.lst [V.ref l0])))
  have k2 : (upd (upd (upd H t0 (.tup [])) l0 (.lst [V.ref t0])) lv (.lst [V.ref l0])) l0 = some (.lst [V.ref t0]) := same_new hlv _ _ _ upd_same
  have k1 : (upd (upd (upd H t0 (.tup [])) l0 (.lst [V.ref t0])) lv (.lst [V.ref l0])) t0 = some (.tup []) := same_new hlv _ _ _ (same_new hl0 _ _ _ upd_same)
  have k3 : (upd (upd (upd H t0 (.tup [])) l0 (.lst [V.ref t0])) lv (.lst [V.ref l0])) lv = some (.lst [V.ref l0]) := upd_same
  have lv0 : H lv = none := ((same_new ht0 (.tup [])).trans (same_new hl0 (.lst [V.ref t0]))).free hlv
  have n0 : l0 ≠ lv := ne_of_none upd_same hlv
  dsimp only [gName]
  generalize upd (upd (upd H t0 (.tup [])) l0 (.lst [V.ref t0])) lv (.lst [V.ref l0]) = H0 at s0 k1 k2 k3
  refine ⟨_, rfl, r, _, 0, _, rfl, rfl, SqT.of (s0 _ _ hr1), rfl, u1, _, rfl, .inr (SqT.of (s0 _ _ hu1)), _, rfl, by rw [nl]; omega, by rw [nl]; omega, ?_⟩
  rw [nl, Int.toNat_natCast]
  refine for_range (lo := 0) (n := R.S.length) (fun i σ' H' => ∃ (l : Addr) (xs ys : List V) (o2 o3 o4 o5 o6 : Option V), σ' = [some (.ref r), some (.ref lv), o2, o3, o4, o5, o6] ∧ Same H H' ∧ H' lv = some (.lst (xs ++ [.ref l])) ∧ l ≠ lv ∧ H' l = some (.lst ys) ∧ All2 (PiAt H') ys (Tn.lv (bD R.dw) i) ∧ xs.length = i) ⟨l0, [], [.ref t0], _, _, _, _, _, rfl, s0, k3, n0, k2, .one ⟨t0, rfl, k1⟩, rfl⟩ (fun i σ' H' hi pp => ?_) (fun σ' H' pp => ?_)
  rotate_left
  · obtain ⟨l, xs, ys, o2, o3, o4, o5, o6, rfl, e, hlv1, nl1, hl1, ay, xsl⟩ := pp
    exact ⟨_, rfl, q lv l xs ys _ e hlv1 hl1 ay.1⟩
  obtain ⟨l, xs, ys, o2, o3, o4, o5, o6, rfl, e, hlv1, nl1, hl1, ay, xsl⟩ := pp
  have hq : R.S[i]? = some R.S[i] := List.getElem?_eq_getElem hi
  generalize R.S[i] = qq at hq
  obtain ⟨v1, hv1, t1, rfl, ht1⟩ := als.get hq
  obtain ⟨v2, hv2, t2, rfl, ht2⟩ := ahs.get hq
  have i0 : (0 : Int) + (i : Int) = (i : Int) := Int.zero_add _
  have lbi := lb (i + 1) hi
  have eL : Tn.lv (bD R.dw) (i + 1) = (Tn.lv (bD R.dw) i).flatMap fun vs => (Tn.rng (bD R.dw vs).1 (bD R.dw vs).2).map fun v => vs ++ [v] := rfl
  rw [eL] at lbi
  dsimp only [gName]
  refine ⟨szl (by show 0 ≤ 1000000; decide), fun g hg => ?_⟩
  have s1 := same_new hg (.lst [])
  have hg1 : (upd H' g (.lst [])) g = some (.lst []) := upd_same
  have ng1 : lv ≠ g := ne_of_none hlv1 hg
  have ng2 : l ≠ g := ne_of_none hl1 hg
  have g0 : H g = none := e.free hg
  dsimp only [gName]
  generalize upd H' g (.lst []) = H1 at s1 hg1
  have e1 := e.trans s1
  have yl := ay.1
  refine ⟨_, rfl, _, rfl, lv, _, _, _, rfl, rfl, SqL.of (s1 _ _ hlv1), atI_last xs (.ref l), l, rfl, ⟨_, SqL.of (s1 _ _ hl1)⟩, ?_⟩
  refine for_list (xs := ys) (fun j σ' H2 => ∃ (zs : List V) (o4 o5 o6 : Option V), σ' = [some (.ref r), some (.ref lv), some (.int (0 + (i : Int))), some (.ref g), o4, o5, o6] ∧ Bt g H1 H2 ∧ H2 g = some (.lst zs) ∧ All2 (PiAt H2) zs (((Tn.lv (bD R.dw) i).take j).flatMap fun vs => (Tn.rng (bD R.dw vs).1 (bD R.dw vs).2).map fun v => vs ++ [v])) ⟨[], _, _, _, rfl, fun _ _ _ h => h, hg1, .nil⟩ (fun j σ' H2 _ pp => by obtain ⟨_, _, _, _, _, b, _⟩ := pp; exact SqL.of (b _ _ ng2 (s1 _ _ hl1))) (fun j y σ' H2 hy pp => ?_) (fun σ' H2 pp => ?_)
  rotate_left
  · obtain ⟨zs, o4, o5, o6, rfl, b, hg2, az⟩ := pp
    rw [yl, List.take_length, ← eL] at az
    have hlv2 := b _ _ ng1 (s1 _ _ hlv1)
    refine ⟨_, rfl, .inl ⟨rfl, _, SqL.of hlv2⟩, _, rfl, lv, _, _, rfl, rfl, hlv2, szlt (by rw [List.length_append, List.length_singleton]; omega), ?_⟩
    have tk : TK H2 (upd H2 lv (.lst (xs ++ [.ref l] ++ [.ref g]))) := TK.upd hlv2
    refine ⟨g, xs ++ [.ref l], zs, _, _, _, _, _, rfl, fun c o hc => ?_, upd_same, Ne.symm ng1, by rw [upd_ne (Ne.symm ng1)]; exact hg2, az.mono fun _ _ z => z.tk tk, by rw [List.length_append, xsl]; rfl⟩
    rw [upd_ne (ne_of_none hc lv0)]
    exact b _ _ (ne_of_none hc g0) (e1 _ _ hc)
  obtain ⟨zs, o4, o5, o6, rfl, b, hg2, az⟩ := pp
  obtain ⟨us, hus, t, rfl, ht⟩ := ay.get' hy
  obtain ⟨ul, up⟩ := Tn.mem_lv.mp (List.mem_of_getElem? hus)
  have tk12 := b.tk hg1
  have bH : ∀ {c : Addr} {o : HO}, H c = some o → H2 c = some o := fun {c o} hc => b _ _ (ne_of_none hc g0) (e1 _ _ hc)
  have eH2 : Same H H2 := fun c o hc => bH hc
  have ht2' : H2 t = some (.tup (us.map V.int)) := tk12 _ _ (s1 _ _ ht)
  rw [take_snoc hus, List.flatMap_append]
  have fl := Tn.flat_len (f := fun vs => (Tn.rng (bD R.dw vs).1 (bD R.dw vs).2).map fun v => vs ++ [v]) hus
  have azl := az.1
  generalize ((Tn.lv (bD R.dw) i).take j).flatMap (fun vs => (Tn.rng (bD R.dw vs).1 (bD R.dw vs).2).map fun v => vs ++ [v]) = done at az fl azl
  rw [List.length_map, Tn.rng_len] at fl
  dsimp only [gName]
  have g1 := bH hr1
  refine ⟨_, rfl, r, _, 1, _, rfl, rfl, SqT.of g1, rfl, _, rfl, u2, _, _, _, rfl, rfl, SqT.of (bH hu2), by rw [i0]; exact atI_nat hv1, _, rfl, r, _, 2, _, rfl, rfl, SqT.of g1, rfl, _, rfl, u3, _, _, _, rfl, rfl, SqT.of (bH hu3), by rw [i0]; exact atI_nat hv2, szl (by show 2 ≤ 1000000; decide), fun sp hsp => ?_⟩
  have s3 := same_new hsp (.tup [V.ref t1, V.ref t2])
  have hsp3 : (upd H2 sp (.tup [V.ref t1, V.ref t2])) sp = some (.tup [V.ref t1, V.ref t2]) := upd_same
  generalize upd H2 sp (.tup [V.ref t1, V.ref t2]) = H3 at s3 hsp3
  have e3 := eH2.trans s3
  refine ⟨_, rfl, r, _, 0, _, rfl, rfl, SqT.of (e3 _ _ hr1), rfl, _, rfl, u1, t, nmsOf R.S, us, rfl, e3 _ _ hu1, s3 _ _ ht2', by omega, by omega, rg.nd, fun d kvs H4 e4 hd4 ar => ?_⟩
  have e34 := e3.trans e4
  obtain ⟨sb1, sb2⟩ := bd_stand rg (us := us) (q := qq) (by rw [ul]; exact hq) ar
  refine ⟨sp, d, t1, t2, qq.lz, qq.hz, qq.ln, qq.hn, _, _, kvs, rfl, e4 _ _ hsp3, e34 _ _ ht1, e34 _ _ ht2, hd4, sb1, sb2, fun p H5 e5 hp => ?_⟩
  have e25 := s3.trans (e4.trans e5)
  have eF : ([us].flatMap fun vs => (Tn.rng (bD R.dw vs).1 (bD R.dw vs).2).map fun v => vs ++ [v]) = (Tn.rng (bD R.dw us).1 (bD R.dw us).2).map fun v => us ++ [v] := List.append_nil _
  rw [eF]
  rw [Int.sub_add_cancel, Int.sub_add_cancel] at hp
  generalize hlo : (bD R.dw us).1 = lo at hp fl
  generalize hhi : (bD R.dw us).2 = hi2 at hp fl
  refine ⟨p, _, rfl, SqT.of hp, rfl, _, _, rfl, _, _, rfl, rfl, ?_⟩
  have b5 : Bt g H1 H5 := b.trans (Bt.same e25)
  have hg5 := e25 _ _ hg2
  refine while_ix (hi2 + 1 - lo).toNat (fun m σ' H6 => ∃ zs2 : List V, σ' = [some (.ref r), some (.ref lv), some (.int (0 + (i : Int))), some (.ref g), some (.ref t), some (.int (lo + (m : Int))), some (.int hi2)] ∧ Bt g H1 H6 ∧ H6 g = some (.lst zs2) ∧ All2 (PiAt H6) zs2 (done ++ ((Tn.rng lo hi2).take m).map fun v => us ++ [v])) ⟨zs, by rw [show lo + ((0 : Nat) : Int) = lo by omega]; rfl, b5, hg5, by rw [List.take_zero, List.map_nil, List.append_nil]; exact az.mono fun _ _ z => z.over e25⟩ (fun m σ' H6 hm pp => ?_) (MT.test (ME.op (MR.i0 _) (ME.var _) (ME.var _)))
  obtain ⟨zs2, rfl, b6, hg6, az6⟩ := pp
  have az6l := az6.1
  rw [List.length_append, List.length_map, List.length_take, Tn.rng_len] at az6l
  refine ⟨_, rfl, _, rfl, _, _, rfl, rfl, _, rfl, ?_⟩
  by_cases c : lo + (m : Int) ≤ hi2
  · refine iteE (v := true) (decide_eq_true c) (iteT ⟨by omega, ?_⟩)
    have ht6 := b6.tk hg1 _ _ (s1 _ _ ht)
    refine ⟨_, rfl, .inl ⟨rfl, _, SqL.of hg6⟩, _, rfl, _, rfl, szl (by show 1 ≤ 1000000; decide), fun w1 hw1 => ?_⟩
    have s7 := same_new hw1 (.tup [V.int (lo + (m : Int))])
    refine ⟨t, w1, _, _, rfl, rfl, s7 _ _ ht6, upd_same, szl (by rw [List.length_map, List.length_singleton]; omega), fun p2 H7 e7 hp2 => ?_⟩
    have e67 := s7.trans e7
    have hg7 := e67 _ _ hg6
    refine ⟨g, _, _, rfl, rfl, hg7, szlt (by omega), ?_⟩
    have tk8 : TK H7 (upd H7 g (.lst (zs2 ++ [.ref p2]))) := TK.upd hg7
    refine ⟨_, rfl, _, _, rfl, rfl, ?_⟩
    refine ⟨zs2 ++ [.ref p2], by rw [show lo + ((m + 1 : Nat) : Int) = lo + (m : Int) + 1 by omega]; rfl, (b6.trans (Bt.same e67)).trans Bt.put, upd_same, ?_⟩
    rw [take_snoc (Tn.rng_get (by omega)), List.map_append, ← List.append_assoc]
    refine (az6.mono fun _ _ z => (z.over e67).tk tk8).snoc ⟨p2, rfl, tk8 _ _ ?_⟩
    rw [hp2, List.map_append]
    rfl
  · refine iteE (v := false) (decide_eq_false c) (iteF ?_)
    refine ⟨zs2, _, _, _, rfl, b6, hg6, ?_⟩
    rw [List.take_of_length_le (by rw [Tn.rng_len]; omega)] at az6
    exact az6

theorem ok_law (T : Tx K mg a) : FnOk P w K mg base CX0 110 a.f_law a.d_law ["_law_script"] (spLaw K) := by
  have G_l_rows := ok_rows31 (P := P) (w := w) (base := base) T
  have G_l_many := ok_many31 (P := P) (w := w) (base := base) T
  have G_l_stretched := ok_stretched (P := P) (w := w) (base := base) T
  have G_l_size := ok_size (P := P) (w := w) (base := base) T
  have G_l_made := ok_made31 (P := P) (w := w) (base := base) T
  have G_turns := ok_turns (P := P) (w := w) (base := base) T
  have G_l_is_turn := ok_isturn (P := P) (w := w) (base := base) T
  have G_l_rising := ok_rising31 (P := P) (w := w) (base := base) T
  have G_l_levels := ok_levels31 (P := P) (w := w) (base := base) T
  refine T.F_law.ok sc_law (fun vs H Q E h => ?_) (fun cdv A outer s H vs Q E hr h => ?_)
  · obtain ⟨_, _, rfl, _⟩ := h; rfl
  obtain ⟨p, ns, rfl, hp, h63, _, q⟩ := h
  refine ⟨_, (pss_cons (ps_set (i := 1) sc_law.nd rfl (Or.inr rfl) (pe_call G_l_stretched (hr.mono (by omega)) (by rfl) T.m_l_stretched T.F_l_stretched.kp T.b_l_stretched .nil pass0 (pa_cons (pv 0) (pa_cons (pe_call G_l_rows (hr.mono (by omega)) (by rfl) T.m_l_rows T.F_l_rows.kp T.b_l_rows .nil pass0 (pa_cons (pv 0) (pa_cons (pe_call G_l_many (hr.mono (by omega)) (by rfl) T.m_l_many T.F_l_many.kp T.b_l_many .nil pass0 (pa_cons (pv 0) pa_nil)) pa_nil))) pa_nil))))
    (pss_cons (ps_set (i := 2) sc_law.nd rfl (Or.inl rfl) (pe_call G_l_made (hr.mono (by omega)) (by rfl) T.m_l_made T.F_l_made.kp T.b_l_made .nil pass0 (pa_cons (pe_call G_l_size (hr.mono (by omega)) (by rfl) T.m_l_size T.F_l_size.kp T.b_l_size .nil pass0 (pa_cons (pv 0) pa_nil)) (pa_cons (pv 1) pa_nil))))
    (pss_cons (ps_set (i := 3) sc_law.nd rfl (Or.inl rfl) (pe_call G_turns (hr.mono (by omega)) (by rfl) T.m_turns T.F_turns.kp T.b_turns .nil pass0 (pa_cons (pv 2) (pa_cons (pe_op op_pow pe_int pe_int) pa_nil))))
    (pss_cons (ps_if (pt_not (pt_val (pe_callB call_isi (by rfl) T.z_isinstance bt_isinstance (pa_cons (pv 3) (pa_cons (pe_bltn (v := .ty "list") (by rfl) T.z_list bt_list rfl) pa_nil)))))
    (pss_one (ps_ret pe_bl))
    pss_nil)
    (pss_cons (ps_for PassesOwn.never rfl (pi_list (pv 3)) (pg_name (i := 4) sc_law.nd rfl (Or.inl rfl))
    (pss_one (ps_if (pt_not (pt_val (pe_call G_l_is_turn (hr.mono (by omega)) (by rfl) T.m_l_is_turn T.F_l_is_turn.kp T.b_l_is_turn .nil pass0 (pa_cons (pv 4) (pa_cons (pv 1) pa_nil)))))
    (pss_one (ps_ret pe_bl))
    pss_nil)))
    (pss_cons (ps_if (PW.pt (pw_or (pt_not (pt_val (pe_call G_l_rising (hr.mono (by omega)) (by rfl) T.m_l_rising T.F_l_rising.kp T.b_l_rising .nil pass0 (pa_cons (pv 3) (pa_cons (pv 1) pa_nil))))) (pw_or1 (pt_cmpR op_ne (pe_callB call_len_seq (by rfl) T.z_len bt_len (pa_cons (pv 3) pa_nil)) (pe_callB (call_sumI rfl) (by rfl) T.z_sum bt_sum (pa_cons (pe_compB ["_law_row_here"] [none] (by rfl) (pi_list (pv 1)) c_law_0 (fun _ _ _ _ _ _ => ⟨(pg_name (i := 0) c_law_0n rfl (Or.inl rfl)), pts_nil, (pe_callB (show CallR _ _ (rLenK K) from call_len_seq) (by rfl) T.z_len bt_len (pa_cons (pe_ix (show IxR _ (rIxL K) from ix_list) (pe_call G_l_levels (hr.mono (by omega)) (by rfl) T.m_l_levels T.F_l_levels.kp T.b_l_levels .nil pass0 (pa_cons (pv 0) pa_nil)) (pe_un un_neg pe_int) (fun _ _ => rfl)) pa_nil))⟩)) pa_nil)) (nomark _)))))
    (pss_one (ps_ret pe_bl))
    pss_nil)
    (pss_cons (ps_set (i := 5) sc_law.nd rfl (Or.inl rfl) (pe_callTy call_list_of (by rfl) T.z_list bt_list (pa_cons (pv 3) pa_nil)))
    (pss_cons (ps_expr (pe_bm PySem.F.plainAttrs_list PySem.F.slot_list_append PySem.F.type_list_append mt_append (pv 3) (pa_cons (pe_tup (pa_cons pe_int (pa_cons (pe_tup pa_nil) pa_nil))) pa_nil)))
    (pss_cons (ps_if (pt_cmpR (op_neS (hu64 hr)) (pe_call G_turns (hr.mono (by omega)) (by rfl) T.m_turns T.F_turns.kp T.b_turns .nil pass0 (pa_cons (pv 2) (pa_cons (pe_op op_pow pe_int pe_int) pa_nil))) (pv 5) (nomark _))
    (pss_one (ps_ret pe_bl))
    pss_nil)
    (pss_cons (ps_if (pt_cmpR op_gt (pe_callB call_len_seq (by rfl) T.z_len bt_len (pa_cons (pv 1) pa_nil)) pe_int (nomark _))
    (pss_cons (ps_expr (pe_bm0 PySem.F.plainAttrs_list PySem.F.slot_list_pop PySem.F.type_list_pop mt_pop (pe_fld (pv 2) rfl)))
    (pss_one (ps_ret (pe_cmpR (op_eqS (hu64 hr)) (pe_call G_turns (hr.mono (by omega)) (by rfl) T.m_turns T.F_turns.kp T.b_turns .nil pass0 (pa_cons (pv 2) (pa_cons (pe_op op_pow pe_int pe_int) pa_nil))) (pe_compB ["_law_turn", "_law_rows_here"] [none, some 1] (by rfl) (pi_list (pv 5)) c_law_1 (fun _ _ _ _ _ _ => ⟨(pg_name (i := 0) c_law_1n rfl (Or.inl rfl)), (pts_one (pt_cmpR op_lt (pe_ix (show IxR _ (rIxT K) from ix_tup) (pv 0) pe_int (fun _ _ => rfl)) (pe_op op_sub (pe_callB (show CallR _ _ (rLenK K) from call_len_seq) (by rfl) T.z_len bt_len (pa_cons (pv 1) pa_nil)) pe_int) (nomark _))), (pv 0)⟩)) (nomark _)))))
    pss_nil)
    (pss_one (ps_ret pe_bl)))))))))))), ?_⟩
  refine ⟨_, rfl, _, rfl, _, rfl, p, ns, rfl, hp, h63, fun H1 n e1 n1 n4 => ?_⟩
  refine ⟨p, ns, n, rfl, e1.seq hp, h63, by omega, fun r0 H2 Rs0 e2 hr0 R0l R0ok R0p => ?_⟩
  have e02 := e1.trans e2
  refine ⟨p, r0, ns, Rs0, rfl, e02.seq hp, h63, hr0, by omega, by omega, R0ok, R0p, fun rl H3 Rs e3 hRs gw => ?_⟩
  have e03 := e02.trans e3
  dsimp only [gName]
  refine ⟨_, rfl, p, ns, rfl, e03.seq hp, h63, fun H4 sz e4 => ?_⟩
  refine ⟨_, rfl, sz, rl, Rs, rfl, hRs.over e4, by have := gw.l4; omega, fun R hR => by have := (gw.rg R hR).m3; omega, fun x dx dl xs H5 e5 x0 hx dl0 hdl ax => ?_⟩
  have e05 := e03.trans (e4.trans e5)
  have hRs5 := hRs.over (e4.trans e5)
  have rl4 : ∃ ys, H4 rl = some (.lst ys) := by obtain ⟨ys, h1, _⟩ := hRs.over e4; exact ⟨ys, h1⟩
  obtain ⟨ys4, hrl4⟩ := rl4
  have nrl : rl ≠ dl := ne_of_none hrl4 dl0
  have R4 := gw.l4
  have okW := okW_of gw.pr gw.rg (by omega)
  have hDo : WosAt a.c_Deed H5 dl (Rs.map R3.dw) := ⟨xs, hdl, all2_map ax⟩
  dsimp only [gName]
  clear hRs e03 e4 e5 hr0 e02 e1 e2 e3 R0ok R0p
  -- the turns
  refine ⟨_, rfl, _, _, rfl, rfl, ⟨by decide, by decide, by decide⟩, x, dx, dl, .int sz, Rs.map R3.dw, rfl, hx, hDo, okW, gw.sm, fun fl H6 ts f e6 fl0 hfl isf al => ?_⟩
  obtain ⟨_, tl4, _⟩ := gw.sm f isf
  generalize eL : Tn.tl (bW (Rs.map R3.dw)) f [] = L at al tl4
  have tsl := al.1
  dsimp only [gName]
  refine ⟨_, rfl, _, _, _, _, _, rfl, rfl, .lst hfl, rfl, _, rfl, iteF ?_⟩
  dsimp only [tNext]
  have tok : ∀ x ∈ L, ∃ R, Rs[x.1]? = some R ∧ RG R ∧ Vr R x.2 := fun x hx => by
    rw [← eL] at hx
    exact turn_ok gw isf (k := x.1) (w := x.2) hx
  refine seq_any (fun σ' H' => Same H6 H' ∧ ∃ o4, σ' = [some (.ref p), some (.ref rl), some (.ref x), some (.ref fl), o4, none]) (fun σ' H7 pp => ?_) (fun nx => ?_)
  rotate_left
  · refine ⟨_, rfl, fl, rfl, ⟨_, SqL.of hfl⟩, ?_⟩
    refine for_list (xs := ts) (fun i σ' H' => Same H6 H' ∧ ∃ o4, σ' = [some (.ref p), some (.ref rl), some (.ref x), some (.ref fl), o4, none]) ⟨Same.refl _, _, rfl⟩ (fun i σ' H' _ pp => SqL.of (pp.1 _ _ hfl)) (fun i v σ' H' hv pp => ?_) (fun σ' H' pp => nx _ _ pp)
    obtain ⟨e, o4, rfl⟩ := pp
    obtain ⟨⟨k, ws⟩, hkw, hvt⟩ := al.get' hv
    obtain ⟨R, hR, rg, vr⟩ := tok _ (List.mem_of_getElem? hkw)
    refine ⟨_, rfl, _, rfl, v, rl, Rs, R, k, ws, rfl, hvt.over e, hRs5.over (e6.trans e), by omega, hR, rg, vr, fun H8 e8 => ⟨_, rfl, iteF ?_⟩⟩
    exact ⟨e.trans e8, _, rfl⟩
  obtain ⟨e7, o4, rfl⟩ := pp
  have e57 := e6.trans e7
  have pw : L.Pairwise fun x y => HT.lexLt (keyR Rs x) (keyR Rs y) = true := by
    rw [← eL]
    exact Tn.rise isf (prs_of gw.pr) (gdR gw) rfl
  refine ⟨_, rfl, _, rfl, fl, rl, ts, L, Rs, rfl, e7 _ _ hfl, al.mono fun _ _ z => z.over e7, tl4, hRs5.over e57, fun y hy => by obtain ⟨R, h1, h2, h3⟩ := tok y hy; exact ⟨R, h1, h2, h3.1⟩, pw, fun H8 e8 => ⟨_, rfl, iteF ?_⟩⟩
  have e58 := e57.trans e8
  have e68 := e7.trans e8
  obtain ⟨rs, hrl, ar⟩ := hRs5
  refine ⟨_, rfl, fl, _, rfl, .inl (SqL.of (e68 _ _ hfl)), _, rfl, rl, rfl, ⟨_, SqL.of (e58 _ _ hrl)⟩, ?_⟩
  have rsl := ar.1
  refine comp_list (xs := rs) (fun i ys H' => Same H8 H' ∧ ys = ((Rs.take i).map fun R => ((Tn.lv (bD R.dw) R.S.length).length : Int)).map V.int) ⟨Same.refl _, rfl⟩ (szl (by omega)) (fun i ys H' hi pp => ⟨SqL.of (pp.1 _ _ (e58 _ _ hrl)), by rw [pp.2, List.length_map, List.length_map, List.length_take]; omega⟩) (fun i v ys H' hv pp => ?_) (fun ys H' pp sl hsl => ?_)
  · obtain ⟨e, rfl⟩ := pp
    obtain ⟨R, hR, hvR⟩ := ar.get' hv
    refine ⟨_, rfl, v, R, rfl, hvR.over (e58.trans e), gw.rg R (List.mem_of_getElem? hR), gw.lvb R (List.mem_of_getElem? hR), fun rr l xs2 ys2 H9 e9 hr9 hl9 yl => ?_⟩
    refine ⟨_, rfl, rr, _, _, _, rfl, rfl, SqL.of hr9, atI_last xs2 (.ref l), l, _, rfl, .inl (SqL.of hl9), e.trans e9, ?_⟩
    rw [take_snoc hR, List.map_append, List.map_append, yl]
    rfl
  obtain ⟨e9, rfl⟩ := pp
  rw [List.take_of_length_le (by omega)]
  have s9 := same_new hsl (.lst ((Rs.map fun R => ((Tn.lv (bD R.dw) R.S.length).length : Int)).map V.int))
  have lenE : ((ts.length : Nat) : Int) = (Rs.map fun R => ((Tn.lv (bD R.dw) R.S.length).length : Int)).sum := by
    rw [tsl, ← eL]
    exact len_rows gw isf
  refine ⟨sl, _, rfl, SqL.of upd_same, rfl, _, rfl, iteE (v := false) (ndF (congrArg V.int lenE)) (iteF ?_)⟩
  generalize upd H' sl (.lst ((Rs.map fun R => ((Tn.lv (bD R.dw) R.S.length).length : Int)).map V.int)) = H9 at s9
  have e69 := e68.trans (e9.trans s9)
  have e59 := e58.trans (e9.trans s9)
  dsimp only [tNext]
  -- the copy
  refine ⟨_, rfl, fl, _, rfl, .inl (SqL.of (e69 _ _ hfl)), fun kl hkl => ?_⟩
  have s10 := same_new hkl (.lst ts)
  have hk10 : (upd H9 kl (.lst ts)) kl = some (.lst ts) := upd_same
  dsimp only [gName]
  generalize upd H9 kl (.lst ts) = HA at s10 hk10
  have e6A := e69.trans s10
  have e5A := e59.trans s10
  have nkf : kl ≠ fl := (ne_of_none (e69 _ _ hfl) hkl).symm
  refine ⟨_, rfl, .inl ⟨rfl, _, SqL.of (e6A _ _ hfl)⟩, szl (by show 0 ≤ 1000000; decide), fun u0 hu0 => ⟨szl (by show 2 ≤ 1000000; decide), fun u1 hu1 => ?_⟩⟩
  have s11 := (same_new hu0 (.tup [])).trans (same_new hu1 (.tup [V.int 0, V.ref u0]))
  generalize upd (upd HA u0 (.tup [])) u1 (.tup [V.int 0, V.ref u0]) = HB at s11
  have hflB := s11 _ _ (e6A _ _ hfl)
  refine ⟨fl, _, _, rfl, rfl, hflB, szlt (by omega), ?_⟩
  have bC : Bt fl HB (upd HB fl (.lst (ts ++ [.ref u1]))) := Bt.put
  generalize upd HB fl (.lst (ts ++ [.ref u1])) = HC at bC
  have tkC := bC.tk hflB
  have k5C : Same H5 HC := fun b o h => bC _ _ (ne_of_none h fl0) (s11 _ _ (e5A _ _ h))
  have alC := al.mono fun _ _ z => (z.over (e6A.trans s11)).tk tkC
  have hkC := bC _ _ nkf (s11 _ _ hk10)
  -- once more
  refine ⟨_, rfl, _, _, rfl, rfl, ⟨by decide, by decide, by decide⟩, x, dx, dl, .int sz, Rs.map R3.dw, rfl, k5C _ _ hx, hDo.over k5C, okW, gw.sm, fun fl2 HD ts2 f2 eD fl20 hfl2 isf2 al2 => ?_⟩
  rw [tl_one isf isf2 (prs_of gw.pr) (gdR gw), eL] at al2
  refine ⟨_, rfl, ne_same5 (tn_list hfl2 al2) (tn_list (eD _ _ hkC) (alC.mono fun _ _ z => z.over eD)) (tn_dep60 L) ⟨_, rfl, iteF ?_⟩⟩
  dsimp only [tNext]
  have k5D := k5C.trans eD
  have hkD := eD _ _ hkC
  have alD := alC.mono fun _ _ z => z.over eD
  refine ⟨_, rfl, rl, _, rfl, .inl (SqL.of (k5D _ _ hrl)), _, _, rfl, rfl, _, rfl, ?_⟩
  by_cases c : 1 < Rs.length
  · refine iteE (v := true) (decide_eq_true (by omega)) (iteT ?_)
    obtain ⟨m, hm⟩ : ∃ m, Rs.length = m + 1 := ⟨Rs.length - 1, by omega⟩
    have axl := ax.1
    obtain ⟨xs', v', rfl, xl'⟩ := snoc_of (l := xs) (n := m) (by omega)
    have hdlD := k5D _ _ hdl
    refine ⟨_, rfl, x, _, dx, _, _, rfl, k5D _ _ hx, T.cl_Program, T.n_Program_deeds, rfl, .inl ⟨rfl, _, SqL.of hdlD⟩, dl, _, v', rfl, rfl, hdlD, by rw [List.length_append, List.length_singleton, Nat.add_sub_cancel, List.getElem?_append_right (Nat.le_refl _), Nat.sub_self]; rfl, ?_⟩
    rw [List.dropLast_concat]
    have bE : Bt dl HD (upd HD dl (.lst xs')) := Bt.put
    have hdlE : (upd HD dl (.lst xs')) dl = some (.lst xs') := upd_same
    generalize upd HD dl (.lst xs') = HE at bE hdlE
    have tkE := bE.tk hdlD
    have nxd : x ≠ dl := fun z => by have := k5D _ _ hx; rw [z, hdlD] at this; cases this
    have axE : All2 (D3At a.c_Deed HE) xs' (Rs.take m) := by
      have := (ax.take m)
      rw [List.take_left' xl'] at this
      exact this.mono fun _ _ z => WoAt.bt (WoAt.over z k5D) hdlD bE
    have hDoE : WosAt a.c_Deed HE dl ((Rs.take m).map R3.dw) := ⟨xs', hdlE, all2_map axE⟩
    have sm2 := gw.sm2
    rw [show Rs.length - 1 = m by omega] at sm2
    have okW2 := okW_of (Rs := Rs.take m) (gw.pr.sublist (List.take_sublist _ _)) (fun R hR => gw.rg R (List.mem_of_mem_take hR)) (by rw [List.length_take]; omega)
    have nkd : kl ≠ dl := fun z => by rw [z] at hkl; rw [e59 _ _ hdl] at hkl; cases hkl
    have hkE := bE _ _ nkd hkD
    have alE := alD.mono fun _ _ z => z.tk tkE
    refine ⟨_, rfl, _, _, rfl, rfl, ⟨by decide, by decide, by decide⟩, x, dx, dl, .int sz, (Rs.take m).map R3.dw, rfl, bE _ _ nxd (k5D _ _ hx), hDoE, okW2, sm2, fun fl3 HF ts3 f3 eF fl30 hfl3 isf3 al3 => ?_⟩
    rw [pop_rows gw hm isf isf3, eL] at al3
    have hkF := eF _ _ hkE
    have alF := alE.mono fun _ _ z => z.over eF
    have hrlF := eF _ _ (bE _ _ nrl (k5D _ _ hrl))
    refine ⟨_, rfl, kl, rfl, ⟨_, SqL.of hkF⟩, ?_⟩
    refine comp_listG (xs := ts) (fun i zs H' => H' = HF ∧ All2 (TnAt HF) zs ((L.take i).filter fun x => decide (x.1 < m))) ⟨rfl, .nil⟩ (szl (by omega)) (fun i zs H' hi pp => ⟨by rw [pp.1]; exact SqL.of hkF, by rw [pp.2.1]; exact Nat.le_trans (List.length_filter_le _ _) (by rw [List.length_take]; omega)⟩) (fun i v zs H' hv pp => ?_) (fun zs H' pp ll hll => ?_)
    · obtain ⟨rfl, az⟩ := pp
      obtain ⟨⟨k, ws⟩, hkw, t, u, rfl, ht, hu⟩ := alF.get' hv
      refine ⟨outs1 (ρ := [some 1]) _, _, rfl, t, _, 0, _, rfl, rfl, SqT.of ht, rfl, _, rfl, rl, _, rfl, .inl (SqL.of hrlF), _, _, rfl, rfl, _, _, rfl, rfl, _, rfl, ?_⟩
      rw [take_snoc hkw, List.filter_append]
      by_cases c2 : k < m
      · refine iteE (v := true) (decide_eq_true (by omega)) (iteT ?_)
        rw [List.filter_cons_of_pos (by exact decide_eq_true c2)]
        exact ⟨_, rfl, rfl, az.snoc ⟨t, u, rfl, ht, hu⟩⟩
      · refine iteE (v := false) (decide_eq_false (by omega)) (iteF ?_)
        rw [List.filter_cons_of_neg (by simpa using c2), List.filter_nil, List.append_nil]
        exact ⟨rfl, az⟩
    obtain ⟨rfl, az⟩ := pp
    rw [List.take_of_length_le (by omega)] at az
    have sG := same_new hll (.lst zs)
    exact eq_same5 (tn_list (sG _ _ hfl3) (al3.mono fun _ _ z => z.over sG)) (tn_list upd_same (az.mono fun _ _ z => z.over sG)) (tn_dep60 _) (q _)
  · refine iteE (v := false) (decide_eq_false (by omega)) (iteF ?_)
    exact q _


end
theorem len_1 {us : List Value} (h : us.length = 1) : ∃ x0, us = [x0] := by
  rcases us with _ | ⟨x0, us⟩
  · cases h
  rcases us with _ | ⟨y, us⟩
  · exact ⟨x0, rfl⟩
  · simp only [List.length_cons] at h; omega
theorem len_2 {us : List Value} (h : us.length = 2) : ∃ x0 x1, us = [x0, x1] := by
  rcases us with _ | ⟨x0, us⟩
  · cases h
  rcases us with _ | ⟨x1, us⟩
  · cases h
  rcases us with _ | ⟨y, us⟩
  · exact ⟨x0, x1, rfl⟩
  · simp only [List.length_cons] at h; omega
theorem len_3 {us : List Value} (h : us.length = 3) : ∃ x0 x1 x2, us = [x0, x1, x2] := by
  rcases us with _ | ⟨x0, us⟩
  · cases h
  rcases us with _ | ⟨x1, us⟩
  · cases h
  rcases us with _ | ⟨x2, us⟩
  · cases h
  rcases us with _ | ⟨y, us⟩
  · exact ⟨x0, x1, x2, rfl⟩
  · simp only [List.length_cons] at h; omega
theorem len_4 {us : List Value} (h : us.length = 4) : ∃ x0 x1 x2 x3, us = [x0, x1, x2, x3] := by
  rcases us with _ | ⟨x0, us⟩
  · cases h
  rcases us with _ | ⟨x1, us⟩
  · cases h
  rcases us with _ | ⟨x2, us⟩
  · cases h
  rcases us with _ | ⟨x3, us⟩
  · cases h
  rcases us with _ | ⟨y, us⟩
  · exact ⟨x0, x1, x2, x3, rfl⟩
  · simp only [List.length_cons] at h; omega
theorem len_8 {us : List Value} (h : us.length = 8) : ∃ x0 x1 x2 x3 x4 x5 x6 x7, us = [x0, x1, x2, x3, x4, x5, x6, x7] := by
  rcases us with _ | ⟨x0, us⟩
  · cases h
  rcases us with _ | ⟨x1, us⟩
  · cases h
  rcases us with _ | ⟨x2, us⟩
  · cases h
  rcases us with _ | ⟨x3, us⟩
  · cases h
  rcases us with _ | ⟨x4, us⟩
  · cases h
  rcases us with _ | ⟨x5, us⟩
  · cases h
  rcases us with _ | ⟨x6, us⟩
  · cases h
  rcases us with _ | ⟨x7, us⟩
  · cases h
  rcases us with _ | ⟨y, us⟩
  · exact ⟨x0, x1, x2, x3, x4, x5, x6, x7, rfl⟩
  · simp only [List.length_cons] at h; omega
theorem bd_Number_init : BdA "__init__" "Number.__init__" s_Number_init ["self", "n"] := fun _ _ _ _ _ _ _ h => by obtain ⟨_, _, rfl⟩ := len_2 h; rfl
theorem bd_Value_init : BdA "__init__" "Value.__init__" s_Value_init ["self", "name"] := fun _ _ _ _ _ _ _ h => by obtain ⟨_, _, rfl⟩ := len_2 h; rfl
theorem bd_Cell_init : BdA "__init__" "Cell.__init__" s_Cell_init ["self", "table", "spots"] := fun _ _ _ _ _ _ _ h => by obtain ⟨_, _, _, rfl⟩ := len_3 h; rfl
theorem bd_Joined_init : BdA "__init__" "Joined.__init__" s_Joined_init ["self", "sign", "left", "right"] := fun _ _ _ _ _ _ _ h => by obtain ⟨_, _, _, _, rfl⟩ := len_4 h; rfl
theorem bd_Deed_init : BdA "__init__" "Deed.__init__" s_Deed_init ["self", "names", "lows", "highs", "table", "spots", "term", "path"] := fun _ _ _ _ _ _ _ h => by obtain ⟨_, _, _, _, _, _, _, _, rfl⟩ := len_8 h; rfl
theorem bd_Program_init : BdA "__init__" "Program.__init__" s_Program_init ["self", "size", "deeds"] := fun _ _ _ _ _ _ _ h => by obtain ⟨_, _, _, rfl⟩ := len_3 h; rfl
theorem bd_Walk_init : BdA "__init__" "Walk.__init__" s_Walk_init ["self", "deeds", "most"] := fun _ _ _ _ _ _ _ h => by obtain ⟨_, _, _, rfl⟩ := len_3 h; rfl
theorem bd_placed : BdA "placed" "placed" s_placed ["spots", "values"] := fun _ _ _ _ _ _ _ h => by obtain ⟨_, _, rfl⟩ := len_2 h; rfl
theorem bd_stood_for : BdA "stood_for" "stood_for" s_stood_for ["spot", "values"] := fun _ _ _ _ _ _ _ h => by obtain ⟨_, _, rfl⟩ := len_2 h; rfl
theorem bd_named : BdA "named" "named" s_named ["deed", "values"] := fun _ _ _ _ _ _ _ h => by obtain ⟨_, _, rfl⟩ := len_2 h; rfl
theorem bd_nested : BdA "nested" "nested" s_nested ["deeds"] := fun _ _ _ _ _ _ _ h => by obtain ⟨_, rfl⟩ := len_1 h; rfl
theorem bd_items_within : BdA "items_within" "items_within" s_items_within ["deeds", "numbers", "depth"] := fun _ _ _ _ _ _ _ h => by obtain ⟨_, _, _, rfl⟩ := len_3 h; rfl
theorem bd_neighbours : BdA "neighbours" "neighbours" s_neighbours ["deeds", "numbers", "depth"] := fun _ _ _ _ _ _ _ h => by obtain ⟨_, _, _, rfl⟩ := len_3 h; rfl
theorem bd_turns : BdA "turns" "turns" s_turns ["program", "most"] := fun _ _ _ _ _ _ _ h => by obtain ⟨_, _, rfl⟩ := len_2 h; rfl
theorem bd_every_turn : BdA "every_turn" "every_turn" s_every_turn ["deeds"] := fun _ _ _ _ _ _ _ h => by obtain ⟨_, rfl⟩ := len_1 h; rfl
theorem bd_take_room : BdA "take_room" "take_room" s_take_room ["walk", "many"] := fun _ _ _ _ _ _ _ h => by obtain ⟨_, _, rfl⟩ := len_2 h; rfl
theorem bd_deeds_among : BdA "deeds_among" "deeds_among" s_deeds_among ["items"] := fun _ _ _ _ _ _ _ h => by obtain ⟨_, rfl⟩ := len_1 h; rfl
theorem bd_count_loops : BdA "count_loops" "count_loops" s_count_loops ["walk", "items", "values"] := fun _ _ _ _ _ _ _ h => by obtain ⟨_, _, _, rfl⟩ := len_3 h; rfl
theorem bd_count_loop : BdA "count_loop" "count_loop" s_count_loop ["walk", "k", "items", "values"] := fun _ _ _ _ _ _ _ h => by obtain ⟨_, _, _, _, rfl⟩ := len_4 h; rfl
theorem bd_bounds_of : BdA "bounds_of" "bounds_of" s_bounds_of ["deed", "values"] := fun _ _ _ _ _ _ _ h => by obtain ⟨_, _, rfl⟩ := len_2 h; rfl
theorem bd_tell_items : BdA "tell_items" "tell_items" s_tell_items ["walk", "items", "values"] := fun _ _ _ _ _ _ _ h => by obtain ⟨_, _, _, rfl⟩ := len_3 h; rfl
theorem bd_tell_loop : BdA "tell_loop" "tell_loop" s_tell_loop ["walk", "k", "items", "values"] := fun _ _ _ _ _ _ _ h => by obtain ⟨_, _, _, _, rfl⟩ := len_4 h; rfl
theorem bd_l_cell : BdA "_law_cell" "_law_cell" s_l_cell ["_law_script", "_law_k"] := fun _ _ _ _ _ _ _ h => by obtain ⟨_, _, rfl⟩ := len_2 h; rfl
theorem bd_l_whole : BdA "_law_whole" "_law_whole" s_l_whole ["_law_found"] := fun _ _ _ _ _ _ _ h => by obtain ⟨_, rfl⟩ := len_1 h; rfl
theorem bd_l_mixed : BdA "_law_mixed" "_law_mixed" s_l_mixed ["_law_cell_here", "_law_k"] := fun _ _ _ _ _ _ _ h => by obtain ⟨_, _, rfl⟩ := len_2 h; rfl
theorem bd_l_name : BdA "_law_name" "_law_name" s_l_name ["_law_cell_here", "_law_e"] := fun _ _ _ _ _ _ _ h => by obtain ⟨_, _, rfl⟩ := len_2 h; rfl
theorem bd_l_spots : BdA "_law_spots" "_law_spots" s_l_spots ["_law_number", "_law_bases", "_law_many_here", "_law_off"] := fun _ _ _ _ _ _ _ h => by obtain ⟨_, _, _, _, rfl⟩ := len_4 h; rfl
theorem bd_l_cell_of : BdA "_law_cell_of" "_law_cell_of" s_l_cell_of ["_law_number", "_law_bases", "_law_heads_here"] := fun _ _ _ _ _ _ _ h => by obtain ⟨_, _, _, rfl⟩ := len_3 h; rfl
theorem bd_l_leaf : BdA "_law_leaf" "_law_leaf" s_l_leaf ["_law_number", "_law_bases", "_law_heads_here"] := fun _ _ _ _ _ _ _ h => by obtain ⟨_, _, _, rfl⟩ := len_3 h; rfl
theorem bd_l_term : BdA "_law_term" "_law_term" s_l_term ["_law_cell_here", "_law_bases", "_law_heads_here"] := fun _ _ _ _ _ _ _ h => by obtain ⟨_, _, _, rfl⟩ := len_3 h; rfl
theorem bd_l_loop : BdA "_law_loop" "_law_loop" s_l_loop ["_law_number", "_law_far", "_law_stack", "_law_cell_here"] := fun _ _ _ _ _ _ _ h => by obtain ⟨_, _, _, _, rfl⟩ := len_4 h; rfl
theorem bd_l_row : BdA "_law_row" "_law_row" s_l_row ["_law_cell_here", "_law_stack", "_law_path", "_law_heads_here"] := fun _ _ _ _ _ _ _ h => by obtain ⟨_, _, _, _, rfl⟩ := len_4 h; rfl
theorem bd_l_heads : BdA "_law_heads" "_law_heads" s_l_heads ["_law_script"] := fun _ _ _ _ _ _ _ h => by obtain ⟨_, rfl⟩ := len_1 h; rfl
theorem bd_l_rows : BdA "_law_rows" "_law_rows" s_l_rows ["_law_script", "_law_many_here"] := fun _ _ _ _ _ _ _ h => by obtain ⟨_, _, rfl⟩ := len_2 h; rfl
theorem bd_l_many : BdA "_law_many" "_law_many" s_l_many ["_law_script"] := fun _ _ _ _ _ _ _ h => by obtain ⟨_, rfl⟩ := len_1 h; rfl
theorem bd_l_size : BdA "_law_size" "_law_size" s_l_size ["_law_script"] := fun _ _ _ _ _ _ _ h => by obtain ⟨_, rfl⟩ := len_1 h; rfl
theorem bd_l_object : BdA "_law_object" "_law_object" s_l_object ["_law_term_here"] := fun _ _ _ _ _ _ _ h => by obtain ⟨_, rfl⟩ := len_1 h; rfl
theorem bd_l_made : BdA "_law_made" "_law_made" s_l_made ["_law_size_here", "_law_rows_here"] := fun _ _ _ _ _ _ _ h => by obtain ⟨_, _, rfl⟩ := len_2 h; rfl
theorem bd_l_around : BdA "_law_around" "_law_around" s_l_around ["_law_names", "_law_values"] := fun _ _ _ _ _ _ _ h => by obtain ⟨_, _, rfl⟩ := len_2 h; rfl
theorem bd_l_stand : BdA "_law_stand" "_law_stand" s_l_stand ["_law_spots_here", "_law_around_here"] := fun _ _ _ _ _ _ _ h => by obtain ⟨_, _, rfl⟩ := len_2 h; rfl
theorem bd_l_levels : BdA "_law_levels" "_law_levels" s_l_levels ["_law_row_here"] := fun _ _ _ _ _ _ _ h => by obtain ⟨_, rfl⟩ := len_1 h; rfl
theorem bd_l_key : BdA "_law_key" "_law_key" s_l_key ["_law_row_here", "_law_values"] := fun _ _ _ _ _ _ _ h => by obtain ⟨_, _, rfl⟩ := len_2 h; rfl
theorem bd_l_is_turn : BdA "_law_is_turn" "_law_is_turn" s_l_is_turn ["_law_turn", "_law_rows_here"] := fun _ _ _ _ _ _ _ h => by obtain ⟨_, _, rfl⟩ := len_2 h; rfl
theorem bd_l_rising : BdA "_law_rising" "_law_rising" s_l_rising ["_law_found", "_law_rows_here"] := fun _ _ _ _ _ _ _ h => by obtain ⟨_, _, rfl⟩ := len_2 h; rfl
theorem bd_l_stretched : BdA "_law_stretched" "_law_stretched" s_l_stretched ["_law_script", "_law_rows_here"] := fun _ _ _ _ _ _ _ h => by obtain ⟨_, _, rfl⟩ := len_2 h; rfl
theorem bd_law : BdA "law" "law" s_law ["_law_script"] := fun _ _ _ _ _ _ _ h => by obtain ⟨_, rfl⟩ := len_1 h; rfl
theorem txt_mk {K : PySem.W.Frag} {h : Heap} {mg : Str → Option Value} {fa : Addr} (X : K.In h) (G : h.Ns mainGlobals mg) (hfa : mg "law" = some (.ref fa))
    {C_Term : Addr} {C_Number : Addr} {C_Value : Addr} {C_Cell : Addr} {C_Joined : Addr} {C_Deed : Addr} {C_Program : Addr} {C_Walk : Addr} {f1 f2 f3 f4 f5 f6 f7 f8 f9 f10 f11 f12 f13 f14 f15 f16 f17 f18 f19 f20 f21 f22 f23 f24 f25 f26 f27 f28 f29 f30 f31 f32 f33 f34 f35 f36 f37 f38 f39 f40 f41 f42 f43 f44 f45 f46 : Addr} {d1 d2 d3 d4 d5 d6 d7 d8 d9 d10 d11 d12 d13 d14 d15 d16 d17 d18 d19 d20 d21 d22 d23 d24 d25 d26 d27 d28 d29 d30 d31 d32 d33 d34 d35 d36 d37 d38 d39 d40 d41 d42 d43 d44 d45 d46 : FuncData}
    (a_Term : ClA K C_Term "Term")
    (a_Number : ClA K C_Number "Number")
    (a_Value : ClA K C_Value "Value")
    (a_Cell : ClA K C_Cell "Cell")
    (a_Joined : ClA K C_Joined "Joined")
    (a_Deed : ClA K C_Deed "Deed")
    (a_Program : ClA K C_Program "Program")
    (a_Walk : ClA K C_Walk "Walk")
    (h1 : DcA K C_Number "__init__" "Number.__init__" s_Number_init f1 d1)
    (h2 : DcA K C_Value "__init__" "Value.__init__" s_Value_init f2 d2)
    (h3 : DcA K C_Cell "__init__" "Cell.__init__" s_Cell_init f3 d3)
    (h4 : DcA K C_Joined "__init__" "Joined.__init__" s_Joined_init f4 d4)
    (h5 : DcA K C_Deed "__init__" "Deed.__init__" s_Deed_init f5 d5)
    (h6 : DcA K C_Program "__init__" "Program.__init__" s_Program_init f6 d6)
    (h7 : DcA K C_Walk "__init__" "Walk.__init__" s_Walk_init f7 d7)
    (h8 : DnA K "placed" s_placed f8 d8)
    (h9 : DnA K "stood_for" s_stood_for f9 d9)
    (h10 : DnA K "named" s_named f10 d10)
    (h11 : DnA K "nested" s_nested f11 d11)
    (h12 : DnA K "items_within" s_items_within f12 d12)
    (h13 : DnA K "neighbours" s_neighbours f13 d13)
    (h14 : DnA K "turns" s_turns f14 d14)
    (h15 : DnA K "every_turn" s_every_turn f15 d15)
    (h16 : DnA K "take_room" s_take_room f16 d16)
    (h17 : DnA K "deeds_among" s_deeds_among f17 d17)
    (h18 : DnA K "count_loops" s_count_loops f18 d18)
    (h19 : DnA K "count_loop" s_count_loop f19 d19)
    (h20 : DnA K "bounds_of" s_bounds_of f20 d20)
    (h21 : DnA K "tell_items" s_tell_items f21 d21)
    (h22 : DnA K "tell_loop" s_tell_loop f22 d22)
    (h23 : DnA K "_law_cell" s_l_cell f23 d23)
    (h24 : DnA K "_law_whole" s_l_whole f24 d24)
    (h25 : DnA K "_law_mixed" s_l_mixed f25 d25)
    (h26 : DnA K "_law_name" s_l_name f26 d26)
    (h27 : DnA K "_law_spots" s_l_spots f27 d27)
    (h28 : DnA K "_law_cell_of" s_l_cell_of f28 d28)
    (h29 : DnA K "_law_leaf" s_l_leaf f29 d29)
    (h30 : DnA K "_law_term" s_l_term f30 d30)
    (h31 : DnA K "_law_loop" s_l_loop f31 d31)
    (h32 : DnA K "_law_row" s_l_row f32 d32)
    (h33 : DnA K "_law_heads" s_l_heads f33 d33)
    (h34 : DnA K "_law_rows" s_l_rows f34 d34)
    (h35 : DnA K "_law_many" s_l_many f35 d35)
    (h36 : DnA K "_law_size" s_l_size f36 d36)
    (h37 : DnA K "_law_object" s_l_object f37 d37)
    (h38 : DnA K "_law_made" s_l_made f38 d38)
    (h39 : DnA K "_law_around" s_l_around f39 d39)
    (h40 : DnA K "_law_stand" s_l_stand f40 d40)
    (h41 : DnA K "_law_levels" s_l_levels f41 d41)
    (h42 : DnA K "_law_key" s_l_key f42 d42)
    (h43 : DnA K "_law_is_turn" s_l_is_turn f43 d43)
    (h44 : DnA K "_law_rising" s_l_rising f44 d44)
    (h45 : DnA K "_law_stretched" s_l_stretched f45 d45)
    (h46 : DnA K "law" s_law f46 d46)
    (n_Number_n : PySem.W.findIn K (.ref C_Number) "n" = some none)
    (n_Value_name : PySem.W.findIn K (.ref C_Value) "name" = some none)
    (n_Cell_table : PySem.W.findIn K (.ref C_Cell) "table" = some none)
    (n_Cell_spots : PySem.W.findIn K (.ref C_Cell) "spots" = some none)
    (n_Joined_sign : PySem.W.findIn K (.ref C_Joined) "sign" = some none)
    (n_Joined_left : PySem.W.findIn K (.ref C_Joined) "left" = some none)
    (n_Joined_right : PySem.W.findIn K (.ref C_Joined) "right" = some none)
    (n_Deed_names : PySem.W.findIn K (.ref C_Deed) "names" = some none)
    (n_Deed_lows : PySem.W.findIn K (.ref C_Deed) "lows" = some none)
    (n_Deed_highs : PySem.W.findIn K (.ref C_Deed) "highs" = some none)
    (n_Deed_table : PySem.W.findIn K (.ref C_Deed) "table" = some none)
    (n_Deed_spots : PySem.W.findIn K (.ref C_Deed) "spots" = some none)
    (n_Deed_term : PySem.W.findIn K (.ref C_Deed) "term" = some none)
    (n_Deed_path : PySem.W.findIn K (.ref C_Deed) "path" = some none)
    (n_Program_size : PySem.W.findIn K (.ref C_Program) "size" = some none)
    (n_Program_deeds : PySem.W.findIn K (.ref C_Program) "deeds" = some none)
    (n_Walk_deeds : PySem.W.findIn K (.ref C_Walk) "deeds" = some none)
    (n_Walk_room : PySem.W.findIn K (.ref C_Walk) "room" = some none)
    (n_Walk_told : PySem.W.findIn K (.ref C_Walk) "told" = some none)
    (z_bool : PySem.W.nsIn K mainGlobals "bool" = some none)
    (z_dict : PySem.W.nsIn K mainGlobals "dict" = some none)
    (z_int : PySem.W.nsIn K mainGlobals "int" = some none)
    (z_isinstance : PySem.W.nsIn K mainGlobals "isinstance" = some none)
    (z_len : PySem.W.nsIn K mainGlobals "len" = some none)
    (z_list : PySem.W.nsIn K mainGlobals "list" = some none)
    (z_max : PySem.W.nsIn K mainGlobals "max" = some none)
    (z_min : PySem.W.nsIn K mainGlobals "min" = some none)
    (z_range : PySem.W.nsIn K mainGlobals "range" = some none)
    (z_sum : PySem.W.nsIn K mainGlobals "sum" = some none)
    (z_tuple : PySem.W.nsIn K mainGlobals "tuple" = some none)
    (z_zip : PySem.W.nsIn K mainGlobals "zip" = some none) :
    ∃ a : Ad, Tx K mg a ∧ fa = a.f_law ∧ (∀ (s : Shared) (v : Value), BindsTo s a.d_law ⟨[v], []⟩ [("_law_script", v)]) := by
  have e := hfa.symm.trans (PySem.W.mg_of X G h46.a)
  cases e
  obtain ⟨_, _, _, _, _, _, _, _, _, rfl, _⟩ := h46.F.ex
  exact ⟨⟨f1, d1, f2, d2, f3, d3, f4, d4, f5, d5, f6, d6, f7, d7, f8, d8, f9, d9, f10, d10, f11, d11, f12, d12, f13, d13, f14, d14, f15, d15, f16, d16, f17, d17, f18, d18, f19, d19, f20, d20, f21, d21, f22, d22, f23, d23, f24, d24, f25, d25, f26, d26, f27, d27, f28, d28, f29, d29, f30, d30, f31, d31, f32, d32, f33, d33, f34, d34, f35, d35, f36, d36, f37, d37, f38, d38, f39, d39, f40, d40, f41, d41, f42, d42, f43, d43, f44, d44, f45, d45, fa, _, C_Term, C_Number, C_Value, C_Cell, C_Joined, C_Deed, C_Program, C_Walk⟩, ⟨h1.F, 
    h1.F.binds bd_Number_init, 
    h2.F, 
    h2.F.binds bd_Value_init, 
    h3.F, 
    h3.F.binds bd_Cell_init, 
    h4.F, 
    h4.F.binds bd_Joined_init, 
    h5.F, 
    h5.F.binds bd_Deed_init, 
    h6.F, 
    h6.F.binds bd_Program_init, 
    h7.F, 
    h7.F.binds bd_Walk_init, 
    h8.F, 
    h8.F.binds bd_placed, 
    PySem.W.mg_of X G h8.a, 
    h9.F, 
    h9.F.binds bd_stood_for, 
    PySem.W.mg_of X G h9.a, 
    h10.F, 
    h10.F.binds bd_named, 
    PySem.W.mg_of X G h10.a, 
    h11.F, 
    h11.F.binds bd_nested, 
    PySem.W.mg_of X G h11.a, 
    h12.F, 
    h12.F.binds bd_items_within, 
    PySem.W.mg_of X G h12.a, 
    h13.F, 
    h13.F.binds bd_neighbours, 
    PySem.W.mg_of X G h13.a, 
    h14.F, 
    h14.F.binds bd_turns, 
    PySem.W.mg_of X G h14.a, 
    h15.F, 
    h15.F.binds bd_every_turn, 
    PySem.W.mg_of X G h15.a, 
    h16.F, 
    h16.F.binds bd_take_room, 
    PySem.W.mg_of X G h16.a, 
    h17.F, 
    h17.F.binds bd_deeds_among, 
    PySem.W.mg_of X G h17.a, 
    h18.F, 
    h18.F.binds bd_count_loops, 
    PySem.W.mg_of X G h18.a, 
    h19.F, 
    h19.F.binds bd_count_loop, 
    PySem.W.mg_of X G h19.a, 
    h20.F, 
    h20.F.binds bd_bounds_of, 
    PySem.W.mg_of X G h20.a, 
    h21.F, 
    h21.F.binds bd_tell_items, 
    PySem.W.mg_of X G h21.a, 
    h22.F, 
    h22.F.binds bd_tell_loop, 
    PySem.W.mg_of X G h22.a, 
    h23.F, 
    h23.F.binds bd_l_cell, 
    PySem.W.mg_of X G h23.a, 
    h24.F, 
    h24.F.binds bd_l_whole, 
    PySem.W.mg_of X G h24.a, 
    h25.F, 
    h25.F.binds bd_l_mixed, 
    PySem.W.mg_of X G h25.a, 
    h26.F, 
    h26.F.binds bd_l_name, 
    PySem.W.mg_of X G h26.a, 
    h27.F, 
    h27.F.binds bd_l_spots, 
    PySem.W.mg_of X G h27.a, 
    h28.F, 
    h28.F.binds bd_l_cell_of, 
    PySem.W.mg_of X G h28.a, 
    h29.F, 
    h29.F.binds bd_l_leaf, 
    PySem.W.mg_of X G h29.a, 
    h30.F, 
    h30.F.binds bd_l_term, 
    PySem.W.mg_of X G h30.a, 
    h31.F, 
    h31.F.binds bd_l_loop, 
    PySem.W.mg_of X G h31.a, 
    h32.F, 
    h32.F.binds bd_l_row, 
    PySem.W.mg_of X G h32.a, 
    h33.F, 
    h33.F.binds bd_l_heads, 
    PySem.W.mg_of X G h33.a, 
    h34.F, 
    h34.F.binds bd_l_rows, 
    PySem.W.mg_of X G h34.a, 
    h35.F, 
    h35.F.binds bd_l_many, 
    PySem.W.mg_of X G h35.a, 
    h36.F, 
    h36.F.binds bd_l_size, 
    PySem.W.mg_of X G h36.a, 
    h37.F, 
    h37.F.binds bd_l_object, 
    PySem.W.mg_of X G h37.a, 
    h38.F, 
    h38.F.binds bd_l_made, 
    PySem.W.mg_of X G h38.a, 
    h39.F, 
    h39.F.binds bd_l_around, 
    PySem.W.mg_of X G h39.a, 
    h40.F, 
    h40.F.binds bd_l_stand, 
    PySem.W.mg_of X G h40.a, 
    h41.F, 
    h41.F.binds bd_l_levels, 
    PySem.W.mg_of X G h41.a, 
    h42.F, 
    h42.F.binds bd_l_key, 
    PySem.W.mg_of X G h42.a, 
    h43.F, 
    h43.F.binds bd_l_is_turn, 
    PySem.W.mg_of X G h43.a, 
    h44.F, 
    h44.F.binds bd_l_rising, 
    PySem.W.mg_of X G h44.a, 
    h45.F, 
    h45.F.binds bd_l_stretched, 
    PySem.W.mg_of X G h45.a, 
    h46.F, 
    h46.F.binds bd_law, 
    PySem.W.mg_of X G h46.a, 
    ⟨a_Term.pg, a_Term.hd, a_Term.po, a_Term.sa⟩, 
    PySem.W.mg_of X G a_Term.a, 
    ⟨a_Number.pg, a_Number.hd, a_Number.po, a_Number.sa⟩, 
    PySem.W.mg_of X G a_Number.a, 
    ⟨a_Number.mi, h1.a, h1.i, a_Number.kc⟩, 
    n_Number_n, 
    ⟨a_Value.pg, a_Value.hd, a_Value.po, a_Value.sa⟩, 
    PySem.W.mg_of X G a_Value.a, 
    ⟨a_Value.mi, h2.a, h2.i, a_Value.kc⟩, 
    n_Value_name, 
    ⟨a_Cell.pg, a_Cell.hd, a_Cell.po, a_Cell.sa⟩, 
    PySem.W.mg_of X G a_Cell.a, 
    ⟨a_Cell.mi, h3.a, h3.i, a_Cell.kc⟩, 
    n_Cell_table, 
    n_Cell_spots, 
    ⟨a_Joined.pg, a_Joined.hd, a_Joined.po, a_Joined.sa⟩, 
    PySem.W.mg_of X G a_Joined.a, 
    ⟨a_Joined.mi, h4.a, h4.i, a_Joined.kc⟩, 
    n_Joined_sign, 
    n_Joined_left, 
    n_Joined_right, 
    ⟨a_Deed.pg, a_Deed.hd, a_Deed.po, a_Deed.sa⟩, 
    PySem.W.mg_of X G a_Deed.a, 
    ⟨a_Deed.mi, h5.a, h5.i, a_Deed.kc⟩, 
    n_Deed_names, 
    n_Deed_lows, 
    n_Deed_highs, 
    n_Deed_table, 
    n_Deed_spots, 
    n_Deed_term, 
    n_Deed_path, 
    ⟨a_Program.pg, a_Program.hd, a_Program.po, a_Program.sa⟩, 
    PySem.W.mg_of X G a_Program.a, 
    ⟨a_Program.mi, h6.a, h6.i, a_Program.kc⟩, 
    n_Program_size, 
    n_Program_deeds, 
    ⟨a_Walk.pg, a_Walk.hd, a_Walk.po, a_Walk.sa⟩, 
    PySem.W.mg_of X G a_Walk.a, 
    ⟨a_Walk.mi, h7.a, h7.i, a_Walk.kc⟩, 
    n_Walk_deeds, 
    n_Walk_room, 
    n_Walk_told, 
    PySem.W.mg_none_of X G z_bool, 
    PySem.W.mg_none_of X G z_dict, 
    PySem.W.mg_none_of X G z_int, 
    PySem.W.mg_none_of X G z_isinstance, 
    PySem.W.mg_none_of X G z_len, 
    PySem.W.mg_none_of X G z_list, 
    PySem.W.mg_none_of X G z_max, 
    PySem.W.mg_none_of X G z_min, 
    PySem.W.mg_none_of X G z_range, 
    PySem.W.mg_none_of X G z_sum, 
    PySem.W.mg_none_of X G z_tuple, 
    PySem.W.mg_none_of X G z_zip⟩, rfl, fun s v => .of_eq rfl⟩
end Fw
open PySem PySem.W PyProof.Rows
namespace PySem.W.Fast
def tw10019356684227620220 := True
def tw10058461808087288149 := True
def tw10076485007563099975 := True
def tw1016566662364661151 := True
def tw10192920959323133372 := True
def tw10202696219489821790 := True
def tw10315245657309107047 := True
def tw10321324680961537702 := True
def tw10327431462948033124 := True
def tw10369000969227172807 := True
def tw1045303629044324665 := True
def tw10516985695807956635 := True
def tw10549756676144672496 := True
def tw10624536473865865078 := True
def tw10717284819566376511 := True
def tw10748353309793899479 := True
def tw10772324908469663170 := True
def tw107743801239242177 := True
def tw1078035203036581813 := True
def tw10808690302115279069 := True
def tw10838818902452625031 := True
def tw10874673321941361823 := True
def tw10884170630104599860 := True
def tw10908514768024974277 := True
def tw10910269788333317420 := True
def tw10945870916324840966 := True
def tw11036694557494055338 := True
def tw11040849489358902110 := True
def tw11076294437214022094 := True
def tw11078404096590348738 := True
def tw11083464379069576393 := True
def tw11114611969039402687 := True
def tw11179813107814751749 := True
def tw11198716093531014945 := True
def tw11205466943026588404 := True
def tw11209540434032090427 := True
def tw11239678012176194130 := True
def tw11243306376606886086 := True
def tw11252500312437328111 := True
def tw1125740262691407265 := True
def tw1129010125249355630 := True
def tw11301244724329782201 := True
def tw1130231622529934281 := True
def tw11310416340734429114 := True
def tw11320618648864139341 := True
def tw11373304062365415644 := True
def tw11407400807629761212 := True
def tw11574700953994785057 := True
def tw11636678035263191172 := True
def tw11656122099982305949 := True
def tw11660226633836402668 := True
def tw11700636232568295015 := True
def tw1173851692738542625 := True
def tw11768226932386899781 := True
def tw11770340089961332754 := True
def tw11886499903773233151 := True
def tw1196379183861331495 := True
def tw1196748915588867861 := True
def tw12037515591061046113 := True
def tw12067138153706603250 := True
def tw12067723829328544086 := True
def tw12078659000590642672 := True
def tw12160073401474505529 := True
def tw12205365294777375898 := True
def tw12211143438327107254 := True
def tw12251800352701182401 := True
def tw12334143572895355321 := True
def tw1233860438926693819 := True
def tw12384293000082741410 := True
def tw12395212938767931512 := True
def tw12423757393171432213 := True
def tw1247480142157897892 := True
def tw12494443978666672277 := True
def tw12505883324719244564 := True
def tw12509645992790794221 := True
def tw12541087301631963240 := True
def tw12588791989792931822 := True
def tw12609273868212554127 := True
def tw12637765604714865041 := True
def tw12752670396108254426 := True
def tw12802641629299689191 := True
def tw12858563844427956412 := True
def tw1290540417092060174 := True
def tw1290602658537126558 := True
def tw1291057712382362143 := True
def tw12915008682045506582 := True
def tw1297027678402767985 := True
def tw13042623092913983318 := True
def tw13074088738741512544 := True
def tw13122747000222196671 := True
def tw13124052792952780923 := True
def tw13129583586984489467 := True
def tw13189530597098238973 := True
def tw132276398564472514 := True
def tw13228736136534488481 := True
def tw13234363330239942497 := True
def tw13264849652951124735 := True
def tw13368857452556026976 := True
def tw1338507734401914173 := True
def tw13395234225806583768 := True
def tw13416828696572767269 := True
def tw13450950395814467048 := True
def tw13474126625902478940 := True
def tw13535444298655381682 := True
def tw13547882106494646128 := True
def tw13585588781875062986 := True
def tw13586649734818729441 := True
def tw13662405751341108307 := True
def tw13664238264941860839 := True
def tw1367436868389850918 := True
def tw13692568005396302964 := True
def tw13750971540840782448 := True
def tw13760710624963738674 := True
def tw13777199579332231666 := True
def tw1379626847881243588 := True
def tw13802085004931380090 := True
def tw13843891729512812812 := True
def tw13851480572384272991 := True
def tw13867826424031336181 := True
def tw13927772743906364164 := True
def tw1399147889745941904 := True
def tw14027016754003926720 := True
def tw14048861624789762268 := True
def tw14081101507919777735 := True
def tw14095470217029305440 := True
def tw14130496150755786299 := True
def tw14197365905530848668 := True
def tw14204000526950289415 := True
def tw14227513780996502334 := True
def tw14276806916426437741 := True
def tw14299561032356709816 := True
def tw14319441877827493904 := True
def tw14414147408066807638 := True
def tw14420834505404186764 := True
def tw14436379427618269910 := True
def tw14437773541306692942 := True
def tw14459208733076992736 := True
def tw14479692107607599565 := True
def tw14486564516202357413 := True
def tw14494313918398034174 := True
def tw14496870373425125450 := True
def tw14512721961517850304 := True
def tw14523523502823683218 := True
def tw14525585320820378668 := True
def tw14616215183162776652 := True
def tw14645616028987709317 := True
def tw14700052112783074154 := True
def tw14706045006110425015 := True
def tw14725018775684022713 := True
def tw1475951589546230237 := True
def tw1485531234488056530 := True
def tw14881342530650474962 := True
def tw14928842943355124674 := True
def tw1492941308311862804 := True
def tw14941701434740329430 := True
def tw14979765924731021067 := True
def tw15001278602617571343 := True
def tw15039480640818269647 := True
def tw15043172407193704696 := True
def tw15065742738244090409 := True
def tw15071622254963646732 := True
def tw15086675854575779031 := True
def tw15148475126539107197 := True
def tw15227361999397118869 := True
def tw15242298460105702623 := True
def tw15243321128327710000 := True
def tw15329905227105235237 := True
def tw15390945465581593018 := True
def tw15405511267461074482 := True
def tw15464270725216700086 := True
def tw15471352494621864663 := True
def tw15479335422526747814 := True
def tw15519731668651461874 := True
def tw1552373215978618679 := True
def tw15524757488900190358 := True
def tw15585775175572176411 := True
def tw15625655290721864928 := True
def tw15700824527220839591 := True
def tw15707646834171138737 := True
def tw15733862488719545351 := True
def tw15744769989348234512 := True
def tw15755110194096639665 := True
def tw1575576621183985514 := True
def tw15797137461005480426 := True
def tw15838111188118515835 := True
def tw15842263932726571236 := True
def tw1586108619267981348 := True
def tw15888201395108192412 := True
def tw15986193225862268055 := True
def tw15995773392836185903 := True
def tw16035607934050595054 := True
def tw1606053899884440881 := True
def tw16061092569133635470 := True
def tw16067240667451467101 := True
def tw1607619663220218008 := True
def tw16110967970536186745 := True
def tw16177499571594543353 := True
def tw16184372058102354241 := True
def tw16289398841134092790 := True
def tw16332935508082269032 := True
def tw16351419404221272024 := True
def tw1646067478833018321 := True
def tw16517892667790702357 := True
def tw165317063942546158 := True
def tw16544663383708653591 := True
def tw16608138301041278373 := True
def tw16693457158484811968 := True
def tw16722570745525746126 := True
def tw16726220132920638326 := True
def tw16733896718553308678 := True
def tw16763200355305961763 := True
def tw16777040550094342924 := True
def tw16781877739441863110 := True
def tw16797096456029055633 := True
def tw1683886097006225178 := True
def tw16839529734198585329 := True
def tw16840331843448316156 := True
def tw16887542119615785664 := True
def tw16982418439161722770 := True
def tw17002007106209087056 := True
def tw17020747784894966718 := True
def tw17069955511479769718 := True
def tw17082968684171577293 := True
def tw1709724246964829751 := True
def tw17131240510973326663 := True
def tw17133558270870913055 := True
def tw17176181354939582370 := True
def tw17203172363775507915 := True
def tw17248537607819470190 := True
def tw17275047503248905063 := True
def tw17359327826299620855 := True
def tw17365401965651777691 := True
def tw17421125414921130259 := True
def tw17454084108161829096 := True
def tw17465665149906671529 := True
def tw17500732064792550014 := True
def tw17572149761105699577 := True
def tw17605627558210431658 := True
def tw17615835774807916984 := True
def tw17623465491059609329 := True
def tw17677453234017931407 := True
def tw17685462204733386031 := True
def tw17803326841777279621 := True
def tw18165614327509074248 := True
def tw18224111126938264118 := True
def tw18241994445277852628 := True
def tw18250455046302510277 := True
def tw18282882906690968949 := True
def tw18286923583793758469 := True
def tw18294176649776999057 := True
def tw1830497849739717805 := True
def tw18401278553431527212 := True
def tw18414174303549764476 := True
def tw18435020588266537807 := True
def tw18437775921931031036 := True
def tw184787126802738808 := True
def tw1871399720749419138 := True
def tw1883852756101412036 := True
def tw1888738438990923983 := True
def tw1890318471573196197 := True
def tw1898276223317775728 := True
def tw193307057688470790 := True
def tw2005863285865521641 := True
def tw2007690660927226055 := True
def tw2052424052330655627 := True
def tw2090087449011994989 := True
def tw2103462098385810887 := True
def tw2120149277091933284 := True
def tw2121982375807590531 := True
def tw2132392496615496012 := True
def tw2152625994882150448 := True
def tw2169534644877334981 := True
def tw2187677129870556722 := True
def tw2190721055552261123 := True
def tw2211086133590313176 := True
def tw222911909608955879 := True
def tw2294190843732778721 := True
def tw2311690731588035559 := True
def tw2333131339641633776 := True
def tw2427567145615100605 := True
def tw2447368858260905945 := True
def tw2512635799799326946 := True
def tw2520664745152948274 := True
def tw2521922441479513172 := True
def tw2574929360635131720 := True
def tw2598483429358708165 := True
def tw2615787121862538818 := True
def tw2615928655468596497 := True
def tw2678267435105597942 := True
def tw2680245866298964102 := True
def tw2727199963916445252 := True
def tw2760955361128031695 := True
def tw2779643553874486587 := True
def tw2779969388945820820 := True
def tw2895778931401210264 := True
def tw2903905175374186439 := True
def tw2908378312660685273 := True
def tw291800214227886319 := True
def tw2939891190346516416 := True
def tw2997988535597056058 := True
def tw3019583286874107474 := True
def tw3038457677903009772 := True
def tw3155655738323565020 := True
def tw3203244827707385931 := True
def tw3227992893670701130 := True
def tw3232879538560786647 := True
def tw3275510934397118226 := True
def tw3277550894494132872 := True
def tw3277951851716739950 := True
def tw3306855081980907532 := True
def tw3315001666667555054 := True
def tw3344055772733881146 := True
def tw335993309994232711 := True
def tw3433009215541030622 := True
def tw3439158413493993946 := True
def tw3459823866354218211 := True
def tw3580495949014081514 := True
def tw3587344782947729604 := True
def tw3651052793597102095 := True
def tw3667590057279788783 := True
def tw3703464195289976136 := True
def tw3705789852018549151 := True
def tw3707619347149250279 := True
def tw3711677433622711416 := True
def tw3751705476958543790 := True
def tw3792494398899324882 := True
def tw3894899265571938259 := True
def tw3899450499942040751 := True
def tw3902237107512773634 := True
def tw3955726605375823482 := True
def tw4037462196104131831 := True
def tw4039747055160459014 := True
def tw4255595292536733702 := True
def tw4269610615390971780 := True
def tw4300708640874340656 := True
def tw4388896311048775603 := True
def tw4422256450875364033 := True
def tw4502384720213171356 := True
def tw4533968814293998274 := True
def tw4604577551070520547 := True
def tw461894763346307952 := True
def tw4627759094027903422 := True
def tw4630851416554594267 := True
def tw479015845731908701 := True
def tw4837519794234688651 := True
def tw4841231588307676567 := True
def tw4879632612626096428 := True
def tw4904034386400313802 := True
def tw4929989843769062908 := True
def tw4942672368271208100 := True
def tw4982401058133954406 := True
def tw4982634520085841652 := True
def tw5051160936244117066 := True
def tw5101714605208330613 := True
def tw5105707406705561007 := True
def tw5109928661213129485 := True
def tw5145467865189666341 := True
def tw5146192961018459022 := True
def tw5202904315397682599 := True
def tw5237202794600373310 := True
def tw5237309705526267464 := True
def tw5268851507985976672 := True
def tw5269812888077027450 := True
def tw5351661188336112902 := True
def tw5433620512631734410 := True
def tw5436507255095726479 := True
def tw548334178398473754 := True
def tw5504568409772485279 := True
def tw5552403340980427364 := True
def tw5562943157762239548 := True
def tw5589059908136081843 := True
def tw5671252723317463508 := True
def tw568195321094516667 := True
def tw5684828159771705630 := True
def tw5701406472699869706 := True
def tw574121443941516165 := True
def tw5768966843448983264 := True
def tw5777920032699784545 := True
def tw5837242221510239557 := True
def tw5899447405336761599 := True
def tw59523514112038363 := True
def tw5963178322936924771 := True
def tw5964810986364628709 := True
def tw5969869827335839434 := True
def tw5972738009848222146 := True
def tw600296863446170934 := True
def tw6028277847716144033 := True
def tw6053052436292596796 := True
def tw6119996171495090544 := True
def tw614796570555588769 := True
def tw6178287083011883865 := True
def tw618704512533292547 := True
def tw6188068190833052260 := True
def tw621304035295046770 := True
def tw635196676721049184 := True
def tw6371493795253598394 := True
def tw6413223316036701266 := True
def tw6515262712650465852 := True
def tw6553633850689083246 := True
def tw6590451218374674339 := True
def tw6632026100633187518 := True
def tw6738408038693914622 := True
def tw6772713842762573135 := True
def tw6788479858351792009 := True
def tw6794118580440071701 := True
def tw6866265086311662959 := True
def tw6877787164306056310 := True
def tw6955607248942930736 := True
def tw6955672636095258863 := True
def tw7014863199780496927 := True
def tw7020792373406771983 := True
def tw7033090691926114369 := True
def tw7159514791374137787 := True
def tw7159534241404042169 := True
def tw7172235262542405691 := True
def tw7237732983834720646 := True
def tw7243095192822980088 := True
def tw725752017383775349 := True
def tw7279268268811831704 := True
def tw7359769822937821882 := True
def tw7370716183410241631 := True
def tw7385132510099720719 := True
def tw7420390054579254601 := True
def tw7491360069732556806 := True
def tw7497604511207018612 := True
def tw7543917682291342065 := True
def tw7610282407383603188 := True
def tw7634985455691976113 := True
def tw7677631920641280555 := True
def tw7703611681204314099 := True
def tw7725558883681519227 := True
def tw7749765712828897307 := True
def tw7789216125311948314 := True
def tw7822621558803961441 := True
def tw7828553356951921698 := True
def tw7836724217163757532 := True
def tw7846923817103198406 := True
def tw8019737467285136263 := True
def tw8035256205668057823 := True
def tw8060619167067989393 := True
def tw8073998902803143785 := True
def tw8105649466116874147 := True
def tw8126378372453788764 := True
def tw8139494987721357856 := True
def tw8189591195454016796 := True
def tw8219957950742961497 := True
def tw8233683559566946499 := True
def tw8237741537099898915 := True
def tw8297177620289070013 := True
def tw8298970859829141401 := True
def tw8344154957039988625 := True
def tw8387907322748210978 := True
def tw8453682570913960646 := True
def tw8463011814040579997 := True
def tw8470198922514642712 := True
def tw85102104953564782 := True
def tw8595728958419455902 := True
def tw8612763852476993642 := True
def tw8672973131766120273 := True
def tw8756230864274962035 := True
def tw8837040130707101335 := True
def tw8894325339250734311 := True
def tw8930441221915340142 := True
def tw8973794741390123667 := True
def tw9003534006761937889 := True
def tw9050012467404154238 := True
def tw9063739546110161353 := True
def tw9064348126949248761 := True
def tw911666749931511743 := True
def tw9138474981274788763 := True
def tw9216443086578954940 := True
def tw9305074283909465798 := True
def tw9316296099161009934 := True
def tw9320334298130316610 := True
def tw9470608958582612002 := True
def tw9481777444559661590 := True
def tw95792291449767153 := True
def tw9650136040683852834 := True
def tw9762090498491547127 := True
def tw9883701593625734481 := True
def tw9902745277266282296 := True
def tw9910577229196156559 := True
def tw9963620912457172091 := True
def tw9968736723947866471 := True
def tw9981033442126334345 := True
def tw9990839800945711405 := True
end PySem.W.Fast
set_option maxRecDepth 100000 in
set_option maxHeartbeats 0 in
theorem PySem.Challenge.cw_furrow_k31_turns_holds : PySem.Challenge.rw_furrow_k31_turns.Holds := by
  w_on; o_law; k_head; (case hw => w_witness2)
  k_fill
  refine L2.law_walk (l := PySem.Challenge.rw_furrow_k31_turns) (x := "_law_script") 110 (by decide) rfl rfl (fun w h Y => PySem.W.kIn_of Y) ?F
  case F =>
    intro w mg fa h KX G hmg
    suffices hh : ∃ a : Fw.Ad, Fw.Tx _ mg a ∧ fa = a.f_law ∧ (∀ (s : Shared) (v : Value), BindsTo s a.d_law ⟨[v], []⟩ [("_law_script", v)]) by
      obtain ⟨a, T, e, b⟩ := hh
      subst e
      exact ⟨a.d_law, b, fun base _ _ => Fw.ok_law T⟩
    refine' Fw.txt_mk KX G hmg ?a_Term ?a_Number ?a_Value ?a_Cell ?a_Joined ?a_Deed ?a_Program ?a_Walk ?h1 ?h2 ?h3 ?h4 ?h5 ?h6 ?h7 ?h8 ?h9 ?h10 ?h11 ?h12 ?h13 ?h14 ?h15 ?h16 ?h17 ?h18 ?h19 ?h20 ?h21 ?h22 ?h23 ?h24 ?h25 ?h26 ?h27 ?h28 ?h29 ?h30 ?h31 ?h32 ?h33 ?h34 ?h35 ?h36 ?h37 ?h38 ?h39 ?h40 ?h41 ?h42 ?h43 ?h44 ?h45 ?h46 ?n_Number_n ?n_Value_name ?n_Cell_table ?n_Cell_spots ?n_Joined_sign ?n_Joined_left ?n_Joined_right ?n_Deed_names ?n_Deed_lows ?n_Deed_highs ?n_Deed_table ?n_Deed_spots ?n_Deed_term ?n_Deed_path ?n_Program_size ?n_Program_deeds ?n_Walk_deeds ?n_Walk_room ?n_Walk_told ?z_bool ?z_dict ?z_int ?z_isinstance ?z_len ?z_list ?z_max ?z_min ?z_range ?z_sum ?z_tuple ?z_zip
    any_goals first | refine' ⟨?_, L2.fun_mk ?_ ?_ ?_⟩ | refine' ⟨?_, ?_, L2.fun_mk ?_ ?_ ?_⟩ | refine' Fw.ClA.mk ?_ ?_ ?_ ?_ ?_ ?_ ?_
    any_goals first | k_is | kit_is | exact rfl | kernel_rfl | decide
#print axioms PySem.Challenge.cw_furrow_k31_turns_holds
