import PyProof.Rows.All
import Wide.All
import OpenK.AllK
import Wide.FinOn
import Lean
import PyProof.EqAt
import PyProof.EqKinds
import PyProof.TupleCall
import PyProof.ListMulRoad
import PySem.Challenge.RW_furrow_k23_terms_read
set_option genSizeOf false
set_option compiler.extract_closed false
set_option genSizeOf false
set_option genInjectivity false
set_option compiler.extract_closed false
set_option Elab.async false
set_option linter.all false
set_option maxRecDepth 100000
namespace L2
open PySem PySem.Spec PyProof.Rows

noncomputable abbrev Key := Sum Int Str
noncomputable def keyIs : Key → Value → Bool
  | .inl k, v => Value.isInt k v
  | .inr x, v => Value.isStrOf x v
noncomputable def keyH (w : World) : Key → Int
  | .inl k => hashInt k
  | .inr x => hashStr w x
theorem keyIs_shape : ∀ {k : Key} {v : Value}, keyIs k v = true → (∃ i t, k = Sum.inl i ∧ v = Value.int i t) ∨ (∃ x t, k = Sum.inr x ∧ v = Value.str x t)
  | .inl i, v, h => by
    obtain ⟨t, e⟩ := Value.isInt_shape (k := i) (v := v) h
    exact .inl ⟨i, t, rfl, e⟩
  | .inr x, v, h => by
    obtain ⟨t, e⟩ := Value.isStrOf_shape (x := x) (v := v) h
    exact .inr ⟨x, t, rfl, e⟩
theorem keyIs_int (i : Int) (t : Tok) : keyIs (.inl i) (.int i t) = true := by simp [keyIs, Value.isInt]
theorem keyIs_str (x : Str) (t : Tok) : keyIs (.inr x) (.str x t) = true := by simp [keyIs, Value.isStrOf]
theorem key_ll (a b : Int) : decide ((Sum.inl a : Key) = Sum.inl b) = (a == b) := by
  by_cases e : a = b
  · subst e; simp
  · have h : ¬ (Sum.inl a : Key) = Sum.inl b := fun q => e (Sum.inl.inj q)
    rw [decide_eq_false h]
    exact (beq_eq_false_iff_ne.mpr e).symm
theorem key_rr (a b : Str) : decide ((Sum.inr a : Key) = Sum.inr b) = decide (a = b) := by
  by_cases e : a = b
  · subst e; simp
  · have h : ¬ (Sum.inr a : Key) = Sum.inr b := fun q => e (Sum.inr.inj q)
    rw [decide_eq_false h, decide_eq_false e]
theorem key_lr (a : Int) (b : Str) : decide ((Sum.inl a : Key) = Sum.inr b) = false := decide_eq_false (fun q => nomatch q)
theorem key_rl (a : Str) (b : Int) : decide ((Sum.inr a : Key) = Sum.inl b) = false := decide_eq_false (fun q => nomatch q)

noncomputable def mixKind (prog : Program) (w : World) : PySem.KeyKind prog w Key where
  is := keyIs
  hash := keyH w
  inj := fun v a b ha hb => by
    rcases keyIs_shape ha with ⟨i, t, rfl, rfl⟩ | ⟨x, t, rfl, rfl⟩
    · rcases keyIs_shape hb with ⟨j, u, rfl, e⟩ | ⟨y, u, rfl, e⟩
      · injection e with e1 _; rw [e1]
      · exact nomatch e
    · rcases keyIs_shape hb with ⟨j, u, rfl, e⟩ | ⟨y, u, rfl, e⟩
      · exact nomatch e
      · injection e with e1 _; rw [e1]
  byValue := fun k v h => by
    rcases keyIs_shape h with ⟨i, t, rfl, rfl⟩ | ⟨x, t, rfl, rfl⟩ <;> rfl
  pyHash := fun hv h => by
    rcases keyIs_shape hv with ⟨i, t, rfl, rfl⟩ | ⟨x, t, rfl, rfl⟩
    · exact wpAny_pyHash_int h
    · exact wpAny_pyHash_str h
  eqBool := fun hu hv h => by
    rcases keyIs_shape hu with ⟨i, t, rfl, rfl⟩ | ⟨x, t, rfl, rfl⟩
    · rcases keyIs_shape hv with ⟨j, u, rfl, rfl⟩ | ⟨y, u, rfl, rfl⟩
      · rw [key_ll] at h; exact wpAny_eqBool_int h
      · rw [key_lr] at h; exact SeqAt.EqAt.int_str i t y u _ _ _ _ h
    · rcases keyIs_shape hv with ⟨j, u, rfl, rfl⟩ | ⟨y, u, rfl, rfl⟩
      · rw [key_rl] at h; exact SeqAt.EqAt.str_int x t j u _ _ _ _ h
      · rw [key_rr] at h; exact wpAny_eqBool_str h
  «strs» := fun k x t v h => by
    rcases keyIs_shape h with ⟨i, u, rfl, e⟩ | ⟨y, u, rfl, e⟩
    · exact nomatch e
    · injection e with e1 _
      subst e1
      cases v <;> rfl

theorem mixKind_int (prog : Program) (w : World) (i : Int) (t : Tok) : (mixKind prog w).is (.inl i) (.int i t) = true := keyIs_int i t
theorem mixKind_str (prog : Program) (w : World) (x : Str) (t : Tok) : (mixKind prog w).is (.inr x) (.str x t) = true := keyIs_str x t
end L2

namespace L2
open PySem PySem.Spec PyProof.Rows

set_option genInjectivity true in
inductive V where
  | non | bl (b : Bool) | int (i : Int) | str (x : Str) | byt (b : Array UInt8) | flt (b : UInt64) | ref (a : Addr) | ty (n : String)
  deriving DecidableEq

noncomputable def RelV : V → Value → Prop
  | .non, u => u = Value.none
  | .bl b, u => u = Value.bool b
  | .int i, u => ∃ t, u = Value.int i t
  | .str x, u => ∃ t, u = Value.str x t
  | .byt b, u => ∃ t, u = Value.bytes b t
  | .flt b, u => ∃ t, u = Value.float b t
  | .ref a, u => u = Value.ref a
  | .ty n, u => u = Value.type n

noncomputable abbrev Vals : List V → List Value → Prop := Paired RelV
theorem Vals.length {xs : List V} {us : List Value} (r : Vals xs us) : xs.length = us.length := Paired.length r
theorem Vals.get : ∀ {xs : List V} {us : List Value} {i : Nat} {x : V}, Vals xs us → xs[i]? = some x → ∃ u, us[i]? = some u ∧ RelV x u
  | _, _, _, _, .nil, e => by simp at e
  | _, _, 0, _, .cons r _, e => by simp at e; subst e; exact ⟨_, rfl, r⟩
  | _, _, i + 1, x, .cons _ t, e => by
    obtain ⟨u, h1, h2⟩ := Vals.get (i := i) (x := x) t (by simpa using e)
    exact ⟨u, by simpa using h1, h2⟩
theorem Vals.set {x : V} {u : Value} (r : RelV x u) : ∀ {xs : List V} {us : List Value} (i : Nat), Vals xs us → Vals (xs.set i x) (us.set i u)
  | _, _, _, .nil => .nil
  | _, _, 0, .cons _ t => .cons r t
  | _, _, i + 1, .cons q t => .cons q (Vals.set r i t)
theorem Vals.append : ∀ {xs ys : List V} {us ws : List Value}, Vals xs us → Vals ys ws → Vals (xs ++ ys) (us ++ ws)
  | _, _, _, _, .nil, s => s
  | _, _, _, _, .cons r t, s => .cons r (Vals.append t s)
theorem Vals.take : ∀ {xs : List V} {us : List Value} (n : Nat), Vals xs us → Vals (xs.take n) (us.take n)
  | _, _, 0, _ => .nil
  | _, _, _ + 1, .nil => .nil
  | _, _, n + 1, .cons r t => .cons r (Vals.take n t)
theorem Vals.drop : ∀ {xs : List V} {us : List Value} (n : Nat), Vals xs us → Vals (xs.drop n) (us.drop n)
  | _, _, 0, r => r
  | _, _, _ + 1, .nil => .nil
  | _, _, n + 1, .cons _ t => Vals.drop n t
theorem Vals.none_of : ∀ {xs : List V} {us : List Value} {i : Nat}, Vals xs us → xs[i]? = none → us[i]? = none := fun {xs us i} r e => by
  have h1 := r.length
  have h2 : xs.length ≤ i := List.getElem?_eq_none_iff.mp e
  exact List.getElem?_eq_none_iff.mpr (by omega)

noncomputable def RelO : Option V → Option Value → Prop
  | some v, some u => RelV v u
  | none, none => True
  | _, _ => False
noncomputable def KV {κ : Type} : List (κ × V) → List (κ × Value) → Prop := Paired fun (p : κ × V) (q : κ × Value) => p.1 = q.1 ∧ RelV p.2 q.2

noncomputable def kV : Key → V
  | .inl i => .int i
  | .inr x => .str x

set_option genInjectivity true in
inductive HO where
  /-- a list -/
  | lst (xs : List V)
  /-- a tuple (never changes) -/
  | tup (xs : List V)
  /-- a dict whose keys are ints and texts; one whose keys are tuples of ints and texts (the empty one is both) -/
  | dK (kvs : List (Key × V)) | dT (kvs : List (List Key × V))
  /-- a set of ints: its members, its size -/
  | set (S : Int → Bool) (n : Nat)
  /-- an instance of the class at C, its dict at dx, its attributes -/
  | ins (C dx : Addr) (fs : List (Str × V))
  /-- the dict of the instance at x -/
  | own (x : Addr)
  /-- the dict of an exception -/
  | xd (fs : List (Str × V))
  /-- a bound method, f of x -/
  | met (f x : Addr)
  /-- a range object lo, lo + 1, .. below hi -/
  | rng (lo hi : Int)
  /-- a thing that is known to the object (the script; a dict while a loop walks it): read, never written while it is so -/
  | frz (o : Obj) (u : HO)
  /-- a code object's table -/
  | tbl (ps : Array Value)
  /-- any other thing, by what is true of its one object (a def of one's own: SetO a S n := HO.ext fun h => ..) -/
  | ext (φ : Heap → Prop)

noncomputable abbrev Hp := Addr → Option HO
noncomputable def upd (H : Hp) (a : Addr) (o : HO) : Hp := fun b => if b = a then some o else H b
theorem upd_same {H : Hp} {a : Addr} {o : HO} : upd H a o a = some o := by unfold upd; rw [if_pos rfl]
theorem upd_ne {H : Hp} {a b : Addr} {o : HO} (h : b ≠ a) : upd H a o b = H b := by unfold upd; rw [if_neg h]
theorem upd_upd {H : Hp} {a : Addr} {o u : HO} : upd (upd H a o) a u = upd H a u := by
  funext b; unfold upd; split <;> rfl
theorem ne_of {H : Hp} {a b : Addr} {o u : HO} (h : H a = some o) (h' : H b = some u) (d : o ≠ u) : a ≠ b := by
  intro e; subst e; rw [h] at h'; exact d (Option.some.inj h')
theorem ne_of_none {H : Hp} {a b : Addr} {o : HO} (h : H a = some o) (h' : H b = none) : a ≠ b := by
  intro e; subst e; rw [h] at h'; cases h'

section
variable (P : Program) (w : World)
noncomputable def IsTupN (h : Heap) (a : Addr) (its : Array Value) : Prop := ∃ o, h.get? a = some o ∧ o.cls = .type "tuple" ∧ (∃ n, o.data = .seq its n) ∧ o.dict = none
theorem IsTupN.tup {h : Heap} {a : Addr} {its : Array Value} (x : IsTupN h a its) : IsTup h a its := let ⟨o, e, c, d, _⟩ := x; ⟨o, e, c, d⟩
theorem IsTupN.new (h : Heap) (its : Array Value) : IsTupN (h.push { cls := .type "tuple", data := .seq its }) h.objs.size its := ⟨_, Heap.get?_push_size _ rfl, rfl, ⟨_, rfl⟩, rfl⟩
noncomputable def ObjOk (H : Hp) (h : Heap) (a : Addr) : HO → Prop
  | .lst xs => xs.length ≤ sizeLine ∧ ∃ (its : List Value) (n : Nat), Vals xs its ∧ h.get? a = some { cls := .type "list", data := .seq its.toArray n }
  | .tup xs => xs.length ≤ sizeLine ∧ ∃ its : List Value, Vals xs its ∧ IsTupN h a its.toArray
  | .dK kvs => kvs.length ≤ sizeLine ∧ (a == sysModules) = false ∧ ∃ vs, KV kvs vs ∧ h.DictOf (mixKind P w) a vs
  | .dT kvs => kvs.length ≤ sizeLine ∧ (a == sysModules) = false ∧ ∃ xs : List (List Key × Addr × Value),
      Paired (fun (p : List Key × V) (q : List Key × Addr × Value) => p.1 = q.1 ∧ H q.2.1 = some (.tup (p.1.map kV)) ∧ RelV p.2 q.2.2) kvs xs ∧
      ∃ o es ep, h.get? a = some o ∧ o.ExactDict ∧ o.data = .dict es ep ∧ es.toList = xs.map (entryOfKey (tupleKind (mixKind P w))) ∧ (xs.map (·.1)).Nodup
  | .set S n => h.SetOf (intKind P w) a S n
  | .ins C dx fs => H dx = some (.own a) ∧ fs.length ≤ 1000 ∧ dx ≠ a ∧ h.get? a = some (PySem.W.instObj C dx) ∧
      ∃ mA, h.Ns1 dx mA ∧ (∀ f, RelO (fs.lookup f) (mA f)) ∧ PySem.Within mA (fs.map (·.1))
  | .own _ => ∃ o, h.get? a = some o
  | .xd fs => ∃ mA, h.Ns1 a mA ∧ ∀ f, RelO (fs.lookup f) (mA f)
  | .rng lo hi => ∃ t u v, h.get? a = some { cls := .type "range", data := .fields #[.int lo t, .int hi u, .int 1 v] }
  | .frz o u => h.get? a = some o ∧ ObjOk H h a u
  | .tbl ps => h.get? a = some { cls := .none, data := .fields ps }
  | .met f x => h.get? a = some (PySem.W.methodObj (.ref f) (.ref x))
  | .ext φ => φ h ∧ (∃ o, h.get? a = some o) ∧ ∀ h1 h2 : Heap, φ h1 → (∀ o, h1.get? a = some o → h2.get? a = some o) → φ h2
noncomputable def HOk (H : Hp) (h : Heap) : Prop := ∀ a o, H a = some o → ObjOk P w H h a o
end

section
variable {P : Program} {w : World} {H H' : Hp} {h h' : Heap} {a : Addr} {o : HO}
theorem ObjOk.lt (x : ObjOk P w H h a o) : a < h.objs.size := by
  cases o with
  | lst xs => obtain ⟨_, _, _, _, e⟩ := x; exact Heap.lt_size e
  | tup xs => obtain ⟨_, _, _, p⟩ := x; exact p.tup.lt
  | dK kvs => obtain ⟨_, _, _, _, o, _, _, e, _⟩ := x; exact Heap.lt_size e
  | dT kvs => obtain ⟨_, _, _, _, o, _, _, e, _⟩ := x; exact Heap.lt_size e
  | set S n => obtain ⟨o, _, _, _, e, _⟩ := x; exact Heap.lt_size e
  | ins C dx fs => obtain ⟨_, _, _, e, _⟩ := x; exact Heap.lt_size e
  | own y => obtain ⟨_, e⟩ := x; exact Heap.lt_size e
  | xd fs => obtain ⟨_, ⟨_, _, _, e, _⟩, _⟩ := x; exact Heap.lt_size e
  | rng lo hi => obtain ⟨_, _, _, e⟩ := x; exact Heap.lt_size e
  | frz ob u => obtain ⟨e, _⟩ := x; exact Heap.lt_size e
  | tbl ps => exact Heap.lt_size (show h.get? a = some _ from x)
  | met f y => exact Heap.lt_size (show h.get? a = some _ from x)
  | ext φ => obtain ⟨_, ⟨_, e⟩, _⟩ := x; exact Heap.lt_size e
theorem Paired.mapP {α β : Type} {F G : α → β → Prop} : ∀ {l₁ : List α} {l₂ : List β}, Paired F l₁ l₂ → (∀ a b, F a b → G a b) → Paired G l₁ l₂
  | _, _, .nil, _ => .nil
  | _, _, .cons r t, f => .cons (f _ _ r) (Paired.mapP t f)
theorem ObjOk.stay (x : ObjOk P w H h a o) (k : ∀ b u, (b = a ∨ H b = some (.own a)) → h.get? b = some u → h'.get? b = some u)
    (ho : ∀ b, H b = some (.own a) → H' b = some (.own a)) (ht : ∀ b xs, H b = some (.tup xs) → H' b = some (.tup xs)) : ObjOk P w H' h' a o := by
  induction o with
  | lst xs => obtain ⟨z, its, n, r, e⟩ := x; exact ⟨z, its, n, r, k _ _ (.inl rfl) e⟩
  | tup xs => obtain ⟨z, its, r, ob, e, c⟩ := x; exact ⟨z, its, r, ob, k _ _ (.inl rfl) e, c⟩
  | dK kvs => obtain ⟨z, y, vs, r, ob, es, ep, e, c⟩ := x; exact ⟨z, y, vs, r, ob, es, ep, k _ _ (.inl rfl) e, c⟩
  | dT kvs =>
    obtain ⟨z, y, xs, r, ob, es, ep, e, c⟩ := x
    exact ⟨z, y, xs, Paired.mapP r fun p q z => ⟨z.1, ht _ _ z.2.1, z.2.2⟩, ob, es, ep, k _ _ (.inl rfl) e, c⟩
  | set S n => obtain ⟨ob, es, ep, t, e, c⟩ := x; exact ⟨ob, es, ep, t, k _ _ (.inl rfl) e, c⟩
  | ins C dx fs =>
    obtain ⟨d, z, ne, e, mA, ⟨od, es, ep, e2, c⟩, r⟩ := x
    exact ⟨ho _ d, z, ne, k _ _ (.inl rfl) e, mA, ⟨od, es, ep, k _ _ (.inr d) e2, c⟩, r⟩
  | own y => obtain ⟨ob, e⟩ := x; exact ⟨ob, k _ _ (.inl rfl) e⟩
  | xd fs => obtain ⟨mA, ⟨od, es, ep, e, c⟩, r⟩ := x; exact ⟨mA, ⟨od, es, ep, k _ _ (.inl rfl) e, c⟩, r⟩
  | rng lo hi => obtain ⟨t, u, v, e⟩ := x; exact ⟨t, u, v, k _ _ (.inl rfl) e⟩
  | frz ob u ih => obtain ⟨e, q⟩ := x; exact ⟨k _ _ (.inl rfl) e, ih q⟩
  | tbl ps =>
    have e : h.get? a = some { cls := .none, data := .fields ps } := x
    show h'.get? a = some { cls := .none, data := .fields ps }
    exact k a _ (.inl rfl) e
  | met f y =>
    have e : h.get? a = some (PySem.W.methodObj (.ref f) (.ref y)) := x
    show h'.get? a = some (PySem.W.methodObj (.ref f) (.ref y))
    exact k a _ (.inl rfl) e
  | ext φ => obtain ⟨p, ⟨o, e⟩, st⟩ := x; exact ⟨st _ _ p fun o q => k _ _ (.inl rfl) q, ⟨o, k _ _ (.inl rfl) e⟩, st⟩
theorem HOk.lt (x : HOk P w H h) (e : H a = some o) : a < h.objs.size := (x a o e).lt
theorem HOk.fresh (x : HOk P w H h) (e : h.objs.size ≤ a) : H a = none := by
  cases q : H a with
  | none => rfl
  | some u => exact absurd (Nat.lt_of_lt_of_le (x.lt q) e) (Nat.lt_irrefl _)
theorem HOk.kept (x : HOk P w H h) (k : ∀ b u, h.get? b = some u → h'.get? b = some u) : HOk P w H h' := fun a o e =>
  (x a o e).stay (fun b u _ q => k b u q) (fun _ q => q) fun _ _ q => q
theorem HOk.laid (x : HOk P w H h) (k : ∀ b u, h.get? b = some u → h'.get? b = some u) (hp : h.objs.size ≤ a) (new : ObjOk P w (upd H a o) h' a o) : HOk P w (upd H a o) h' := fun b u e => by
  have hn := x.fresh hp
  by_cases hb : b = a
  · subst hb; rw [upd_same] at e; cases e; exact new
  · rw [upd_ne hb] at e
    exact (x b u e).stay (fun c v _ q => k c v q) (fun c q => by rw [upd_ne (ne_of_none q hn)]; exact q) fun c xs q => by rw [upd_ne (ne_of_none q hn)]; exact q
end

noncomputable def Rd (H : Hp) (a : Addr) (u : HO) : Prop := H a = some u ∨ ∃ o, H a = some (.frz o u)
theorem Rd.ok {P : Program} {w : World} {H : Hp} {h : Heap} {a : Addr} {u : HO} (r : Rd H a u) (x : HOk P w H h) : ObjOk P w H h a u := by
  rcases r with r | ⟨o, r⟩
  · exact x a u r
  · obtain ⟨_, q⟩ := x a _ r
    exact q
noncomputable def Mut : Option HO → Prop
  | some (.lst _) => True
  | some (.dK _) => True
  | some (.dT _) => True
  | some (.set _ _) => True
  | some (.ins _ _ _) => True
  | some (.ext _) => True
  | _ => False
section
variable {P : Program} {w : World} {H : Hp} {h h' : Heap} {x e : Addr} {o' : HO}
theorem HOk.write (ok : HOk P w H h) (mu : Mut (H x)) (he : e = x ∨ H e = some (.own x)) (k : ∀ b u, b ≠ e → h.get? b = some u → h'.get? b = some u) (heo : ∃ u, h'.get? e = some u)
    (new : ObjOk P w (upd H x o') h' x o') : HOk P w (upd H x o') h' := fun b u q => by
  have nown : ∀ c y, H c = some (.own y) → c ≠ x := fun c y r z => by subst z; rw [r] at mu; exact mu
  have ntup : ∀ c xs, H c = some (.tup xs) → c ≠ x := fun c xs r z => by subst z; rw [r] at mu; exact mu
  by_cases hb : b = x
  · subst hb; rw [upd_same] at q; cases q; exact new
  · rw [upd_ne hb] at q
    by_cases hbe : b = e
    · have q' : H b = some (.own x) := by
        rcases he with z | z
        · exact absurd (hbe.trans z) hb
        · rw [hbe]; exact z
      rw [q] at q'; cases q'
      obtain ⟨v, hv⟩ := heo
      exact ⟨v, by rw [hbe]; exact hv⟩
    · refine (ok b u q).stay (fun c v hc r => k c v ?_ r) (fun c r => by rw [upd_ne (nown c b r)]; exact r) fun c xs r => by rw [upd_ne (ntup c xs r)]; exact r
      rcases hc with rfl | hc
      · exact hbe
      · rintro rfl
        rcases he with z | z
        · exact nown c b hc z
        · rw [hc] at z; cases z; exact hb rfl
end

structure Un (fs ex : List Addr) (H H' : Hp) (h h' : Heap) : Prop where
  keep : ∀ b o, h.get? b = some o → H b = none → b ∉ fs → b ∉ ex → h'.get? b = some o
  slot : ∀ b o, h.get? b = some o → H b = none → b ∈ fs → b ∉ ex → ∃ sl, h'.get? b = some { o with slots := sl }
  free : ∀ b o, h.get? b = some o → H b = none → b ∉ ex → H' b = none
  there : ∀ b o, h.get? b = some o → b ∉ ex → ∃ o', h'.get? b = some o'
  tups : ∀ b xs, H b = some (.tup xs) → H' b = some (.tup xs)
  frzs : ∀ b o u, H b = some (.frz o u) → H' b = some (.frz o u)
  tbls : ∀ b ps, H b = some (.tbl ps) → ∃ more, H' b = some (.tbl (ps ++ more))
section
variable {fs fs' ex ex' : List Addr} {H H1 H2 : Hp} {h h1 h2 h' : Heap} {a x e : Addr} {o : HO}
theorem Un.any (u : Un fs ex H H1 h h1) {b : Addr} {ob : Obj} (q : h.get? b = some ob) (n : H b = none) (hx : b ∉ ex) : ∃ sl, h1.get? b = some { ob with slots := sl } := by
  by_cases hb : b ∈ fs
  · exact u.slot b ob q n hb hx
  · exact ⟨ob.slots, u.keep b ob q n hb hx⟩
theorem Un.kept (k : ∀ b u, h.get? b = some u → h'.get? b = some u) : Un fs ex H H h h' :=
  ⟨fun b ob q _ _ _ => k b ob q, fun b ob q _ _ _ => ⟨ob.slots, k b ob q⟩, fun _ _ _ n _ => n, fun b ob q _ => ⟨ob, k b ob q⟩, fun _ _ q => q, fun _ _ _ q => q, fun _ ps q => ⟨#[], by rw [q]; simp⟩⟩
theorem Un.refl : Un fs ex H H h h := Un.kept fun _ _ q => q
theorem Un.laid (k : ∀ b u, h.get? b = some u → h'.get? b = some u) (hp : h.objs.size ≤ a) (hn : H a = none) : Un fs ex H (upd H a o) h h' where
  keep := fun b u q _ _ _ => k b u q
  slot := fun b u q _ _ _ => ⟨u.slots, k b u q⟩
  free := fun b u q n _ => by rw [upd_ne (Nat.ne_of_lt (Nat.lt_of_lt_of_le (Heap.lt_size q) hp))]; exact n
  there := fun b u q _ => ⟨u, k b u q⟩
  tups := fun b xs q => by rw [upd_ne (ne_of_none q hn)]; exact q
  frzs := fun b u xs q => by rw [upd_ne (ne_of_none q hn)]; exact q
  tbls := fun b ps q => ⟨#[], by rw [upd_ne (ne_of_none q hn), q]; simp⟩
theorem Un.write (mu : Mut (H x)) (he : e = x ∨ H e = some (.own x)) (k : ∀ b u, b ≠ e → h.get? b = some u → h'.get? b = some u) (heo : ∃ u, h'.get? e = some u) : Un fs ex H (upd H x o) h h' := by
  have hx : ∀ b, H b = none → b ≠ x := fun b n z => by subst z; rw [n] at mu; exact mu
  have hb : ∀ b, H b = none → b ≠ e := fun b n z => by
    subst z
    rcases he with r | r
    · exact hx b n r
    · rw [n] at r; cases r
  have hm : ∀ b u, H b = some u → ¬ Mut (some u) → b ≠ x := fun b u q nm z => by subst z; rw [q] at mu; exact nm mu
  refine ⟨fun b u q n _ _ => k b u (hb b n) q, fun b u q n _ _ => ⟨u.slots, k b u (hb b n) q⟩, fun b u q n _ => by rw [upd_ne (hx b n)]; exact n, fun b u q _ => ?_,
    fun b xs q => by rw [upd_ne (hm b _ q fun z => z)]; exact q, fun b u xs q => by rw [upd_ne (hm b _ q fun z => z)]; exact q, fun b ps q => ⟨#[], by rw [upd_ne (hm b _ q fun z => z), q]; simp⟩⟩
  by_cases hbe : b = e
  · subst hbe; exact heo
  · exact ⟨u, k b u hbe q⟩
end

noncomputable def trk (h : Heap) (H : Hp) : List Addr := (List.range h.objs.size).filter fun a => (H a).isSome
noncomputable def hidT (h : Heap) (H : Hp) : Heap := PySem.W.hideAll h (trk h H)
theorem hidT_size (h : Heap) (H : Hp) : (hidT h H).objs.size = h.objs.size := PySem.W.hideAll_size _ _
theorem hidT_get {h : Heap} {H : Hp} {b : Addr} {o : Obj} (e : h.get? b = some o) (n : H b = none) : (hidT h H).get? b = some o :=
  PySem.W.hideAll_get _ e fun hm => by
    have q : (H b).isSome = true := (List.mem_filter.mp hm).2
    rw [n] at q; simp at q
theorem of_hidT {h : Heap} {H : Hp} {b : Addr} {o : Obj} (e : (hidT h H).get? b = some o) : h.get? b = some o ∧ H b = none := by
  have e' : h.get? b = some o := PySem.W.of_hideAll (trk h H) e
  refine ⟨e', ?_⟩
  cases q : H b with
  | none => rfl
  | some x =>
    have hm : b ∈ trk h H := List.mem_filter.mpr ⟨List.mem_range.mpr (Heap.lt_size e'), by simp [q]⟩
    have z : (hidT h H).get? b = none := PySem.W.hideAll_none (trk h H) hm
    rw [z] at e; cases e

end L2

namespace L2
open PySem PySem.Spec PyProof.Rows

structure Mod (K : PySem.W.Frag) (mg : Str → Option Value) (base : Heap) : Prop where
  kin : K.In base
  glob : base.Ns mainGlobals mg
  blt : ∃ mb, base.Ns builtinsNs mb ∧ ∀ x : Str, x ≠ "__name__" → mb x = bootBuiltins x
  nolimit : base.NoLimit

structure Cx where
  prog : Program
  w : World
  K : PySem.W.Frag
  mg : Str → Option Value
  base : Heap
  A : Around
  N : List Str
  s₀ : Shared
  H₀ : Hp
  env : Env
  outer : List Env
  stack : List Env
  ex : List Addr
  fn : Str → Bool
  calm : Bool
  pn : List (Addr × Obj)
  xe : Value → Shared → Prop
noncomputable def frs (l : List Env) : List Addr := l.filterMap (·.frame)
noncomputable abbrev Cx.fs (X : Cx) : List Addr := frs X.outer

noncomputable def Vis (sc : Scope) (x : Str) : Prop := sc.names.lookup x = some .local ∨ sc.names.lookup x = some .cell ∨ sc.names.lookup x = some .free
noncomputable def Loc (sc : Scope) (x : Str) : Prop := sc.names.lookup x = some .local ∨ sc.names.lookup x = some .cell
noncomputable def Look (env : Env) (h : Heap) (m : Str → Option Value) (x : Str) (u : Value) : Prop :=
  (env.kindOf x = some .local ∧ m x = some u) ∨ ((env.kindOf x = some .cell ∨ env.kindOf x = some .free) ∧ ∃ c, env.cells.lookup x = some c ∧ h.IsCell c (some u))

structure Cx.Ok (X : Cx) : Prop where
  mod : Mod X.K X.mg X.base
  kind : X.env.scope.kind = .function
  glob : X.env.globals = mainGlobals
  blt : X.env.builtins = builtinsNs
  above : X.s₀.heap.objs.size ≤ X.env.locals
  inj : ∀ x y c, X.env.cells.lookup x = some c → X.env.cells.lookup y = some c → x = y
  has : ∀ x, (X.env.kindOf x = some .cell ∨ X.env.kindOf x = some .free) → ∃ c, X.env.cells.lookup x = some c
  cab : ∀ x c, X.fn x = true → X.env.cells.lookup x = some c → X.s₀.heap.objs.size ≤ c
  hd : X.calm = true → X.A.handled = none
  frames : X.A.frames = some X.stack
  stk : X.stack = X.outer ∨ (X.stack = X.env :: X.outer ∧ X.env.frame = some X.env.locals)
  exf : ∀ b ∈ X.ex, b ≠ X.env.locals ∧ ∀ x c, X.env.cells.lookup x = some c → c ≠ b
  bs : ∀ b o, X.base.get? b = some o → X.s₀.heap.get? b = some o ∧ X.H₀ b = none
  bsz : X.base.objs.size ≤ X.s₀.heap.objs.size
  noex : ∀ b o, X.base.get? b = some o → b ∉ X.ex
  exfs : ∀ b ∈ X.ex, b ∉ X.fs
  funs : X.s₀.heap.FunFrames X.base X.outer
  frf : ∀ b ∈ X.fs, X.H₀ b = none

structure Inv (X : Cx) (pins : List (Addr × Obj)) (σ : List (Option V)) (H : Hp) (s : Shared) : Prop where
  ok : X.Ok
  os : s.os = X.s₀.os
  bare : AllBare s.gens
  base : Un X.fs X.ex X.H₀ H X.s₀.heap s.heap
  loc : ∃ m, s.heap.Ns X.env.locals m ∧ ∀ (i : Nat) (x : Str) (v : V), X.N[i]? = some x → σ[i]? = some (some v) → Vis X.env.scope x → ∃ u, RelV v u ∧ Look X.env s.heap m x u
  cell : ∀ x c, X.env.cells.lookup x = some c → ∃ v, s.heap.IsCell c v
  free : H X.env.locals = none
  freeC : ∀ x c, X.env.cells.lookup x = some c → H c = none
  pin : ∀ p ∈ X.pn ++ pins, s.heap.get? p.1 = some p.2 ∧ H p.1 = none ∧ p.1 ≠ X.env.locals ∧ p.1 ∉ X.fs ∧ ∀ v, p.2.data ≠ .cell v
  hok : HOk X.prog X.w H s.heap
  len : σ.length = X.N.length

section
variable {X : Cx} {pins : List (Addr × Obj)} {σ : List (Option V)} {H H' : Hp} {s : Shared} {h' : Heap}

theorem Cx.Ok.nofr (ok : X.Ok) {b : Addr} {o : Obj} (e : X.base.get? b = some o) : b ∉ X.fs := fun hb => by
  have := (ok.funs.mem hb).1
  rw [e] at this; cases this
theorem Inv.bs (I : Inv X pins σ H s) : ∀ b o, X.base.get? b = some o → s.heap.get? b = some o ∧ H b = none := fun b o e =>
  ⟨I.base.keep b o (I.ok.bs b o e).1 (I.ok.bs b o e).2 (I.ok.nofr e) (I.ok.noex b o e), I.base.free b o (I.ok.bs b o e).1 (I.ok.bs b o e).2 (I.ok.noex b o e)⟩
theorem Inv.bk (I : Inv X pins σ H s) : ∀ b o, X.base.get? b = some o → s.heap.get? b = some o := fun b o e => (I.bs b o e).1
theorem Inv.mod (I : Inv X pins σ H s) : Mod X.K X.mg X.base := I.ok.mod
theorem Inv.kIn (I : Inv X pins σ H s) : X.K.In s.heap := I.ok.mod.kin.keeps I.bk
theorem Inv.lt (I : Inv X pins σ H s) : X.env.locals < s.heap.objs.size := let ⟨_, hn, _⟩ := I.loc; hn.lt
theorem Inv.sz (I : Inv X pins σ H s) : X.s₀.heap.objs.size ≤ s.heap.objs.size := Nat.le_trans I.ok.above (Nat.le_of_lt I.lt)
theorem Inv.nofs (I : Inv X pins σ H s) {a : Addr} (h : s.heap.objs.size ≤ a) : a ∉ X.fs := fun hb => by
  obtain ⟨_, o, ho, _⟩ := I.ok.funs.mem hb
  exact absurd (Nat.lt_of_lt_of_le (Heap.lt_size ho) (Nat.le_trans I.sz h)) (Nat.lt_irrefl _)
theorem Inv.cne (I : Inv X pins σ H s) : ∀ x c, X.env.cells.lookup x = some c → c ≠ X.env.locals := fun x c e z => by
  obtain ⟨v, o, ho, hd⟩ := I.cell x c e
  obtain ⟨m, ⟨o', es, ep, ho', hd', _⟩, _⟩ := I.loc
  rw [z, ho'] at ho; cases ho; rw [hd'] at hd; cases hd
theorem Inv.funs (I : Inv X pins σ H s) : s.heap.FunFrames X.base X.outer := by
  have all : ∀ (l : List Env), (∀ b ∈ frs l, b ∈ X.fs) → X.s₀.heap.FunFrames X.base l → s.heap.FunFrames X.base l := by
    intro l
    induction l with
    | nil => intro _ _; trivial
    | cons env r ih =>
      intro hs hl
      obtain ⟨hk, ⟨L, o, hf, hn, ho, hd⟩, hr⟩ := hl
      have hL : L ∈ X.fs := hs L (by unfold frs; rw [List.filterMap_cons, hf]; exact List.mem_cons_self)
      obtain ⟨sl, e⟩ := I.base.slot L o ho (I.ok.frf L hL) hL fun z => I.ok.exfs L z hL
      exact ⟨hk, ⟨L, _, hf, hn, e, hd⟩, ih (fun b hb => hs b (by unfold frs; rw [List.filterMap_cons, hf]; exact List.mem_cons_of_mem _ hb)) hr⟩
  exact all X.outer (fun _ hb => hb) I.ok.funs

theorem Inv.stack (I : Inv X pins σ H s) : s.heap.FunFrames X.base X.stack := by
  rcases I.ok.stk with e | ⟨e, hf⟩
  · rw [e]; exact I.funs
  · rw [e]
    obtain ⟨m, hn, _⟩ := I.loc
    refine .cons (by rw [I.ok.kind]; decide) hf hn ?_ I.funs
    exact Heap.get?_none_of_le (Nat.le_trans I.ok.bsz I.ok.above)
theorem Inv.stkSub (I : Inv X pins σ H s) : ∀ b ∈ frs X.stack, b ∈ X.env.locals :: X.fs := fun b hb => by
  rcases I.ok.stk with e | ⟨e, hf⟩
  · rw [e] at hb; exact List.mem_cons_of_mem _ hb
  · rw [e] at hb
    unfold frs at hb
    rw [List.filterMap_cons, hf] at hb
    exact hb
theorem Inv.stkFree (I : Inv X pins σ H s) : ∀ b ∈ frs X.stack, H b = none := fun b hb => by
  rcases List.mem_cons.mp (I.stkSub b hb) with e | hb
  · rw [e]; exact I.free
  · obtain ⟨_, o, ho, _⟩ := I.ok.funs.mem hb
    exact I.base.free b o ho (I.ok.frf b hb) fun z => I.ok.exfs b z hb

theorem Inv.step {g' : Array GenState} {t' : Nat} {d' : Drawn} {ch : List Addr} (I : Inv X pins σ H s)
    (hch : ∀ b ∈ ch, (b ∈ X.ex ∨ X.s₀.heap.objs.size ≤ b) ∧ b ≠ X.env.locals ∧ (∀ x c, X.env.cells.lookup x = some c → c ≠ b) ∧ ∀ p ∈ X.pn ++ pins, p.1 ≠ b)
    (keep : ∀ b o, b ≠ X.env.locals → b ∉ X.fs → b ∉ ch → s.heap.get? b = some o → H b = none → h'.get? b = some o)
    (slot : ∀ b o, b ≠ X.env.locals → b ∈ X.fs → b ∉ ch → s.heap.get? b = some o → H b = none → ∃ sl, h'.get? b = some { o with slots := sl }) (free : ∀ b o, b ∉ ch → s.heap.get? b = some o → H b = none → H' b = none)
    (there : ∀ b o, b ∉ ch → s.heap.get? b = some o → ∃ o', h'.get? b = some o')
    (tups : ∀ b xs, H b = some (.tup xs) → H' b = some (.tup xs)) (frzs : ∀ b o u, H b = some (.frz o u) → H' b = some (.frz o u)) (tbls : ∀ b ps, H b = some (.tbl ps) → ∃ more, H' b = some (.tbl (ps ++ more)))
    (ns : ∀ m, s.heap.Ns X.env.locals m → h'.Ns X.env.locals m) (hok : HOk X.prog X.w H' h') (hg : AllBare g') :
    Inv X pins σ H' { s with heap := h', gens := g', drawn := d', toks := t' } := by
  have neL : ∀ b o, X.s₀.heap.get? b = some o → b ≠ X.env.locals := fun b o e => Nat.ne_of_lt (Nat.lt_of_lt_of_le (Heap.lt_size e) I.ok.above)
  have neC : ∀ b o, X.s₀.heap.get? b = some o → b ∉ X.ex → b ∉ ch := fun b o e hx hb => by
    rcases (hch b hb).1 with z | z
    · exact hx z
    · exact absurd (Nat.lt_of_lt_of_le (Heap.lt_size e) z) (Nat.lt_irrefl _)
  have cellK : ∀ x c, X.env.cells.lookup x = some c → ∀ v, s.heap.IsCell c v → h'.IsCell c v := fun x c e v ⟨o, ho, hd⟩ => by
    have nch : c ∉ ch := fun z => (hch c z).2.2.1 x c e rfl
    by_cases hc : c ∈ X.fs
    · obtain ⟨sl, q⟩ := slot c o (I.cne x c e) hc nch ho (I.freeC x c e)
      exact ⟨_, q, hd⟩
    · exact ⟨o, keep c o (I.cne x c e) hc nch ho (I.freeC x c e), hd⟩
  refine ⟨I.ok, I.os, hg, ⟨fun b o e n hb hx => ?_, fun b o e n hb hx => ?_, fun b o e n hx => ?_, fun b o e hx => ?_, fun b xs e => tups b xs (I.base.tups b xs e), fun b o xs e => frzs b o xs (I.base.frzs b o xs e), fun b ps e => ?_⟩, ?_, fun x c e => ?_, ?_, fun x c e => ?_, fun p hp => ?_, hok, I.len⟩
  · exact keep b o (neL b o e) hb (neC b o e hx) (I.base.keep b o e n hb hx) (I.base.free b o e n hx)
  · obtain ⟨sl, e1⟩ := I.base.slot b o e n hb hx
    obtain ⟨sl', e2⟩ := slot b _ (neL b o e) hb (neC b o e hx) e1 (I.base.free b o e n hx)
    exact ⟨sl', e2⟩
  · obtain ⟨o', e1⟩ := I.base.there b o e hx
    exact free b o' (neC b o e hx) e1 (I.base.free b o e n hx)
  · obtain ⟨o', e1⟩ := I.base.there b o e hx
    exact there b o' (neC b o e hx) e1
  · obtain ⟨m1, e1⟩ := I.base.tbls b ps e
    obtain ⟨m2, e2⟩ := tbls b _ e1
    exact ⟨m1 ++ m2, by rw [e2, Array.append_assoc]⟩
  · obtain ⟨m, hn, hl⟩ := I.loc
    refine ⟨m, ns m hn, fun i x v e1 e2 e3 => ?_⟩
    obtain ⟨u, r, l⟩ := hl i x v e1 e2 e3
    refine ⟨u, r, ?_⟩
    rcases l with l | ⟨k, c, e, z⟩
    · exact .inl l
    · exact .inr ⟨k, c, e, cellK x c e _ z⟩
  · obtain ⟨v, z⟩ := I.cell x c e
    exact ⟨v, cellK x c e v z⟩
  · obtain ⟨m, ⟨o, _, _, ho, _⟩, _⟩ := I.loc
    exact free _ o (fun z => (hch _ z).2.1 rfl) ho I.free
  · obtain ⟨v, o, ho, hd⟩ := I.cell x c e
    exact free c o (fun z => (hch c z).2.2.1 x c e rfl) ho (I.freeC x c e)
  · obtain ⟨e, n, ne, nf, d⟩ := I.pin p hp
    have nch : p.1 ∉ ch := fun z => (hch p.1 z).2.2.2 p hp rfl
    exact ⟨keep p.1 p.2 ne nf nch e n, free p.1 p.2 nch e n, ne, nf, d⟩
theorem Inv.un {t' : Nat} (I : Inv X pins σ H s) (u : Un X.fs [] H H' s.heap h') (hok : HOk X.prog X.w H' h') : Inv X pins σ H' { s with heap := h', toks := t' } := by
  obtain ⟨m, ⟨o, es, ep, ho, r⟩, _⟩ := id I.loc
  obtain ⟨sl, hL⟩ := u.any ho I.free (by simp)
  exact I.step (g' := s.gens) (d' := s.drawn) (ch := []) (fun _ z => nomatch z) (fun b o _ hb _ e n => u.keep b o e n hb (by simp)) (fun b o _ hb _ e n => u.slot b o e n hb (by simp)) (fun b o _ e n => u.free b o e n (by simp)) (fun b o _ e => u.there b o e (by simp)) u.tups u.frzs u.tbls (fun m' hm => by
    obtain ⟨o', es', ep', ho', r'⟩ := hm
    rw [ho] at ho'; cases ho'
    exact ⟨_, es', ep', hL, r'⟩) hok I.bare
theorem Inv.call {g' : Array GenState} {t' : Nat} {d' : Drawn} {ch : List Addr} (I : Inv X pins σ H s) (u : Un (frs X.stack) ch H H' s.heap h') (hok : HOk X.prog X.w H' h') (hg : AllBare g')
    (hch : ∀ b ∈ ch, (b ∈ X.ex ∨ X.s₀.heap.objs.size ≤ b) ∧ b ≠ X.env.locals ∧ (∀ x c, X.env.cells.lookup x = some c → c ≠ b) ∧ ∀ p ∈ X.pn ++ pins, p.1 ≠ b) :
    Inv X pins σ H' { s with heap := h', gens := g', drawn := d', toks := t' } := by
  obtain ⟨m, ⟨o, es, ep, ho, r⟩, _⟩ := id I.loc
  obtain ⟨sl, hL⟩ := u.any ho I.free fun z => (hch _ z).2.1 rfl
  exact I.step (ch := ch) hch (fun b o hL hb hc e n => u.keep b o e n (fun z => (List.mem_cons.mp (I.stkSub b z)).elim hL hb) hc) (fun b o _ _ hc e n => u.any e n hc) (fun b o hc e n => u.free b o e n hc) (fun b o hc e => u.there b o e hc) u.tups u.frzs u.tbls (fun m' hm => by
    obtain ⟨o', es', ep', ho', r'⟩ := hm
    rw [ho] at ho'; cases ho'
    exact ⟨_, es', ep', hL, r'⟩) hok hg
theorem Inv.turned {t' : Nat} {it : Addr} (I : Inv X pins σ H s) (k : ∀ b o, b ≠ it → s.heap.get? b = some o → h'.get? b = some o) (hn : H it = none) (hL : it ≠ X.env.locals)
    (h1 : it ∈ X.ex ∨ X.s₀.heap.objs.size ≤ it) (h2 : ∀ x c, X.env.cells.lookup x = some c → c ≠ it) (h3 : ∀ p ∈ X.pn ++ pins, p.1 ≠ it) : Inv X pins σ H { s with heap := h', toks := t' } := by
  have nit : ∀ b u, H b = some u → b ≠ it := fun b u e z => by rw [z, hn] at e; cases e
  refine I.step (g' := s.gens) (d' := s.drawn) (ch := [it]) (fun b hb => ?_) (fun b o _ _ hc e _ => k b o (fun z => hc (by simp [z])) e) (fun b o _ _ hc e _ => ⟨o.slots, k b o (fun z => hc (by simp [z])) e⟩) (fun _ _ _ _ n => n)
    (fun b o hc e => ⟨o, k b o (fun z => hc (by simp [z])) e⟩) (fun _ _ e => e) (fun _ _ _ e => e) (fun b ps e => ⟨#[], by rw [e]; simp⟩) (fun m hm => ?_) (fun b u e => ?_) I.bare
  · have e : b = it := by simpa using hb
    subst e
    exact ⟨h1, hL, h2, h3⟩
  · obtain ⟨o, es, ep, ho, r⟩ := hm
    exact ⟨o, es, ep, k _ o (Ne.symm hL) ho, r⟩
  · refine (I.hok b u e).stay (fun c v hc q => k c v ?_ q) (fun _ q => q) fun _ _ q => q
    rcases hc with z | z
    · rw [z]; exact nit b u e
    · exact nit c _ z
theorem Inv.tok (I : Inv X pins σ H s) (t : Nat) : Inv X pins σ H { s with toks := t } := I.un (h' := s.heap) (t' := t) Un.refl I.hok
theorem Inv.kept {t' : Nat} (I : Inv X pins σ H s) (k : ∀ b u, s.heap.get? b = some u → h'.get? b = some u) : Inv X pins σ H { s with heap := h', toks := t' } := I.un (Un.kept k) (I.hok.kept k)
theorem Inv.laid {a : Addr} {o : HO} {t' : Nat} (I : Inv X pins σ H s) (k : ∀ b u, s.heap.get? b = some u → h'.get? b = some u) (hp : s.heap.objs.size ≤ a) (new : ObjOk X.prog X.w (upd H a o) h' a o) :
    Inv X pins σ (upd H a o) { s with heap := h', toks := t' } := I.un (Un.laid k hp (I.hok.fresh hp)) (I.hok.laid k hp new)
theorem Inv.write {x e : Addr} {o : HO} {t' : Nat} (I : Inv X pins σ H s) (mu : Mut (H x)) (he : e = x ∨ H e = some (.own x)) (k : ∀ b u, b ≠ e → s.heap.get? b = some u → h'.get? b = some u) (heo : ∃ u, h'.get? e = some u)
    (new : ObjOk X.prog X.w (upd H x o) h' x o) : Inv X pins σ (upd H x o) { s with heap := h', toks := t' } := I.un (Un.write mu he k heo) (I.hok.write mu he k heo new)
theorem Inv.weak {σ' : List (Option V)} (I : Inv X pins σ H s) (hl : σ'.length = σ.length) (w : ∀ (i : Nat) v, σ'[i]? = some (some v) → σ[i]? = some (some v)) : Inv X pins σ' H s :=
  ⟨I.ok, I.os, I.bare, I.base, let ⟨m, hn, hl'⟩ := I.loc; ⟨m, hn, fun i x v e1 e2 e3 => hl' i x v e1 (w i v e2) e3⟩, I.cell, I.free, I.freeC, I.pin, I.hok, hl.trans I.len⟩
theorem Inv.pins_of {pins' : List (Addr × Obj)} (I : Inv X pins σ H s) (h : ∀ p ∈ pins', s.heap.get? p.1 = some p.2 ∧ H p.1 = none ∧ p.1 ≠ X.env.locals ∧ p.1 ∉ X.fs ∧ ∀ v, p.2.data ≠ .cell v) : Inv X pins' σ H s :=
  ⟨I.ok, I.os, I.bare, I.base, I.loc, I.cell, I.free, I.freeC, fun p hp => (List.mem_append.mp hp).elim (fun z => I.pin p (List.mem_append_left _ z)) (h p), I.hok, I.len⟩

theorem nodup_ix {N : List Str} (hN : N.Nodup) {i j : Nat} {x : Str} (a : N[i]? = some x) (b : N[j]? = some x) : i = j := by
  obtain ⟨h1, e1⟩ := List.getElem?_eq_some_iff.mp a
  obtain ⟨h2, e2⟩ := List.getElem?_eq_some_iff.mp b
  exact (List.getElem_inj hN).mp (e1.trans e2.symm)

theorem store_ok2 {M : Model} {A : Around} {E : Value → Shared → Prop} {i : Nat} {x : Str} {v : V} {u : Value} {Q : Unit → Shared → Prop} (I : Inv X pins σ H s) (hN : X.N.Nodup) (hi : X.N[i]? = some x) (hx : Loc X.env.scope x) (r : RelV v u)
    (h : ∀ s', Inv X pins (σ.set i (some v)) H s' → (∃ a, Heap.SameBut a s.heap s'.heap ∧ (a = X.env.locals ∨ X.env.cells.lookup x = some a)) → Q () s') (hf : X.fn x = true ∨ X.env.scope.names.lookup x = some .local := by first | exact .inl rfl | exact .inr rfl | assumption) : wpAny M A (storeName X.env x u) Q E s := by
  obtain ⟨m, hn, hl⟩ := id I.loc
  have hcls : (X.env.scope.kind == .class || (X.env.scope.kind == .module && X.env.locals != X.env.globals)) = false := by rw [I.ok.kind]; rfl
  have hiσ : i < σ.length := by rw [I.len]; exact (List.getElem?_eq_some_iff.mp hi).1
  have cne := I.cne
  have tracked : ∀ {a : Addr} {h' : Heap}, (∃ o, s.heap.get? a = some o ∧ H a = none) → Heap.SameBut a s.heap h' → HOk X.prog X.w H h' := fun {a h'} ha hs b ob e => by
    obtain ⟨_, _, hfree⟩ := ha
    refine (I.hok b ob e).stay (fun c w' hc q => (hs.2 c ?_).trans q) (fun _ q => q) fun _ _ q => q
    rintro rfl
    rcases hc with rfl | hc
    · rw [hfree] at e; cases e
    · rw [hfree] at hc; cases hc
  rcases hx with hk | hk
  · refine wpAny_storeName_local hk hn (fun h' hn' hs => ?_) hcls
    obtain ⟨oL, _, _, hoL, _⟩ := id hn
    refine h _ ⟨I.ok, I.os, I.bare, ⟨fun b o e n hb hx => ?_, fun b o e n hb hx => ?_, I.base.free, fun b o e hx => ?_, I.base.tups, I.base.frzs, I.base.tbls⟩, ⟨_, hn', fun j y v' e1 e2 e3 => ?_⟩, fun y c e => ?_, I.free, I.freeC, fun p hp => ?_, tracked ⟨oL, hoL, I.free⟩ hs, by simpa using I.len⟩ ⟨_, hs, .inl rfl⟩
    · exact (hs.2 b (Nat.ne_of_lt (Nat.lt_of_lt_of_le (Heap.lt_size e) I.ok.above))).trans (I.base.keep b o e n hb hx)
    · obtain ⟨sl, e1⟩ := I.base.slot b o e n hb hx
      exact ⟨sl, (hs.2 b (Nat.ne_of_lt (Nat.lt_of_lt_of_le (Heap.lt_size e) I.ok.above))).trans e1⟩
    · obtain ⟨o', e1⟩ := I.base.there b o e hx
      exact ⟨o', (hs.2 b (Nat.ne_of_lt (Nat.lt_of_lt_of_le (Heap.lt_size e) I.ok.above))).trans e1⟩
    · by_cases hj : j = i
      · subst hj
        rw [hi] at e1; cases e1
        rw [List.getElem?_set_self hiσ] at e2
        cases e2
        exact ⟨u, r, .inl ⟨hk, by simp⟩⟩
      · rw [List.getElem?_set_ne (Ne.symm hj)] at e2
        obtain ⟨u', r', q⟩ := hl j y v' e1 e2 e3
        refine ⟨u', r', ?_⟩
        rcases q with ⟨k, e⟩ | ⟨k, c, e, z⟩
        · refine .inl ⟨k, ?_⟩
          have : y ≠ x := fun e => hj (nodup_ix hN e1 (e ▸ hi))
          simp [this, e]
        · exact .inr ⟨k, c, e, z.sameBut hs (cne y c e)⟩
    · obtain ⟨w', z⟩ := I.cell y c e
      exact ⟨w', z.sameBut hs (cne y c e)⟩
    · obtain ⟨e, n, ne, nf, d⟩ := I.pin p hp
      exact ⟨(hs.2 p.1 ne).trans e, n, ne, nf, d⟩
  · have hfn : X.fn x = true := by
      rcases hf with z | z
      · exact z
      · rw [z] at hk; cases hk
    obtain ⟨c, hc⟩ := I.ok.has x (.inl hk)
    obtain ⟨w', z⟩ := I.cell x c hc
    refine wpAny_storeName_cell I.ok.kind hk hc z (fun h' hc' hs => ?_)
    obtain ⟨oc, hoc, hocd⟩ := id z
    refine h { s with heap := h' } ⟨I.ok, I.os, I.bare, ⟨fun b o e n hb hx => ?_, fun b o e n hb hx => ?_, I.base.free, fun b o e hx => ?_, I.base.tups, I.base.frzs, I.base.tbls⟩, ⟨m, hn.sameBut hs (Ne.symm (cne x c hc)), fun j y v' e1 e2 e3 => ?_⟩, fun y c' e => ?_, I.free, I.freeC, fun p hp => ?_, tracked ⟨oc, hoc, I.freeC x c hc⟩ hs, by simpa using I.len⟩ ⟨c, hs, .inr hc⟩
    · exact (hs.2 b (Nat.ne_of_lt (Nat.lt_of_lt_of_le (Heap.lt_size e) (I.ok.cab x c hfn hc)))).trans (I.base.keep b o e n hb hx)
    · obtain ⟨sl, e1⟩ := I.base.slot b o e n hb hx
      exact ⟨sl, (hs.2 b (Nat.ne_of_lt (Nat.lt_of_lt_of_le (Heap.lt_size e) (I.ok.cab x c hfn hc)))).trans e1⟩
    · obtain ⟨o', e1⟩ := I.base.there b o e hx
      exact ⟨o', (hs.2 b (Nat.ne_of_lt (Nat.lt_of_lt_of_le (Heap.lt_size e) (I.ok.cab x c hfn hc)))).trans e1⟩
    · by_cases hj : j = i
      · subst hj
        rw [hi] at e1; cases e1
        rw [List.getElem?_set_self hiσ] at e2
        cases e2
        exact ⟨u, r, .inr ⟨.inl hk, c, hc, hc'⟩⟩
      · rw [List.getElem?_set_ne (Ne.symm hj)] at e2
        obtain ⟨u', r', q⟩ := hl j y v' e1 e2 e3
        refine ⟨u', r', ?_⟩
        rcases q with q | ⟨k, c', e, z'⟩
        · exact .inl q
        · refine .inr ⟨k, c', e, z'.sameBut hs ?_⟩
          rintro rfl
          exact hj (nodup_ix hN e1 (I.ok.inj _ _ _ e hc ▸ hi))
    · by_cases hcc : c' = c
      · subst hcc; exact ⟨_, hc'⟩
      · obtain ⟨w2, z2⟩ := I.cell y c' e
        exact ⟨w2, z2.sameBut hs hcc⟩
    · obtain ⟨e, n, ne, nf, d⟩ := I.pin p hp
      refine ⟨(hs.2 p.1 ?_).trans e, n, ne, nf, d⟩
      intro q
      rw [q, hoc] at e
      have q' : oc = p.2 := Option.some.inj e
      exact d w' (by rw [← q']; exact hocd)
theorem store_ok {M : Model} {A : Around} {E : Value → Shared → Prop} {i : Nat} {x : Str} {v : V} {u : Value} {Q : Unit → Shared → Prop} (I : Inv X pins σ H s) (hN : X.N.Nodup) (hi : X.N[i]? = some x) (hx : Loc X.env.scope x) (r : RelV v u)
    (h : ∀ s', Inv X pins (σ.set i (some v)) H s' → Q () s') (hf : X.fn x = true ∨ X.env.scope.names.lookup x = some .local := by first | exact .inl rfl | exact .inr rfl | assumption) : wpAny M A (storeName X.env x u) Q E s :=
  store_ok2 I hN hi hx r (fun s' I' _ => h s' I') hf
theorem Inv.call' {s' : Shared} {ch : List Addr} (I : Inv X pins σ H s) (ho : s'.os = s.os) (u : Un (frs X.stack) ch H H' s.heap s'.heap) (hok : HOk X.prog X.w H' s'.heap) (hg : AllBare s'.gens)
    (hch : ∀ b ∈ ch, (b ∈ X.ex ∨ X.s₀.heap.objs.size ≤ b) ∧ b ≠ X.env.locals ∧ (∀ x c, X.env.cells.lookup x = some c → c ≠ b) ∧ ∀ p ∈ X.pn ++ pins, p.1 ≠ b) : Inv X pins σ H' s' := by
  obtain ⟨h', g', d', t', o'⟩ := s'
  have e : o' = s.os := ho
  subst e
  exact I.call (g' := g') (t' := t') (d' := d') u hok hg hch
end

noncomputable abbrev XK := Value → Option Addr → Hp → Prop
noncomputable abbrev St := List (Option V)
noncomputable abbrev VK := V → Hp → Prop
noncomputable abbrev TE := St → Hp → VK → Prop
noncomputable abbrev TT := St → Hp → (Bool → Hp → Prop) → Prop
noncomputable abbrev TA := St → Hp → (List V → Hp → Prop) → Prop
structure Ends where
  nx : St → Hp → Prop
  rt : VK
  bk : St → Hp → Prop := fun _ _ => False
  ct : St → Hp → Prop := fun _ _ => False
noncomputable abbrev TS := Ends → St → Hp → Prop

noncomputable def EP (X : Cx) (pins : List (Addr × Obj)) (σ : St) (Q : VK) (u : Value) (s' : Shared) : Prop := ∃ v H', Inv X pins σ H' s' ∧ RelV v u ∧ Q v H'
noncomputable def TP (X : Cx) (pins : List (Addr × Obj)) (σ : St) (Q : Bool → Hp → Prop) (b : Bool) (s' : Shared) : Prop := ∃ H', Inv X pins σ H' s' ∧ Q b H'
noncomputable def AP (X : Cx) (pins : List (Addr × Obj)) (σ : St) (Q : List V → Hp → Prop) (us : List Value) (s' : Shared) : Prop := ∃ vs H', Inv X pins σ H' s' ∧ Vals vs us ∧ Q vs H'
noncomputable def SP (X : Cx) (pins : List (Addr × Obj)) (D : Ends) (f : Flow) (s' : Shared) : Prop :=
  match f with
  | .next => ∃ σ' H', Inv X pins σ' H' s' ∧ D.nx σ' H'
  | .brk => ∃ σ' H', Inv X pins σ' H' s' ∧ D.bk σ' H'
  | .cont => ∃ σ' H', Inv X pins σ' H' s' ∧ D.ct σ' H'
  | .ret u => ∃ v σ' H', Inv X pins σ' H' s' ∧ RelV v u ∧ D.rt v H'

noncomputable def PE (X : Cx) (e : Expr) (t : TE) : Prop :=
  ∀ (pins : List (Addr × Obj)) (s : Shared) (σ : St) (H : Hp) (Q : VK), Inv X pins σ H s → t σ H Q → wpAny (model X.prog X.w) X.A (eval e X.env) (EP X pins σ Q) X.xe s
noncomputable def PT (X : Cx) (e : Expr) (t : TT) : Prop :=
  ∀ (pins : List (Addr × Obj)) (s : Shared) (σ : St) (H : Hp) (Q : Bool → Hp → Prop), Inv X pins σ H s → t σ H Q → wpAny (model X.prog X.w) X.A (isTrue e X.env (eval e X.env)) (TP X pins σ Q) X.xe s
noncomputable def PW (X : Cx) (e : Expr) (t : TT) : Prop :=
  ∀ (whole : Sem Value) (pins : List (Addr × Obj)) (s : Shared) (σ : St) (H : Hp) (Q : Bool → Hp → Prop), Inv X pins σ H s → t σ H Q → wpAny (model X.prog X.w) X.A (isTrue e X.env whole) (TP X pins σ Q) X.xe s
theorem PW.pt {X : Cx} {e : Expr} {t : TT} (h : PW X e t) : PT X e t := h _
noncomputable def PA (X : Cx) (es : List Expr) (t : TA) : Prop :=
  ∀ (pos : Pos) (pins : List (Addr × Obj)) (s : Shared) (σ : St) (H : Hp) (Q : List V → Hp → Prop), Inv X pins σ H s → t σ H Q → wpAny (model X.prog X.w) X.A (spliced (backTo pos (starEach es X.env))) (AP X pins σ Q) X.xe s
noncomputable def PS (X : Cx) (st : Stmt) (t : TS) : Prop :=
  ∀ (pins : List (Addr × Obj)) (s : Shared) (σ : St) (H : Hp) (D : Ends), Inv X pins σ H s → t D σ H → wpAny (model X.prog X.w) X.A (exec st X.env) (SP X pins D) X.xe s
noncomputable def PSs (X : Cx) (st : List Stmt) (t : TS) : Prop :=
  ∀ (pins : List (Addr × Obj)) (s : Shared) (σ : St) (H : Hp) (D : Ends), Inv X pins σ H s → t D σ H → wpAny (model X.prog X.w) X.A (execs st X.env) (SP X pins D) X.xe s
theorem thn {α : Type} {t : Sem α} {Q Q' : α → Shared → Prop} {M : Model} {A : Around} {E : Value → Shared → Prop} {s : Shared} (h : wpAny M A t Q E s) (hQ : ∀ a s, Q a s → Q' a s) : wpAny M A t Q' E s := wpAny_mono h hQ fun _ _ x => x
end L2

namespace L2
open PySem PySem.Spec PyProof.Rows
section
variable {X : Cx}

noncomputable def tVar (i : Nat) : TE := fun σ H Q => ∃ v, σ[i]? = some (some v) ∧ Q v H
noncomputable def tC (v : V) : TE := fun _ H Q => Q v H
theorem pe_var {i : Nat} {x : Str} {pos : Pos} (hN : X.N[i]? = some x) (hv : Vis X.env.scope x) (hd : (x == ("__debug__" : Str)) = false := by decide) (hcd : (x == ("__classdict__" : Str)) = false := by decide) : PE X (.Name x pos) (tVar i) := by
  intro pins s σ H Q I h
  obtain ⟨v, e, h⟩ := h
  obtain ⟨m, hn, hl⟩ := I.loc
  obtain ⟨u, r, l⟩ := hl i x v hN e hv
  have fin : EP X pins σ Q u s := ⟨v, H, I, r, h⟩
  rcases l with ⟨hk, hm⟩ | ⟨hk, c, hc, hcell⟩
  · exact wpAny_Name (wpAny_loadName_local I.ok.kind hk hn hm fin) hd
  · rcases hk with hk | hk
    · exact wpAny_Name (wpAny_loadName_cell I.ok.kind hk hc hcell fin) hd
    · exact wpAny_Name (wpAny_loadName_free I.ok.kind hk hc hcell fin hcd) hd
theorem pe_int {i j pos} : PE X (.Constant (.int i) j pos) (tC (.int i)) := fun _ _ _ H _ I h => wpAny_Constant_int ⟨.int i, H, I.tok _, ⟨_, rfl⟩, h⟩
theorem pe_bl {b j pos} : PE X (.Constant (.bool b) j pos) (tC (.bl b)) := fun _ _ _ H _ I h => Constant_bool ⟨.bl b, H, I, rfl, h⟩
theorem pe_non {j pos} : PE X (.Constant .none j pos) (tC .non) := fun _ _ _ H _ I h => Constant_none ⟨.non, H, I, rfl, h⟩
theorem pe_str {x j pos} : PE X (.Constant (.str x) j pos) (tC (.str x)) := fun _ _ _ H _ I h => Calls.Constant_str ⟨.str x, H, I.tok _, ⟨_, rfl⟩, h⟩

noncomputable def Gl (X : Cx) (x : Str) : Prop := X.env.kindOf x = some .globalImplicit
theorem ld_glob {E : Value → Shared → Prop} {pins : List (Addr × Obj)} {s : Shared} {σ : St} {H : Hp} {x : Str} {u : Value} {pos : Pos} {Q : Value → Shared → Prop} (I : Inv X pins σ H s) (hg : Gl X x) (hm : X.mg x = some u) (h : Q u s)
    (hd : (x == ("__debug__" : Str)) = false := by decide) : wpAny (model X.prog X.w) X.A (eval (.Name x pos) X.env) Q E s :=
  Calls.Name_function_global I.ok.kind hg (Calls.loadGlobal_global (by rw [I.ok.glob]; exact I.mod.glob.keeps I.bk) hm h) hd
theorem ld_blt {E : Value → Shared → Prop} {pins : List (Addr × Obj)} {s : Shared} {σ : St} {H : Hp} {x : Str} {u : Value} {pos : Pos} {Q : Value → Shared → Prop} (I : Inv X pins σ H s) (hg : Gl X x) (hm : X.mg x = none) (hv : bootBuiltins x = some u) (h : Q u s)
    (hn : x ≠ "__name__" := by decide) (hd : (x == ("__debug__" : Str)) = false := by decide) : wpAny (model X.prog X.w) X.A (eval (.Name x pos) X.env) Q E s := by
  obtain ⟨mb, h1, h2⟩ := I.mod.blt
  exact Calls.Name_function_global I.ok.kind hg (Calls.loadGlobal_builtin (by rw [I.ok.glob]; exact I.mod.glob.keeps I.bk) hm (by rw [I.ok.blt]; exact h1.keeps I.bk) ((h2 x hn).trans hv) h) hd
theorem pe_glob {x : Str} {v : V} {u : Value} {pos : Pos} (hg : Gl X x) (hm : X.mg x = some u) (r : RelV v u) (hd : (x == ("__debug__" : Str)) = false := by decide) : PE X (.Name x pos) (tC v) :=
  fun _ _ _ H _ I h => ld_glob I hg hm ⟨v, H, I, r, h⟩ hd
theorem pe_bltn {x : Str} {v : V} {u : Value} {pos : Pos} (hg : Gl X x) (hm : X.mg x = none) (hv : bootBuiltins x = some u) (r : RelV v u) (hn : x ≠ "__name__" := by decide) (hd : (x == ("__debug__" : Str)) = false := by decide) : PE X (.Name x pos) (tC v) :=
  fun _ _ _ H _ I h => ld_blt I hg hm hv ⟨v, H, I, r, h⟩ hn hd

variable {a b : Expr} {ta tb : TE} {pos : Pos}
noncomputable def tB (t : TE) : TT := fun σ H Q => t σ H fun x H1 => ∃ c, x = .bl c ∧ Q c H1
theorem pt_val {e : Expr} {t : TE} (h : PE X e t) (he : ∀ whole, isTrue e X.env whole = (do let v ← whole; standAt e.pos; holding [v] (truthy v)) := by intro _; rfl) : PT X e (tB t) := by
  intro pins s σ H Q I hw
  refine isTrue_plain (thn (h pins s σ H _ I hw) fun v s1 ⟨x, H1, I1, r1, q1⟩ => ?_) (he _)
  obtain ⟨d, rfl, q⟩ := q1
  cases r1
  exact wpAny_truthy_bool ⟨H1, I1, q⟩

variable {tA tB' : TT} {rest : List Expr}
noncomputable def tAnd (t u : TT) : TT := fun σ H Q => t σ H fun c H1 => if c = true then u σ H1 Q else Q false H1
noncomputable def tOr (t u : TT) : TT := fun σ H Q => t σ H fun c H1 => if c = true then Q true H1 else u σ H1 Q
noncomputable def tNot (t : TT) : TT := fun σ H Q => t σ H fun c H1 => Q (!c) H1
theorem pw_and1 (ha : PT X a tA) : PW X (.BoolOp .And [a] pos) tA := by
  intro wh pins s σ H Q I h
  refine isTrue_and (thn (ha pins s σ H Q I h) fun c s1 e => ?_)
  cases c with
  | true => exact isTrue_and_nil e
  | false => exact e
theorem pw_or1 (ha : PT X a tA) : PW X (.BoolOp .Or [a] pos) tA := by
  intro wh pins s σ H Q I h
  refine isTrue_or (thn (ha pins s σ H Q I h) fun c s1 e => ?_)
  cases c with
  | false => exact isTrue_or_nil e
  | true => exact e
theorem pw_and (ha : PT X a tA) (hb : PW X (.BoolOp .And (b :: rest) pos) tB') : PW X (.BoolOp .And (a :: b :: rest) pos) (tAnd tA tB') := by
  intro wh pins s σ H Q I h
  refine isTrue_and (thn (ha pins s σ H _ I h) fun c s1 ⟨H1, I1, q1⟩ => ?_)
  cases c with
  | true => exact hb wh pins s1 σ H1 Q I1 q1
  | false => exact ⟨H1, I1, q1⟩
theorem pw_or (ha : PT X a tA) (hb : PW X (.BoolOp .Or (b :: rest) pos) tB') : PW X (.BoolOp .Or (a :: b :: rest) pos) (tOr tA tB') := by
  intro wh pins s σ H Q I h
  refine isTrue_or (thn (ha pins s σ H _ I h) fun c s1 ⟨H1, I1, q1⟩ => ?_)
  cases c with
  | true => exact ⟨H1, I1, q1⟩
  | false => exact hb wh pins s1 σ H1 Q I1 q1
theorem pt_not (ha : PT X a tA) : PT X (.UnaryOp .Not a pos) (tNot tA) := by
  intro pins s σ H Q I h
  exact isTrue_not (ha pins s σ H (fun c H1 => Q (!c) H1) I h)
noncomputable def tAndV (ta tb : TE) : TE := fun σ H Q => ta σ H fun x H1 => ∃ c, x = .bl c ∧ if c = true then tb σ H1 Q else Q (.bl false) H1
noncomputable def tOrV (ta tb : TE) : TE := fun σ H Q => ta σ H fun x H1 => ∃ c, x = .bl c ∧ if c = true then Q (.bl true) H1 else tb σ H1 Q
noncomputable def tNotV (ta : TE) : TE := fun σ H Q => ta σ H fun x H1 => ∃ c, x = .bl c ∧ Q (.bl (!c)) H1
theorem pe_one {op} {t : TE} (h : PE X a t) : PE X (.BoolOp op [a] pos) t := fun pins s σ H Q I hw => BoolOp_one (h pins s σ H Q I hw)
theorem pe_and (ha : PE X a ta) (hb : PE X (.BoolOp .And (b :: rest) pos) tb) : PE X (.BoolOp .And (a :: b :: rest) pos) (tAndV ta tb) := by
  intro pins s σ H Q I h
  refine BoolOp_and (thn (ha pins s σ H _ I h) fun v s1 ⟨x, H1, I1, r1, q1⟩ => ?_)
  obtain ⟨c, rfl, q1⟩ := q1
  cases r1
  refine wpAny_truthy_bool ?_
  cases c with
  | true => exact hb pins s1 σ H1 Q I1 q1
  | false => exact ⟨.bl false, H1, I1, rfl, q1⟩
theorem pe_or (ha : PE X a ta) (hb : PE X (.BoolOp .Or (b :: rest) pos) tb) : PE X (.BoolOp .Or (a :: b :: rest) pos) (tOrV ta tb) := by
  intro pins s σ H Q I h
  refine BoolOp_or (thn (ha pins s σ H _ I h) fun v s1 ⟨x, H1, I1, r1, q1⟩ => ?_)
  obtain ⟨c, rfl, q1⟩ := q1
  cases r1
  refine wpAny_truthy_bool ?_
  cases c with
  | false => exact hb pins s1 σ H1 Q I1 q1
  | true => exact ⟨.bl true, H1, I1, rfl, q1⟩
theorem pe_not (ha : PE X a ta) : PE X (.UnaryOp .Not a pos) (tNotV ta) := by
  intro pins s σ H Q I h
  refine UnaryOp_ (thn (ha pins s σ H _ I h) fun v s1 ⟨x, H1, I1, r1, q1⟩ => ?_)
  obtain ⟨c, rfl, q1⟩ := q1
  cases r1
  exact not_of (wpAny_truthy_bool ⟨.bl (!c), H1, I1, rfl, q1⟩)
end
end L2

namespace L2
open PySem PySem.Spec PyProof.Rows

noncomputable def SqL (K : PySem.W.Frag) (H : Hp) (a : Addr) (xs : List V) : Prop :=
  Rd H a (.lst xs) ∨
    ∃ (o : Obj) (its : Array Value) (n : Nat), K.lookup a = some o ∧ o.cls = .type "list" ∧ o.dict = none ∧ o.data = .seq its n ∧ its.size ≤ sizeLine ∧ Vals xs its.toList
noncomputable def SqT (K : PySem.W.Frag) (H : Hp) (a : Addr) (xs : List V) : Prop :=
  Rd H a (.tup xs) ∨
    ∃ (o : Obj) (its : Array Value) (n : Nat), K.lookup a = some o ∧ o.cls = .type "tuple" ∧ o.data = .seq its n ∧ its.size ≤ sizeLine ∧ Vals xs its.toList
noncomputable def absV : Value → Option V
  | .none => some .non
  | .bool b => some (.bl b)
  | .int i _ => some (.int i)
  | .str x _ => some (.str x)
  | .bytes b _ => some (.byt b)
  | .float b _ => some (.flt b)
  | .ref a => some (.ref a)
  | .type n => some (.ty n)
  | _ => none
theorem RelV.abs {x : V} {u : Value} (r : RelV x u) : absV u = some x := by
  cases x with
  | non => cases r; rfl
  | bl _ => cases r; rfl
  | int _ => obtain ⟨t, rfl⟩ := r; rfl
  | str _ => obtain ⟨t, rfl⟩ := r; rfl
  | byt _ => obtain ⟨t, rfl⟩ := r; rfl
  | flt _ => obtain ⟨t, rfl⟩ := r; rfl
  | ref _ => cases r; rfl
  | ty _ => cases r; rfl
theorem RelV.inj {x y : V} {u : Value} (r : RelV x u) (q : RelV y u) : x = y := Option.some.inj (r.abs.symm.trans q.abs)
theorem Vals.inj : ∀ {xs ys : List V} {us : List Value}, Vals xs us → Vals ys us → xs = ys := by
  intro xs
  induction xs with
  | nil =>
    intro ys us h k
    cases h
    cases k
    rfl
  | cons x xs ih =>
    intro ys us h k
    cases h with
    | cons r t =>
      cases k with
      | cons r' t' => rw [r.inj r', ih t t']
section
variable {X : Cx} {pins : List (Addr × Obj)} {σ : St} {H : Hp} {s : Shared} {a : Addr} {xs ys : List V}
theorem SqL.of {K : PySem.W.Frag} (h : H a = some (.lst xs)) : SqL K H a xs := .inl (.inl h)
theorem SqT.of {K : PySem.W.Frag} (h : H a = some (.tup xs)) : SqT K H a xs := .inl (.inl h)
theorem Inv.list (I : Inv X pins σ H s) (h : SqL X.K H a xs) : ∃ its : List Value, Vals xs its ∧ PlainL s.heap a its.toArray ∧ xs.length ≤ sizeLine := by
  rcases h with h | ⟨o, its, n, hk, hc, hd, hs, hz, r⟩
  · obtain ⟨z, its, n, r, e⟩ := h.ok I.hok
    exact ⟨its, r, ⟨_, n, e, rfl, rfl, rfl⟩, z⟩
  · refine ⟨its.toList, r, ⟨o, n, I.kIn a o hk, hc, hd, by simpa using hs⟩, ?_⟩
    have e := r.length
    simp only [Array.length_toList] at e
    omega
theorem Inv.tuple (I : Inv X pins σ H s) (h : SqT X.K H a xs) : ∃ its : List Value, Vals xs its ∧ IsTup s.heap a its.toArray ∧ xs.length ≤ sizeLine := by
  rcases h with h | ⟨o, its, n, hk, hc, hs, hz, r⟩
  · obtain ⟨z, its, r, p⟩ := h.ok I.hok
    exact ⟨its, r, p.tup, z⟩
  · refine ⟨its.toList, r, ⟨o, I.kIn a o hk, hc, n, by simpa using hs⟩, ?_⟩
    have e := r.length
    simp only [Array.length_toList] at e
    omega
theorem Inv.list_inj (I : Inv X pins σ H s) (h : SqL X.K H a xs) (h' : SqL X.K H a ys) : xs = ys := by
  obtain ⟨its, r, ⟨o, n, e, _, _, d⟩, _⟩ := I.list h
  obtain ⟨its', r', ⟨o', n', e', _, _, d'⟩, _⟩ := I.list h'
  rw [e] at e'; cases e'
  rw [d] at d'
  injection d' with d1 _
  have : its = its' := by simpa using congrArg Array.toList d1
  subst this
  exact r.inj r'
theorem Inv.tuple_inj (I : Inv X pins σ H s) (h : SqT X.K H a xs) (h' : SqT X.K H a ys) : xs = ys := by
  obtain ⟨its, r, ⟨o, e, _, n, d⟩, _⟩ := I.tuple h
  obtain ⟨its', r', ⟨o', e', _, n', d'⟩, _⟩ := I.tuple h'
  rw [e] at e'; cases e'
  rw [d] at d'
  injection d' with d1 _
  have : its = its' := by simpa using congrArg Array.toList d1
  subst this
  exact r.inj r'
end

noncomputable abbrev Cx.wish (X : Cx) (E : Value → Shared → Prop) : Cx := { X with xe := E }
noncomputable abbrev Cx.nox (X : Cx) : Cx := X.wish fun _ _ => False
theorem Cx.Ok.wish {X : Cx} (ok : X.Ok) (E : Value → Shared → Prop) : (X.wish E).Ok :=
  ⟨ok.mod, ok.kind, ok.glob, ok.blt, ok.above, ok.inj, ok.has, ok.cab, ok.hd, ok.frames, ok.stk, ok.exf, ok.bs, ok.bsz, ok.noex, ok.exfs, ok.funs, ok.frf⟩
theorem Cx.Ok.unwish {X : Cx} {E : Value → Shared → Prop} (ok : (X.wish E).Ok) : X.Ok :=
  ⟨ok.mod, ok.kind, ok.glob, ok.blt, ok.above, ok.inj, ok.has, ok.cab, ok.hd, ok.frames, ok.stk, ok.exf, ok.bs, ok.bsz, ok.noex, ok.exfs, ok.funs, ok.frf⟩
section
variable {X : Cx} {pins : List (Addr × Obj)} {σ : St} {H : Hp} {s : Shared} {E : Value → Shared → Prop}
theorem Inv.wish (I : Inv X pins σ H s) (E : Value → Shared → Prop) : Inv (X.wish E) pins σ H s := ⟨I.ok.wish E, I.os, I.bare, I.base, I.loc, I.cell, I.free, I.freeC, I.pin, I.hok, I.len⟩
theorem Inv.unwish (I : Inv (X.wish E) pins σ H s) : Inv X pins σ H s := ⟨I.ok.unwish, I.os, I.bare, I.base, I.loc, I.cell, I.free, I.freeC, I.pin, I.hok, I.len⟩
theorem SP.unwish {D : Ends} {f : Flow} {s' : Shared} (h : SP (X.wish E) pins D f s') : SP X pins D f s' := by
  cases f with
  | next => obtain ⟨σ', H', I, q⟩ := h; exact ⟨σ', H', I.unwish, q⟩
  | brk => obtain ⟨σ', H', I, q⟩ := h; exact ⟨σ', H', I.unwish, q⟩
  | cont => obtain ⟨σ', H', I, q⟩ := h; exact ⟨σ', H', I.unwish, q⟩
  | ret u => obtain ⟨v, σ', H', I, r, q⟩ := h; exact ⟨v, σ', H', I.unwish, r, q⟩
theorem PSs.nox {st : List Stmt} {t : TS} (h : PSs X.nox st t) : PSs X st t := fun pins s σ H D I hw =>
  wpAny_mono (h pins s σ H D (I.wish _) hw) (fun _ _ q => q.unwish) fun _ _ z => False.elim z
end

section
variable {X : Cx} {st : Stmt} {rest : List Stmt} {t u : TS} {e : Expr} {te : TE} {pos : Pos}
noncomputable def tNext : TS := fun D σ H => D.nx σ H
noncomputable def tSeq (t u : TS) : TS := fun D σ H => t { D with nx := u D } σ H
theorem pss_nil : PSs X [] tNext := fun _ _ σ H _ I h => wpAny_execs_nil ⟨σ, H, I, h⟩
theorem pss_cons (h1 : PS X st t) (h2 : PSs X rest u) : PSs X (st :: rest) (tSeq t u) := by
  intro pins s σ H D I h
  refine wpAny_execs_cons (thn (h1 pins s σ H { D with nx := u D } I h) fun f s1 q => ?_)
  cases f with
  | next =>
    obtain ⟨σ', H', I', q⟩ := q
    exact h2 pins s1 σ' H' D I' q
  | ret v => exact q
  | brk => exact q
  | cont => exact q
theorem pss_one (h1 : PS X st t) : PSs X [st] t := by
  intro pins s σ H D I h
  refine wpAny_execs_cons (thn (h1 pins s σ H D I h) fun f s1 q => ?_)
  cases f with
  | next => exact wpAny_execs_nil q
  | ret v => exact q
  | brk => exact q
  | cont => exact q
theorem Inv.quiet {pins : List (Addr × Obj)} {σ : St} {H : Hp} {s : Shared} (I : Inv X pins σ H s) : interactive X.env = false := by simp [interactive, I.ok.kind]
noncomputable def tDrop (te : TE) : TS := fun D σ H => te σ H fun _ H1 => D.nx σ H1
theorem ps_expr (he : PE X e te) (hs : swapsWith e none pos.line X.env = pure false := by rfl) : PS X (.Expr e pos) (tDrop te) := by
  intro pins s σ H D I h
  exact wpAny_Expr_any (thn (he pins s σ H _ I h) fun v s1 ⟨x, H1, I1, r1, q1⟩ => ⟨σ, H1, I1, q1⟩) I.quiet hs
noncomputable def tRet (te : TE) : TS := fun D σ H => te σ H D.rt
theorem ps_ret (he : PE X e te) : PS X (.Return (some e) pos) (tRet te) := by
  intro pins s σ H D I h
  exact wpAny_Return_some (thn (he pins s σ H _ I h) fun v s1 ⟨x, H1, I1, r1, q1⟩ => ⟨x, σ, H1, I1, r1, q1⟩)
noncomputable def tIfS (c : TT) (t u : TS) : TS := fun D σ H => c σ H fun b H1 => if b = true then t D σ H1 else u D σ H1
theorem ps_if {c : Expr} {a b : List Stmt} {tc : TT} (hc : PT X c tc) (ha : PSs X a t) (hb : PSs X b u) : PS X (.If c a b pos) (tIfS tc t u) := by
  intro pins s σ H D I h
  refine wpAny_If (thn (hc pins s σ H _ I h) fun d s1 ⟨H1, I1, q1⟩ => ?_)
  cases d with
  | true => exact ha pins s1 σ H1 D I1 q1
  | false => exact hb pins s1 σ H1 D I1 q1
noncomputable def tNever : TS := fun _ _ _ => False
theorem ps_never : PS X st tNever := fun _ _ _ _ _ _ h => h.elim
end

noncomputable abbrev TG := V → St → Hp → (St → Hp → Prop) → Prop
noncomputable abbrev TGs := List V → St → Hp → (St → Hp → Prop) → Prop
noncomputable def PG (X : Cx) (target : Expr) (t : TG) : Prop :=
  ∀ (pins : List (Addr × Obj)) (s : Shared) (σ : St) (H : Hp) (v : V) (u : Value) (Q : St → Hp → Prop), Inv X pins σ H s → RelV v u → t v σ H Q →
    wpAny (model X.prog X.w) X.A (assign target X.env u) (fun _ s' => ∃ σ' H', Inv X pins σ' H' s' ∧ Q σ' H') X.xe s
noncomputable def PGs (X : Cx) (ts : List Expr) (t : TGs) : Prop :=
  ∀ (pins : List (Addr × Obj)) (s : Shared) (σ : St) (H : Hp) (vs : List V) (us : List Value) (Q : St → Hp → Prop), Inv X pins σ H s → Vals vs us → t vs σ H Q →
    wpAny (model X.prog X.w) X.A (assignInOrder ((assignEach ts X.env).map (·.2)) us) (fun _ s' => ∃ σ' H', Inv X pins σ' H' s' ∧ Q σ' H') X.xe s
noncomputable abbrev TSet := V → V → V → Hp → (Hp → Prop) → Prop
noncomputable def PSet (X : Cx) (t : TSet) : Prop :=
  ∀ (pins : List (Addr × Obj)) (s : Shared) (σ : St) (H : Hp) (o i v : V) (ov iv u : Value) (Q : Hp → Prop), Inv X pins σ H s → RelV o ov → RelV i iv → RelV v u → t o i v H Q →
    wpAny (model X.prog X.w) X.A (setItem ov iv u) (fun _ s' => ∃ H', Inv X pins σ H' s' ∧ Q H') X.xe s
noncomputable abbrev TIp := V → V → Hp → VK → Prop
noncomputable def PIp (X : Cx) (op : Operator) (t : TIp) : Prop :=
  ∀ (pins : List (Addr × Obj)) (s : Shared) (σ : St) (H : Hp) (x y : V) (v u : Value) (Q : VK), Inv X pins σ H s → RelV x v → RelV y u → t x y H Q →
    wpAny (model X.prog X.w) X.A (inplaceOp op v u) (EP X pins σ Q) X.xe s
section
variable {X : Cx} {pos : Pos}
noncomputable def gName (i : Nat) : TG := fun v σ H Q => Q (σ.set i (some v)) H
theorem pg_name {i : Nat} {x : Str} (hN : X.N.Nodup) (hi : X.N[i]? = some x) (hx : Loc X.env.scope x) (hf : X.fn x = true ∨ X.env.scope.names.lookup x = some .local := by first | exact .inl rfl | exact .inr rfl | assumption) : PG X (.Name x pos) (gName i) := by
  intro pins s σ H v u Q I r h
  exact wpAny_assign_Name (store_ok I hN hi hx r (fun s' I' => ⟨_, H, I', h⟩) hf)
noncomputable def gNil : TGs := fun vs σ H Q => vs = [] ∧ Q σ H
noncomputable def gCons (t : TG) (u : TGs) : TGs := fun vs σ H Q => ∃ v r, vs = v :: r ∧ t v σ H fun σ' H' => u r σ' H' Q
theorem pgs_nil : PGs X [] gNil := by
  intro pins s σ H vs us Q I r h
  obtain ⟨e, h⟩ := h
  subst e
  cases r
  exact assignInOrder_nil ⟨σ, H, I, h⟩
theorem pgs_cons {e : Expr} {es : List Expr} {t : TG} {u : TGs} (h1 : PG X e t) (h2 : PGs X es u)
    (hs : (assignEach (e :: es) X.env).map (·.2) = assign e X.env :: (assignEach es X.env).map (·.2) := by rfl) : PGs X (e :: es) (gCons t u) := by
  intro pins s σ H vs us Q I r h
  obtain ⟨v, vr, e1, h⟩ := h
  subst e1
  cases r with
  | cons r rr =>
    rw [hs]
    refine assignInOrder_cons (thn (h1 pins s σ H _ _ _ I r h) fun _ s1 ⟨σ1, H1, I1, q1⟩ => ?_)
    exact h2 pins s1 σ1 H1 _ _ Q I1 rr q1
noncomputable def gTup (K : PySem.W.Frag) (n : Nat) (t : TGs) : TG := fun v σ H Q => ∃ a xs, v = .ref a ∧ SqT K H a xs ∧ xs.length = n ∧ t xs σ H Q
theorem pg_tup {es : List Expr} {k : Nat} {t : TGs} {n : Nat} (hc : X.calm = true) (h : PGs X es t)
    (hn : (assignEach es X.env).length = n := by rfl) (hst : (assignEach es X.env).findIdx? (·.1) = none := by rfl) : PG X (.Tuple es k pos) (gTup X.K n t) := by
  intro pins s σ H v u Q I r hw
  obtain ⟨a, xs, e1, hq, hl, hw⟩ := hw
  subst e1
  cases r
  obtain ⟨its, rv, ht, hz⟩ := I.tuple hq
  refine assign_Tuple_tuple (I.ok.hd hc) ht (by simp [hn, ← hl, rv.length]) hst fun h' hx => ?_
  have I1 : Inv X pins σ H { s with heap := h' } := I.kept (t' := s.toks) fun b o e => hx b o (Nat.ne_of_lt (Heap.lt_size e)) e
  exact h pins _ σ H xs _ Q I1 (by simpa using rv) hw
noncomputable def tAsg (te : TE) (g : TG) : TS := fun D σ H => te σ H fun x H1 => g x σ H1 D.nx
theorem ps_asg {tg e : Expr} {te : TE} {g : TG} (he : PE X e te) (hg : PG X tg g) (hs : swapsWithSole [tg] e pos.line X.env = pure false := by rfl) (hw : swappedStores [tg] e X.env = pure none := by rfl)
    (h1 : (assignEach [tg] X.env).map (·.2) = [assign tg X.env] := by rfl) : PS X (.Assign [tg] e pos) (tAsg te g) := by
  intro pins s σ H D I h
  refine wpAny_Assign_stores (thn (he pins s σ H _ I h) fun v s1 ⟨x, H1, I1, r1, q1⟩ => ?_) hs hw
  rw [h1]
  exact thn (hg pins s1 σ H1 x v _ I1 r1 q1) fun _ s2 q => q
theorem ps_set {i : Nat} {x : Str} {e : Expr} {te : TE} {pos' : Pos} (hN : X.N.Nodup) (hi : X.N[i]? = some x) (hx : Loc X.env.scope x) (he : PE X e te) (hs : swapsWith e (some (.Name x pos')) pos.line X.env = pure false := by rfl) (hf : X.fn x = true ∨ X.env.scope.names.lookup x = some .local := by first | exact .inl rfl | exact .inr rfl | assumption) :
    PS X (.Assign [.Name x pos'] e pos) (tAsg te (gName i)) := by
  intro pins s σ H D I h
  refine wpAny_Assign_Name (thn (he pins s σ H _ I h) fun v s1 ⟨y, H1, I1, r1, q1⟩ => ?_) hs
  exact store_ok I1 hN hi hx r1 (fun s2 I2 => ⟨_, H1, I2, q1⟩) hf
noncomputable def tAug (i : Nat) (te : TE) (ti : TIp) : TS := fun D σ H => ∃ x, σ[i]? = some (some x) ∧ te σ H fun y H1 => ti x y H1 fun z H2 => D.nx (σ.set i (some z)) H2
theorem ps_aug {i : Nat} {x : Str} {e : Expr} {te : TE} {op : Operator} {ti : TIp} {pos' : Pos} (hN : X.N.Nodup) (hi : X.N[i]? = some x) (hx : Loc X.env.scope x) (he : PE X e te) (ho : PIp X op ti) (hf : X.fn x = true ∨ X.env.scope.names.lookup x = some .local := by first | exact .inl rfl | exact .inr rfl | assumption) :
    PS X (.AugAssign (.Name x pos') op e pos) (tAug i te ti) := by
  intro pins s σ H D I h
  obtain ⟨v, e1, h⟩ := h
  obtain ⟨m, hn, hl⟩ := I.loc
  have vis : Vis X.env.scope x := by rcases hx with k | k; exact .inl k; exact .inr (.inl k)
  obtain ⟨u, r, l⟩ := hl i x v hi e1 vis
  refine wpAny_AugAssign_Name ?_
  have go : wpAny (model X.prog X.w) X.A (eval e X.env) (fun w s₂ => wpAny (model X.prog X.w) X.A (inplaceOp op u w) (fun r s₃ => wpAny (model X.prog X.w) X.A (storeName X.env x r) (fun _ => SP X pins D .next) X.xe s₃) X.xe s₂) X.xe s := by
    refine thn (he pins s σ H _ I h) fun w s1 ⟨y, H1, I1, r1, q1⟩ => ?_
    refine thn (ho pins s1 σ H1 v y u w _ I1 r r1 q1) fun z s2 ⟨zv, H2, I2, r2, q2⟩ => ?_
    exact store_ok I2 hN hi hx r2 (fun s3 I3 => ⟨_, H2, I3, q2⟩) hf
  rcases l with ⟨hk, hm⟩ | ⟨hk, c, hc, hcell⟩
  · exact wpAny_loadName_local I.ok.kind hk hn hm go
  · rcases hk with hk | hk
    · exact wpAny_loadName_cell I.ok.kind hk hc hcell go
    · rcases hx with k | k
      · have : X.env.scope.names.lookup x = some .free := hk
        rw [k] at this; cases this
      · have : X.env.scope.names.lookup x = some .free := hk
        rw [k] at this; cases this
noncomputable def tAugS (to ti te : TE) (tget : V → V → Hp → VK → Prop) (tip : TIp) (tset : TSet) : TS := fun D σ H => to σ H fun o H1 => ti σ H1 fun i H2 => tget o i H2 fun x H3 => te σ H3 fun y H4 => tip x y H4 fun z H5 => tset o i z H5 fun H6 => D.nx σ H6
noncomputable def PGet (X : Cx) (t : V → V → Hp → VK → Prop) : Prop :=
  ∀ (pins : List (Addr × Obj)) (s : Shared) (σ : St) (H : Hp) (o i : V) (ov iv : Value) (Q : VK), Inv X pins σ H s → RelV o ov → RelV i iv → t o i H Q →
    wpAny (model X.prog X.w) X.A (getItem ov iv) (EP X pins σ Q) X.xe s
theorem ps_augS {o i e : Expr} {to ti te : TE} {tget : V → V → Hp → VK → Prop} {tip : TIp} {tset : TSet} {op : Operator} {tpos : Pos} (ho : PE X o to) (hi : PE X i ti) (hg : PGet X tget) (he : PE X e te) (hp : PIp X op tip) (hs : PSet X tset)
    (ha : ∀ ov iv new, augStore i ov iv new = (do holding [new, ov, iv] (setItem ov iv new); release [new, ov, iv] []; pure .next) := by intros; rfl) : PS X (.AugAssign (.Subscript o i tpos) op e pos) (tAugS to ti te tget tip tset) := by
  intro pins s σ H D I h
  refine wpAny_AugAssign_SubscriptAny (thn (ho pins s σ H _ I h) fun ov s1 ⟨x1, H1, I1, r1, q1⟩ => ?_) ha
  refine thn (hi pins s1 σ H1 _ I1 q1) fun iv s2 ⟨x2, H2, I2, r2, q2⟩ => ?_
  refine thn (hg pins s2 σ H2 x1 x2 ov iv _ I2 r1 r2 q2) fun old s3 ⟨x3, H3, I3, r3, q3⟩ => ?_
  refine thn (he pins s3 σ H3 _ I3 q3) fun v s4 ⟨x4, H4, I4, r4, q4⟩ => ?_
  refine thn (hp pins s4 σ H4 x3 x4 old v _ I4 r3 r4 q4) fun new s5 ⟨x5, H5, I5, r5, q5⟩ => ?_
  exact thn (hs pins s5 σ H5 x1 x2 x5 ov iv new _ I5 r1 r2 r5 q5) fun _ s6 ⟨H6, I6, q6⟩ => ⟨σ, H6, I6, q6⟩
noncomputable def ipI (f : Int → Int → Int) : TIp := fun x y H Q => ∃ i j, x = .int i ∧ y = .int j ∧ Q (.int (f i j)) H
theorem ip_add : PIp X .Add (ipI fun i j => i + j) := by
  intro pins s σ H x y v u Q I r1 r2 h
  obtain ⟨i, j, e1, e2, q⟩ := h
  subst e1; subst e2
  obtain ⟨t, rfl⟩ := r1
  obtain ⟨t', rfl⟩ := r2
  exact iadd_int ⟨.int _, H, I.tok _, ⟨_, rfl⟩, q⟩
end

section
variable {X : Cx} {pos : Pos}
noncomputable def tWhile (c : TT) (tb : TS) : TS := fun D σ H => ∃ W : Nat → St → Hp → Prop, (∃ m, W m σ H) ∧ ∀ m σ H, W m σ H →
  c σ H fun b H1 => if b = true then ∃ N : St → Hp → Prop, (∀ σ' H', N σ' H' → ∃ m', m' < m ∧ W m' σ' H') ∧ tb { D with nx := N, ct := N, bk := D.nx } σ H1 else D.nx σ H1
theorem ps_while {c : Expr} {body : List Stmt} {tc : TT} {tb : TS} (hp : PassesOwn (model X.prog X.w) X.A X.env X.xe) (hc : PT X c tc) (hb : PSs X body tb) : PS X (.While c body [] pos) (tWhile tc tb) := by
  intro pins s σ H D I h
  obtain ⟨W, ⟨m0, w0⟩, turn⟩ := h
  refine wpAny_While (codeAny_whileLoop (fun n s' => ∃ σ' H', Inv X pins σ' H' s' ∧ W n σ' H') ?_ m0 ⟨σ, H, I, w0⟩)
  rintro n s1 ⟨σ1, H1, I1, w1⟩
  refine wpAny_passesOwn hp (thn (hc pins s1 σ1 H1 _ I1 (turn n σ1 H1 w1)) fun b s2 ⟨H2, I2, q2⟩ => ?_)
  cases b with
  | true =>
    obtain ⟨N, hN, q2⟩ := q2
    rw [if_pos rfl]
    refine wpAny_passesOwn hp (thn (hb pins s2 σ1 H2 _ I2 q2) fun f s3 q3 => ?_)
    cases f with
    | next =>
      obtain ⟨σ3, H3, I3, n3⟩ := q3
      obtain ⟨m', hm, w3⟩ := hN σ3 H3 n3
      exact ⟨m', hm, σ3, H3, I3, w3⟩
    | cont =>
      obtain ⟨σ3, H3, I3, n3⟩ := q3
      obtain ⟨m', hm, w3⟩ := hN σ3 H3 n3
      exact ⟨m', hm, σ3, H3, I3, w3⟩
    | brk => exact q3
    | ret v => exact q3
  | false =>
    rw [if_neg Bool.false_ne_true]
    exact wpAny_execs_nil ⟨σ1, H2, I2, q2⟩
end

structure It where
  go : Nat → Hp → Prop
  yld : Nat → Hp → V → Hp → Prop
  stop : Nat → Hp → Prop
noncomputable def FpOk (X : Cx) (pins : List (Addr × Obj)) (H : Hp) (b : Addr) : Prop :=
  H b = none ∧ b ≠ X.env.locals ∧ b ∉ X.fs ∧ (b ∈ X.ex ∨ X.s₀.heap.objs.size ≤ b) ∧ (∀ x c, X.env.cells.lookup x = some c → c ≠ b) ∧ ∀ p ∈ X.pn ++ pins, p.1 ≠ b
theorem Inv.fpOk {X : Cx} {pins : List (Addr × Obj)} {σ : St} {H H' : Hp} {s : Shared} {b : Addr} (I : Inv X pins σ H s) (hb : s.heap.objs.size ≤ b) (hn : H' b = none) : FpOk X pins H' b := by
  refine ⟨hn, Nat.ne_of_gt (Nat.lt_of_lt_of_le I.lt hb), I.nofs hb, .inr (Nat.le_trans I.sz hb), fun x c e z => ?_, fun p hp z => ?_⟩
  · obtain ⟨v, q⟩ := I.cell x c e
    exact absurd (Nat.lt_of_lt_of_le q.lt (by rw [z]; exact hb)) (Nat.lt_irrefl _)
  · exact absurd (Nat.lt_of_lt_of_le (Heap.lt_size (I.pin p hp).1) (by rw [z]; exact hb)) (Nat.lt_irrefl _)
structure Turn (P : Program) (w : World) (K : PySem.W.Frag) (tg : Expr) (J : It) (fp : List Addr) (it : Addr) (tn : Nat → Heap → Prop) : Prop where
  mem : it ∈ fp
  obj : ∀ i h, tn i h → ∀ b ∈ fp, ∃ o, h.get? b = some o ∧ ∀ v, o.data ≠ .cell v
  keep : ∀ i h h', tn i h → (∀ b ∈ fp, ∀ o, h.get? b = some o → h'.get? b = some o) → tn i h'
  item : ∀ (X : Cx), X.prog = P → X.w = w → X.K = K → X.calm = true → ∀ (i : Nat) (pins : List (Addr × Obj)) (s : Shared) (σ : St) (H : Hp) (E : Value → Shared → Prop), Inv X pins σ H s → (∀ b ∈ fp, FpOk X pins H b) → tn i s.heap → J.go i H →
    wpAny (model P w) X.A (pyNext (.ref it)) (fun r s1 => ∃ u, r = some u ∧
      wpAny (model P w) X.A (letOwnedTupleGo tg (.ref it) u) (fun _ s2 => ∃ x H', Inv X pins σ H' s2 ∧ RelV x u ∧ J.yld i H x H' ∧ tn (i + 1) s2.heap ∧ ∀ b ∈ fp, H' b = none) E s1) E s
  done : ∀ (X : Cx), X.prog = P → X.w = w → X.K = K → X.calm = true → ∀ (i : Nat) (pins : List (Addr × Obj)) (s : Shared) (σ : St) (H : Hp) (E : Value → Shared → Prop), Inv X pins σ H s → (∀ b ∈ fp, FpOk X pins H b) → tn i s.heap → J.stop i H →
    wpAny (model P w) X.A (pyNext (.ref it)) (fun r s1 => r = none ∧ Inv X pins σ H s1) E s
  self : ∀ (A : Around) (i : Nat) (s : Shared) (Q : Value → Shared → Prop) (E : Value → Shared → Prop), tn i s.heap → Q (.ref it) s → wpAny (model P w) A (pyIter (.ref it)) Q E s
noncomputable abbrev TI := St → Hp → (It → Hp → Prop) → Prop
noncomputable def PIE (X : Cx) (pins : List (Addr × Obj)) (σ : St) (tg : Expr) (R : It → Hp → Prop) (itv : Value) (s2 : Shared) : Prop :=
  ∃ (it : Addr) (fp : List Addr) (tn : Nat → Heap → Prop) (J : It) (H' : Hp), itv = .ref it ∧ Inv X pins σ H' s2 ∧ Turn X.prog X.w X.K tg J fp it tn ∧ tn 0 s2.heap ∧ (∀ b ∈ fp, FpOk X pins H' b) ∧ R J H'
noncomputable def PI (X : Cx) (tg iter : Expr) (wi : TI) : Prop :=
  ∀ (pins : List (Addr × Obj)) (s : Shared) (σ : St) (H : Hp) (R : It → Hp → Prop), Inv X pins σ H s → wi σ H R →
    wpAny (model X.prog X.w) X.A (eval iter X.env) (fun v s1 => wpAny (model X.prog X.w) X.A (pyIter v) (PIE X pins σ tg R) X.xe s1) X.xe s

theorem go_of {M : Model} {A : Around} {E : Value → Shared → Prop} {s : Shared} {tg : Expr} {it : Addr} {u : Value} {o : Obj} {n : String} {vs : Array Value} {Q : Unit → Shared → Prop} (ho : s.heap.get? it = some o) (hc : o.cls = .type n) (hd : o.data = .fields vs)
    (hn : ["enumerate", "zip", "dict_itemiterator", "dict_reverseitemiterator", "odict_iterator", "itertools.zip_longest", "itertools.pairwise"].contains n = false) (hQ : Q () s) : wpAny M A (letOwnedTupleGo tg (.ref it) u) Q E s := by
  unfold letOwnedTupleGo
  cases tg <;> first
    | exact wpAny_pure hQ
    | (cases u <;> first
        | exact wpAny_pure hQ
        | (refine wpAny_bind (wpAny_load ho ?_)
           rw [hc, hd]
           show wpAny M A (if (["enumerate", "zip", "dict_itemiterator", "dict_reverseitemiterator", "odict_iterator", "itertools.zip_longest", "itertools.pairwise"].contains n && vs[0]? == some (rawInt _)) = true then _ else _) Q E s
           rw [if_neg (by intro h; rw [hn, Bool.false_and] at h; cases h)]
           exact wpAny_pure hQ))

noncomputable def Itl (K : PySem.W.Frag) (a : Addr) : It :=
  ⟨fun i H => ∃ xs x, SqL K H a xs ∧ xs[i]? = some x, fun i H x H' => H' = H ∧ ∀ xs, SqL K H a xs → xs[i]? = some x, fun i H => ∃ xs, SqL K H a xs ∧ xs.length ≤ i⟩
noncomputable def Itt (K : PySem.W.Frag) (a : Addr) : It :=
  ⟨fun i H => ∃ xs x, SqT K H a xs ∧ xs[i]? = some x, fun i H x H' => H' = H ∧ ∀ xs, SqT K H a xs → xs[i]? = some x, fun i H => ∃ xs, SqT K H a xs ∧ xs.length ≤ i⟩
noncomputable def Itr (lo : Int) (n : Nat) : It := ⟨fun i _ => i < n, fun i H x H' => H' = H ∧ x = .int (lo + i), fun i _ => n ≤ i⟩
theorem turn_list {P : Program} {w : World} {K : PySem.W.Frag} {tg : Expr} (a it : Addr) : Turn P w K tg (Itl K a) [it] it (fun i h => h.IsListIter it a i) where
  mem := by simp
  obj := fun i h st b hb => by
    have e : b = it := by simpa using hb
    subst e
    obtain ⟨o, e, c, d⟩ := st
    exact ⟨o, e, fun v z => by rw [d] at z; cases z⟩
  keep := fun i h h' st k => st.at fun o e => k it (by simp) o e
  item := by
    intro X hP hw hK hc i pins s σ H E I hf st hg
    subst hP hw hK
    obtain ⟨xs, x, hq, hx⟩ := hg
    obtain ⟨its, rv, p, hz⟩ := I.list hq
    obtain ⟨u, hu, ru⟩ := rv.get hx
    obtain ⟨f0, f1, f2, f3, f4, f5⟩ := hf it (by simp)
    refine wpAny_pyNext_list_item st p.isList (x := u) (by simpa using hu) fun h' st' sb => ?_
    have I1 : Inv X pins σ H { s with heap := h' } := I.turned (t' := s.toks) (fun b o hb e => (sb.2 b hb).trans e) f0 f1 f3 f4 f5
    obtain ⟨o, e, c, d⟩ := id st'
    exact ⟨u, rfl, go_of (s := { s with heap := h' }) e c d (by decide) ⟨x, H, I1, ru, ⟨rfl, fun ys hy => by rw [I.list_inj hy hq]; exact hx⟩, st', fun b hb => (hf b hb).1⟩⟩
  done := by
    intro X hP hw hK hc i pins s σ H E I hf st hg
    subst hP hw hK
    obtain ⟨xs, hq, hx⟩ := hg
    obtain ⟨its, rv, p, hz⟩ := I.list hq
    obtain ⟨f0, f1, f2, f3, f4, f5⟩ := hf it (by simp)
    have hl := rv.length
    exact wpAny_pyNext_list_end (I.ok.hd hc) st p.isList (by simp; omega) fun h' eb => ⟨rfl, I.turned (t' := s.toks) (fun b o hb e => eb b o hb e) f0 f1 f3 f4 f5⟩
  self := fun _ _ _ _ _ st h => wpAny_pyIter_listiter st h
theorem turn_tuple {P : Program} {w : World} {K : PySem.W.Frag} {tg : Expr} (a it : Addr) : Turn P w K tg (Itt K a) [it] it (fun i h => h.IsTupleIter it a i) where
  mem := by simp
  obj := fun i h st b hb => by
    have e : b = it := by simpa using hb
    subst e
    obtain ⟨o, e, c, d⟩ := st
    exact ⟨o, e, fun v z => by rw [d] at z; cases z⟩
  keep := fun i h h' st k => st.at fun o e => k it (by simp) o e
  item := by
    intro X hP hw hK hc i pins s σ H E I hf st hg
    subst hP hw hK
    obtain ⟨xs, x, hq, hx⟩ := hg
    obtain ⟨its, rv, p, hz⟩ := I.tuple hq
    obtain ⟨u, hu, ru⟩ := rv.get hx
    obtain ⟨f0, f1, f2, f3, f4, f5⟩ := hf it (by simp)
    refine wpAny_pyNext_tuple_item st (show s.heap.IsTuple a its.toArray from p) (x := u) (by simpa using hu) fun h' st' sb => ?_
    have I1 : Inv X pins σ H { s with heap := h' } := I.turned (t' := s.toks) (fun b o hb e => (sb.2 b hb).trans e) f0 f1 f3 f4 f5
    obtain ⟨o, e, c, d⟩ := id st'
    exact ⟨u, rfl, go_of (s := { s with heap := h' }) e c d (by decide) ⟨x, H, I1, ru, ⟨rfl, fun ys hy => by rw [I.tuple_inj hy hq]; exact hx⟩, st', fun b hb => (hf b hb).1⟩⟩
  done := by
    intro X hP hw hK hc i pins s σ H E I hf st hg
    subst hP hw hK
    obtain ⟨xs, hq, hx⟩ := hg
    obtain ⟨its, rv, p, hz⟩ := I.tuple hq
    obtain ⟨f0, f1, f2, f3, f4, f5⟩ := hf it (by simp)
    have hl := rv.length
    exact wpAny_pyNext_tuple_end (I.ok.hd hc) st (show s.heap.IsTuple a its.toArray from p) (by simp; omega) fun h' eb => ⟨rfl, I.turned (t' := s.toks) (fun b o hb e => eb b o hb e) f0 f1 f3 f4 f5⟩
  self := fun _ _ _ _ _ st h => wpAny_pyIter_tupleiter st h
theorem turn_range {P : Program} {w : World} {K : PySem.W.Frag} {tg : Expr} (it : Addr) (lo : Int) (n : Nat) : Turn P w K tg (Itr lo n) [it] it (fun i h => IsRangeIter h it (lo + (i : Nat) * 1) ((n : Int) - (i : Nat)) 1) where
  mem := by simp
  obj := fun i h st b hb => by
    have e : b = it := by simpa using hb
    subst e
    exact ⟨_, st, fun v z => by
      have z' : Data.fields _ = Data.cell v := z
      cases z'⟩
  keep := fun i h h' st k => k it (by simp) _ st
  item := by
    intro X hP hw hK hc i pins s σ H E I hf st hg
    subst hP hw hK
    obtain ⟨f0, f1, f2, f3, f4, f5⟩ := hf it (by simp)
    have W := Walks.range (prog := X.prog) (w := X.w) (I.ok.hd hc) it lo 1 n
    refine W.item i s _ _ hg st fun v h' tk hv st' kk => ?_
    obtain ⟨t, rfl⟩ := hv
    have I1 : Inv X pins σ H { s with heap := h', toks := tk } := I.turned (fun b o hb e => kk b o (by simpa using hb) e) f0 f1 f3 f4 f5
    refine ⟨_, rfl, go_of (s := { s with heap := h', toks := tk }) (n := "range_iterator") st' rfl rfl (by decide) ⟨.int (lo + i), H, I1, ⟨t, ?_⟩, ⟨rfl, rfl⟩, st', fun b hb => (hf b hb).1⟩⟩
    rw [Int.mul_one]
  done := by
    intro X hP hw hK hc i pins s σ H E I hf st hg
    subst hP hw hK
    obtain ⟨f0, f1, f2, f3, f4, f5⟩ := hf it (by simp)
    exact wpAny_pyNext_range_end (I.ok.hd hc) st (by have : n ≤ i := hg; omega) fun h' eb => ⟨rfl, I.turned (t' := s.toks) (fun b o hb e => eb b o hb e) f0 f1 f3 f4 f5⟩
  self := fun _ _ _ _ _ st h => wpAny_pyIter_rangeiter st h
end L2

namespace L2
open PySem PySem.Spec PyProof.Rows
section
variable {X : Cx} {tg : Expr}
noncomputable def iList (K : PySem.W.Frag) (tl : TE) : TI := fun σ H R => tl σ H fun x H1 => ∃ a, x = .ref a ∧ (∃ xs, SqL K H1 a xs) ∧ R (Itl K a) H1
noncomputable def iTup (K : PySem.W.Frag) (tl : TE) : TI := fun σ H R => tl σ H fun x H1 => ∃ a, x = .ref a ∧ (∃ xs, SqT K H1 a xs) ∧ R (Itt K a) H1
theorem pi_list {l : Expr} {tl : TE} (hl : PE X l tl) : PI X tg l (iList X.K tl) := by
  intro pins s σ H R I h
  refine thn (hl pins s σ H _ I h) fun v s1 ⟨x, H1, I1, r1, q1⟩ => ?_
  obtain ⟨a, e, ⟨xs, hq⟩, q⟩ := q1
  subst e
  cases r1
  obtain ⟨its, rv, p, hz⟩ := I1.list hq
  refine wpAny_pyIter_list p.isList ?_
  refine ⟨s1.heap.objs.size, [s1.heap.objs.size], _, _, H1, rfl, I1.kept (t' := s1.toks) fun b o e => Heap.get?_push_of_some _ e, turn_list a _, ⟨_, Heap.get?_push_size _ rfl, rfl, rfl⟩, fun b hb => ?_, q⟩
  have e : b = s1.heap.objs.size := by simpa using hb
  subst e
  exact I1.fpOk (Nat.le_refl _) (I1.hok.fresh (Nat.le_refl _))
theorem pi_tup {l : Expr} {tl : TE} (hl : PE X l tl) : PI X tg l (iTup X.K tl) := by
  intro pins s σ H R I h
  refine thn (hl pins s σ H _ I h) fun v s1 ⟨x, H1, I1, r1, q1⟩ => ?_
  obtain ⟨a, e, ⟨xs, hq⟩, q⟩ := q1
  subst e
  cases r1
  obtain ⟨its, rv, p, hz⟩ := I1.tuple hq
  refine wpAny_pyIter_tuple (show s1.heap.IsTuple a its.toArray from p) ?_
  refine ⟨s1.heap.objs.size, [s1.heap.objs.size], _, _, H1, rfl, I1.kept (t' := s1.toks) fun b o e => Heap.get?_push_of_some _ e, turn_tuple a _, ⟨_, Heap.get?_push_size _ rfl, rfl, rfl⟩, fun b hb => ?_, q⟩
  have e : b = s1.heap.objs.size := by simpa using hb
  subst e
  exact I1.fpOk (Nat.le_refl _) (I1.hok.fresh (Nat.le_refl _))
theorem range_it {pins : List (Addr × Obj)} {σ : St} {H : Hp} {s : Shared} {R : It → Hp → Prop} {E : Value → Shared → Prop} {lo hi : Int} {t u v : Tok} {tk : Nat} (I : Inv X pins σ H s) (h1 : -(2 ^ 62) ≤ lo) (h2 : lo < 2 ^ 62) (h3 : -(2 ^ 62) ≤ hi) (h4 : hi < 2 ^ 62)
    (q : R (Itr lo (hi - lo).toNat) H) : wpAny (model X.prog X.w) X.A (pyIter (.ref s.heap.objs.size)) (PIE X pins σ tg R) E { s with heap := s.heap.push { cls := .type "range", data := .fields #[.int lo t, .int hi u, .int 1 v] }, toks := tk } := by
  refine wpAny_pyIter_range (IsRange.new ..) (small_one h1 h2 h3 h4) ?_
  have I1 : Inv X pins σ H { s with heap := s.heap.push { cls := .type "range", data := .fields #[.int lo t, .int hi u, .int 1 v] }, toks := tk } := I.kept fun b o e => Heap.get?_push_of_some _ e
  refine ⟨(s.heap.push { cls := .type "range", data := .fields #[.int lo t, .int hi u, .int 1 v] }).objs.size, [(s.heap.push { cls := .type "range", data := .fields #[.int lo t, .int hi u, .int 1 v] }).objs.size], _, _, H, rfl,
    I1.kept (t' := tk) fun b o e => Heap.get?_push_of_some _ e, turn_range _ lo (hi - lo).toNat, ?_, fun b hb => ?_, q⟩
  · have e1 : lo + ((0 : Nat) : Int) * 1 = lo := by simp
    have e2 : (((hi - lo).toNat : Nat) : Int) - ((0 : Nat) : Int) = Builtin.Range.rangeSize lo hi 1 := by rw [rangeSize_one]; split <;> omega
    show IsRangeIter _ _ (lo + ((0 : Nat) : Int) * 1) ((((hi - lo).toNat : Nat) : Int) - ((0 : Nat) : Int)) 1
    rw [e1, e2]
    exact Heap.get?_push_size _ rfl
  · have e : b = (s.heap.push { cls := .type "range", data := .fields #[.int lo t, .int hi u, .int 1 v] }).objs.size := by simpa using hb
    subst e
    exact I1.fpOk (Nat.le_refl _) (I1.hok.fresh (Nat.le_refl _))
noncomputable def iRng1 (ta : TA) : TI := fun σ H R => ta σ H fun vs H1 => ∃ j : Int, vs = [.int j] ∧ -(2 ^ 62) ≤ j ∧ j < 2 ^ 62 ∧ R (Itr 0 j.toNat) H1
theorem pi_range1 {a : Expr} {ta : TA} {p pos : Pos} (hg : Gl X "range") (hm : X.mg "range" = none) (ha : PA X [a] ta) (hs : starEach [a] X.env = [(false, eval a X.env)] := by rfl) : PI X tg (.Call (.Name "range" p) [a] [] pos) (iRng1 ta) := by
  intro pins s σ H R I h
  refine Call_ (ld_blt I hg hm boot_range (PyProof.Rows.callWith_type1 (thn (ha pos pins s σ H _ I h) fun us s1 ⟨vs, H1, I1, r1, q1⟩ => ?_) hs rfl))
  obtain ⟨j, e, q1, q2, q⟩ := q1
  subst e
  cases r1 with
  | cons r rr =>
    cases rr
    obtain ⟨t, rfl⟩ := r
    exact call_range_1 (range_it I1 (by omega) (by omega) q1 q2 (by simpa using q))
noncomputable def tFor (wi : TI) (g : TG) (tb : TS) : TS := fun D σ H => wi σ H fun J H1 => ∃ W : Nat → Nat → St → Hp → Prop, (∃ m, W 0 m σ H1) ∧ ∀ i m σ H, W i m σ H →
  (J.stop i H ∧ D.nx σ H) ∨ (J.go i H ∧ ∃ N : St → Hp → Prop, (∀ σ' H', N σ' H' → ∃ m', m' < m ∧ W (i + 1) m' σ' H') ∧ ∀ x H', J.yld i H x H' → g x σ H' fun σ2 H2 => tb { D with nx := N, ct := N, bk := D.nx } σ2 H2)
noncomputable def pinsAt (fp : List Addr) (h : Heap) : List (Addr × Obj) := fp.filterMap fun b => (h.get? b).map fun o => (b, o)
theorem mem_pinsAt {fp : List Addr} {h : Heap} {b : Addr} {o : Obj} (hb : b ∈ fp) (e : h.get? b = some o) : (b, o) ∈ pinsAt fp h := List.mem_filterMap.mpr ⟨b, hb, by rw [e]; rfl⟩
theorem of_pinsAt {fp : List Addr} {h : Heap} {p : Addr × Obj} (hp : p ∈ pinsAt fp h) : p.1 ∈ fp ∧ h.get? p.1 = some p.2 := by
  obtain ⟨b, hb, e⟩ := List.mem_filterMap.mp hp
  cases q : h.get? b with
  | none => rw [q] at e; cases e
  | some o =>
    rw [q] at e
    have e' : (b, o) = p := Option.some.inj e
    subst e'
    exact ⟨hb, q⟩
theorem Inv.pinned {pins : List (Addr × Obj)} {σ : St} {H : Hp} {s : Shared} {fp : List Addr} (I : Inv X pins σ H s) (hf : ∀ b ∈ fp, FpOk X pins H b) (ho : ∀ b ∈ fp, ∃ o, s.heap.get? b = some o ∧ ∀ v, o.data ≠ .cell v) : Inv X (pins ++ pinsAt fp s.heap) σ H s :=
  I.pins_of fun p hp => (List.mem_append.mp hp).elim (fun z => I.pin p (List.mem_append_right _ z)) fun z => by
    obtain ⟨hb, e⟩ := of_pinsAt z
    obtain ⟨f0, f1, f2, _⟩ := hf p.1 hb
    obtain ⟨o, e', d⟩ := ho p.1 hb
    rw [e] at e'; cases e'
    exact ⟨e, f0, f1, f2, d⟩
theorem Inv.unpinned {pins pl : List (Addr × Obj)} {σ : St} {H : Hp} {s : Shared} (I : Inv X (pins ++ pl) σ H s) : Inv X pins σ H s := I.pins_of fun p hp => I.pin p (List.mem_append_right _ (List.mem_append_left _ hp))
theorem ps_for {iter : Expr} {body : List Stmt} {wi : TI} {g : TG} {tb : TS} {pos : Pos} (hp : PassesOwn (model X.prog X.w) X.A X.env X.xe) (hc : X.calm = true) (hi : PI X tg iter wi) (hg : PG X tg g) (hb : PSs X body tb)
    (hs : ∀ x, foldedSetIterable iter X.env x = pure x := by intro _; rfl) : PS X (.For tg iter body [] pos) (tFor wi g tb) := by
  intro pins s σ H D I h
  refine wpAny_For (thn (hi pins s σ H _ I h) fun v s1 h1 => thn h1 fun itv s2 h2 => ?_) hs
  obtain ⟨it, fp, tn, J, H2, e, I2, T, st2, f2, W, ⟨m0, w0⟩, turn⟩ := h2
  subst e
  -- what stays true of the iterator's objects through the loop
  have stat : ∀ {H' : Hp}, (∀ b ∈ fp, H' b = none) → ∀ b ∈ fp, FpOk X pins H' b := fun hn b hb => ⟨hn b hb, (f2 b hb).2⟩
  refine codeAny_forLoop_any (fun n s' => ∃ i σ' H', Inv X pins σ' H' s' ∧ tn i s'.heap ∧ (∀ b ∈ fp, H' b = none) ∧ W i n σ' H') ?_ m0 ⟨0, σ, H2, I2, st2, fun b hb => (f2 b hb).1, w0⟩
  rintro n s3 ⟨i, σ3, H3, I3, st3, fr3, w3⟩
  rcases turn i n σ3 H3 w3 with ⟨stop, qn⟩ | ⟨go, N, hN, step⟩
  · refine wpAny_passesOwn hp (thn (T.done X rfl rfl rfl hc i pins s3 σ3 H3 X.xe I3 (stat fr3) st3 stop) fun r s4 ⟨hr, I4⟩ => ?_)
    subst hr
    exact wpAny_execs_nil ⟨σ3, H3, I4, qn⟩
  · refine wpAny_passesOwn hp (thn (T.item X rfl rfl rfl hc i pins s3 σ3 H3 X.xe I3 (stat fr3) st3 go) fun r s4 ⟨u, hr, h4⟩ => ?_)
    subst hr
    refine wpAny_passesOwn hp (thn h4 fun _ s5 ⟨x, H5, I5, r5, y5, st5, fr5⟩ => ?_)
    have I5' := I5.pinned (stat fr5) (T.obj _ _ st5)
    refine wpAny_passesOwn hp (thn (hg _ s5 σ3 H5 x u _ I5' r5 (step x H5 y5)) fun _ s6 ⟨σ6, H6, I6, q6⟩ => ?_)
    refine wpAny_passesOwn hp (thn (hb _ s6 σ6 H6 _ I6 q6) fun f s7 q7 => ?_)
    have again : ∀ {σ7 : St} {H7 : Hp}, Inv X (pins ++ pinsAt fp s5.heap) σ7 H7 s7 → N σ7 H7 → ∃ m, m < n ∧ ∃ i σ' H', Inv X pins σ' H' s7 ∧ tn i s7.heap ∧ (∀ b ∈ fp, H' b = none) ∧ W i m σ' H' := fun {σ7 H7} I7 n7 => by
      obtain ⟨m', hm, w7⟩ := hN σ7 H7 n7
      refine ⟨m', hm, i + 1, σ7, H7, I7.unpinned, T.keep _ _ _ st5 fun b hb o e => (I7.pin (b, o) (List.mem_append_right _ (List.mem_append_right _ (mem_pinsAt hb e)))).1, fun b hb => ?_, w7⟩
      obtain ⟨o, e, d⟩ := T.obj _ _ st5 b hb
      exact (I7.pin (b, o) (List.mem_append_right _ (List.mem_append_right _ (mem_pinsAt hb e)))).2.1
    cases f with
    | next => obtain ⟨σ7, H7, I7, n7⟩ := q7; exact again I7 n7
    | cont => obtain ⟨σ7, H7, I7, n7⟩ := q7; exact again I7 n7
    | brk => obtain ⟨σ7, H7, I7, q7⟩ := q7; exact ⟨σ7, H7, I7.unpinned, q7⟩
    | ret v => obtain ⟨x7, σ7, H7, I7, r7, q7⟩ := q7; exact ⟨x7, σ7, H7, I7.unpinned, r7, q7⟩
end

theorem for_list {K : PySem.W.Frag} {a : Addr} {xs : List V} {g : TG} {tb : TS} {D : Ends} {σ : St} {H : Hp} (Pv : Nat → St → Hp → Prop) (h0 : Pv 0 σ H) (hl : ∀ i σ H, i ≤ xs.length → Pv i σ H → SqL K H a xs)
    (hs : ∀ i x σ H, xs[i]? = some x → Pv i σ H → g x σ H fun σ2 H2 => tb { D with nx := Pv (i + 1), ct := Pv (i + 1), bk := D.nx } σ2 H2) (hd : ∀ σ H, Pv xs.length σ H → D.nx σ H) :
    ∃ W : Nat → Nat → St → Hp → Prop, (∃ m, W 0 m σ H) ∧ ∀ i m σ H, W i m σ H →
      ((Itl K a).stop i H ∧ D.nx σ H) ∨ ((Itl K a).go i H ∧ ∃ N : St → Hp → Prop, (∀ σ' H', N σ' H' → ∃ m', m' < m ∧ W (i + 1) m' σ' H') ∧ ∀ x H', (Itl K a).yld i H x H' → g x σ H' fun σ2 H2 => tb { D with nx := N, ct := N, bk := D.nx } σ2 H2) := by
  refine ⟨fun i m σ H => m = xs.length - i ∧ i ≤ xs.length ∧ Pv i σ H, ⟨xs.length, by simp, Nat.zero_le _, h0⟩, ?_⟩
  rintro i m σ H ⟨rfl, hi, p⟩
  have q := hl i σ H hi p
  by_cases hlt : i < xs.length
  · refine .inr ⟨⟨xs, xs[i], q, by simp [hlt]⟩, Pv (i + 1), fun σ' H' p' => ⟨xs.length - (i + 1), by omega, rfl, hlt, p'⟩, fun x H' y => ?_⟩
    obtain ⟨e, y⟩ := y
    subst e
    exact hs i x σ _ (y xs q) p
  · have e : i = xs.length := by omega
    subst e
    exact .inl ⟨⟨xs, q, Nat.le_refl _⟩, hd σ H p⟩
theorem for_tup {K : PySem.W.Frag} {a : Addr} {xs : List V} {g : TG} {tb : TS} {D : Ends} {σ : St} {H : Hp} (Pv : Nat → St → Hp → Prop) (h0 : Pv 0 σ H) (hl : ∀ i σ H, i ≤ xs.length → Pv i σ H → SqT K H a xs)
    (hs : ∀ i x σ H, xs[i]? = some x → Pv i σ H → g x σ H fun σ2 H2 => tb { D with nx := Pv (i + 1), ct := Pv (i + 1), bk := D.nx } σ2 H2) (hd : ∀ σ H, Pv xs.length σ H → D.nx σ H) :
    ∃ W : Nat → Nat → St → Hp → Prop, (∃ m, W 0 m σ H) ∧ ∀ i m σ H, W i m σ H →
      ((Itt K a).stop i H ∧ D.nx σ H) ∨ ((Itt K a).go i H ∧ ∃ N : St → Hp → Prop, (∀ σ' H', N σ' H' → ∃ m', m' < m ∧ W (i + 1) m' σ' H') ∧ ∀ x H', (Itt K a).yld i H x H' → g x σ H' fun σ2 H2 => tb { D with nx := N, ct := N, bk := D.nx } σ2 H2) := by
  refine ⟨fun i m σ H => m = xs.length - i ∧ i ≤ xs.length ∧ Pv i σ H, ⟨xs.length, by simp, Nat.zero_le _, h0⟩, ?_⟩
  rintro i m σ H ⟨rfl, hi, p⟩
  have q := hl i σ H hi p
  by_cases hlt : i < xs.length
  · refine .inr ⟨⟨xs, xs[i], q, by simp [hlt]⟩, Pv (i + 1), fun σ' H' p' => ⟨xs.length - (i + 1), by omega, rfl, hlt, p'⟩, fun x H' y => ?_⟩
    obtain ⟨e, y⟩ := y
    subst e
    exact hs i x σ _ (y xs q) p
  · have e : i = xs.length := by omega
    subst e
    exact .inl ⟨⟨xs, q, Nat.le_refl _⟩, hd σ H p⟩
theorem for_range {lo : Int} {n : Nat} {g : TG} {tb : TS} {D : Ends} {σ : St} {H : Hp} (Pv : Nat → St → Hp → Prop) (h0 : Pv 0 σ H)
    (hs : ∀ i σ H, i < n → Pv i σ H → g (.int (lo + i)) σ H fun σ2 H2 => tb { D with nx := Pv (i + 1), ct := Pv (i + 1), bk := D.nx } σ2 H2) (hd : ∀ σ H, Pv n σ H → D.nx σ H) :
    ∃ W : Nat → Nat → St → Hp → Prop, (∃ m, W 0 m σ H) ∧ ∀ i m σ H, W i m σ H →
      ((Itr lo n).stop i H ∧ D.nx σ H) ∨ ((Itr lo n).go i H ∧ ∃ N : St → Hp → Prop, (∀ σ' H', N σ' H' → ∃ m', m' < m ∧ W (i + 1) m' σ' H') ∧ ∀ x H', (Itr lo n).yld i H x H' → g x σ H' fun σ2 H2 => tb { D with nx := N, ct := N, bk := D.nx } σ2 H2) := by
  refine ⟨fun i m σ H => m = n - i ∧ i ≤ n ∧ Pv i σ H, ⟨n, by simp, Nat.zero_le _, h0⟩, ?_⟩
  rintro i m σ H ⟨rfl, hi, p⟩
  by_cases hlt : i < n
  · refine .inr ⟨hlt, Pv (i + 1), fun σ' H' p' => ⟨n - (i + 1), by omega, rfl, hlt, p'⟩, fun x H' y => ?_⟩
    obtain ⟨e, y⟩ := y
    subst e y
    exact hs i σ _ hlt p
  · have e : i = n := by omega
    subst e
    exact .inl ⟨Nat.le_refl _, hd σ H p⟩
end L2

namespace L2
open PySem PySem.Spec PyProof.Rows

noncomputable abbrev R2 := V → V → Hp → VK → Prop
noncomputable def OpR (X : Cx) (f : Value → Value → Sem Value) (r : R2) : Prop :=
  ∀ (pins : List (Addr × Obj)) (s : Shared) (σ : St) (H : Hp) (x y : V) (v u : Value) (Q : VK), Inv X pins σ H s → RelV x v → RelV y u → r x y H Q →
    wpAny (model X.prog X.w) X.A (f v u) (EP X pins σ Q) X.xe s
noncomputable def UnR (X : Cx) (f : Value → Sem Value) (r : V → Hp → VK → Prop) : Prop :=
  ∀ (pins : List (Addr × Obj)) (s : Shared) (σ : St) (H : Hp) (x : V) (v : Value) (Q : VK), Inv X pins σ H s → RelV x v → r x H Q →
    wpAny (model X.prog X.w) X.A (f v) (EP X pins σ Q) X.xe s
noncomputable def CallR (X : Cx) (f : Value) (r : List V → Hp → VK → Prop) : Prop :=
  ∀ (pins : List (Addr × Obj)) (s : Shared) (σ : St) (H : Hp) (xs : List V) (us : List Value) (Q : VK), Inv X pins σ H s → Vals xs us → r xs H Q →
    wpAny (model X.prog X.w) X.A (call f us) (EP X pins σ Q) X.xe s
noncomputable def tOp (r : R2) (ta tb : TE) : TE := fun σ H Q => ta σ H fun x H1 => tb σ H1 fun y H2 => r x y H2 Q
noncomputable def tUn (r : V → Hp → VK → Prop) (ta : TE) : TE := fun σ H Q => ta σ H fun x H1 => r x H1 Q
noncomputable def rI (C : Int → Int → Prop) (g : Int → Int → V) : R2 := fun x y H Q => ∃ i j, x = .int i ∧ y = .int j ∧ C i j ∧ Q (g i j) H
noncomputable def rI0 (g : Int → Int → V) : R2 := fun x y H Q => ∃ i j, x = .int i ∧ y = .int j ∧ Q (g i j) H
noncomputable def rU (g : Int → V) : V → Hp → VK → Prop := fun x H Q => ∃ i, x = .int i ∧ Q (g i) H

section
variable {X : Cx} {a b c : Expr} {ta tb tc : TE} {pos : Pos}

theorem binT (ha : PE X a ta) (hb : PE X b tb) {pins : List (Addr × Obj)} {s : Shared} {σ : St} {H : Hp} {R : V → V → Hp → Prop} (I : Inv X pins σ H s)
    (h : ta σ H fun x H1 => tb σ H1 fun y H2 => R x y H2) {Q : Value → Shared → Prop} {f : Value → Value → Sem Value}
    (hf : ∀ v u s2 x y H2, Inv X pins σ H2 s2 → RelV x v → RelV y u → R x y H2 → wpAny (model X.prog X.w) X.A (f v u) Q X.xe s2) :
    wpAny (model X.prog X.w) X.A (eval a X.env) (fun v s₁ => wpAny (model X.prog X.w) X.A (eval b X.env) (fun u s₂ => wpAny (model X.prog X.w) X.A (f v u) Q X.xe s₂) X.xe s₁) X.xe s := by
  refine thn (ha pins s σ H _ I h) fun v s1 ⟨x, H1, I1, r1, q1⟩ => ?_
  refine thn (hb pins s1 σ H1 _ I1 q1) fun u s2 ⟨y, H2, I2, r2, q2⟩ => ?_
  exact hf v u s2 x y H2 I2 r1 r2 q2

theorem pe_op {op : Operator} {r : R2} (ho : OpR X (binaryOp op) r) (ha : PE X a ta) (hb : PE X b tb) : PE X (.BinOp a op b pos) (tOp r ta tb) := by
  intro pins s σ H Q I h
  exact wpAny_BinOp (binT ha hb I h fun v u s2 x y H2 I2 rx ry q => ho pins s2 σ H2 x y v u Q I2 rx ry q)
theorem pe_un {op : UnaryOp} {r : V → Hp → VK → Prop} (ho : UnR X (unaryOp op) r) (ha : PE X a ta) : PE X (.UnaryOp op a pos) (tUn r ta) := by
  intro pins s σ H Q I h
  exact UnaryOp_ (thn (ha pins s σ H _ I h) fun v s1 ⟨x, H1, I1, r1, q1⟩ => ho pins s1 σ H1 x v Q I1 r1 q1)
theorem opI {f : Value → Value → Sem Value} {C : Int → Int → Prop} {g : Int → Int → Int}
    (rule : ∀ (i j : Int) (t u : Tok) (s : Shared) (Q : Value → Shared → Prop) (E : Value → Shared → Prop), C i j → Q (.int (g i j) s.toks) { s with toks := s.toks + 1 } → wpAny (model X.prog X.w) X.A (f (.int i t) (.int j u)) Q E s) :
    OpR X f (rI C fun i j => .int (g i j)) := by
  intro pins s σ H x y v u Q I rx ry h
  obtain ⟨i, j, rfl, rfl, hc, q⟩ := h
  obtain ⟨t, rfl⟩ := rx
  obtain ⟨t', rfl⟩ := ry
  exact rule i j t t' s _ _ hc ⟨.int (g i j), H, I.tok _, ⟨_, rfl⟩, q⟩
theorem opI0 {f : Value → Value → Sem Value} {g : Int → Int → Int}
    (rule : ∀ (i j : Int) (t u : Tok) (s : Shared) (Q : Value → Shared → Prop) (E : Value → Shared → Prop), Q (.int (g i j) s.toks) { s with toks := s.toks + 1 } → wpAny (model X.prog X.w) X.A (f (.int i t) (.int j u)) Q E s) :
    OpR X f (rI0 fun i j => .int (g i j)) := by
  intro pins s σ H x y v u Q I rx ry h
  obtain ⟨i, j, rfl, rfl, q⟩ := h
  obtain ⟨t, rfl⟩ := rx
  obtain ⟨t', rfl⟩ := ry
  exact rule i j t t' s _ _ ⟨.int (g i j), H, I.tok _, ⟨_, rfl⟩, q⟩
theorem opB0 {f : Value → Value → Sem Value} {g : Int → Int → Bool}
    (rule : ∀ (i j : Int) (t u : Tok) (s : Shared) (Q : Value → Shared → Prop) (E : Value → Shared → Prop), Q (.bool (g i j)) s → wpAny (model X.prog X.w) X.A (f (.int i t) (.int j u)) Q E s) :
    OpR X f (rI0 fun i j => .bl (g i j)) := by
  intro pins s σ H x y v u Q I rx ry h
  obtain ⟨i, j, rfl, rfl, q⟩ := h
  obtain ⟨t, rfl⟩ := rx
  obtain ⟨t', rfl⟩ := ry
  exact rule i j t t' s _ _ ⟨.bl (g i j), H, I, rfl, q⟩

noncomputable def CDiv (i j : Int) : Prop := 0 < j ∧ j < 1073741824
noncomputable def CPow (i j : Int) : Prop := 0 ≤ j ∧ j ≤ 1000000 ∧ i.natAbs < 2 ^ 64
noncomputable def CMul (i j : Int) : Prop := (-(2 ^ 64) < i ∧ i < 2 ^ 64) ∨ (-(2 ^ 64) < j ∧ j < 2 ^ 64)
theorem CMul.ok {i j : Int} (h : CMul i j) : IntMulOk i j := by
  rcases h with ⟨h1, h2⟩ | ⟨h1, h2⟩
  · exact .of_left (intBits_le_64 h1 h2)
  · exact .of_right (intBits_le_64 h1 h2)
theorem op_add : OpR X (binaryOp .Add) (rI0 fun i j => .int (i + j)) := opI0 fun _ _ _ _ _ _ _ q => add_int q
theorem op_sub : OpR X (binaryOp .Sub) (rI0 fun i j => .int (i - j)) := opI0 fun _ _ _ _ _ _ _ q => sub_int q
theorem op_mul : OpR X (binaryOp .Mult) (rI CMul fun i j => .int (i * j)) := opI fun _ _ _ _ _ _ _ hc q => mul_int q hc.ok
theorem op_fdiv : OpR X (binaryOp .FloorDiv) (rI CDiv fun i j => .int (i / j)) := opI fun i j _ _ _ _ _ hc q => by
  have h1 : (0 : Int) < j := hc.1
  have h2 : j < 1073741824 := hc.2
  exact floordiv_int (by omega) (by rw [Int.fdiv_eq_ediv_of_nonneg i (by omega)]; exact q) (.inl (PyProof.noPylong_small (by omega)))
theorem op_mod : OpR X (binaryOp .Mod) (rI (fun _ j => 0 < j) fun i j => .int (i % j)) := opI fun i j _ _ _ _ _ hc q => by
  have h1 : (0 : Int) < j := hc
  exact mod_int' (by omega) (by rw [Int.fmod_eq_emod_of_nonneg i (by omega)]; exact q)
theorem op_pow : OpR X (binaryOp .Pow) (rI CPow fun i j => .int (i ^ j.toNat)) := opI fun _ _ _ _ _ _ _ hc q => pow_int_small hc.1 hc.2.1 hc.2.2 q
theorem unI {f : Value → Sem Value} {g : Int → Int}
    (rule : ∀ (i : Int) (t : Tok) (s : Shared) (Q : Value → Shared → Prop) (E : Value → Shared → Prop), Q (.int (g i) s.toks) { s with toks := s.toks + 1 } → wpAny (model X.prog X.w) X.A (f (.int i t)) Q E s) :
    UnR X f (rU fun i => .int (g i)) := by
  intro pins s σ H x v Q I rx h
  obtain ⟨i, rfl, q⟩ := h
  obtain ⟨t, rfl⟩ := rx
  exact rule i t s _ _ ⟨.int (g i), H, I.tok _, ⟨_, rfl⟩, q⟩
theorem un_neg : UnR X (unaryOp .USub) (rU fun i => .int (-i)) := unI fun _ _ _ _ _ q => neg_int q
end

noncomputable def scal : V → V → Bool
  | .non, .non => true | .non, .int _ => true | .int _, .non => true | .non, .bl _ => true | .bl _, .non => true | .non, .str _ => true | .str _, .non => true
  | .int _, .int _ => true | .bl _, .bl _ => true | .str _, .str _ => true | .byt _, .byt _ => true
  | .int _, .str _ => true | .str _, .int _ => true | .bl _, .str _ => true | .str _, .bl _ => true
  | _, _ => false
noncomputable def rEq : R2 := fun x y H Q => scal x y = true ∧ Q (.bl (decide (x = y))) H
noncomputable def rNe : R2 := fun x y H Q => scal x y = true ∧ Q (.bl (!decide (x = y))) H

theorem dec_int {i j : Int} : decide (V.int i = V.int j) = (i == j) := by
  rw [Bool.eq_iff_iff]
  simp
theorem dec_bl {i j : Bool} : decide (V.bl i = V.bl j) = (i == j) := by
  rw [Bool.eq_iff_iff]
  simp
theorem dec_str {i j : Str} : decide (V.str i = V.str j) = (i == j) := by
  rw [Bool.eq_iff_iff]
  simp
theorem dec_byt {i j : Array UInt8} : decide (V.byt i = V.byt j) = (i.toList == j.toList) := by
  rw [Bool.eq_iff_iff]
  cases i
  cases j
  simp

section
variable {X : Cx} {a b c : Expr} {ta tb tc : TE} {pos : Pos}
theorem fin_bl {pins : List (Addr × Obj)} {σ : St} {H : Hp} {s : Shared} {Q : VK} {k k' : Bool} (I : Inv X pins σ H s) (q : Q (.bl k) H) (e : k = k') : EP X pins σ Q (.bool k') s := by
  subst e
  exact ⟨.bl k, H, I, rfl, q⟩
theorem op_eq : OpR X (compareOp .Eq) rEq := by
  intro pins s σ H x y v u Q I rx ry h
  obtain ⟨hs, q⟩ := h
  cases x with
  | non =>
    cases rx
    cases y with
    | non => cases ry; exact PySem.EqNone.eq_none_none (fin_bl I q (by simp))
    | bl j => cases ry; exact PySem.EqNone.eq_none_bool (fin_bl I q (by simp))
    | int j => obtain ⟨t', rfl⟩ := ry; exact PySem.EqNone.eq_none_int (fin_bl I q (by simp))
    | str j => obtain ⟨t', rfl⟩ := ry; exact PySem.EqNone.eq_none_str (fin_bl I q (by simp))
    | _ => exact absurd (show false = true from hs) Bool.false_ne_true
  | bl i =>
    cases rx
    cases y with
    | non => cases ry; exact PySem.EqNone.eq_bool_none (fin_bl I q (by simp))
    | bl j => cases ry; exact eq_bool (fin_bl I q dec_bl)
    | str j => obtain ⟨t', rfl⟩ := ry; exact PySem.EqMixed.eq_bool_str (fin_bl I q (by simp))
    | _ => exact absurd (show false = true from hs) Bool.false_ne_true
  | int i =>
    obtain ⟨t, rfl⟩ := rx
    cases y with
    | non => cases ry; exact PySem.EqNone.eq_int_none (fin_bl I q (by simp))
    | int j => obtain ⟨t', rfl⟩ := ry; exact eq_int (fin_bl I q dec_int)
    | str j => obtain ⟨t', rfl⟩ := ry; exact PySem.EqMixed.eq_int_str (fin_bl I q (by simp))
    | _ => exact absurd (show false = true from hs) Bool.false_ne_true
  | str i =>
    obtain ⟨t, rfl⟩ := rx
    cases y with
    | non => cases ry; exact PySem.EqNone.eq_str_none (fin_bl I q (by simp))
    | bl j => cases ry; exact PySem.EqMixed.eq_str_bool (fin_bl I q (by simp))
    | int j => obtain ⟨t', rfl⟩ := ry; exact PySem.EqMixed.eq_str_int (fin_bl I q (by simp))
    | str j => obtain ⟨t', rfl⟩ := ry; exact eq_str (fin_bl I q dec_str)
    | _ => exact absurd (show false = true from hs) Bool.false_ne_true
  | byt i =>
    obtain ⟨t, rfl⟩ := rx
    cases y with
    | byt j => obtain ⟨t', rfl⟩ := ry; exact PySem.W.eq_bytes (fin_bl I q dec_byt)
    | _ => exact absurd (show false = true from hs) Bool.false_ne_true
  | _ => cases y <;> exact absurd (show false = true from hs) Bool.false_ne_true
theorem op_ne : OpR X (compareOp .NotEq) rNe := by
  intro pins s σ H x y v u Q I rx ry h
  obtain ⟨hs, q⟩ := h
  cases x with
  | non =>
    cases rx
    cases y with
    | non => cases ry; exact PySem.EqNone.ne_none_none (fin_bl I q (by simp))
    | bl j => cases ry; exact PySem.EqNone.ne_none_bool (fin_bl I q (by simp))
    | int j => obtain ⟨t', rfl⟩ := ry; exact PySem.EqNone.ne_none_int (fin_bl I q (by simp))
    | str j => obtain ⟨t', rfl⟩ := ry; exact PySem.EqNone.ne_none_str (fin_bl I q (by simp))
    | _ => exact absurd (show false = true from hs) Bool.false_ne_true
  | bl i =>
    cases rx
    cases y with
    | non => cases ry; exact PySem.EqNone.ne_bool_none (fin_bl I q (by simp))
    | bl j => cases ry; exact ne_bool (fin_bl I q (congrArg not dec_bl))
    | str j => obtain ⟨t', rfl⟩ := ry; exact PySem.EqMixed.ne_bool_str (fin_bl I q (by simp))
    | _ => exact absurd (show false = true from hs) Bool.false_ne_true
  | int i =>
    obtain ⟨t, rfl⟩ := rx
    cases y with
    | non => cases ry; exact PySem.EqNone.ne_int_none (fin_bl I q (by simp))
    | int j => obtain ⟨t', rfl⟩ := ry; exact ne_int (fin_bl I q (congrArg not dec_int))
    | str j => obtain ⟨t', rfl⟩ := ry; exact PySem.EqMixed.ne_int_str (fin_bl I q (by simp))
    | _ => exact absurd (show false = true from hs) Bool.false_ne_true
  | str i =>
    obtain ⟨t, rfl⟩ := rx
    cases y with
    | non => cases ry; exact PySem.EqNone.ne_str_none (fin_bl I q (by simp))
    | bl j => cases ry; exact PySem.EqMixed.ne_str_bool (fin_bl I q (by simp))
    | int j => obtain ⟨t', rfl⟩ := ry; exact PySem.EqMixed.ne_str_int (fin_bl I q (by simp))
    | str j => obtain ⟨t', rfl⟩ := ry; exact ne_str (fin_bl I q (congrArg not dec_str))
    | _ => exact absurd (show false = true from hs) Bool.false_ne_true
  | byt i =>
    obtain ⟨t, rfl⟩ := rx
    cases y with
    | byt j => obtain ⟨t', rfl⟩ := ry; exact PySem.W.ne_bytes (fin_bl I q (congrArg not dec_byt))
    | _ => exact absurd (show false = true from hs) Bool.false_ne_true
  | _ => cases y <;> exact absurd (show false = true from hs) Bool.false_ne_true

theorem op_lt : OpR X (compareOp .Lt) (rI0 fun i j => .bl (decide (i < j))) := opB0 fun _ _ _ _ _ _ _ q => lt_int q
theorem op_le : OpR X (compareOp .LtE) (rI0 fun i j => .bl (decide (i ≤ j))) := opB0 fun _ _ _ _ _ _ _ q => le_int q
theorem op_gt : OpR X (compareOp .Gt) (rI0 fun i j => .bl (decide (j < i))) := opB0 fun _ _ _ _ _ _ _ q => gt_int q
theorem op_ge : OpR X (compareOp .GtE) (rI0 fun i j => .bl (decide (j ≤ i))) := opB0 fun _ _ _ _ _ _ _ q => ge_int q
theorem op_in_str : OpR X (compareOp .In) (fun x y H Q => ∃ i j, x = .str i ∧ y = .str j ∧ Q (.bl (!(Builtin.Str.occurrences j i 0 j.length 1).isEmpty)) H) := by
  intro pins s σ H x y v u Q I rx ry h
  obtain ⟨i, j, rfl, rfl, q⟩ := h
  obtain ⟨t, rfl⟩ := rx
  obtain ⟨t', rfl⟩ := ry
  exact in_str (fin_bl I q rfl)

theorem op_isN : OpR X (compareOp .Is) (fun x y H Q => y = .non ∧ Q (.bl (decide (x = .non))) H) := by
  intro pins s σ H x y v u Q I rx ry h
  obtain ⟨rfl, q⟩ := h
  cases ry
  refine is_none_gen (fin_bl I q ?_)
  cases x <;> first
    | (cases rx; rfl)
    | (obtain ⟨t, rfl⟩ := rx; rfl)
theorem op_notN : OpR X (compareOp .IsNot) (fun x y H Q => y = .non ∧ Q (.bl (!decide (x = .non))) H) := by
  intro pins s σ H x y v u Q I rx ry h
  obtain ⟨rfl, q⟩ := h
  cases ry
  refine isnot_none_gen (fin_bl I q ?_)
  cases x <;> first
    | (cases rx; rfl)
    | (obtain ⟨t, rfl⟩ := rx; rfl)

theorem nomark (b : Expr) {op : CmpOp} (h : op ≠ .In := by decide) (h2 : op ≠ .NotIn := by decide) : behindInMarks op b = false := by
  have e1 : (op == CmpOp.In) = false := by cases op <;> first | rfl | exact absurd rfl h
  have e2 : (op == CmpOp.NotIn) = false := by cases op <;> first | rfl | exact absurd rfl h2
  cases b <;> simp [behindInMarks, e1, e2]
theorem pe_cmpR {op : CmpOp} {r : R2} (ho : OpR X (compareOp op) r) (ha : PE X a ta) (hb : PE X b tb) (hm : behindInMarks op b = false) : PE X (.Compare a [op] [b] pos) (tOp r ta tb) := by
  intro pins s σ H Q I h
  exact wpAny_Compare1 (binT ha hb I h fun v u s2 x y H2 I2 rx ry q => ho pins s2 σ H2 x y v u Q I2 rx ry q) hm
noncomputable def tTest (t : TE) : TT := fun σ H Q => t σ H fun x H' => ∃ k, x = .bl k ∧ Q k H'
theorem pt_cmpR {op : CmpOp} {r : R2} (ho : OpR X (compareOp op) r) (ha : PE X a ta) (hb : PE X b tb) (hm : behindInMarks op b = false) : PT X (.Compare a [op] [b] pos) (tTest (tOp r ta tb)) := by
  intro pins s σ H Q I h
  refine wpAny_isTrue_Compare1 (thn (ha pins s σ H _ I h) fun v s1 ⟨x, H1, I1, r1, q1⟩ => thn (hb pins s1 σ H1 _ I1 q1) fun u s2 ⟨y, H2, I2, r2, q2⟩ =>
    thn (ho pins s2 σ H2 x y v u _ I2 r1 r2 q2) fun c s3 ⟨z, H3, I3, r3, k, e, q3⟩ => ?_) hm
  subst e
  cases r3
  exact wpAny_truthy_bool ⟨H3, I3, q3⟩
theorem line63 : (sizeLine : Nat) < 2 ^ 63 := by rw [sizeLine_eq]; decide
theorem op_add_str : OpR X (binaryOp .Add) (fun x y H Q => ∃ i j, x = .str i ∧ y = .str j ∧ i.length + j.length ≤ sizeLine ∧ Q (.str (i ++ j)) H) := by
  intro pins s σ H x y v u Q I rx ry h
  obtain ⟨i, j, rfl, rfl, hz, q⟩ := h
  obtain ⟨t, rfl⟩ := rx
  obtain ⟨t', rfl⟩ := ry
  exact add_str (fun t' tk => ⟨.str (i ++ j), H, I.tok _, ⟨_, rfl⟩, q⟩) hz
theorem vals1 {x : V} {us : List Value} (r : Vals [x] us) : ∃ u, us = [u] ∧ RelV x u := by
  cases r with
  | cons r1 r2 => cases r2; exact ⟨_, rfl, r1⟩
theorem vals2 {x y : V} {us : List Value} (r : Vals [x, y] us) : ∃ u w', us = [u, w'] ∧ RelV x u ∧ RelV y w' := by
  cases r with
  | cons r1 r2 =>
    cases r2 with
    | cons r3 r4 => cases r4; exact ⟨_, _, rfl, r1, r3⟩
theorem call_abs : CallR X (.builtin "abs") (fun xs H Q => ∃ i, xs = [.int i] ∧ Q (.int (if i < 0 then -i else i)) H) := by
  intro pins s σ H xs us Q I r h
  obtain ⟨i, rfl, q⟩ := h
  obtain ⟨u, rfl, t, rfl⟩ := vals1 r
  exact call_abs_int fun u tk => ⟨.int (if i < 0 then -i else i), H, I.tok _, ⟨_, rfl⟩, q⟩
theorem call_max2 (hc : X.calm = true) : CallR X (.builtin "max") (fun xs H Q => ∃ i j, xs = [.int i, .int j] ∧ Q (.int (if j > i then j else i)) H) := by
  intro pins s σ H xs us Q I r h
  obtain ⟨i, j, rfl, q⟩ := h
  obtain ⟨u, w', rfl, ⟨t, rfl⟩, ⟨t', rfl⟩⟩ := vals2 r
  refine max_two_ints (I.ok.hd hc) fun h' tk k => ⟨_, H, I.kept k, ?_, q⟩
  by_cases hj : j > i
  · rw [if_pos hj, if_pos hj]; exact ⟨_, rfl⟩
  · rw [if_neg hj, if_neg hj]; exact ⟨_, rfl⟩
theorem call_int1 : CallR X (.type "int") (fun xs H Q => (∃ i, xs = [.int i] ∧ Q (.int i) H) ∨ ∃ k, xs = [.bl k] ∧ Q (.int (if k then 1 else 0)) H) := by
  intro pins s σ H xs us Q I r h
  rcases h with ⟨i, rfl, q⟩ | ⟨k, rfl, q⟩
  · obtain ⟨u, rfl, t, rfl⟩ := vals1 r
    exact call_int_int ⟨.int i, H, I, ⟨_, rfl⟩, q⟩
  · obtain ⟨u, rfl, r1⟩ := vals1 r
    cases r1
    exact call_int_bool ⟨.int (if k then 1 else 0), H, I.tok _, ⟨_, rfl⟩, q⟩
theorem call_str_int : CallR X (.type "str") (fun xs H Q => ∃ i, xs = [.int i] ∧ i.natAbs.log2 < 1920 ∧ Q (.str (toString i)) H) := by
  intro pins s σ H xs us Q I r h
  obtain ⟨i, rfl, hz, q⟩ := h
  obtain ⟨u, rfl, t, rfl⟩ := vals1 r
  exact PySem.P.str_of_int hz ⟨.str _, H, I.tok _, ⟨_, rfl⟩, q⟩
end
end L2

namespace L2
open PySem PySem.Spec PyProof.Rows

structure ObjM (h : Heap) (x dx C : Addr) (mA : Str → Option Value) : Prop where
  obj : h.get? x = some (PySem.W.instObj C dx)
  ns : h.Ns1 dx mA
  ne : dx ≠ x

theorem lookIn_ns {h : Heap} {dx : Addr} {mA : Str → Option Value} (n : h.Ns1 dx mA) : ∃ od, h.get? dx = some od ∧ ∀ name, PySem.W.lookIn name od = some (mA name) := by
  obtain ⟨o, es, ep, ho, hd, hk, _, hm⟩ := n
  refine ⟨o, ho, fun name => ?_⟩
  have e := hm name
  unfold nsFind findBy at e
  rw [← Array.find?_toList] at e
  unfold PySem.W.lookIn
  rw [hd]
  dsimp only
  split
  · rename_i y q
    rw [q] at e
    exact congrArg some e
  · rename_i q
    rw [q] at e
    have a : es.toList.any (·.refKey) = false := by
      rw [List.any_eq_false]
      intro y hy
      obtain ⟨z, t, hkey⟩ := hk y (Array.mem_toList_iff.mp hy)
      simp [DictEntry.refKey, hkey]
    have a' : ¬ es.toList.any (·.refKey) = true := by rw [a]; exact Bool.false_ne_true
    rw [if_neg a']
    exact congrArg some e

theorem ObjM.look {h : Heap} {x dx C : Addr} {mA : Str → Option Value} (I : ObjM h x dx C mA) : ∃ od, PySem.W.InstAt h x (PySem.W.instObj C dx) C (some od) ∧ ∀ name, PySem.W.lookIn name od = some (mA name) :=
  let ⟨od, ho, hl⟩ := lookIn_ns I.ns
  ⟨od, ⟨I.obj, rfl, rfl, ho⟩, hl⟩

section
variable {prog : Program} {w : World} {A : Around} {E : Value → Shared → Prop} {s : Shared} {K : PySem.W.Frag} {x dx C f : Addr} {mA : Str → Option Value} {name : Str} {v : Value}

theorem get_map {expr : Bool} {Q : Value → Shared → Prop} (X : K.In s.heap) (I : ObjM s.heap x dx C mA) (hg : PySem.W.plainGet K C name = true) (hh : PySem.W.hasDictIn K C = true)
    (ha : PySem.W.findIn K (.ref C) name = some none) (hv : mA name = some v) (hv' : PySem.W.handedIn v = true) (h : Q v { s with toks := s.toks + 1 }) :
    wpAny (model prog w) A (getAttr (.ref x) name expr) Q E s := by
  obtain ⟨od, J, hl⟩ := I.look
  exact PySem.W.get_value X J (PySem.W.plainGet_of hg).1 (PySem.W.findObj_own hh ha rfl (by rw [hl, hv])) hv' h

theorem set_map {ns : List Str} {Q : Unit → Shared → Prop} (X : K.In s.heap) (I : ObjM s.heap x dx C mA)
    (hs : PySem.W.findIn K (.ref C) "__setattr__" = some (some (.builtin "object.__setattr__"))) (hp : PySem.W.plainOver K C = true) (ht : PySem.W.takerIn K C name = some none) (hh : PySem.W.hasDictIn K C = true)
    (hw : PySem.Within mA ns) (hsz : ns.length ≤ sizeLine)
    (h : ∀ h', ObjM h' x dx C (fun y => if y = name then some v else mA y) → Heap.SameBut dx s.heap h' → Q () { s with heap := h', toks := s.toks + 2 }) :
    wpAny (model prog w) A (setAttr (.ref x) name v) Q E s := by
  obtain ⟨od, J, hl⟩ := I.look
  refine PySem.W.set_plain X J hs (PySem.W.osa_open (s := { s with toks := s.toks + 1 }) (r := none) X J hp ht fun b => ?_)
  obtain ⟨cd, hc, hd'⟩ := PySem.W.any_some hh
  have hx : s.heap.get? x = some ⟨.ref C, some dx, .plain, #[]⟩ := I.obj
  refine wpAny_bind (wpAny_pure (wpAny_bind (wpAny_bind (wpAny_loadPart hx (wpAny_bind (PySem.W.Looks.here (s := { s with toks := s.toks + 1 }) (PySem.W.looks_clsIn X hc) ?_))))))
  rw [hd']
  refine wpAny_pure (a := some dx) (wpAny_bind (wpAny_pure (wpAny_bind ?_)))
  refine wpAny_nsSet1 (s := { s with toks := s.toks + 1 }) I.ns fun h' hn2 hs2 => ?_
  obtain ⟨oD, esD, epD, hoD, hdD, hcD⟩ := hn2.count (PySem.Within.cons name v hw)
  refine wpAny_bind (wpAny_lookBehind hoD (by rw [hdD]; exact pastItsLine_dict (Nat.le_trans hcD (by rw [List.length_cons]; omega))) ?_)
  exact wpAny_pure (h _ ⟨(hs2.2 _ (Ne.symm I.ne)).trans I.obj, hn2, I.ne⟩ hs2)

theorem make_map {R : Result → Shared → Prop} {vs : List Value} {kw : List (Str × Value)} (X : K.In s.heap) (hm : PySem.W.makesIn K C = true)
    (hi : PySem.W.findIn K (.ref C) "__init__" = some (some (.ref f))) (hf : PySem.W.typeIn K (.ref f) = some (.type "function"))
    (h : codeAny (model prog w) (A.under (.builtin "type.__call__" ⟨.ref C :: vs, kw⟩)) (.call (.ref f) ⟨.ref (s.heap.objs.size + 1) :: vs, kw⟩) (PySem.W.InitBack (s.heap.objs.size + 1) R)
      { s with heap := (s.heap.push PySem.W.emptyDict).push (PySem.W.instObj C s.heap.objs.size) }) :
    codeAny (model prog w) A (.call (.ref C) ⟨vs, kw⟩) R s := by
  obtain ⟨hh, g, d, t, os⟩ := s
  exact PySem.W.make_core (PySem.W.makes_of X hm) (PySem.W.looks_findIn X hi) (fun self => PySem.W.bind_fn X self hf) (.inl rfl) h
end

noncomputable def putF (f : Str) (v : V) : List (Str × V) → List (Str × V)
  | [] => [(f, v)]
  | (g, x) :: r => if g = f then (g, v) :: r else (g, x) :: putF f v r
theorem lookup_putF (f g : Str) (v : V) : ∀ fs : List (Str × V), (putF f v fs).lookup g = if g = f then some v else fs.lookup g
  | [] => by
    show List.lookup g [(f, v)] = _
    by_cases h : g = f
    · have hb : (g == f) = true := beq_iff_eq.mpr h
      simp only [List.lookup, hb, if_pos h]
    · have hb : (g == f) = false := beq_eq_false_iff_ne.mpr h
      simp only [List.lookup, hb, if_neg h]
  | (k, x) :: r => by
    have ih := lookup_putF f g v r
    rw [show putF f v ((k, x) :: r) = (if k = f then (k, v) :: r else (k, x) :: putF f v r) from rfl]
    by_cases hk : k = f
    · rw [if_pos hk]
      by_cases h : g = k
      · have hb : (g == k) = true := beq_iff_eq.mpr h
        simp only [List.lookup, hb, if_pos (h.trans hk)]
      · have hb : (g == k) = false := beq_eq_false_iff_ne.mpr h
        simp only [List.lookup, hb, if_neg (fun e : g = f => h (e.trans hk.symm))]
    · rw [if_neg hk]
      by_cases h : g = k
      · have hb : (g == k) = true := beq_iff_eq.mpr h
        simp only [List.lookup, hb, if_neg (fun e : g = f => hk (h.symm.trans e))]
      · have hb : (g == k) = false := beq_eq_false_iff_ne.mpr h
        simp only [List.lookup, hb]
        exact ih
theorem keys_putF (f : Str) (v : V) : ∀ fs : List (Str × V), f ∈ (putF f v fs).map (·.1) ∧ ∀ g, g ∈ fs.map (·.1) → g ∈ (putF f v fs).map (·.1)
  | [] => ⟨by simp [putF], fun g h => by simp at h⟩
  | (k, x) :: r => by
    obtain ⟨i1, i2⟩ := keys_putF f v r
    rw [show putF f v ((k, x) :: r) = (if k = f then (k, v) :: r else (k, x) :: putF f v r) from rfl]
    by_cases hk : k = f
    · rw [if_pos hk]
      subst hk
      exact ⟨by simp, fun g h => by simpa using h⟩
    · rw [if_neg hk]
      refine ⟨?_, fun g h => ?_⟩
      · rw [List.map_cons]
        exact List.mem_cons_of_mem _ i1
      · rw [List.map_cons] at h ⊢
        rcases List.mem_cons.mp h with e | e
        · exact List.mem_cons.mpr (.inl e)
        · exact List.mem_cons_of_mem _ (i2 g e)
theorem length_putF (f : Str) (v : V) : ∀ fs : List (Str × V), (putF f v fs).length ≤ fs.length + 1
  | [] => by simp [putF]
  | (k, x) :: r => by
    have ih := length_putF f v r
    rw [show putF f v ((k, x) :: r) = (if k = f then (k, v) :: r else (k, x) :: putF f v r) from rfl]
    by_cases hk : k = f
    · rw [if_pos hk, List.length_cons, List.length_cons]; omega
    · rw [if_neg hk, List.length_cons, List.length_cons]; omega

theorem RelO.some_of {v : V} {o : Option Value} (r : RelO (some v) o) : ∃ u, o = some u ∧ RelV v u := by
  cases o with
  | none => exact (show False from r).elim
  | some u => exact ⟨u, rfl, r⟩
theorem handed_of {v : V} {u : Value} (r : RelV v u) : PySem.W.handedIn u = true := by
  cases v with
  | non => cases (show u = Value.none from r); rfl
  | bl b => cases (show u = Value.bool b from r); rfl
  | int i => obtain ⟨t, e⟩ := (show ∃ t, u = Value.int i t from r); cases e; rfl
  | str x => obtain ⟨t, e⟩ := (show ∃ t, u = Value.str x t from r); cases e; rfl
  | byt b => obtain ⟨t, e⟩ := (show ∃ t, u = Value.bytes b t from r); cases e; rfl
  | flt b => obtain ⟨t, e⟩ := (show ∃ t, u = Value.float b t from r); cases e; rfl
  | ref a => cases (show u = Value.ref a from r); rfl
  | ty n => cases (show u = Value.type n from r); rfl

section
variable {P : Program} {w : World} {H H' : Hp} {h h' : Heap} {a C dx : Addr} {fs fs' : List (Str × V)}
theorem ins_get (hok : HOk P w H h) (e : H a = some (.ins C dx fs)) : ∃ mA, ObjM h a dx C mA ∧ (∀ f, RelO (fs.lookup f) (mA f)) ∧ PySem.Within mA (fs.map (·.1)) ∧ fs.length ≤ 1000 ∧ H dx = some (.own a) := by
  obtain ⟨d, z, ne, ob, mA, n, r, q⟩ := (show ObjOk P w H h a (.ins C dx fs) from hok a _ e)
  exact ⟨mA, ⟨ob, n, ne⟩, r, q, z, d⟩
end

structure Cls (K : PySem.W.Frag) (C : Addr) : Prop where
  pg : PySem.W.plainGet K C Str.empty = true
  hd : PySem.W.hasDictIn K C = true
  po : PySem.W.plainOver K C = true
  sa : PySem.W.findIn K (.ref C) "__setattr__" = some (some (.builtin "object.__setattr__"))
theorem Cls.get {K : PySem.W.Frag} {C : Addr} (c : Cls K C) (f : Str) : PySem.W.plainGet K C f = true := c.pg
noncomputable def NoAttr (K : PySem.W.Frag) (C : Addr) (f : Str) : Prop := PySem.W.findIn K (.ref C) f = some none
theorem NoAttr.taker {K : PySem.W.Frag} {C : Addr} {f : Str} (n : NoAttr K C f) : PySem.W.takerIn K C f = some none := by
  unfold PySem.W.takerIn
  rw [show PySem.W.findIn K (.ref C) f = some none from n]
  rfl
section
variable {X : Cx} {pins : List (Addr × Obj)} {σ : St} {H : Hp} {s : Shared} {a C dx : Addr} {fs : List (Str × V)} {f : Str} {v : V} {A : Around} {E : Value → Shared → Prop}

theorem getattr_ok {b : Bool} {Q : Value → Shared → Prop} (I : Inv X pins σ H s) (e : H a = some (.ins C dx fs)) (c : Cls X.K C) (n : NoAttr X.K C f) (l : fs.lookup f = some v)
    (h : ∀ u s', Inv X pins σ H s' → RelV v u → Q u s') : wpAny (model X.prog X.w) A (getAttr (.ref a) f b) Q E s := by
  obtain ⟨mA, O, r, _, _, _⟩ := ins_get I.hok e
  obtain ⟨u, hu, ru⟩ := RelO.some_of (v := v) (o := mA f) (by rw [← l]; exact r f)
  exact get_map I.kIn O (c.get f) c.hd n hu (handed_of ru) (h u _ (I.tok _) ru)

theorem setattr_ok {y : V} {u : Value} {Q : Unit → Shared → Prop} (I : Inv X pins σ H s) (e : H a = some (.ins C dx fs)) (c : Cls X.K C) (n : NoAttr X.K C f) (hl : fs.length < 1000) (ry : RelV y u)
    (h : ∀ s', Inv X pins σ (upd H a (.ins C dx (putF f y fs))) s' → Q () s') : wpAny (model X.prog X.w) A (setAttr (.ref a) f u) Q E s := by
  obtain ⟨mA, O, r, wi, _, ho⟩ := ins_get I.hok e
  have hz : (fs.map (·.1)).length ≤ sizeLine := by rw [List.length_map, sizeLine_eq]; omega
  refine set_map I.kIn O c.sa c.po n.taker c.hd wi hz fun h' O' sb => h _ ?_
  have hd : ∃ o, h'.get? dx = some o := let ⟨o, _, _, e', _⟩ := O'.ns; ⟨o, e'⟩
  refine I.write (x := a) (e := dx) (by rw [e]; exact True.intro) (.inr ho) (fun b q hb z => (sb.2 b hb).trans z) hd ?_
  refine ⟨by rw [upd_ne O.ne]; exact ho, ?_, O.ne, O'.obj, _, O'.ns, fun g => ?_, fun g hg => ?_⟩
  · have := length_putF f y fs; omega
  · show RelO ((putF f y fs).lookup g) (if g = f then some u else mA g)
    rw [lookup_putF]
    by_cases q : g = f
    · rw [if_pos q, if_pos q]; exact ry
    · rw [if_neg q, if_neg q]; exact r g
  · by_cases q : g = f
    · rw [q]; exact (keys_putF f y fs).1
    · refine (keys_putF f y fs).2 g (wi g fun z => hg ?_)
      show (if g = f then some u else mA g) = none
      rw [if_neg q]; exact z

theorem Inv.made (I : Inv X pins σ H s) : Inv X pins σ (upd (upd H s.heap.objs.size (.own (s.heap.objs.size + 1))) (s.heap.objs.size + 1) (.ins C s.heap.objs.size []))
    { s with heap := (s.heap.push PySem.W.emptyDict).push (PySem.W.instObj C s.heap.objs.size) } := by
  have e1 : (s.heap.push PySem.W.emptyDict).get? s.heap.objs.size = some PySem.W.emptyDict := Heap.get?_push_size s.heap rfl
  have e2 : ((s.heap.push PySem.W.emptyDict).push (PySem.W.instObj C s.heap.objs.size)).get? (s.heap.objs.size + 1) = some (PySem.W.instObj C s.heap.objs.size) := by
    have := Heap.get?_push_size (s.heap.push PySem.W.emptyDict) (o := PySem.W.instObj C s.heap.objs.size) rfl
    rwa [Heap.size_push] at this
  have e3 : (s.heap.push PySem.W.emptyDict).Ns s.heap.objs.size (fun _ => none) := ⟨PySem.W.emptyDict, #[], _, e1, rfl, (fun e he => absurd he (by simp)), fun _ => rfl⟩
  have I1 := I.laid (a := s.heap.objs.size) (o := .own (s.heap.objs.size + 1)) (h' := s.heap.push PySem.W.emptyDict) (t' := s.toks) (fun b u q => Heap.get?_push_of_some _ q) (Nat.le_refl _) ⟨_, e1⟩
  refine I1.laid (a := s.heap.objs.size + 1) (o := .ins C s.heap.objs.size []) (t' := s.toks) (fun b u q => Heap.get?_push_of_some _ q) (Nat.le_of_eq (Heap.size_push _ _)) ?_
  have ne : s.heap.objs.size ≠ s.heap.objs.size + 1 := Nat.ne_of_lt (Nat.lt_succ_self _)
  refine ⟨by rw [upd_ne ne, upd_same], Nat.zero_le _, ne, e2, fun _ => none, (Heap.Ns1.of_empty e3).at fun o q => Heap.get?_push_of_some _ q, fun _ => True.intro, fun y hy => absurd rfl hy⟩

theorem attr_of {prog : Program} {w : World} {env : Env} {e : Expr} {f : Str} {pos : Pos} {s : Shared} {Q : Value → Shared → Prop} (hb : attributeBase e f env (eval e env) = eval e env)
    (h : wpAny (model prog w) A (eval e env) (fun o s₁ => wpAny (model prog w) A (getAttr o f true) Q E s₁) E s) : wpAny (model prog w) A (eval (.Attribute e f pos) env) Q E s :=
  Attribute_any_ h (by rw [arm_eval_Attribute, hb])
end

noncomputable def tFld (K : PySem.W.Frag) (ta : TE) (f : Str) : TE := fun σ H Q => ta σ H fun x H1 => ∃ a C dx fs v, x = .ref a ∧ H1 a = some (.ins C dx fs) ∧ Cls K C ∧ NoAttr K C f ∧ fs.lookup f = some v ∧ Q v H1
noncomputable def sFld (K : PySem.W.Frag) (ta tv : TE) (f : Str) : TS := fun D σ H => tv σ H fun y H1 => ta σ H1 fun x H2 => ∃ a C dx fs, x = .ref a ∧ H2 a = some (.ins C dx fs) ∧ Cls K C ∧ NoAttr K C f ∧ fs.length < 1000 ∧
  D.nx σ (upd H2 a (.ins C dx (putF f y fs)))
section
variable {X : Cx} {o e value : Expr} {f : Str} {pos pos' tpos : Pos} {ta tv : TE}
theorem pe_fld (he : PE X e ta) (hb : attributeBase e f X.env (eval e X.env) = eval e X.env) : PE X (.Attribute e f pos) (tFld X.K ta f) := by
  intro pins s σ H Q I h
  refine attr_of hb (thn (he pins s σ H _ I h) fun u s1 ⟨x, H1, I1, rx, a, C, dx, fs, v, ex, ea, c, n, l, q⟩ => ?_)
  subst ex
  obtain rfl : u = Value.ref a := rx
  exact getattr_ok I1 ea c n l fun u' s2 I2 ru => ⟨v, H1, I2, ru, q⟩
theorem ps_fld (ha : PE X o ta) (hv : PE X value tv) (hs : swapsWith value (some (.Attribute o f pos')) pos.line X.env = pure false) : PS X (.Assign [.Attribute o f pos'] value pos) (sFld X.K ta tv f) := by
  intro pins s σ H D I h
  refine plainObj_wpAny_Assign_Attribute (thn (hv pins s σ H _ I h) fun u s1 ⟨y, H1, I1, ry, q⟩ => thn (ha pins s1 σ H1 _ I1 q) fun ov s2 ⟨x, H2, I2, rx, a, C, dx, fs, ex, ea, c, n, l, q2⟩ => ?_) hs
  subst ex
  obtain rfl : ov = Value.ref a := rx
  exact setattr_ok I2 ea c n l ry fun s3 I3 => ⟨σ, _, I3, q2⟩
end

section
variable {X : Cx} {pins : List (Addr × Obj)} {σ : St} {H : Hp} {s : Shared} {A : Around} {E : Value → Shared → Prop} {Q : Value → Shared → Prop} {c : Value} {b : Bool}
inductive TyOf (K : PySem.W.Frag) (H : Hp) : V → Value → Prop where
  | non : TyOf K H .non (.type "NoneType")
  | bl (x : Bool) : TyOf K H (.bl x) (.type "bool")
  | int (i : Int) : TyOf K H (.int i) (.type "int")
  | str (x : Str) : TyOf K H (.str x) (.type "str")
  | flt (x : UInt64) : TyOf K H (.flt x) (.type "float")
  | lst {a : Addr} {xs : List V} (e : H a = some (.lst xs)) : TyOf K H (.ref a) (.type "list")
  | frz {a : Addr} {o : Obj} {xs : List V} (e : H a = some (.frz o (.lst xs))) : TyOf K H (.ref a) (.type "list")
  | tup {a : Addr} {xs : List V} (e : H a = some (.tup xs)) : TyOf K H (.ref a) (.type "tuple")
  | dK {a : Addr} {kvs : List (Key × V)} (e : H a = some (.dK kvs)) : TyOf K H (.ref a) (.type "dict")
  | dT {a : Addr} {kvs : List (List Key × V)} (e : H a = some (.dT kvs)) : TyOf K H (.ref a) (.type "dict")
  | ins {a C dx : Addr} {fs : List (Str × V)} (e : H a = some (.ins C dx fs)) (cl : Cls K C) (ha : PySem.W.findIn K (.ref C) "__class__" = some (some (.builtin "object.__class__")))
      (hn : PySem.W.specialIn K (.builtin "object.__class__") "__get__" = some (some (.builtin "getset_descriptor.__get__"))) (htk : PySem.W.takesIn K (.builtin "object.__class__") = some true)
      (hm : PySem.W.mroIn K C (.type "object") = some true) : TyOf K H (.ref a) (.ref C)
theorem isinst_ok {x : V} {u t : Value} (I : Inv X pins σ H s) (rx : RelV x u) (ty : TyOf X.K H x t) (e : PySem.W.kitOne X.K t c = some b) (h : ∀ tk, Q (.bool b) { s with toks := tk }) :
    wpAny (model X.prog X.w) A (call (.builtin "isinstance") [u, c]) Q E s := by
  cases ty with
  | non => cases (show u = Value.none from rx); exact PySem.W.kia_one PySem.W.kitx_none I.kIn True.intro e (fun z => nomatch z) h
  | bl y => cases (show u = Value.bool y from rx); exact PySem.W.kia_one PySem.W.kitx_bool I.kIn True.intro e (fun z => nomatch z) h
  | int i => obtain ⟨t, q⟩ := (show ∃ t, u = Value.int i t from rx); cases q; exact PySem.W.kia_one PySem.W.kitx_int I.kIn True.intro e (fun z => nomatch z) h
  | str y => obtain ⟨t, q⟩ := (show ∃ t, u = Value.str y t from rx); cases q; exact PySem.W.kia_one PySem.W.kitx_str I.kIn True.intro e (fun z => nomatch z) h
  | flt y => obtain ⟨t, q⟩ := (show ∃ t, u = Value.float y t from rx); cases q; exact PySem.W.kia_one PySem.W.kitx_float I.kIn True.intro e (fun z => nomatch z) h
  | @lst a xs ea =>
    cases (show u = Value.ref a from rx)
    obtain ⟨_, _, n, _, h1⟩ := (show ObjOk X.prog X.w H s.heap a (.lst xs) from I.hok a _ ea)
    exact PySem.W.kia_one PySem.W.kitx_list I.kIn ⟨_, h1, rfl⟩ e (fun z => nomatch z) h
  | @frz a ob xs ea =>
    cases (show u = Value.ref a from rx)
    obtain ⟨_, _, _, n, _, h1⟩ := (show ObjOk X.prog X.w H s.heap a (.frz ob (.lst xs)) from I.hok a _ ea)
    exact PySem.W.kia_one PySem.W.kitx_list I.kIn ⟨_, h1, rfl⟩ e (fun z => nomatch z) h
  | @tup a xs ea =>
    cases (show u = Value.ref a from rx)
    obtain ⟨_, _, _, p⟩ := (show ObjOk X.prog X.w H s.heap a (.tup xs) from I.hok a _ ea)
    obtain ⟨o, h1, h2, _⟩ := p
    exact PySem.W.kia_one PySem.W.kitx_tuple I.kIn ⟨o, h1, h2⟩ e (fun z => nomatch z) h
  | @dK a kvs ea =>
    cases (show u = Value.ref a from rx)
    obtain ⟨_, _, vs, _, p⟩ := (show ObjOk X.prog X.w H s.heap a (.dK kvs) from I.hok a _ ea)
    obtain ⟨o, es, ep, h1, h2, _⟩ := p
    exact PySem.W.kia_one PySem.W.kitx_dict I.kIn ⟨o, h1, h2.1⟩ e (fun z => nomatch z) h
  | @dT a kvs ea =>
    cases (show u = Value.ref a from rx)
    obtain ⟨_, _, xs, _, o, es, ep, h1, h2, _⟩ := (show ObjOk X.prog X.w H s.heap a (.dT kvs) from I.hok a _ ea)
    exact PySem.W.kia_one PySem.W.kitx_dict I.kIn ⟨o, h1, h2.1⟩ e (fun z => nomatch z) h
  | @ins a C dx fs ea cl ha hn htk hm =>
    cases (show u = Value.ref a from rx)
    obtain ⟨mA, O, _⟩ := ins_get I.hok ea
    obtain ⟨od, J, _⟩ := O.look
    exact PySem.W.kia_one (PySem.W.kitx_own (cl.get _) cl.hd ha hn htk hm) I.kIn J e (fun z => nomatch z) h
end
end L2

namespace L2
open PySem PySem.Spec PyProof.Rows

structure Room (k : Nat) (A : Around) : Prop where
  hd : A.handled = none
  dp : A.depth + 3 * k + 5 < recursionLimit
  un : A.units + 16 * k + 200 < cLine
  gd : A.guards = some []
theorem Room.mono {j k : Nat} {A : Around} (r : Room k A) (h : j ≤ k) : Room j A := ⟨r.hd, by have := r.dp; omega, by have := r.un; omega, r.gd⟩
theorem Room.deeper {k : Nat} {A : Around} (r : Room (k + 1) A) (env : Env) : Room k (A.deeper env) :=
  ⟨r.hd, by have := r.dp; show A.depth + 1 + 3 * k + 5 < _; omega, by have := r.un; show A.units + 3 + 16 * k + 200 < _; omega, r.gd⟩
theorem make_depth {A : Around} {C : Addr} {us : List Value} {kw : List (Str × Value)} : (A.under (.builtin "type.__call__" ⟨.ref C :: us, kw⟩)).depth = A.depth + 1 := by
  first | rfl | simp [Around.under, Code.weight, Code.isCreation, Code.isGuard, Code.isCaller, Code.frames, Code.isFrame, guardIds]
theorem make_units {A : Around} {C : Addr} {us : List Value} {kw : List (Str × Value)} : (A.under (.builtin "type.__call__" ⟨.ref C :: us, kw⟩)).units = A.units + 1 := by
  first | rfl | simp [Around.under, Code.cUnits, Code.frames, Code.isFrame]
theorem make_guards {A : Around} {C : Addr} {us : List Value} {kw : List (Str × Value)} : (A.under (.builtin "type.__call__" ⟨.ref C :: us, kw⟩)).guards = A.guards := by
  have : Code.guards (.builtin "type.__call__" ⟨.ref C :: us, kw⟩) = [] := by first | rfl | simp [Code.guards, Code.isGuard, guardIds]
  show pushGuards (Code.guards (.builtin "type.__call__" ⟨.ref C :: us, kw⟩)) A.guards = A.guards
  rw [this]
  cases A.guards <;> rfl
theorem Room.make {k : Nat} {A : Around} (r : Room (k + 1) A) (C : Addr) (us : List Value) (kw : List (Str × Value)) : Room k (A.under (.builtin "type.__call__" ⟨.ref C :: us, kw⟩)) :=
  ⟨r.hd, by have := r.dp; rw [make_depth]; omega, by have := r.un; rw [make_units]; omega, by rw [make_guards]; exact r.gd⟩
theorem Room.depth {k : Nat} {A : Around} (r : Room k A) : A.depth < recursionLimit := by have := r.dp; omega
noncomputable def tNil : TA := fun _ H Q => Q [] H
noncomputable def tCons (ta : TE) (tr : TA) : TA := fun σ H Q => ta σ H fun x H1 => tr σ H1 fun xs H2 => Q (x :: xs) H2
section
variable {X : Cx} {e : Expr} {es : List Expr} {te : TE} {t : TA} {pos : Pos}
theorem pa_nil : PA X [] tNil := fun _ _ _ _ H Q I h => Calls.spliced_nil ⟨[], H, I, .nil, h⟩
theorem pa_cons (ha : PE X e te) (hr : PA X es t) (hs : starEach (e :: es) X.env = (false, eval e X.env) :: starEach es X.env := by rfl) : PA X (e :: es) (tCons te t) := by
  intro pos pins s σ H Q I h
  rw [hs]
  show wpAny _ _ (spliced ((false, eval e X.env) :: backTo pos (starEach es X.env))) _ _ s
  refine Calls.spliced_cons (thn (ha pins s σ H _ I h) fun u s1 ⟨x, H1, I1, r1, q1⟩ => ?_)
  exact thn (hr pos pins s1 σ H1 _ I1 q1) fun us s2 ⟨xs, H2, I2, r2, q2⟩ => ⟨x :: xs, H2, I2, .cons r1 r2, q2⟩

noncomputable def tTup (t : TA) : TE := fun σ H Q => t σ H fun xs H1 => xs.length ≤ sizeLine ∧ ∀ p, H1 p = none → Q (.ref p) (upd H1 p (.tup xs))
noncomputable def tLst (t : TA) : TE := fun σ H Q => t σ H fun xs H1 => xs.length ≤ sizeLine ∧ ∀ p, H1 p = none → Q (.ref p) (upd H1 p (.lst xs))
theorem pe_tup {x1} (h : PA X es t) : PE X (.Tuple es x1 pos) (tTup t) := by
  intro pins s σ H Q I hq
  refine wpAny_Tuple_spliced (thn (h pos pins s σ H _ I hq) fun us s1 ⟨xs, H1, I1, r, z, q⟩ => ⟨by rw [← r.length]; exact z, ?_⟩)
  have hf : H1 s1.heap.objs.size = none := I1.hok.fresh (Nat.le_refl _)
  refine ⟨.ref s1.heap.objs.size, upd H1 s1.heap.objs.size (.tup xs), I1.laid (t' := s1.toks) (fun b u e => Heap.get?_push_of_some _ e) (Nat.le_refl _) ?_, rfl, q _ hf⟩
  exact ⟨z, us, r, ⟨_, Heap.get?_push_size _ rfl, rfl, ⟨_, rfl⟩, rfl⟩⟩
theorem pe_lst (h : PA X es t) : PE X (.List es pos) (tLst t) := by
  intro pins s σ H Q I hq
  refine wpAny_List_spliced (thn (h pos pins s σ H _ I hq) fun us s1 ⟨xs, H1, I1, r, z, q⟩ => ⟨by rw [← r.length]; exact z, ?_⟩)
  have hf : H1 s1.heap.objs.size = none := I1.hok.fresh (Nat.le_refl _)
  refine ⟨.ref s1.heap.objs.size, upd H1 s1.heap.objs.size (.lst xs), I1.laid (t' := s1.toks) (fun b u e => Heap.get?_push_of_some _ e) (Nat.le_refl _) ?_, rfl, q _ hf⟩
  exact ⟨z, us, 0, r, Heap.get?_push_size _ rfl⟩
end

noncomputable abbrev Sp := List V → Hp → VK → XK → Prop
noncomputable abbrev CXT := List Env → Hp → Shared → XK → Value → Shared → Prop

structure Env0 (P : Program) (w : World) (K : PySem.W.Frag) (mg : Str → Option Value) (base : Heap) (A : Around) (outer : List Env) (s : Shared) (H : Hp) : Prop where
  frames : A.frames = some outer
  mod : Mod K mg base
  bs : ∀ b o, base.get? b = some o → s.heap.get? b = some o ∧ H b = none
  bsz : base.objs.size ≤ s.heap.objs.size
  funs : s.heap.FunFrames base outer
  frf : ∀ b ∈ frs outer, H b = none
  hok : HOk P w H s.heap
  bare : AllBare s.gens
noncomputable def CE (outer : List Env) (P : Program) (w : World) (H : Hp) (s : Shared) (Q : VK) (u : Value) (s' : Shared) : Prop :=
  ∃ v H', s'.os = s.os ∧ AllBare s'.gens ∧ Un (frs outer) [] H H' s.heap s'.heap ∧ HOk P w H' s'.heap ∧ RelV v u ∧ Q v H'
noncomputable def CR (CX : CXT) (outer : List Env) (P : Program) (w : World) (H : Hp) (s : Shared) (Q : VK) (E : XK) (r : Result) (s' : Shared) : Prop :=
  match r with
  | .ok (.ret u) => CE outer P w H s Q u s'
  | .ok _ => False
  | .error e => CX outer H s E e s'
structure FnOk (P : Program) (w : World) (K : PySem.W.Frag) (mg : Str → Option Value) (base : Heap) (CX : CXT) (k : Nat) (f : Addr) (fd : FuncData) (ps : List Str) (sp : Sp) : Prop where
  len : ∀ vs H Q E, sp vs H Q E → vs.length = ps.length
  run : ∀ (A : Around) (outer : List Env) (s : Shared) (H : Hp) (args : Args) (us : List Value) (vs : List V) (Q : VK) (E : XK), Room k A → Env0 P w K mg base A outer s H → BindsTo s fd args (ps.zip us) → Vals vs us → sp vs H Q E →
    codeAny (model P w) A (.call (.ref f) args) (CR CX outer P w H s Q E) s
theorem Env0.make {P : Program} {w : World} {K : PySem.W.Frag} {mg : Str → Option Value} {base : Heap} {A : Around} {outer : List Env} {s : Shared} {H : Hp} (e : Env0 P w K mg base A outer s H) (C : Addr) (us : List Value) (kw : List (Str × Value)) :
    Env0 P w K mg base (A.under (.builtin "type.__call__" ⟨.ref C :: us, kw⟩)) outer s H := ⟨by first | exact e.frames | (simpa [Around.under, Code.envs, Code.isFrame, pushEnvs] using e.frames), e.mod, e.bs, e.bsz, e.funs, e.frf, e.hok, e.bare⟩
section
variable {X : Cx} {pins : List (Addr × Obj)} {σ : St} {H : Hp} {s s' : Shared}
theorem Inv.env0 (I : Inv X pins σ H s) : Env0 X.prog X.w X.K X.mg X.base X.A X.stack s H :=
  ⟨I.ok.frames, I.ok.mod, I.bs, Nat.le_trans I.ok.bsz I.sz, I.stack, I.stkFree, I.hok, I.bare⟩
theorem Inv.after {Q : VK} {u : Value} (I : Inv X pins σ H s) (h : CE X.stack X.prog X.w H s Q u s') : EP X pins σ Q u s' := by
  obtain ⟨v, H', os, bare, un, hok, r, q⟩ := h
  obtain ⟨hh, g, d, t, os'⟩ := s'
  obtain rfl : os' = s.os := os
  exact ⟨v, H', I.call (h' := hh) (g' := g) (d' := d) (t' := t) (ch := []) un hok bare (fun b z => absurd z (by simp)), r, q⟩
end

noncomputable def tCall (sp : Sp) (dvs : List V) (E : XK) (t : TA) : TE := fun σ H Q => t σ H fun vs H1 => sp (vs ++ dvs) H1 Q E
noncomputable def tMake (C : Addr) (sp : Sp) (dvs : List V) (E : XK) (t : TA) : TE := fun σ H Q => t σ H fun vs H1 => ∀ x dx, H1 x = none → H1 dx = none → dx ≠ x →
  sp (.ref x :: (vs ++ dvs)) (upd (upd H1 dx (.own x)) x (.ins C dx [])) (fun v H2 => v = .non ∧ Q (.ref x) H2) E

noncomputable def Binds (K : PySem.W.Frag) (fd : FuncData) (ps : List Str) (ds : List Value) : Prop :=
  ∀ (s : Shared) (us : List Value), K.In s.heap → (us ++ ds).length = ps.length → BindsTo s fd ⟨us, []⟩ (ps.zip (us ++ ds))
theorem Binds.all {K : PySem.W.Frag} {fd : FuncData} {ps : List Str} (h : ∀ us : List Value, us.length = ps.length → bindArgs fd ⟨us, []⟩ = pure (ps.zip us)) : Binds K fd ps [] := fun s us _ hl => by
  rw [List.append_nil] at hl ⊢
  exact .of_eq (h us hl)

noncomputable def Passes (CX : CXT) (X : Cx) (E : XK) : Prop := ∀ (pins : List (Addr × Obj)) (σ : St) (H : Hp) (s : Shared) (e : Value) (s' : Shared), Inv X pins σ H s → CX X.stack H s E e s' → X.xe e s'

section
variable {X : Cx} {CX : CXT} {k : Nat} {f C : Addr} {fd : FuncData} {ps : List Str} {sp : Sp} {dvs : List V} {ds : List Value} {E : XK} {x m : Str} {p pos apos : Pos} {e o : Expr} {es : List Expr} {ta : TE} {t : TA}

theorem run_fn {pins : List (Addr × Obj)} {σ : St} {H : Hp} {s : Shared} {Q : VK} {us : List Value} {vs : List V} (F : FnOk X.prog X.w X.K X.mg X.base CX k f fd ps sp) (hr : Room k X.A) (hb : Binds X.K fd ps ds) (hd : Vals dvs ds) (hx : Passes CX X E)
    (I : Inv X pins σ H s) (r : Vals vs us) (h : sp (vs ++ dvs) H Q E) : wpAny (model X.prog X.w) X.A (call (.ref f) us) (EP X pins σ Q) X.xe s := by
  have r2 : Vals (vs ++ dvs) (us ++ ds) := r.append hd
  have hl : (us ++ ds).length = ps.length := by rw [← r2.length]; exact F.len _ _ _ _ h
  refine wpAny_call (codeAny_mono (F.run X.A X.stack s H ⟨us, []⟩ (us ++ ds) (vs ++ dvs) Q E hr I.env0 (hb s us I.kIn hl) r2 h) fun r s' hq => ?_)
  cases r with
  | error e => exact hx pins σ H s e s' I hq
  | ok fl =>
    cases fl with
    | ret u => exact I.after hq
    | next => exact False.elim hq
    | brk => exact False.elim hq
    | cont => exact False.elim hq

theorem pe_call (F : FnOk X.prog X.w X.K X.mg X.base CX k f fd ps sp) (hr : Room k X.A) (hg : Gl X x) (hm : X.mg x = some (.ref f)) (hk : PySem.W.keepIn X.K (.ref f) = true) (hb : Binds X.K fd ps ds) (hd : Vals dvs ds) (hx : Passes CX X E)
    (ha : PA X (e :: es) t) (hdb : (x == ("__debug__" : Str)) = false := by decide) (he : starEach (e :: es) X.env = (false, eval e X.env) :: starEach es X.env := by rfl) (hpl : (backTo pos (starEach es X.env)).any (·.1) = false := by rfl) :
    PE X (.Call (.Name x p) (e :: es) [] pos) (tCall sp dvs E t) := by
  intro pins s σ H Q I h
  refine wpAny_Call_Name_kw (ld_glob I hg hm ?_ hdb)
  refine PySem.W.callWith_K (h₀ := X.base) I.ok.mod.kin hk (thn (ha pos pins s σ H _ I h) fun us s1 ⟨vs, H1, I1, r, q⟩ => ⟨I1.kIn, ?_⟩) he hpl
  exact run_fn F hr hb hd hx I1 r q
structure Mk (K : PySem.W.Frag) (C f : Addr) : Prop where
  makes : PySem.W.makesIn K C = true
  init : PySem.W.findIn K (.ref C) "__init__" = some (some (.ref f))
  fn : PySem.W.isFn K (.ref f) = true
  kp : PySem.W.keepIn K (.ref C) = true

theorem run_make {pins : List (Addr × Obj)} {σ : St} {H : Hp} {s : Shared} {Q : VK} {us : List Value} {vs : List V} (M : Mk X.K C f) (F : FnOk X.prog X.w X.K X.mg X.base CX k f fd ps sp) (hr : Room (k + 1) X.A) (hb : Binds X.K fd ps ds) (hd : Vals dvs ds)
    (hx : Passes CX X E) (I : Inv X pins σ H s) (r : Vals vs us)
    (h : ∀ x dx, H x = none → H dx = none → dx ≠ x → sp (.ref x :: (vs ++ dvs)) (upd (upd H dx (.own x)) x (.ins C dx [])) (fun v H2 => v = .non ∧ Q (.ref x) H2) E) :
    wpAny (model X.prog X.w) X.A (call (.ref C) us) (EP X pins σ Q) X.xe s := by
  have hq := h (s.heap.objs.size + 1) s.heap.objs.size (I.hok.fresh (Nat.le_succ _)) (I.hok.fresh (Nat.le_refl _)) (Nat.ne_of_lt (Nat.lt_succ_self _))
  have I2 := Inv.made (C := C) I
  have r2 : Vals (V.ref (s.heap.objs.size + 1) :: (vs ++ dvs)) (Value.ref (s.heap.objs.size + 1) :: (us ++ ds)) := .cons rfl (r.append hd)
  have hl : (Value.ref (s.heap.objs.size + 1) :: us ++ ds).length = ps.length := by
    have e := r2.length
    rw [F.len _ _ _ _ hq] at e
    exact e.symm
  refine wpAny_call (make_map (f := f) I.kIn M.makes M.init (beq_iff_eq.mp M.fn) (codeAny_mono (F.run _ X.stack _ _ ⟨Value.ref (s.heap.objs.size + 1) :: us, []⟩ (Value.ref (s.heap.objs.size + 1) :: (us ++ ds)) _ _ E (hr.make C us [])
    (I2.env0.make C us []) (hb _ (Value.ref (s.heap.objs.size + 1) :: us) I2.kIn hl) r2 hq) fun r s' hq' => ?_))
  cases r with
  | error e => exact hx pins σ _ _ e s' I2 hq'
  | ok fl =>
    cases fl with
    | ret u =>
      obtain ⟨v, H', I3, rv, ev, q3⟩ := I2.after hq'
      subst ev
      exact ⟨rv, ⟨V.ref (s.heap.objs.size + 1), H', I3, rfl, q3⟩⟩
    | next => exact False.elim hq'
    | brk => exact False.elim hq'
    | cont => exact False.elim hq'
theorem pe_make (M : Mk X.K C f) (F : FnOk X.prog X.w X.K X.mg X.base CX k f fd ps sp) (hr : Room (k + 1) X.A) (hg : Gl X x) (hm : X.mg x = some (.ref C)) (hb : Binds X.K fd ps ds) (hd : Vals dvs ds) (hx : Passes CX X E)
    (ha : PA X (e :: es) t) (hdb : (x == ("__debug__" : Str)) = false := by decide) (he : starEach (e :: es) X.env = (false, eval e X.env) :: starEach es X.env := by rfl) (hpl : (backTo pos (starEach es X.env)).any (·.1) = false := by rfl) :
    PE X (.Call (.Name x p) (e :: es) [] pos) (tMake C sp dvs E t) := by
  intro pins s σ H Q I h
  refine wpAny_Call_Name_kw (ld_glob I hg hm ?_ hdb)
  refine PySem.W.callWith_K (h₀ := X.base) I.ok.mod.kin M.kp (thn (ha pos pins s σ H _ I h) fun us s1 ⟨vs, H1, I1, r, q⟩ => ⟨I1.kIn, ?_⟩) he hpl
  exact run_make M F hr hb hd hx I1 r q
theorem pe_make0 (M : Mk X.K C f) (F : FnOk X.prog X.w X.K X.mg X.base CX k f fd ps sp) (hr : Room (k + 1) X.A) (hg : Gl X x) (hm : X.mg x = some (.ref C)) (hb : Binds X.K fd ps ds) (hd : Vals dvs ds) (hx : Passes CX X E)
    (hdb : (x == ("__debug__" : Str)) = false := by decide) : PE X (.Call (.Name x p) [] [] pos) (tMake C sp dvs E tNil) := by
  intro pins s σ H Q I h
  refine wpAny_Call_Name_kw (ld_glob I hg hm ?_ hdb)
  exact PySem.W.callWith_K0 I.kIn M.kp (run_make (us := []) M F hr hb hd hx I .nil h)
end

section
variable {X : Cx} {CX : CXT} {k : Nat} {f C : Addr} {fd : FuncData} {ps ks : List Str} {sp : Sp} {E : XK} {x m : Str} {p pos apos kpos : Pos} {e o : Expr} {es : List Expr} {kws : List Keyword} {te ta : TE} {t tk : TA} {nm : Option Str}
variable {g : List Value → List Value → List Value} {gV : List V → List V → List V}
end

structure FnScope (N P : List Str) (sc : Scope) : Prop where
  kind : sc.kind = .function
  co : sc.isCoroutine = false
  gen : sc.isGenerator = false
  nd : N.Nodup
  pre : N.take P.length = P
  par : ∀ x ∈ P, sc.names.lookup x = some .local ∨ sc.names.lookup x = some .cell
  nofree : ∀ y ∈ sc.names, y.2 ≠ .free

theorem bindL_out {kindOf : Str → Option NameKind} {x : Str} : ∀ {binds : List (Str × Value)} {m : Str → Option Value}, (∀ v, (x, v) ∉ binds) → bindL kindOf binds m x = m x
  | [], _, _ => rfl
  | (n, v) :: r, m, h => by
    unfold bindL
    rw [bindL_out fun w hw => h w (List.mem_cons_of_mem _ hw)]
    split
    · have : x ≠ n := by rintro rfl; exact h v List.mem_cons_self
      simp [this]
    · rfl
theorem bindC_out {kindOf : Str → Option NameKind} {x : Str} : ∀ {binds : List (Str × Value)} {m : Str → Option Value}, (∀ v, (x, v) ∉ binds) → bindC kindOf binds m x = m x
  | [], _, _ => rfl
  | (n, v) :: r, m, h => by
    unfold bindC
    rw [bindC_out fun w hw => h w (List.mem_cons_of_mem _ hw)]
    split
    · rfl
    · have : x ≠ n := by rintro rfl; exact h v List.mem_cons_self
      simp [this]
theorem bindL_get {kindOf : Str → Option NameKind} {x : Str} {v : Value} : ∀ {P : List Str} {vs : List Value} {i : Nat} {m : Str → Option Value}, P.Nodup → P[i]? = some x → vs[i]? = some v → kindOf x = some .local →
    bindL kindOf (P.zip vs) m x = some v
  | [], _, _, _, _, h, _, _ => by simp at h
  | _ :: _, [], _, _, _, _, h, _ => by simp at h
  | p :: P, w :: vs, 0, m, nd, h1, h2, hk => by
    simp at h1 h2; subst h1; subst h2
    show bindL kindOf ((p, w) :: P.zip vs) m p = _
    unfold bindL
    rw [bindL_out fun v hv => (List.nodup_cons.mp nd).1 (List.of_mem_zip hv).1, if_pos hk]
    simp
  | p :: P, w :: vs, i + 1, m, nd, h1, h2, hk => by
    show bindL kindOf ((p, w) :: P.zip vs) m x = _
    unfold bindL
    exact bindL_get (i := i) (List.nodup_cons.mp nd).2 (by simpa using h1) (by simpa using h2) hk
theorem bindC_get {kindOf : Str → Option NameKind} {x : Str} {v : Value} : ∀ {P : List Str} {vs : List Value} {i : Nat} {m : Str → Option Value}, P.Nodup → P[i]? = some x → vs[i]? = some v → kindOf x ≠ some .local →
    bindC kindOf (P.zip vs) m x = some v
  | [], _, _, _, _, h, _, _ => by simp at h
  | _ :: _, [], _, _, _, _, h, _ => by simp at h
  | p :: P, w :: vs, 0, m, nd, h1, h2, hk => by
    simp at h1 h2; subst h1; subst h2
    show bindC kindOf ((p, w) :: P.zip vs) m p = _
    unfold bindC
    rw [bindC_out fun v hv => (List.nodup_cons.mp nd).1 (List.of_mem_zip hv).1, if_neg hk]
    simp
  | p :: P, w :: vs, i + 1, m, nd, h1, h2, hk => by
    show bindC kindOf ((p, w) :: P.zip vs) m x = _
    unfold bindC
    exact bindC_get (i := i) (List.nodup_cons.mp nd).2 (by simpa using h1) (by simpa using h2) hk

noncomputable def start (N : List Str) (vs : List V) : St := vs.map some ++ List.replicate (N.length - vs.length) none

noncomputable def cxOf (CX : CXT) (P : Program) (w : World) (K : PySem.W.Frag) (mg : Str → Option Value) (base : Heap) (N : List Str) (qual : Str) (scope : Scope) (f : Addr) (cd : Value) (A : Around) (outer : List Env) (s : Shared) (H : Hp) (E : XK) : Cx where
  prog := P
  w := w
  K := K
  mg := mg
  base := base
  A := A.deeper (envOfC qual scope s.heap.objs.size f cd)
  N := N
  s₀ := s
  H₀ := H
  env := envOfC qual scope s.heap.objs.size f cd
  outer := outer
  stack := envOfC qual scope s.heap.objs.size f cd :: outer
  ex := []
  calm := true
  fn := fun _ => true
  pn := []
  xe := fun e s' => wpAny (model P w) (A.deeper (envOfC qual scope s.heap.objs.size f cd)) (leaving (envOfC qual scope s.heap.objs.size f cd) e) (fun _ s'' => CX outer H s E e s'') (fun e' s'' => CX outer H s E e' s'') s'

theorem cell_has {sc : Scope} {n : Nat} {x : Str} (h : sc.names.lookup x = some .cell) : ∃ c, (cellsFrom n sc.names []).lookup x = some c := by
  have q := PySem.W.cellsFrom_some sc.names n [] (.inl h)
  exact Option.isSome_iff_exists.mp q

theorem inv_start {CX : CXT} {P : Program} {w : World} {K : PySem.W.Frag} {mg : Str → Option Value} {base : Heap} {N ps : List Str} {qual : Str} {scope : Scope} {f : Addr} {cd : Value} {A : Around} {outer : List Env} {s s1 : Shared} {H : Hp} {E : XK} {us : List Value} {vs : List V}
    (S : FnScope N ps scope) (hd : A.handled = none) (e0 : Env0 P w K mg base A outer s H) (hl : vs.length = ps.length) (r : Vals vs us)
    (x : InCallC s s.heap.objs.size (bindL (envOfC qual scope s.heap.objs.size f cd).kindOf (ps.zip us) fun _ => none) (cellsFrom (s.heap.objs.size + 1) scope.names []) (bindC (envOfC qual scope s.heap.objs.size f cd).kindOf (ps.zip us) fun _ => none) s1) :
    Inv (cxOf CX P w K mg base N qual scope f cd A outer s H E) [] (start N vs) H s1 := by
  have hpl : ps.length ≤ N.length := by have := congrArg List.length S.pre; rw [List.length_take] at this; omega
  obtain ⟨h1, tk, rfl, hk⟩ := x.done
  have noA : ∀ b : Addr, b ∉ (cxOf CX P w K mg base N qual scope f cd A outer s H E).ex := fun b z => absurd (show b ∈ ([] : List Addr) from z) (by simp)
  refine ⟨⟨e0.mod, S.kind, rfl, rfl, Nat.le_refl _, fun y z c h1 h2 => ?_, fun y hy => ?_, fun y c _ h => ?_, fun _ => hd, Around.frames_deeper e0.frames, .inr ⟨rfl, rfl⟩, fun b z => absurd z (noA b), e0.bs, e0.bsz, fun b _ _ => noA b, fun b z => absurd z (noA b), e0.funs, e0.frf⟩,
    rfl, e0.bare, Un.kept hk, ⟨_, x.toInCall.ns, fun i y v h1 h2 h3 => ?_⟩, fun y c h => ⟨_, x.cell y c h⟩, e0.hok.fresh (Nat.le_refl _), fun y c h => ?_, fun p hp => absurd (show p ∈ ([] : List (Addr × Obj)) from hp) (by simp), e0.hok.kept hk, ?_⟩
  · exact name_of_addr x.apart (PySem.mem_of_lookup h1) (PySem.mem_of_lookup h2)
  · have hy : scope.names.lookup y = some .cell ∨ scope.names.lookup y = some .free := hy
    rcases hy with hy | hy
    · exact cell_has hy
    · exact absurd rfl (S.nofree _ (PySem.mem_of_lookup hy))
  · exact Nat.le_of_lt (x.above y c (PySem.mem_of_lookup h))
  · have hi : i < vs.length := by
      unfold start at h2
      by_cases hi : i < vs.length
      · exact hi
      · rw [List.getElem?_append_right (by simpa using hi)] at h2
        rw [List.getElem?_replicate] at h2
        split at h2 <;> cases h2
    have ha : vs[i]? = some v := by
      unfold start at h2
      rw [List.getElem?_append_left (by simpa using hi), List.getElem?_map] at h2
      cases e : vs[i]? with
      | none => rw [e] at h2; cases h2
      | some a => rw [e] at h2; cases h2; rfl
    obtain ⟨u, hu, rv⟩ := r.get ha
    have hp : ps[i]? = some y := by
      rw [← S.pre, List.getElem?_take_of_lt (by omega)]; exact h1
    have ndP : ps.Nodup := by rw [← S.pre]; exact S.nd.sublist (List.take_sublist _ _)
    refine ⟨u, rv, ?_⟩
    rcases S.par y (List.mem_of_getElem? hp) with k | k
    · exact .inl ⟨k, bindL_get ndP hp hu k⟩
    · obtain ⟨c, e⟩ := cell_has (n := s.heap.objs.size + 1) k
      refine .inr ⟨.inl k, c, e, ?_⟩
      have q := x.cell y c e
      rw [bindC_get ndP hp hu (by show scope.names.lookup y ≠ _; rw [k]; decide)] at q
      exact q
  · exact e0.hok.fresh (Nat.le_of_lt (x.above y c (PySem.mem_of_lookup h)))
  · unfold start
    show _ = N.length
    rw [List.length_append, List.length_map, List.length_replicate]
    omega

theorem fn_of {CX : CXT} {P : Program} {w : World} {K : PySem.W.Frag} {mg : Str → Option Value} {base : Heap} {k : Nat} {f : Addr} {name qual : Str} {params : Arguments} {body : List Stmt} {scope : Scope} {dV kV doc pm cdv ct oc : Value} {an od : Option Addr}
    {osl : Array (Option Value)} {N ps : List Str} {sp : Sp} (lk : K.lookup f = some ⟨oc, od, .func (PySem.W.fnOf name qual params body scope dV kV doc pm an cdv ct), osl⟩) (hcd : PySem.W.codeIn K cdv qual = true) (S : FnScope N ps scope)
    (len : ∀ vs H Q E, sp vs H Q E → vs.length = ps.length)
    (hbody : ∀ (A : Around) (outer : List Env) (s : Shared) (H : Hp) (vs : List V) (Q : VK) (E : XK), Room k (A.deeper (envOfC qual scope s.heap.objs.size f cdv)) → sp vs H Q E →
      ∃ t, PSs (cxOf CX P w K mg base N qual scope f cdv A outer s H E) body t ∧ t { nx := fun _ H' => Q .non H', rt := Q } (start N vs) H) :
    FnOk P w K mg base CX (k + 1) f (PySem.W.fnOf name qual params body scope dV kV doc pm an cdv ct) ps sp := by
  refine ⟨len, fun A outer s H args us vs Q E hr e0 hb r hsp => ?_⟩
  have hl := len _ _ _ _ hsp
  have KX : K.In s.heap := e0.mod.kin.keeps fun b o e => (e0.bs b o e).1
  have lim : s.heap.NoLimit := e0.mod.nolimit.keeps fun b o e => (e0.bs b o e).1
  have hkind : ∀ y ∈ ps.zip us, scope.names.lookup y.1 = some .local ∨ (scope.names.lookup y.1 = some .cell ∧ ((cellsFrom (s.heap.objs.size + 1) scope.names []).lookup y.1).isSome = true) := fun ⟨n, v⟩ hy => by
    rcases S.par n (List.of_mem_zip hy).1 with q | q
    · exact .inl q
    · exact .inr ⟨q, PySem.W.cellsFrom_some _ _ _ (.inl q)⟩
  refine codeAny_call_function hr.depth (KX _ _ lk) rfl S.co S.gen rfl (PySem.W.codeRec_of KX hcd) (hb _ _ _ _ ?_)
  refine wpAny_newFunctionEnv_cells S.kind hkind fun env he s1 x => ?_
  subst he
  refine ⟨lim.keeps x.toInCall.keep, codeAny_func ?_⟩
  obtain ⟨t, ht, hq⟩ := hbody A outer s H vs Q E (hr.deeper _) hsp
  have I : Inv (cxOf CX P w K mg base N qual scope f cdv A outer s H E) [] (start N vs) H s1 := inv_start S hr.hd e0 hl r x
  refine wpAny_mono (ht [] s1 (start N vs) H _ I hq) (fun fl s' hs => ?_) fun e s' hs => hs
  have fin : ∀ {σ' : St} {H' : Hp} {v : V} {u : Value}, Inv (cxOf CX P w K mg base N qual scope f cdv A outer s H E) [] σ' H' s' → RelV v u → Q v H' → CE outer P w H s Q u s' :=
    fun {σ' H' v u} J rv q => ⟨v, H', J.os, J.bare, J.base, J.hok, rv, q⟩
  cases fl with
  | ret u =>
    obtain ⟨v, σ', H', J, rv, q⟩ := hs
    exact fin J rv q
  | next =>
    obtain ⟨σ', H', J, q⟩ := hs
    exact fin (v := V.non) (u := Value.none) J rfl q
  | brk =>
    obtain ⟨_, _, _, q⟩ := hs
    exact False.elim q
  | cont =>
    obtain ⟨_, _, _, q⟩ := hs
    exact False.elim q
end L2

namespace L2
open PySem PySem.Spec PyProof.Rows
section
variable {X : Cx} {x : Str} {p pos : Pos} {e : Expr} {es : List Expr} {t : TA} {id T : String} {r : List V → Hp → VK → Prop}

noncomputable def tCB (r : List V → Hp → VK → Prop) (t : TA) : TE := fun σ H Q => t σ H fun vs H1 => r vs H1 Q
theorem pe_callB (hc : CallR X (.builtin id) r) (hg : Gl X x) (hm : X.mg x = none) (hv : bootBuiltins x = some (.builtin id)) (ha : PA X (e :: es) t) (hn : x ≠ "__name__" := by decide) (hdb : (x == ("__debug__" : Str)) = false := by decide)
    (he : starEach (e :: es) X.env = (false, eval e X.env) :: starEach es X.env := by rfl) (hpl : (backTo pos (starEach es X.env)).any (·.1) = false := by rfl) : PE X (.Call (.Name x p) (e :: es) [] pos) (tCB r t) := by
  intro pins s σ H Q I h
  refine wpAny_Call_Name_kw (ld_blt I hg hm hv ?_ hn hdb)
  exact PyProof.Rows.callWith_builtin1 (thn (ha pos pins s σ H _ I h) fun us s1 ⟨vs, H1, I1, r1, q1⟩ => hc pins s1 σ H1 vs us Q I1 r1 q1) he hpl
theorem pe_callTy (hc : CallR X (.type T) r) (hg : Gl X x) (hm : X.mg x = none) (hv : bootBuiltins x = some (.type T)) (ha : PA X (e :: es) t) (hn : x ≠ "__name__" := by decide) (hdb : (x == ("__debug__" : Str)) = false := by decide)
    (he : starEach (e :: es) X.env = (false, eval e X.env) :: starEach es X.env := by rfl) (hpl : (backTo pos (starEach es X.env)).any (·.1) = false := by rfl) : PE X (.Call (.Name x p) (e :: es) [] pos) (tCB r t) := by
  intro pins s σ H Q I h
  refine wpAny_Call_Name_kw (ld_blt I hg hm hv ?_ hn hdb)
  exact PyProof.Rows.callWith_type1 (thn (ha pos pins s σ H _ I h) fun us s1 ⟨vs, H1, I1, r1, q1⟩ => hc pins s1 σ H1 vs us Q I1 r1 q1) he hpl
end
end L2

namespace HT
open PySem PyProof.Rows

section
open PySem.SeqAt
open PySem.AutoSeq1 (wpAny_loadPart')
open PySem.MeetsSeq PySem.MeetsSeq2 PySem.MeetsSeq3

end

section
variable {prog : Program} {w : World} {A : Around} {E : Value → Shared → Prop} {s : Shared}

noncomputable def sIx (n d : Nat) : Option Int → Nat
  | none => d
  | some v => if v < 0 then (v + (n : Int)).toNat else min v.toNat n
theorem sIx_none (n d : Nat) : sIx n d none = d := rfl
theorem sIx_nat (n d k : Nat) : sIx n d (some (k : Int)) = min k n := by
  show (if (k : Int) < 0 then ((k : Int) + (n : Int)).toNat else min (k : Int).toNat n) = min k n
  rw [if_neg (by omega), Int.toNat_natCast]
theorem sIx_le (n d : Nat) (hd : d ≤ n) (o : Option Int) : sIx n d o ≤ n := by
  cases o with
  | none => exact hd
  | some v =>
    show (if v < 0 then (v + (n : Int)).toNat else min v.toNat n) ≤ n
    by_cases hv : v < 0
    · rw [if_pos hv]; omega
    · rw [if_neg hv]; exact Nat.min_le_right _ _
end
end HT

namespace L2
open PySem PySem.Spec PyProof.Rows

noncomputable abbrev TO := St → Hp → (Option Int → Hp → Prop) → Prop
noncomputable def PO (X : Cx) (e : Option Expr) (t : TO) : Prop :=
  ∀ (pins : List (Addr × Obj)) (s : Shared) (σ : St) (H : Hp) (Q : Option Int → Hp → Prop), Inv X pins σ H s → t σ H Q →
    wpAny (model X.prog X.w) X.A (evalPart e X.env) (fun u s' => ∃ o H', Inv X pins σ H' s' ∧ IsPart u o ∧ Q o H') X.xe s
noncomputable def tNoPart : TO := fun _ H Q => Q none H
noncomputable def tPart (t : TE) : TO := fun σ H Q => t σ H fun x H1 => ∃ i, x = .int i ∧ Q (some i) H1

section
variable {X : Cx} {e : Expr} {te : TE} {lo hi : Option Expr} {tl th : TO} {pos p2 : Pos}

theorem po_none : PO X none tNoPart := by
  intro pins s σ H Q I h
  rw [evalPart_none]
  exact wpAny_pure ⟨none, H, I, .none, h⟩
theorem po_some (h : PE X e te) : PO X (some e) (tPart te) := by
  intro pins s σ H Q I hw
  rw [evalPart_some]
  refine thn (h pins s σ H _ I hw) fun u s1 ⟨x, H1, I1, r1, q1⟩ => ?_
  obtain ⟨i, rfl, q⟩ := q1
  obtain ⟨t, rfl⟩ := r1
  exact ⟨some i, H1, I1, .int i t, q⟩

noncomputable def SlR (X : Cx) (r : V → Option Int → Option Int → Hp → VK → Prop) : Prop :=
  ∀ (pins : List (Addr × Obj)) (s : Shared) (σ : St) (H : Hp) (x : V) (v vl vu : Value) (lo hi : Option Int) (sl : Addr) (Q : VK), Inv X pins σ H s → RelV x v → s.heap.IsSliceOf sl vl vu .none → IsPart vl lo → IsPart vu hi → r x lo hi H Q →
    ∃ T id, typeLookup (.type T) "__getitem__" = pure (some (.builtin id)) ∧ s.TypeIs v T ∧ wpAny (model X.prog X.w) X.A (getItem v (.ref sl)) (EP X pins σ Q) X.xe s
noncomputable def tSl (r : V → Option Int → Option Int → Hp → VK → Prop) (te : TE) (tl th : TO) : TE := fun σ H Q => te σ H fun x H1 => tl σ H1 fun l H2 => th σ H2 fun u H3 => r x l u H3 Q
theorem pe_slice {r : V → Option Int → Option Int → Hp → VK → Prop} (hr : SlR X r) (he : PE X e te) (hl : PO X lo tl) (hu : PO X hi th) : PE X (.Subscript e (.Slice lo hi none p2) pos) (tSl r te tl th) := by
  intro pins s σ H Q I h
  refine Subscript_ (thn (he pins s σ H _ I h) fun v s1 ⟨x, H1, I1, r1, q1⟩ => ?_)
  refine wpAny_Slice (thn (hl pins s1 σ H1 _ I1 q1) fun vl s2 ⟨l, H2, I2, pl, q2⟩ => thn (hu pins s2 σ H2 _ I2 q2) fun vu s3 ⟨u, H3, I3, pu, q3⟩ => ?_)
  rw [evalPart_none]
  refine wpAny_pure ?_
  have I4 : Inv X pins σ H3 { s3 with heap := s3.heap.push { cls := .type "slice", data := .fields #[vl, vu, .none] } } := I3.kept (t' := s3.toks) fun b ob q => Heap.get?_push_of_some _ q
  obtain ⟨T, id, hT, ht, hg⟩ := hr pins { s3 with heap := s3.heap.push { cls := .type "slice", data := .fields #[vl, vu, .none] } } σ H3 x v vl vu l u s3.heap.objs.size Q I4 r1 (Heap.IsSliceOf.new ..) pl pu q3
  show wpAny (model X.prog X.w) X.A (subscriptTail e (.Slice lo hi none p2) v (.ref s3.heap.objs.size)) (EP X pins σ Q) X.xe { s3 with heap := s3.heap.push { cls := .type "slice", data := .fields #[vl, vu, .none] } }
  exact tail_any (ops := [.ref s3.heap.objs.size, v]) ht hT hg (by with_unfolding_all rfl)

noncomputable def cutV (xs : List V) (lo hi : Option Int) : List V := (xs.drop (HT.sIx xs.length 0 lo)).take (HT.sIx xs.length xs.length hi - HT.sIx xs.length 0 lo)
theorem cutV_length (xs : List V) (lo hi : Option Int) : (cutV xs lo hi).length ≤ xs.length := by
  unfold cutV
  rw [List.length_take, List.length_drop]
  omega
end
end L2

namespace L2
open PySem PySem.Spec PyProof.Rows

noncomputable def ixN (n : Nat) (i : Int) : Option Nat := if 0 ≤ i then (if i < n then some i.toNat else none) else if -(n : Int) ≤ i then some (i + n).toNat else none
noncomputable def atI {α : Type} (xs : List α) (i : Int) : Option α := (ixN xs.length i).bind fun j => xs[j]?
theorem ixN_seq {n : Nat} {i : Int} {j : Nat} (h : ixN n i = some j) : seqIndex? i n = some j ∧ j < n ∧ -(n : Int) ≤ i ∧ i < n := by
  unfold ixN at h
  by_cases h0 : 0 ≤ i
  · rw [if_pos h0] at h
    by_cases h1 : i < n
    · rw [if_pos h1] at h
      have e : i.toNat = j := Option.some.inj h
      exact ⟨by rw [seqIndex_of h0 h1, e], by omega, by omega, h1⟩
    · rw [if_neg h1] at h; cases h
  · rw [if_neg h0] at h
    by_cases h1 : -(n : Int) ≤ i
    · rw [if_pos h1] at h
      have e : (i + n).toNat = j := Option.some.inj h
      exact ⟨by rw [seqIndex_neg (by omega) h1, e], by omega, h1, by omega⟩
    · rw [if_neg h1] at h; cases h
theorem atI_get {α : Type} {xs : List α} {i : Int} {v : α} (h : atI xs i = some v) : ∃ j, seqIndex? i xs.length = some j ∧ xs[j]? = some v ∧ j < xs.length ∧ -(xs.length : Int) ≤ i ∧ i < xs.length := by
  unfold atI at h
  cases e : ixN xs.length i with
  | none => rw [e] at h; cases h
  | some j =>
    rw [e] at h
    obtain ⟨h1, h2, h3, h4⟩ := ixN_seq e
    exact ⟨j, h1, h, h2, h3, h4⟩
theorem atI_nat {α : Type} {xs : List α} {j : Nat} {v : α} (h : xs[j]? = some v) : atI xs (j : Int) = some v := by
  have hj : j < xs.length := (List.getElem?_eq_some_iff.mp h).1
  have e : ixN xs.length (j : Int) = some j := by
    unfold ixN
    rw [if_pos (by omega), if_pos (by omega)]; simp
  unfold atI; rw [e]; exact h
theorem atI_last {α : Type} (xs : List α) (v : α) : atI (xs ++ [v]) (-1) = some v := by
  have hl : (xs ++ [v]).length = xs.length + 1 := by simp
  have e : ixN (xs ++ [v]).length (-1) = some xs.length := by
    unfold ixN
    rw [hl, if_neg (by decide), if_pos (by omega)]
    congr 1
    omega
  unfold atI
  rw [e]
  show (xs ++ [v])[xs.length]? = some v
  simp

noncomputable def PlainIx (b : Expr) : Prop := ∀ o i, subscripted b false o i = operate [o, i] (getItem o i)
noncomputable def IxR (X : Cx) (r : R2) : Prop :=
  ∀ (value slice : Expr) (pins : List (Addr × Obj)) (s : Shared) (σ : St) (H : Hp) (x y : V) (v u : Value) (Q : VK), Inv X pins σ H s → RelV x v → RelV y u → r x y H Q →
    subscripted slice false v u = operate [v, u] (getItem v u) → wpAny (model X.prog X.w) X.A (subscriptTail value slice v u) (EP X pins σ Q) X.xe s
noncomputable def MtR (X : Cx) (id : String) (r : V → List V → Hp → VK → Prop) : Prop :=
  ∀ (pins : List (Addr × Obj)) (s : Shared) (σ : St) (H : Hp) (x : V) (xs : List V) (v : Value) (us : List Value) (Q : VK), Inv X pins σ H s → RelV x v → Vals xs us → r x xs H Q →
    wpAny (model X.prog X.w) X.A (call (.builtin id) (v :: us)) (EP X pins σ Q) X.xe s
section
variable {X : Cx} {a b : Expr} {ta tb : TE} {pos : Pos}
theorem pe_ix {r : R2} (hr : IxR X r) (ha : PE X a ta) (hb : PE X b tb) (hs : PlainIx b) : PE X (.Subscript a b pos) (tOp r ta tb) := by
  intro pins s σ H Q I h
  exact Subscript_ (binT ha hb I h fun v u s2 x y H2 I2 rx ry q => hr a b pins s2 σ H2 x y v u Q I2 rx ry q (hs _ _))

noncomputable def rIxL (K : PySem.W.Frag) : R2 := fun x y H Q => ∃ p xs i v, x = .ref p ∧ y = .int i ∧ SqL K H p xs ∧ atI xs i = some v ∧ Q v H
noncomputable def rIxT (K : PySem.W.Frag) : R2 := fun x y H Q => ∃ p xs i v, x = .ref p ∧ y = .int i ∧ SqT K H p xs ∧ atI xs i = some v ∧ Q v H
noncomputable def rIxS : R2 := fun x y H Q => ∃ z i c, x = .str z ∧ y = .int i ∧ z.length ≤ sizeLine ∧ atI z.cps.toList i = some c ∧ Q (.str ⟨#[c]⟩) H
theorem ix_list : IxR X (rIxL X.K) := by
  intro value slice pins s σ H x y v u Q I rx ry h hs
  obtain ⟨p, xs, i, z, rfl, rfl, hq, he, q⟩ := h
  cases rx
  obtain ⟨t, rfl⟩ := ry
  obtain ⟨its, r, pl, hz⟩ := I.list hq
  obtain ⟨j, h1, h2, h3, h4, h5⟩ := atI_get he
  obtain ⟨w, ew, rw'⟩ := r.get h2
  have hl := r.length
  have hn := line63
  have fin : EP X pins σ Q w s := ⟨z, H, I, rw', q⟩
  by_cases h0 : 0 ≤ i
  · have hj : i.toNat = j := by
      rw [seqIndex_of h0 h5] at h1
      exact Option.some.inj h1
    exact item_listR pl.isList h0 (by omega) (by rw [hj]; simpa using ew) fin hs
  · have hj : (i + (its.toArray.size : Int)).toNat = j := by
      rw [seqIndex_neg (by omega) h4] at h1
      rw [List.size_toArray, ← hl]
      exact Option.some.inj h1
    exact subscriptTail_builtinR (x := w) pl.isList.typeIs slot_list_getitem.lookup
      (wpAny_getItem_list_neg (Q := fun r s' => r = w ∧ EP X pins σ Q r s') pl.isList (by omega) (by rw [List.size_toArray] <;> omega) (by omega) (by rw [hj]; simpa using ew) ⟨rfl, fin⟩) hs
theorem ix_tup : IxR X (rIxT X.K) := by
  intro value slice pins s σ H x y v u Q I rx ry h hs
  obtain ⟨p, xs, i, z, rfl, rfl, hq, he, q⟩ := h
  cases rx
  obtain ⟨t, rfl⟩ := ry
  obtain ⟨its, r, pl, hz⟩ := I.tuple hq
  obtain ⟨j, h1, h2, h3, h4, h5⟩ := atI_get he
  obtain ⟨w, ew, rw'⟩ := r.get h2
  have hl := r.length
  have hn := line63
  have fin : EP X pins σ Q w s := ⟨z, H, I, rw', q⟩
  exact subscriptTail_builtinR (x := w) pl.typeIs slot_tuple_getitem.lookup
    (getItem_tuple (j := j) (Q := fun r s' => r = w ∧ EP X pins σ Q r s') pl (by omega) (by omega) (by rw [List.size_toArray, ← hl]; exact h1) (by simpa using ew) ⟨rfl, fin⟩) hs
theorem ix_str : IxR X rIxS := by
  intro value slice pins s σ H x y v u Q I rx ry h hs
  obtain ⟨z, i, c, rfl, rfl, hz, he, q⟩ := h
  obtain ⟨t, rfl⟩ := rx
  obtain ⟨t', rfl⟩ := ry
  obtain ⟨j, h1, h2, h3, h4, h5⟩ := atI_get he
  have hl : z.cps.toList.length = z.length := by simp [Str.length]
  rw [hl] at h1 h4 h5
  have hn := line63
  exact tail_any (typeIs_str s z t) slot_str_getitem.lookup (getItem_str (c := c) (by
    have e1 : decide (i < -(2 ^ 63 : Int)) = false := decide_eq_false (by omega)
    have e2 : decide (i ≥ 2 ^ 63) = false := decide_eq_false (by omega)
    rw [e1, e2, Bool.or_false]) (by rw [h1]; simpa using h2) ⟨.str ⟨#[c]⟩, H, I.tok _, ⟨_, rfl⟩, q⟩) hs
theorem mapSeq_set (its : List Value) (n j : Nat) (u : Value) : Obj.mapSeq (·.setIfInBounds j u) { cls := .type "list", data := .seq its.toArray n } = { cls := .type "list", data := .seq (its.set j u).toArray n } := by
  simp [Obj.mapSeq]
theorem Inv.lst {pins : List (Addr × Obj)} {σ : St} {H : Hp} {s : Shared} {p : Addr} {xs : List V} (I : Inv X pins σ H s) (h : H p = some (.lst xs)) :
    ∃ (its : List Value) (n : Nat), Vals xs its ∧ s.heap.get? p = some { cls := .type "list", data := .seq its.toArray n } ∧ xs.length ≤ sizeLine := by
  obtain ⟨z, its, n, r, e⟩ := I.hok p _ h
  exact ⟨its, n, r, e, z⟩
theorem Inv.lstUpd {pins : List (Addr × Obj)} {σ : St} {H : Hp} {s : Shared} {p : Addr} {xs ys : List V} {its its' : List Value} {n n' : Nat} {f : Obj → Obj} (I : Inv X pins σ H s) (h : H p = some (.lst xs))
    (ho : s.heap.get? p = some { cls := .type "list", data := .seq its.toArray n }) (hf : f { cls := .type "list", data := .seq its.toArray n } = { cls := .type "list", data := .seq its'.toArray n' }) (r : Vals ys its') (hz : ys.length ≤ sizeLine) (t : Nat) :
    Inv X pins σ (upd H p (.lst ys)) { s with heap := s.heap.update p f, toks := t } := by
  have e : (s.heap.update p f).get? p = some { cls := .type "list", data := .seq its'.toArray n' } := by
    rw [Heap.get?_update_self f ho (by rw [hf] <;> rfl), hf]
  refine I.write (x := p) (e := p) (by rw [h]; trivial) (.inl rfl) (fun b u hb q => (Heap.get?_update_other _ _ (Ne.symm hb)).trans q) ⟨_, e⟩ ?_
  exact ⟨hz, its', n', r, e⟩
noncomputable def rSetL : V → V → V → Hp → (Hp → Prop) → Prop := fun o i v H Q => ∃ p xs k j, o = .ref p ∧ i = .int k ∧ H p = some (.lst xs) ∧ ixN xs.length k = some j ∧ Q (upd H p (.lst (xs.set j v)))
theorem set_list : PSet X rSetL := by
  intro pins s σ H o i v ov iv u Q I ro ri rv h
  obtain ⟨p, xs, k, j, rfl, rfl, hp, hj, q⟩ := h
  cases ro
  obtain ⟨t, rfl⟩ := ri
  obtain ⟨its, n, r, ho, hz⟩ := I.lst hp
  obtain ⟨h1, h2, h3, h4⟩ := ixN_seq hj
  have hl := r.length
  have hn := line63
  have I' : Inv X pins σ (upd H p (.lst (xs.set j v))) { s with heap := s.heap.update p (Obj.mapSeq (·.setIfInBounds j u)) } :=
    I.lstUpd hp ho (mapSeq_set its n j u) (r.set rv j) (by rw [List.length_set]; exact hz) s.toks
  by_cases h0 : 0 ≤ k
  · have hk : k.toNat = j := by
      rw [seqIndex_of h0 h4] at h1
      exact Option.some.inj h1
    exact PySem.W.ki_setAt ho h0 (by omega) (by rw [List.size_toArray, ← hl]; exact h4) (by rw [hk]; exact ⟨_, I', q⟩)
  · have hk : (k + (its.toArray.size : Int)).toNat = j := by
      rw [seqIndex_neg (by omega) h3] at h1
      rw [List.size_toArray, ← hl]
      exact Option.some.inj h1
    exact PySem.W.ki_setBack ho (by omega) (by rw [List.size_toArray, ← hl]; exact h3) (by omega) (by rw [hk]; exact ⟨_, I', q⟩)

theorem slice_bounds (lo hi : Option Int) (n : Nat) : (sliceBounds lo hi none n).1 = ((HT.sIx n 0 lo : Nat) : Int) ∧ (sliceBounds lo hi none n).2.1 = ((HT.sIx n n hi : Nat) : Int) ∧ (sliceBounds lo hi none n).2.2 = 1 := by
  refine ⟨?_, ?_, rfl⟩
  · cases lo with
    | none => simp [sliceBounds, HT.sIx]
    | some i =>
      simp only [sliceBounds, HT.sIx, Option.getD_none, show (1 : Int) > 0 by decide, if_true]
      by_cases h : i < 0
      · simp only [h, if_true] <;> omega
      · simp only [h, if_false] <;> omega
  · cases hi with
    | none => simp [sliceBounds, HT.sIx]
    | some i =>
      simp only [sliceBounds, HT.sIx, Option.getD_none, show (1 : Int) > 0 by decide, if_true]
      by_cases h : i < 0
      · simp only [h, if_true] <;> omega
      · simp only [h, if_false] <;> omega
theorem slicePick_cut (its : List Value) (lo hi : Option Int) : slicePick its.toArray lo hi none = ((its.drop (HT.sIx its.length 0 lo)).take (HT.sIx its.length its.length hi - HT.sIx its.length 0 lo)).toArray := by
  obtain ⟨h1, h2, h3⟩ := slice_bounds lo hi its.toArray.size
  unfold slicePick
  rw [h1, h2, h3]
  simp only [sliceRange_one, pick_run, List.size_toArray] <;> rfl
noncomputable def rSlL (K : PySem.W.Frag) : V → Option Int → Option Int → Hp → VK → Prop := fun x lo hi H Q => ∃ a xs, x = .ref a ∧ SqL K H a xs ∧ ∀ p, H p = none → Q (.ref p) (upd H p (.lst (cutV xs lo hi)))
theorem sl_list : SlR X (rSlL X.K) := by
  intro pins s σ H x v vl vu lo hi sl Q I rx hs pl pu h
  obtain ⟨a, xs, rfl, hx, q⟩ := h
  cases rx
  obtain ⟨its, r, ht, hz⟩ := I.list hx
  have hlen := r.length
  refine ⟨"list", _, slot_list_getitem.lookup, ht.isList.typeIs, ?_⟩
  refine wpAny_getItem_list_slice ht.isList hs pl pu .none (by simp) ?_ (by rw [List.size_toArray] <;> omega)
  rw [slicePick_cut, ← hlen]
  refine ⟨.ref s.heap.objs.size, _, I.laid (t' := s.toks) (o := .lst (cutV xs lo hi)) (fun b ob q => Heap.get?_push_of_some _ q) (Nat.le_refl _) ?_, rfl, q _ (I.hok.fresh (Nat.le_refl _))⟩
  exact ⟨Nat.le_trans (cutV_length xs lo hi) hz, _, 0, (r.drop (HT.sIx xs.length 0 lo)).take (HT.sIx xs.length xs.length hi - HT.sIx xs.length 0 lo), Heap.get?_push_size _ rfl⟩

noncomputable def flatV : V → Bool
  | .non => true
  | .bl _ => true
  | .int _ => true
  | .str _ => true
  | _ => false
noncomputable def eqV : V → V → Bool
  | .non, .non => true
  | .bl a, .bl b => a == b
  | .bl a, .int b => (if a then 1 else 0) == b
  | .int a, .bl b => a == (if b then 1 else 0)
  | .int a, .int b => a == b
  | .str a, .str b => a == b
  | _, _ => false
theorem eqAt_V {A : Around} {s : Shared} {y x : V} {u v : Value} (ry : RelV y u) (rx : RelV x v) (fy : flatV y = true) (fx : flatV x = true) : SeqAt.EqAt A s u v (eqV y x) := by
  cases y with
  | non =>
    cases ry
    cases x with
    | non => cases rx; exact SeqAt.EqAt.same _
    | bl b => cases rx; exact SeqAt.EqAt.none_bool b
    | int b => obtain ⟨t, rfl⟩ := rx; exact SeqAt.EqAt.none_int b t
    | str b => obtain ⟨t, rfl⟩ := rx; exact SeqAt.EqAt.none_str b t
    | _ => exact absurd (show false = true from fx) Bool.false_ne_true
  | bl a =>
    cases ry
    cases x with
    | non => cases rx; exact SeqAt.EqAt.bool_none a
    | bl b => cases rx; exact SeqAt.EqAt.bool_bool a b
    | int b => obtain ⟨t, rfl⟩ := rx; exact SeqAt.EqAt.bool_int a b t
    | str b => obtain ⟨t, rfl⟩ := rx; exact SeqAt.EqAt.bool_str a b t
    | _ => exact absurd (show false = true from fx) Bool.false_ne_true
  | int a =>
    obtain ⟨t', rfl⟩ := ry
    cases x with
    | non => cases rx; exact SeqAt.EqAt.int_none a t'
    | bl b => cases rx; exact SeqAt.EqAt.int_bool a t' b
    | int b => obtain ⟨t, rfl⟩ := rx; exact SeqAt.EqAt.int_int a t' b t
    | str b => obtain ⟨t, rfl⟩ := rx; exact SeqAt.EqAt.int_str a t' b t
    | _ => exact absurd (show false = true from fx) Bool.false_ne_true
  | str a =>
    obtain ⟨t', rfl⟩ := ry
    cases x with
    | non => cases rx; exact SeqAt.EqAt.str_none a t'
    | bl b => cases rx; exact SeqAt.EqAt.str_bool a t' b
    | int b => obtain ⟨t, rfl⟩ := rx; exact SeqAt.EqAt.str_int a t' b t
    | str b => obtain ⟨t, rfl⟩ := rx; exact SeqAt.EqAt.str_str a t' b t
    | _ => exact absurd (show false = true from fx) Bool.false_ne_true
  | _ => exact absurd (show false = true from fy) Bool.false_ne_true
noncomputable def eqU (x : V) (u : Value) : Bool := match u with
  | .none => eqV .non x
  | .bool b => eqV (.bl b) x
  | .int i _ => eqV (.int i) x
  | .str z _ => eqV (.str z) x
  | _ => false
theorem eqU_of {x y : V} {u : Value} (r : RelV y u) (f : flatV y = true) : eqU x u = eqV y x := by
  cases y with
  | non => cases r; rfl
  | bl b => cases r; rfl
  | int i => obtain ⟨t, rfl⟩ := r; rfl
  | str z => obtain ⟨t, rfl⟩ := r; rfl
  | _ => exact absurd (show false = true from f) Bool.false_ne_true
theorem any_eqU {x : V} : ∀ {xs : List V} {us : List Value}, Vals xs us → xs.all flatV = true → us.any (eqU x) = xs.any fun y => eqV y x
  | _, _, .nil, _ => rfl
  | y :: xs, u :: us, .cons r t, f => by
    rw [List.all_cons, Bool.and_eq_true] at f
    rw [List.any_cons, List.any_cons, eqU_of r f.1, any_eqU t f.2]
theorem mem_eqAt {A : Around} {s : Shared} {x : V} {v : Value} (rx : RelV x v) (fx : flatV x = true) : ∀ {xs : List V} {us : List Value}, Vals xs us → xs.all flatV = true → ∀ u ∈ us, SeqAt.EqAt A s u v (eqU x u)
  | _, _, .nil, _ => fun u hu => by cases hu
  | y :: xs, u :: us, .cons r t, f => fun u' hu => by
    rw [List.all_cons, Bool.and_eq_true] at f
    rcases List.mem_cons.mp hu with rfl | hu
    · rw [eqU_of r f.1]; exact eqAt_V r rx f.1 fx
    · exact mem_eqAt rx fx t f.2 u' hu
noncomputable def inV (x : V) (xs : List V) : Bool := xs.any fun y => eqV y x
noncomputable def rIn (K : PySem.W.Frag) (neg : Bool) : R2 := fun x y H Q => ∃ p xs, y = .ref p ∧ (SqL K H p xs ∨ SqT K H p xs) ∧ flatV x = true ∧ xs.all flatV = true ∧ Q (.bl (if neg then !inV x xs else inV x xs)) H
theorem op_in_seq : OpR X (compareOp .In) (rIn X.K false) := by
  intro pins s σ H x y v u Q I rx ry h
  obtain ⟨p, xs, rfl, hq, fx, fs, q⟩ := h
  cases ry
  rcases hq with hq | hq
  · obtain ⟨its, r, pl, hz⟩ := I.list hq
    refine SeqAt.in_listAt (eqU x) pl.isList (fun w hw => mem_eqAt rx fx r fs w (by simpa using hw)) ⟨.bl _, H, I, rfl, ?_⟩
    rw [show its.toArray.any (eqU x) = its.any (eqU x) by simp, any_eqU r fs]
    exact q
  · obtain ⟨its, r, pl, hz⟩ := I.tuple hq
    refine SeqAt.in_tupleAt (eqU x) pl (fun w hw => mem_eqAt rx fx r fs w (by simpa using hw)) ⟨.bl _, H, I, rfl, ?_⟩
    rw [show its.toArray.any (eqU x) = its.any (eqU x) by simp, any_eqU r fs]
    exact q
theorem op_notIn_seq : OpR X (compareOp .NotIn) (rIn X.K true) := by
  intro pins s σ H x y v u Q I rx ry h
  obtain ⟨p, xs, rfl, hq, fx, fs, q⟩ := h
  cases ry
  rcases hq with hq | hq
  · obtain ⟨its, r, pl, hz⟩ := I.list hq
    refine SeqAt.notIn_listAt (eqU x) pl.isList (fun w hw => mem_eqAt rx fx r fs w (by simpa using hw)) ⟨.bl _, H, I, rfl, ?_⟩
    rw [show its.toArray.any (eqU x) = its.any (eqU x) by simp, any_eqU r fs]
    exact q
  · obtain ⟨its, r, pl, hz⟩ := I.tuple hq
    refine SeqAt.notIn_tupleAt (eqU x) pl (fun w hw => mem_eqAt rx fx r fs w (by simpa using hw)) ⟨.bl _, H, I, rfl, ?_⟩
    rw [show its.toArray.any (eqU x) = its.any (eqU x) by simp, any_eqU r fs]
    exact q
theorem op_notIn_str : OpR X (compareOp .NotIn) (fun x y H Q => ∃ i j, x = .str i ∧ y = .str j ∧ Q (.bl (!(!(Builtin.Str.occurrences j i 0 j.length 1).isEmpty))) H) := by
  intro pins s σ H x y v u Q I rx ry h
  obtain ⟨i, j, rfl, rfl, q⟩ := h
  obtain ⟨t, rfl⟩ := rx
  obtain ⟨t', rfl⟩ := ry
  exact notIn_str ⟨.bl _, H, I, rfl, q⟩

theorem call_len_seq : CallR X (.builtin "len") (fun xs H Q => ∃ p ys, xs = [.ref p] ∧ (SqL X.K H p ys ∨ SqT X.K H p ys) ∧ Q (.int ys.length) H) := by
  intro pins s σ H xs us Q I r h
  obtain ⟨p, ys, rfl, hq, q⟩ := h
  obtain ⟨u, rfl, rx⟩ := vals1 r
  cases rx
  have hn := line63
  rcases hq with hq | hq
  · obtain ⟨its, r', pl, hz⟩ := I.list hq
    have hlen := r'.length
    exact Calls.call_len_list pl.isList (by simp only [List.size_toArray] <;> omega) ⟨.int ys.length, H, I.tok _, ⟨s.toks + 1, by rw [List.size_toArray, hlen]⟩, q⟩
  · obtain ⟨its, r', pl, hz⟩ := I.tuple hq
    have hlen := r'.length
    exact len_tuple pl (by simp only [List.size_toArray] <;> omega) ⟨.int ys.length, H, I.tok _, ⟨s.toks + 1, by rw [List.size_toArray, hlen]⟩, q⟩
theorem call_len_str : CallR X (.builtin "len") (fun xs H Q => ∃ z, xs = [.str z] ∧ z.length ≤ sizeLine ∧ Q (.int z.length) H) := by
  intro pins s σ H xs us Q I r h
  obtain ⟨z, rfl, hz, q⟩ := h
  obtain ⟨u, rfl, t, rfl⟩ := vals1 r
  have hn := line63
  exact len_str (by omega) ⟨.int z.length, H, I.tok _, ⟨_, rfl⟩, q⟩
theorem call_list_of : CallR X (.type "list") (fun xs H Q => ∃ p ys, xs = [.ref p] ∧ (SqL X.K H p ys ∨ SqT X.K H p ys) ∧ ∀ l, H l = none → Q (.ref l) (upd H l (.lst ys))) := by
  intro pins s σ H xs us Q I r h
  obtain ⟨p, ys, rfl, hq, q⟩ := h
  obtain ⟨u, rfl, rx⟩ := vals1 r
  cases rx
  have fin : ∀ (its : List Value), Vals ys its → ys.length ≤ sizeLine → ∀ (h' : Heap) (c' : Nat), (∀ b o', s.heap.get? b = some o' → h'.get? b = some o') →
      h'.get? s.heap.objs.size = some { cls := .type "list", dict := none, data := .seq its.toArray c', slots := #[] } → EP X pins σ Q (.ref s.heap.objs.size) { s with heap := h' } := fun its r' hz h' c' kp e =>
    ⟨.ref s.heap.objs.size, _, I.laid (t' := s.toks) kp (Nat.le_refl _) (show ObjOk X.prog X.w _ h' _ (.lst ys) from ⟨hz, its, c', r', e⟩), rfl, q _ (I.hok.fresh (Nat.le_refl _))⟩
  rcases hq with hq | hq
  · obtain ⟨its, r', pl, hz⟩ := I.list hq
    have hlen := r'.length
    obtain ⟨o, ho, hc, n, hd⟩ := pl.isList
    exact call_list_seq p (.inl rfl) ho hc hd (fun h' c' kp e => fin its r' hz h' c' kp e) (by simp only [List.size_toArray] <;> omega)
  · obtain ⟨its, r', pl, hz⟩ := I.tuple hq
    have hlen := r'.length
    obtain ⟨o, ho, hc, n, hd⟩ := pl
    exact call_list_seq p (.inr rfl) ho hc hd (fun h' c' kp e => fin its r' hz h' c' kp e) (by simp only [List.size_toArray] <;> omega)
theorem call_tuple_of : CallR X (.type "tuple") (fun xs H Q => ∃ p ys, xs = [.ref p] ∧ ((SqL X.K H p ys ∧ ∀ l, H l = none → Q (.ref l) (upd H l (.tup ys))) ∨ (SqT X.K H p ys ∧ Q (.ref p) H))) := by
  intro pins s σ H xs us Q I r h
  obtain ⟨p, ys, rfl, h⟩ := h
  obtain ⟨u, rfl, rx⟩ := vals1 r
  cases rx
  rcases h with ⟨hq, q⟩ | ⟨hq, q⟩
  · obtain ⟨its, r', pl, hz⟩ := I.list hq
    have hlen := r'.length
    refine call_tuple_list pl.isList (fun h' kp => ?_) (by simp only [List.size_toArray] <;> omega)
    have I1 : Inv X pins σ H { s with heap := h' } := I.kept (t' := s.toks) kp
    have I2 : Inv X pins σ (upd H h'.objs.size (.tup ys)) { s with heap := h'.push { cls := .type "tuple", data := .seq its.toArray } } :=
      I1.laid (t' := s.toks) (fun b o e => Heap.get?_push_of_some _ e) (Nat.le_refl _) (show ObjOk X.prog X.w _ _ _ (.tup ys) from ⟨hz, its, r', IsTupN.new _ _⟩)
    exact ⟨.ref h'.objs.size, _, I2, rfl, q _ (I1.hok.fresh (Nat.le_refl _))⟩
  · obtain ⟨its, r', pl, hz⟩ := I.tuple hq
    exact call_tuple_same pl ⟨.ref p, H, I, rfl, q⟩

noncomputable def tyV (K : PySem.W.Frag) (T : String) (x : V) (H : Hp) : Prop := match x with
  | .str _ => T = "str"
  | .int _ => T = "int"
  | .ref p => (T = "list" ∧ ∃ xs, SqL K H p xs) ∨ (T = "tuple" ∧ ∃ o, K.lookup p = some o ∧ o.cls = .type "tuple" ∧ o.dict = none) ∨
      (T = "dict" ∧ ((∃ kvs, H p = some (.dK kvs)) ∨ ∃ kvs, H p = some (.dT kvs))) ∨ (T = "set" ∧ ∃ S n, H p = some (.set S n))
  | _ => False
theorem tyV_is {pins : List (Addr × Obj)} {σ : St} {H : Hp} {s : Shared} {T : String} {x : V} {v : Value} (I : Inv X pins σ H s) (r : RelV x v) (ty : tyV X.K T x H) :
    s.TypeIs v T ∧ ∀ a, v = .ref a → ∃ ob, s.heap.get? a = some ob ∧ ob.dict = none := by
  cases x with
  | str z =>
    obtain ⟨t, rfl⟩ := r
    cases (show T = "str" from ty)
    exact ⟨typeIs_str s z t, fun _ e => nomatch e⟩
  | int i =>
    obtain ⟨t, rfl⟩ := r
    cases (show T = "int" from ty)
    exact ⟨typeIs_int s i t, fun _ e => nomatch e⟩
  | ref p =>
    cases r
    rcases ty with ⟨rfl, xs, hq⟩ | ⟨rfl, o, hk, hc, hd⟩ | ⟨rfl, hk⟩ | ⟨rfl, S, n, hk⟩
    · obtain ⟨its, _, pl, _⟩ := I.list hq
      refine ⟨pl.isList.typeIs, fun a e => ?_⟩
      cases e
      obtain ⟨o, n, e, c, hd, _⟩ := pl
      exact ⟨o, e, hd⟩
    · refine ⟨⟨o, I.kIn p o hk, hc⟩, fun a e => ?_⟩
      cases e
      exact ⟨o, I.kIn _ o hk, hd⟩
    · have z : ∃ o, s.heap.get? p = some o ∧ o.ExactDict := by
        rcases hk with ⟨kvs, hk⟩ | ⟨kvs, hk⟩
        · obtain ⟨_, _, _, _, o, _, _, e, ex, _⟩ := I.hok p _ hk
          exact ⟨o, e, ex⟩
        · obtain ⟨_, _, _, _, o, _, _, e, ex, _⟩ := I.hok p _ hk
          exact ⟨o, e, ex⟩
      obtain ⟨o, e, ex⟩ := z
      refine ⟨⟨o, e, ex.1⟩, fun a e2 => ?_⟩
      cases e2
      exact ⟨o, e, ex.2.1⟩
    · obtain ⟨o, _, _, _, e, ex, _⟩ := I.hok p _ hk
      refine ⟨⟨o, e, ex.1⟩, fun a e2 => ?_⟩
      cases e2
      exact ⟨o, e, ex.2.1⟩
  | _ => exact False.elim ty
noncomputable def tBM0 (K : PySem.W.Frag) (T : String) (r : V → List V → Hp → VK → Prop) (to : TE) : TE := fun σ H Q => to σ H fun x H1 => tyV K T x H1 ∧ r x [] H1 Q
noncomputable def tBM (K : PySem.W.Frag) (T : String) (r : V → List V → Hp → VK → Prop) (to : TE) (t : TA) : TE := fun σ H Q => to σ H fun x H1 => tyV K T x H1 ∧ t σ H1 fun xs H2 => r x xs H2 Q
variable {o e : Expr} {es : List Expr} {to : TE} {t : TA} {name : Str} {apos cpos : Pos} {T id : String} {r : V → List V → Hp → VK → Prop}
theorem pe_bm0 (pa : PlainAttrs T) (slot : Slot T name id) (hty : typeOf (.builtin id) = pure (.type "method_descriptor")) (hm : MtR X id r) (ho : PE X o to)
    (hbase : attributeBase o name X.env (eval o X.env) = eval o X.env := by rfl) (hline : (apos.endLine == cpos.line) = true := by rfl) : PE X (.Call (.Attribute o name apos) [] [] cpos) (tBM0 X.K T r to) := by
  intro pins s σ H Q I h
  refine wpAny_Call_method0_late hbase hline (thn (ho pins s σ H _ I h) fun v s1 ⟨x, H1, I1, r1, ty, q1⟩ => ?_)
  obtain ⟨h1, h2⟩ := tyV_is I1 r1 ty
  exact ⟨T, id, pa, slot, hty, h1, h2, Calls.callWith_builtin rfl (PySem.evalArgs_none (hm pins s1 σ H1 x [] v [] Q I1 r1 .nil q1))⟩
theorem pe_bm (pa : PlainAttrs T) (slot : Slot T name id) (hty : typeOf (.builtin id) = pure (.type "method_descriptor")) (hm : MtR X id r) (ho : PE X o to) (ha : PA X (e :: es) t)
    (hbase : attributeBase o name X.env (eval o X.env) = eval o X.env := by rfl)
    (hfew : ((backTo cpos (starEach (e :: es) X.env)).all (fun x => !x.1) && (backToKw cpos (keywordEach [] X.env)).all (fun x => x.1.isSome)
      && decide ((e :: es).length + ([] : List Keyword).length + (if ([] : List Keyword).isEmpty then 0 else 1) < 30)) = true := by rfl)
    (hline : (apos.endLine == cpos.line) = true := by rfl) (hs : starEach (e :: es) X.env = (false, eval e X.env) :: starEach es X.env := by rfl) (hplain : (backTo cpos (starEach es X.env)).any (·.1) = false := by rfl) :
    PE X (.Call (.Attribute o name apos) (e :: es) [] cpos) (tBM X.K T r to t) := by
  intro pins s σ H Q I h
  refine wpAny_Call_method_late hbase hfew hline rfl (thn (ho pins s σ H _ I h) fun v s1 ⟨x, H1, I1, r1, ty, q1⟩ => ?_)
  obtain ⟨h1, h2⟩ := tyV_is I1 r1 ty
  refine ⟨T, id, pa, slot, hty, h1, h2, ?_⟩
  have hA := ha cpos pins s1 σ H1 _ I1 q1
  rw [hs] at hA ⊢
  refine Calls.callWith_builtin (by show (false || (backTo cpos (starEach es X.env)).any (·.1)) = false; rw [hplain] <;> rfl) (Calls.evalArgs_plain ?_)
  exact thn hA fun us s2 ⟨vs, H2, I2, r2, q2⟩ => hm pins s2 σ H2 x vs v us Q I2 r1 r2 q2
end
end L2

namespace L2
open PySem PySem.Spec PyProof.Rows

noncomputable def MtM (X : Cx) (id : String) (r : V → List V → Hp → VK → Prop) : Prop :=
  ∀ (pins : List (Addr × Obj)) (s : Shared) (σ : St) (H : Hp) (x : V) (xs : List V) (v : Value) (us : List Value) (Q : VK), Inv X pins σ H s → RelV x v → Vals xs us → r x xs H Q →
    wpAny (model X.prog X.w) X.A (call (.builtin id) (v :: us)) (EP X pins σ Q) X.xe s

theorem Vals.one : ∀ {x : V} {us : List Value}, Vals [x] us → ∃ u, us = [u] ∧ RelV x u := by
  intro x us h
  cases h with
  | cons r q =>
    cases q
    exact ⟨_, rfl, r⟩
theorem Vals.two : ∀ {x y : V} {us : List Value}, Vals [x, y] us → ∃ u v, us = [u, v] ∧ RelV x u ∧ RelV y v := by
  intro x y us h
  cases h with
  | cons r q =>
    obtain ⟨v, rfl, z⟩ := Vals.one q
    exact ⟨_, _, rfl, r, z⟩
theorem Vals.zero : ∀ {us : List Value}, Vals [] us → us = []
  | _, .nil => rfl
theorem Vals.dropLast {xs : List V} {us : List Value} (h : Vals xs us) : Vals xs.dropLast us.dropLast := by
  induction h with
  | nil => exact .nil
  | cons r t ih =>
    cases t with
    | nil => exact .nil
    | cons q t' => exact .cons r ih
theorem Vals.rep {xs : List V} {us : List Value} (h : Vals xs us) : ∀ k : Nat, Vals (List.replicate k xs).flatten (List.replicate k us).flatten
  | 0 => .nil
  | k + 1 => by
    rw [List.replicate_succ, List.replicate_succ, List.flatten_cons, List.flatten_cons]
    exact Vals.append h (Vals.rep h k)
theorem erase_last {α : Type} (l : List α) : l.eraseIdx (l.length - 1) = l.dropLast := by
  induction l with
  | nil => rfl
  | cons a r ih =>
    cases r with
    | nil => rfl
    | cons b r =>
      have e : (a :: b :: r).length - 1 = ((b :: r).length - 1) + 1 := by
        have h1 : (a :: b :: r).length = r.length + 2 := rfl
        have h2 : (b :: r).length = r.length + 1 := rfl
        omega
      rw [e, List.eraseIdx_cons_succ, ih]
      all_goals rfl
theorem foldl_rep (its : List Value) : ∀ (k : Nat) (acc : List Value),
    List.foldl (fun x1 x2 => x1 ++ x2) acc.toArray (List.replicate k its.toArray) = (acc ++ (List.replicate k its).flatten).toArray
  | 0, acc => by simp
  | k + 1, acc => by
    have e : acc.toArray ++ its.toArray = (acc ++ its).toArray := by simp
    have e2 : (acc ++ its) ++ (List.replicate k its).flatten = acc ++ (List.replicate (k + 1) its).flatten := by
      rw [List.replicate_succ, List.flatten_cons, List.append_assoc]
    rw [← e2, ← foldl_rep its k (acc ++ its), ← e, List.replicate_succ, List.foldl_cons]

section
variable {X : Cx} {pins : List (Addr × Obj)} {σ : St} {H : Hp} {s : Shared} {l b : Addr} {xs ys zs : List V}

theorem Inv.lset {its its' : List Value} {n : Nat} {f : Array Value → Array Value} {t' : Nat} (I : Inv X pins σ H s) (hH : H l = some (.lst xs))
    (e : s.heap.get? l = some { cls := .type "list", data := .seq its.toArray n }) (hf : f its.toArray = its'.toArray) (hv : Vals ys its') (hz : ys.length ≤ sizeLine) :
    Inv X pins σ (upd H l (.lst ys)) { s with heap := s.heap.update l (Obj.mapSeq f), toks := t' } := by
  have q := PySem.IsL.update e f
  rw [hf] at q
  refine I.write (x := l) (e := l) (by rw [hH]; exact trivial) (.inl rfl) (fun b' u hb hu => (Heap.get?_update_other s.heap (Obj.mapSeq f) (Ne.symm hb)).trans hu) ⟨_, q⟩ ?_
  exact ⟨hz, its', _, hv, q⟩
theorem Inv.lnew {its : List Value} {t' : Nat} (I : Inv X pins σ H s) (hv : Vals ys its) (hz : ys.length ≤ sizeLine) :
    Inv X pins σ (upd H s.heap.objs.size (.lst ys)) { s with heap := s.heap.push { cls := .type "list", data := .seq its.toArray }, toks := t' } :=
  I.laid (fun _ _ q => Heap.get?_push_of_some _ q) (Nat.le_refl _) ⟨hz, its, 0, hv, Heap.get?_push_size _ rfl⟩
theorem Inv.fresh (I : Inv X pins σ H s) : H s.heap.objs.size = none := I.hok.fresh (Nat.le_refl _)
theorem Inv.lstM (I : Inv X pins σ H s) (hH : H l = some (.lst xs)) : xs.length ≤ sizeLine ∧ ∃ (its : List Value) (n : Nat), Vals xs its ∧ xs.length = its.length ∧ s.heap.get? l = some { cls := .type "list", data := .seq its.toArray n } := by
  obtain ⟨z, its, n, r, e⟩ := I.hok l _ hH
  exact ⟨z, its, n, r, r.length, e⟩

theorem notLongL {n : Nat} (h : n ≤ sizeLine) : Builtin.List.listTooLong n = false := by
  unfold Builtin.List.listTooLong
  exact decide_eq_false (by omega)
end

section
variable {X : Cx}

noncomputable def rAppend : V → List V → Hp → VK → Prop := fun x vs H Q => ∃ l xs y, x = .ref l ∧ vs = [y] ∧ H l = some (.lst xs) ∧ xs.length < sizeLine ∧ Q .non (upd H l (.lst (xs ++ [y])))
theorem mt_append : MtM X "list.append" rAppend := by
  intro pins s σ H x vs v us Q I rx rv h
  obtain ⟨l, xs, y, rfl, rfl, hH, hz, q⟩ := h
  cases rx
  obtain ⟨u, rfl, ru⟩ := rv.one
  obtain ⟨z, its, n, r, hl, e⟩ := I.lstM hH
  refine call_meets F.slot_list_append ⟨_, e, rfl⟩ F.entry_list_append (F.args_list_append_2 _ _) (PySem.list_append l its.toArray n u (by rw [List.size_toArray]; omega)) ⟨e, ?_⟩
  refine ⟨.non, _, I.lset (its' := its ++ [u]) hH e (by simp) (r.append (.cons ru .nil)) ?_, rfl, q⟩
  rw [List.length_append, List.length_singleton]
  omega

noncomputable def rPop : V → List V → Hp → VK → Prop := fun x vs H Q => ∃ l xs y, x = .ref l ∧ vs = [] ∧ H l = some (.lst xs) ∧ xs[xs.length - 1]? = some y ∧ Q y (upd H l (.lst xs.dropLast))
theorem mt_pop : MtM X "list.pop" rPop := by
  intro pins s σ H x vs v us Q I rx rv h
  obtain ⟨l, xs, y, rfl, rfl, hH, hy, q⟩ := h
  cases rx
  have hus := rv.zero
  subst hus
  obtain ⟨z, its, n, r, hl, e⟩ := I.lstM hH
  obtain ⟨u, hu, ru⟩ := r.get hy
  have hy' : its.toArray[its.toArray.size - 1]? = some u := by
    show its.toArray[its.length - 1]? = some u
    rw [← Array.getElem?_toList, ← hl]
    exact hu
  refine call_meets F.slot_list_pop ⟨_, e, rfl⟩ F.entry_list_pop (F.args_list_pop_1 _) (MeetsSeq.list_pop_last l its.toArray n u hy' (by rw [List.size_toArray]; omega)) ⟨e, ?_⟩
  refine ⟨y, _, I.lset (its' := its.dropLast) hH e ?_ r.dropLast ?_, ru, q⟩
  · show its.toArray.eraseIdxIfInBounds (its.toArray.size - 1) = its.dropLast.toArray
    rw [List.size_toArray, List.eraseIdxIfInBounds_toArray, erase_last]
  · rw [List.length_dropLast]
    omega

noncomputable def rCat : R2 := fun x y H Q => ∃ l b xs zs, x = .ref l ∧ y = .ref b ∧ H l = some (.lst xs) ∧ H b = some (.lst zs) ∧ xs.length + zs.length ≤ sizeLine ∧ ∀ p, H p = none → Q (.ref p) (upd H p (.lst (xs ++ zs)))
theorem op_cat : OpR X (binaryOp .Add) rCat := by
  intro pins s σ H x y v u Q I rx ry h
  obtain ⟨l, b, xs, zs, rfl, rfl, hH, hB, hz, q⟩ := h
  cases rx
  cases ry
  obtain ⟨z, its, n, r, hl, e⟩ := I.lstM hH
  obtain ⟨z2, its2, n2, r2, hl2, e2⟩ := I.lstM hB
  refine PySem.P.add_list e e2 ?_ (by rw [List.size_toArray, List.size_toArray]; omega)
  have ea : its.toArray ++ its2.toArray = (its ++ its2).toArray := by simp
  rw [ea]
  exact ⟨.ref _, _, I.lnew (t' := s.toks) (r.append r2) (by rw [List.length_append]; omega), rfl, q _ I.fresh⟩
noncomputable def rRep : R2 := fun x y H Q => ∃ l k xs, x = .ref l ∧ y = .int k ∧ H l = some (.lst xs) ∧ -(2 ^ 63) ≤ k ∧ k < 2 ^ 63 ∧ xs.length * k.toNat ≤ sizeLine ∧
  ∀ p, H p = none → Q (.ref p) (upd H p (.lst (List.replicate k.toNat xs).flatten))
theorem len_rep {α : Type} (xs : List α) (k : Nat) : (List.replicate k xs).flatten.length = k * xs.length := by
  induction k with
  | zero => simp
  | succ k ih => rw [List.replicate_succ, List.flatten_cons, List.length_append, ih, Nat.succ_mul, Nat.add_comm]
theorem op_rep : OpR X (binaryOp .Mult) rRep := by
  intro pins s σ H x y v u Q I rx ry h
  obtain ⟨l, k, xs, rfl, rfl, hH, h1, h2, hz, q⟩ := h
  cases rx
  obtain ⟨t, rfl⟩ := ry
  obtain ⟨z, its, n, r, hl, e⟩ := I.lstM hH
  have hlen : its.toArray.size * k.toNat ≤ sizeLine := by rw [List.size_toArray, ← hl]; exact hz
  have hcap : ¬ its.toArray.size * k.toNat > (2 ^ 63 - 1) / 8 := by
    have : (sizeLine : Nat) ≤ (2 ^ 63 - 1) / 8 := by decide
    omega
  have hfit : ¬ (!Builtin.List.listFitsIndex k) = true := by
    rw [fitsIndex_both h1 h2]
    exact Bool.false_ne_true
  have hlong : ¬ Builtin.List.listTooLong (its.toArray.size * k.toNat) = true := by
    rw [notLongL hlen]
    exact Bool.false_ne_true
  have hnew : List.foldl (fun x1 x2 => x1 ++ x2) #[] (List.replicate (if its.toArray.isEmpty = true then 0 else k.toNat) its.toArray) = (List.replicate k.toNat its).flatten.toArray := by
    have f0 : ∀ m : Nat, List.foldl (fun x1 x2 => x1 ++ x2) #[] (List.replicate m its.toArray) = (List.replicate m its).flatten.toArray := fun m => by
      have := foldl_rep its m []
      rw [List.nil_append] at this
      exact this
    rw [f0]
    cases its with
    | nil => simp
    | cons a r' => rw [if_neg (by simp)]
  refine wpAny_binaryOp_repeat_ref (T := "list") (U := "int") (by decide) ⟨_, e, rfl⟩ (fun s' => typeIs_int s' k t) noFill_list_mul F.fills_int_mul F.slot_int_rmul repeat_list F.slot_int_index.lookup
    (call_meets F.slot_int_rmul (typeIs_int s k t) F.entry_int_rmul (F.args_int_rmul_2 _ _) (int___rmul___int_list k t l its.toArray n)
      ⟨e, rfl, ⟨_, e, rfl⟩, call_meets F.slot_list_mul ⟨_, e, rfl⟩ F.entry_list_mul (F.args_list_mul_2 _ _) (AutoListH.list___mul___list_int_3 l its.toArray n k t hfit hcap hlong) ⟨e, ?_⟩⟩)
  rw [hnew]
  exact ⟨.ref _, _, I.lnew (t' := s.toks) (r.rep k.toNat) (by rw [len_rep, Nat.mul_comm]; exact hz), rfl, q _ I.fresh⟩

end

section
variable {prog : Program} {w : World} {A : Around} {E : Value → Shared → Prop} {s : Shared}
set_option maxRecDepth 100000 in
end

section
variable {X : Cx}
end
end L2

namespace L2
open PySem PySem.Spec PyProof.Rows

section
variable {κ : Type} [DecidableEq κ]
noncomputable def valV (kvs : List (κ × V)) (k : κ) : Option V := (kvs.find? fun kv => decide (kv.1 = k)).map (·.2)
noncomputable def putK (kvs : List (κ × V)) (k : κ) (v : V) : List (κ × V) :=
  if (kvs.any fun kv => decide (kv.1 = k)) = true then kvs.map (fun kv => if kv.1 = k then (kv.1, v) else kv) else kvs ++ [(k, v)]
theorem valV_pos {p : κ × V} {r : List (κ × V)} {k : κ} (e : p.1 = k) : valV (p :: r) k = some p.2 := by simp [valV, List.find?_cons, e]
theorem valV_neg {p : κ × V} {r : List (κ × V)} {k : κ} (e : ¬ p.1 = k) : valV (p :: r) k = valV r k := by simp [valV, List.find?_cons, e]
theorem length_putK (kvs : List (κ × V)) (k : κ) (v : V) : (putK kvs k v).length ≤ kvs.length + 1 := by
  unfold putK
  split
  · rw [List.length_map]; omega
  · rw [List.length_append, List.length_cons, List.length_nil]; omega
theorem KV.val {kvs : List (κ × V)} {vs : List (κ × Value)} (r : KV kvs vs) (k : κ) : RelO (valV kvs k) (valueAt vs k) := by
  unfold KV at r
  induction r with
  | nil => exact True.intro
  | @cons p q ps qs h t ih =>
    obtain ⟨h1, h2⟩ := h
    by_cases e : p.1 = k
    · have e' : q.1 = k := h1.symm.trans e
      have b : valueAt (q :: qs) k = some q.2 := by simp [valueAt, List.find?_cons, e']
      rw [valV_pos e, b]; exact h2
    · have e' : ¬ q.1 = k := fun z => e (h1.trans z)
      have b : valueAt (q :: qs) k = valueAt qs k := by simp [valueAt, List.find?_cons, e']
      rw [valV_neg e, b]; exact ih
theorem KV.any {kvs : List (κ × V)} {vs : List (κ × Value)} (r : KV kvs vs) (k : κ) : (kvs.any fun kv => decide (kv.1 = k)) = vs.any fun kv => decide (kv.1 = k) := by
  unfold KV at r
  induction r with
  | nil => rfl
  | cons h t ih => rw [List.any_cons, List.any_cons, ih, h.1]
theorem KV.repl {kvs : List (κ × V)} {vs : List (κ × Value)} (r : KV kvs vs) (k : κ) {y : V} {u : Value} (ry : RelV y u) :
    KV (kvs.map fun kv => if kv.1 = k then (kv.1, y) else kv) (vs.map fun kv => if kv.1 = k then (kv.1, u) else kv) := by
  unfold KV at r ⊢
  induction r with
  | nil => exact .nil
  | @cons p q ps qs h t ih =>
    rw [List.map_cons, List.map_cons]
    refine .cons ?_ ih
    obtain ⟨h1, h2⟩ := h
    by_cases e : p.1 = k
    · rw [if_pos e, if_pos (h1.symm.trans e)]; exact ⟨h1, ry⟩
    · rw [if_neg e, if_neg (fun z => e (h1.trans z))]; exact ⟨h1, h2⟩
theorem KV.put {kvs : List (κ × V)} {vs : List (κ × Value)} (r : KV kvs vs) (k : κ) {y : V} {u : Value} (ry : RelV y u) : KV (putK kvs k y) (stored vs k u) := by
  unfold putK stored
  rw [r.any k]
  by_cases e : (vs.any fun kv => decide (kv.1 = k)) = true
  · rw [if_pos e, if_pos e]; exact r.repl k ry
  · rw [if_neg e, if_neg e]; exact Paired.snoc r ⟨rfl, ry⟩
theorem KV.length {kvs : List (κ × V)} {vs : List (κ × Value)} (r : KV kvs vs) : kvs.length = vs.length := Paired.length r
end


theorem kV_is {P : Program} {w : World} {k : Key} {u : Value} (r : RelV (kV k) u) : (mixKind P w).is k u = true := by
  cases k with
  | inl i => obtain ⟨t, e⟩ := (show ∃ t, u = Value.int i t from r); subst e; exact mixKind_int P w i t
  | inr x => obtain ⟨t, e⟩ := (show ∃ t, u = Value.str x t from r); subst e; exact mixKind_str P w x t
theorem items_are {P : Program} {w : World} : ∀ {ks : List Key} {us : List Value}, Vals (ks.map kV) us → ItemsAre (mixKind P w) ks us
  | [], _, r => by rw [List.map_nil] at r; cases r; exact .nil
  | k :: ks, _, r => by
    rw [List.map_cons] at r
    cases r with
    | cons h t => exact .cons (kV_is h) (items_are t)

noncomputable abbrev KT (H : Hp) : List (List Key × V) → List (List Key × Addr × Value) → Prop := Paired fun p q => p.1 = q.1 ∧ H q.2.1 = some (.tup (p.1.map kV)) ∧ RelV p.2 q.2.2
section
variable {P : Program} {w : World} {H : Hp} {h : Heap} {a : Addr}
theorem rd_of {u : HO} (ok : HOk P w H h) (e : Rd H a u) : ObjOk P w H h a u := e.ok ok
theorem dk_rd {kvs : List (Key × V)} (ok : HOk P w H h) (e : Rd H a (.dK kvs)) : kvs.length ≤ sizeLine ∧ (a == sysModules) = false ∧ ∃ vs, KV kvs vs ∧ h.DictOf (mixKind P w) a vs :=
  show ObjOk P w H h a (.dK kvs) from rd_of ok e
theorem dk_of {kvs : List (Key × V)} (ok : HOk P w H h) (e : H a = some (.dK kvs)) : kvs.length ≤ sizeLine ∧ (a == sysModules) = false ∧ ∃ vs, KV kvs vs ∧ h.DictOf (mixKind P w) a vs := dk_rd ok (.inl e)
theorem key_of {ks : List Key} (ok : HOk P w H h) (e : H a = some (.tup (ks.map kV))) : (tupleKind (mixKind P w)).is h ks a := by
  obtain ⟨_, its, r, o, h1, h2, ⟨n, h3⟩, _⟩ := (show ObjOk P w H h a (.tup (ks.map kV)) from ok a _ e)
  exact ⟨o, its.toArray, n, h1, h2, h3, by simpa using items_are r⟩
theorem dt_rd {kvs : List (List Key × V)} (ok : HOk P w H h) (e : Rd H a (.dT kvs)) : kvs.length ≤ sizeLine ∧ (a == sysModules) = false ∧
    ∃ xs, KT H kvs xs ∧ h.DictOfH (tupleKind (mixKind P w)) a xs := by
  obtain ⟨z, y, xs, r, o, es, ep, h1, h2, h3, h4, h5⟩ := (show ObjOk P w H h a (.dT kvs) from rd_of ok e)
  refine ⟨z, y, xs, r, o, es, ep, h1, h2, h3, h4, fun x hx => ?_, h5⟩
  have all : ∀ {l : List (List Key × V)} {m : List (List Key × Addr × Value)}, KT H l m → ∀ x ∈ m, (tupleKind (mixKind P w)).is h x.1 x.2.1 := by
    intro l m q
    induction q with
    | nil => intro x hx; exact nomatch hx
    | @cons p q ps qs hq t ih =>
      intro x hx
      rcases List.mem_cons.mp hx with e | hx
      · subst e
        exact key_of ok (by rw [← hq.1]; exact hq.2.1)
      · exact ih x hx
  exact all r x hx
end

section
variable {X : Cx} {pins : List (Addr × Obj)} {σ : St} {H : Hp} {s : Shared} {a : Addr} {y v : V} {u r : Value} {o : Option V} {A : Around} {E : Value → Shared → Prop}

theorem Inv.big (I : Inv X pins σ H s) : sysModules < s.heap.objs.size := by
  have h : mainGlobals < s.heap.objs.size := (I.mod.glob.keeps I.bk).lt
  exact Nat.lt_trans (by decide) h

theorem d_write {h' : Heap} {t' : Nat} {ob : HO} (I : Inv X pins σ H s) (mu : Mut (H a)) (hs : Heap.SameBut a s.heap h') (he : ∃ q, h'.get? a = some q) (new : ObjOk X.prog X.w (upd H a ob) h' a ob) :
    Inv X pins σ (upd H a ob) { s with heap := h', toks := t' } :=
  I.write (x := a) (e := a) mu (.inl rfl) (fun b q hb z => (hs.2 b hb).trans z) he new
theorem dk_new {P : Program} {w : World} {H' : Hp} {h' : Heap} {kvs : List (Key × V)} {vs : List (Key × Value)} (z : kvs.length ≤ sizeLine) (hd : (a == sysModules) = false) (rel : KV kvs vs) (dd : h'.DictOf (mixKind P w) a vs) :
    ObjOk P w H' h' a (.dK kvs) := ⟨z, hd, vs, rel, dd⟩
end

section
variable {X : Cx} {pins : List (Addr × Obj)} {σ : St} {H : Hp} {s : Shared} {a : Addr} {kvs : List (Key × V)} {k : Key} {u : Value} {A : Around} {E : Value → Shared → Prop}
end


noncomputable def NoSl (i : Expr) : Prop := ∀ ov iv, subscripted i false ov iv = operate [ov, iv] (getItem ov iv)
theorem subD_of {prog : Program} {w : World} {A : Around} {E : Value → Shared → Prop} {s : Shared} {env : Env} {value slice : Expr} {pos : Pos} {T id : String} {Q : Value → Shared → Prop}
    (hl : typeLookup (.type T) "__getitem__" = pure (some (.builtin id))) (hs : NoSl slice)
    (h : wpAny (model prog w) A (eval value env) (fun o s₁ => wpAny (model prog w) A (eval slice env) (fun i s₂ => s₂.TypeIs o T ∧ wpAny (model prog w) A (getItem o i) Q E s₂) E s₁) E s) :
    wpAny (model prog w) A (eval (.Subscript value slice pos) env) Q E s := by
  refine Subscript_ (wpAny_mono h (fun o s₁ h₁ => wpAny_mono h₁ (fun i s₂ h₂ => ?_) fun _ _ x => x) fun _ _ x => x)
  obtain ⟨hT, h₂⟩ := h₂
  unfold subscriptTail
  refine wpAny_bind ?_
  rw [getitemInPython_of_ne hT.not_modules]
  refine wpAny_bind (wpAny_specialOf hT hl ?_)
  have fin : wpAny (model prog w) A (subscripted slice false o i) (fun r s₃ => wpAny (model prog w) A (letTemporaryGo value o r >>= fun _ => pure r) Q E s₃) E s₂ := by
    rw [hs o i]
    exact wpAny_operating (wpAny_mono h₂ (fun r s₃ h₃ => wpAny_bind (wpAny_letTemporaryGo (wpAny_pure h₃))) fun _ _ x => x)
  first
    | exact wpAny_pure (wpAny_bind fin)
    | exact wpAny_bind (wpAny_pure (wpAny_bind fin))
    | exact wpAny_bind fin

section
variable {X : Cx} {o i e value : Expr} {pos pos' tpos : Pos} {td ty tv : TE}
end


theorem dk_empty {P : Program} {w : World} {H : Hp} (h : Heap) (hb : sysModules < h.objs.size) : ObjOk P w H (h.push { cls := .type "dict", data := .dict #[] }) h.objs.size (.dK []) :=
  ⟨Nat.zero_le _, beq_eq_false_iff_ne.mpr (Ne.symm (Nat.ne_of_lt hb)), [], .nil, Heap.DictOf.new h⟩
noncomputable def tDNewK : TE := fun _ H Q => ∀ p, H p = none → Q (.ref p) (upd H p (.dK []))
section
variable {X : Cx} {pos : Pos}
theorem pe_dnewK : PE X (.Dict [] [] pos) tDNewK := fun pins s σ H Q I h =>
  wpAny_Dict_empty ⟨.ref s.heap.objs.size, _, I.laid (a := s.heap.objs.size) (o := .dK []) (t' := s.toks) (fun _ _ q => Heap.get?_push_of_some _ q) (Nat.le_refl _) (dk_empty s.heap I.big), rfl, h _ (I.hok.fresh (Nat.le_refl _))⟩
end

structure M2 (X : Cx) (o : Expr) (m : Str) (apos : Pos) (e f : Expr) (cpos : Pos) : Prop where
  base : attributeBase o m X.env (eval o X.env) = eval o X.env
  few : ((backTo cpos (starEach [e, f] X.env)).all (fun x => !x.1) && (backToKw cpos (keywordEach [] X.env)).all (fun x => x.1.isSome)
    && decide (([e, f] : List Expr).length + ([] : List Keyword).length + (if ([] : List Keyword).isEmpty then 0 else 1) < 30)) = true
  line : (apos.endLine == cpos.line) = true
  trees : backTo cpos (starEach [e, f] X.env) = [(false, eval e X.env), (false, eval f X.env)]

noncomputable def IsD (H : Hp) (a : Addr) : Prop := (∃ kvs, Rd H a (.dK kvs)) ∨ ∃ kvs, Rd H a (.dT kvs)
theorem isD_at {X : Cx} {pins : List (Addr × Obj)} {σ : St} {H : Hp} {s : Shared} {a : Addr} (I : Inv X pins σ H s) (d : IsD H a) :
    s.TypeIs (.ref a) "dict" ∧ (∀ b, Value.ref a = .ref b → ∃ ob, s.heap.get? b = some ob ∧ ob.dict = none) ∧ (a == sysModules) = false := by
  rcases d with ⟨kvs, e⟩ | ⟨kvs, e⟩
  · obtain ⟨_, hd, vs, _, dd⟩ := dk_rd I.hok e
    refine ⟨dd.typeIs, fun b q => ?_, hd⟩
    cases q
    obtain ⟨ob, _, _, h1, h2, _⟩ := dd
    exact ⟨ob, h1, h2.2.1⟩
  · obtain ⟨_, hd, xs, _, dd⟩ := dt_rd I.hok e
    refine ⟨dd.typeIs, fun b q => ?_, hd⟩
    cases q
    obtain ⟨ob, _, _, h1, h2, _⟩ := dd
    exact ⟨ob, h1, h2.2.1⟩

section
variable {X : Cx} {pins : List (Addr × Obj)} {σ : St} {H : Hp} {s : Shared} {a : Addr} {y d : V} {u r : Value} {o : Option V} {A : Around} {E : Value → Shared → Prop}
end

section
variable {X : Cx} {o e f : Expr} {apos cpos : Pos} {td ty tx : TE}
end

section
variable {X : Cx} {pins : List (Addr × Obj)} {σ : St} {H : Hp} {s : Shared} {a : Addr} {kvs : List (Key × V)} {A : Around} {E : Value → Shared → Prop}
end


section
variable {X : Cx} {pins : List (Addr × Obj)} {σ : St} {H : Hp} {s : Shared} {a : Addr} {y : V} {u : Value} {A : Around} {E : Value → Shared → Prop}
end
end L2

namespace Att
open PySem PySem.W PySem.Calls PyProof.Rows

theorem ints_of_wellAll {P : Params} {h : Heap} : ∀ (ns : List Int) (vs : List Value), WellAll P h vs (ns.map WData.int) → IntsAre vs ns := by
  intro ns
  induction ns with
  | nil =>
    intro vs w
    rw [List.map_nil] at w
    cases w
    exact .nil
  | cons n ns ih =>
    intro vs w
    rw [List.map_cons] at w
    cases w with
    | cons a b =>
      cases a
      exact .cons _ _ (ih _ b)

theorem script_of {l : OpenLaw} {n : Nat} (hn : l.most = some n) {P : Params} {h : Heap} {args : List WData} {vals : List Value}
    (hpre : l.row.toRowW.claim.pre args = true) (hwl : WellAll P h vals args) :
    ∃ a vs ns, vals = [Value.ref a] ∧ args = [WData.list (ns.map WData.int)] ∧ h.get? a = some { cls := .type "list", data := .seq vs.toArray } ∧ IntsAre vs ns ∧ ns.length ≤ n := by
  have hsh : WShape.hasAll [] args [.list .int] = true := (pre_splitW hpre).1
  have hc : l.pre.holds [] { args := args } = true := (pre_splitW hpre).2
  obtain ⟨d, r, rfl, h1, h2⟩ := hasAllW_cons hsh
  obtain rfl := hasAllW_nil h2
  obtain ⟨xs, rfl, h3⟩ := hasW_list h1
  obtain ⟨ns, rfl⟩ := items_int h3
  have hlen : ns.length ≤ n := by
    unfold OpenLaw.pre at hc
    have h4 : (WTm.not (.lt (.lit (.int (n : Int))) (.len (.arg 0)))).holds [] { args := [.list (ns.map .int)] } = true := by
      have h4 := (holds_andW hc).1
      rw [hn] at h4
      exact h4
    have h5 := condW_of h4 (w_not (w_lt w_lit (w_len_list (w_arg rfl))))
    rw [List.length_map] at h5
    refine Nat.le_of_not_lt fun q => ?_
    have q' : (n : Int) < ((ns.length : Nat) : Int) := by omega
    first
      | (rw [decide_eq_true q'] at h5; exact absurd h5 (by decide))
      | (simp at h5; omega)
  cases hwl with
  | cons w1 w2 =>
    cases w2
    cases w1 with
    | list ho hall => exact ⟨_, _, ns, rfl, rfl, ho, ints_of_wellAll ns _ hall, hlen⟩

theorem post_true (l : OpenLaw) (args : List WData) : l.row.toRowW.claim.post args (.bool true) args = true :=
  postW_of (r := l.row.toRowW) (X := (true == true))
    (show WShape.has [] (.bool true) .bool = true by first | rfl | decide | simp [WShape.has, WShape.arms, WShape.armsAll])
    (show (WTm.eq .res (.lit (.bool true))).value [] { args := args, res := some (.bool true), after := args } = some (.bool (true == true)) from w_eq_bool (w_res rfl) w_lit) rfl

theorem attach_call {l : OpenLaw} {n : Nat} {q : Program} {loose : List Str} {XP : (Str → Option Value) → Heap → Prop} {YP : World → Heap → Prop} {d : DefRec}
    (hn : l.most = some n) (hdf : d.params.defaults = [])
    (call : ∀ (w : World) (s₀ s₁ : Shared) (mg mb : Str → Option Value) (fa : Addr) (o : Obj) (pm cd doc : Value) (a : Addr) (vs : List Value) (ns : List Int),
      Ground q loose [] XP w s₀ mg mb s₁.heap → YP w s₁.heap →
      s₁.heap.get? fa = some o → o.data = .func (docDef d.name d.params d.body d.scope pm cd doc) → s₁.heap.CodeRec cd d.name → mg d.name = some (.ref fa) →
      s₁.heap.get? a = some { cls := .type "list", data := .seq vs.toArray } → IntsAre vs ns → ns.length ≤ n → s₁.gens = #[] →
      codeAny (model l.prog w) callerA (.call (.ref fa) ⟨[.ref a], []⟩) (fun r s' => r = .ok (.ret (.bool true)) ∧ OldK s₁.heap s'.heap ∧ s'.os = s₁.os ∧ AllBare s'.gens) s₁) :
    WalkO q loose XP YP l.row.toRowW d [] (fun f vs => PySem.call f vs) := by
  intro w s₀ s₁ mg mb G Y fa o pm cd doc dV kV ho hd hcd hD hmg hg args vals as hpre hlay hrd hwl hlo
  obtain rfl : dV = .none := Dflts.none hD hdf
  obtain rfl : kV = .none := Dflts.noKw hD
  obtain ⟨a, vs, ns, rfl, rfl, hobj, hints, hlen⟩ := script_of hn hpre hwl
  refine enter_call (codeAny_mono (call w s₀ s₁ mg mb fa o pm cd doc a vs ns G Y ho (fd_plain hd) hcd hmg hobj hints hlen hg) fun r s' hq => ?_)
  obtain ⟨rfl, h2, h3, h4⟩ := hq
  exact ⟨.inl ⟨.bool true, .bool true, [], rfl, fun _ => rfl, .bool true, post_true l _, fun _ => ⟨List.Pairwise.nil, fun _ hm => (nomatch hm)⟩⟩, h2, h3, h4⟩

section
variable {prog : Program} {w : World} {A : Around} {E : Value → Shared → Prop} {s : Shared} {K : Frag}

end
end Att

namespace L2
open PySem PySem.Spec PyProof.Rows

theorem vals_ints : ∀ {vs : List Value} {ns : List Int}, IntsAre vs ns → Vals (ns.map V.int) vs
  | _, _, .nil => .nil
  | _, _, .cons n t h => .cons ⟨t, rfl⟩ (vals_ints h)

noncomputable def Only (H : Hp) : Prop := ∀ b, H b = none ∨ ∃ o xs, H b = some (.frz o (.lst xs))

theorem law_call {P : Program} {w : World} {K : PySem.W.Frag} {mg mb : Str → Option Value} {CX : CXT} {k : Nat} {fa a : Addr} {fd : FuncData} {x : Str} {sp : Sp} {s₁ : Shared} {vs : List Value} {ns : List Int}
    (KX : K.In s₁.heap) (hns : s₁.heap.Ns mainGlobals mg) (hb : s₁.heap.Ns builtinsNs mb) (hbb : ∀ x : Str, x ≠ "__name__" → mb x = bootBuiltins x) (hlim : s₁.heap.NoLimit) (hg : s₁.gens = #[])
    (ha : s₁.heap.get? a = some { cls := .type "list", data := .seq vs.toArray }) (hi : IntsAre vs ns) (hl : ns.length ≤ sizeLine) (hr : Room k callerA)
    (F : ∀ base : Heap, K.In base → base.Ns mainGlobals mg → FnOk P w K mg base CX k fa fd [x] sp) (hbind : ∀ (s : Shared) (u : Value), BindsTo s fd ⟨[u], []⟩ [(x, u)])
    (hsp : ∀ H : Hp, Only H → SqL K H a (ns.map V.int) → sp [.ref a] H (fun v _ => v = .bl true) fun _ _ _ => False)
    (hCX : ∀ H e s', CX [] H s₁ (fun _ _ _ => False) e s' → False) :
    codeAny (model P w) callerA (.call (.ref fa) ⟨[.ref a], []⟩) (fun r s' => r = .ok (.ret (.bool true)) ∧ OldK s₁.heap s'.heap ∧ s'.os = s₁.os ∧ AllBare s'.gens) s₁ := by
  have rv := vals_ints hi
  have lenV := hi.length
  -- from an abstract heap in which nothing but the script may be tracked
  have core : ∀ H : Hp, Only H → SqL K H a (ns.map V.int) → HOk P w H s₁.heap → (∀ b, H b ≠ none → b = a) → (H a ≠ none → K.lookup a = none) →
      codeAny (model P w) callerA (.call (.ref fa) ⟨[.ref a], []⟩) (fun r s' => r = .ok (.ret (.bool true)) ∧ OldK s₁.heap s'.heap ∧ s'.os = s₁.os ∧ AllBare s'.gens) s₁ := by
    intro H hO hS hok hA hK
    have base_of : ∀ {b : Addr} {o : Obj}, s₁.heap.get? b = some o → H b = none → (hidT s₁.heap H).get? b = some o := fun e n => hidT_get e n
    have noA : ∀ {b : Addr} {o : Obj} {es : Array DictEntry} {ep : Nat}, s₁.heap.get? b = some o → o.data = .dict es ep → H b = none := fun {b o es ep} e d => by
      cases q : H b with
      | none => rfl
      | some u =>
        have e' : b = a := hA b (by rw [q]; simp)
        subst e'
        rw [ha] at e; cases e
        have d' : Data.seq vs.toArray _ = Data.dict es ep := d
        cases d'
    have nsK : ∀ {b : Addr} {m : Str → Option Value}, s₁.heap.Ns b m → (hidT s₁.heap H).Ns b m := fun {b m} ⟨o, es, ep, e, d, r⟩ => ⟨o, es, ep, base_of e (noA e d), d, r⟩
    have hKb : K.In (hidT s₁.heap H) := fun b o e => base_of (KX b o e) (by
      cases q : H b with
      | none => rfl
      | some u =>
        have e' : b = a := hA b (by rw [q]; simp)
        subst e'
        rw [hK (by rw [q]; simp)] at e; cases e)
    have hM : Mod K mg (hidT s₁.heap H) := ⟨hKb, nsK hns, ⟨mb, nsK hb, hbb⟩, let ⟨mc, h1, h2⟩ := hlim; ⟨mc, nsK h1, h2⟩⟩
    have e0 : Env0 P w K mg (hidT s₁.heap H) callerA [] s₁ H := ⟨rfl, hM, fun b o e => of_hidT e, Nat.le_of_eq (hidT_size _ _), trivial, fun b hb => absurd (show b ∈ ([] : List Addr) from hb) (by simp), hok, .of_eq hg⟩
    refine codeAny_mono ((F _ hKb (nsK hns)).run callerA [] s₁ H ⟨[.ref a], []⟩ [.ref a] [.ref a] _ _ hr e0 (hbind s₁ (.ref a)) (.cons rfl .nil) (hsp H hO hS)) fun r s' h => ?_
    cases r with
    | error e => exact (hCX H e s' h).elim
    | ok fl =>
      cases fl with
      | next => exact False.elim h
      | brk => exact False.elim h
      | cont => exact False.elim h
      | ret u =>
        obtain ⟨v, H', os, bare, un, hok', r', q⟩ := h
        have q' : v = .bl true := q
        subst q'
        obtain rfl : u = Value.bool true := r'
        refine ⟨rfl, OldK.of_keep fun b o e => ?_, os, bare⟩
        cases q : H b with
        | none => exact un.keep b o e q (by intro z; exact absurd (show b ∈ ([] : List Addr) from z) (by simp)) (by simp)
        | some u =>
          rcases hO b with z | ⟨ob, xs, z⟩
          · rw [q] at z; cases z
          · have z2 := un.frzs b ob _ z
            obtain ⟨e1, _⟩ := hok b _ z
            obtain ⟨e2, _⟩ := hok' b _ z2
            rw [e] at e1; cases e1
            exact e2
  cases hk : K.lookup a with
  | some o =>
    -- the script is one of the module's own objects
    have e := KX a o hk
    rw [ha] at e
    cases e
    refine core (fun _ => none) (fun _ => .inl rfl) (.inr ⟨_, vs.toArray, _, hk, rfl, rfl, rfl, by rw [List.size_toArray, lenV]; exact hl, by simpa using rv⟩) (fun b u z => by have z' : (none : Option HO) = some u := z; cases z') (fun b z => absurd rfl z) fun z => absurd rfl z
  | none =>
    refine core (fun b => if b = a then some (.frz { cls := .type "list", data := .seq vs.toArray } (.lst (ns.map V.int))) else none) (fun b => ?_) (.inl (.inr ⟨{ cls := .type "list", data := .seq vs.toArray }, if_pos rfl⟩)) (fun b u z => ?_) (fun b z => ?_) fun _ => hk
    · by_cases hb : b = a
      · exact .inr ⟨_, _, if_pos hb⟩
      · exact .inl (if_neg hb)
    · by_cases hb : b = a
      · have z' := (if_pos hb).symm.trans z
        cases z'
        subst hb
        exact ⟨ha, by rw [List.length_map]; exact hl, vs, _, rv, ha⟩
      · have z' := (if_neg hb).symm.trans z
        cases z'
    · by_cases hb : b = a
      · exact hb
      · exact absurd (if_neg hb) z
end L2

namespace L2
open PySem PySem.Spec PyProof.Rows

theorem walk_of {l : PySem.W.OpenLaw} {n k : Nat} {q : Program} {loose : List Str} {XP : (Str → Option Value) → Heap → Prop} {YP : World → Heap → Prop} {d : DefRec} {K : Params → PySem.W.Frag} {CX : World → CXT} {sp : World → Sp} {x : Str}
    (hn : l.most = some n) (hn2 : n ≤ sizeLine) (hdf : d.params.defaults = []) (hr : Room k callerA)
    (hY : ∀ (w : World) (h : Heap), YP w h → (K w.params).In h)
    (F : ∀ (w : World) (mg : Str → Option Value) (fa : Addr) (h : Heap), (K w.params).In h → h.Ns mainGlobals mg → mg d.name = some (.ref fa) →
      ∃ fd : FuncData, (∀ (s : Shared) (u : Value), BindsTo s fd ⟨[u], []⟩ [(x, u)]) ∧
        ∀ base : Heap, (K w.params).In base → base.Ns mainGlobals mg → FnOk l.prog w (K w.params) mg base (CX w) k fa fd [x] (sp w))
    (hsp : ∀ (w : World) (H : Hp) (a : Addr) (ns : List Int), ns.length ≤ n → Only H → SqL (K w.params) H a (ns.map V.int) → sp w [.ref a] H (fun v _ => v = .bl true) fun _ _ _ => False)
    (hCX : ∀ (w : World) (H : Hp) (s : Shared) (e : Value) (s' : Shared), CX w [] H s (fun _ _ _ => False) e s' → False) :
    PySem.W.WalkO q loose XP YP l.row.toRowW d [] (fun f vs => PySem.call f vs) := by
  refine Att.attach_call hn hdf fun w s₀ s₁ mg mb fa o pm cd doc a vs ns G Y ho hd hcd hmg hobj hints hlen hg => ?_
  have KX := hY w _ Y
  obtain ⟨fd, hb, hF⟩ := F w mg fa _ KX G.T.g hmg
  exact law_call KX G.T.g G.T.b G.T.builtins G.T.nolimit hg hobj hints (Nat.le_trans hlen hn2) hr hF hb (fun H hO hS => hsp w H a ns hlen hO hS) fun H e s' => hCX w H s₁ e s'
end L2


namespace L2
open PySem PySem.Spec PyProof.Rows

noncomputable def inClass (s : Stmt) (j : Nat) : Stmt := match s with
  | .ClassDef _ _ _ body _ _ _ _ _ _ _ => body.getD j (.Pass ⟨0, 0, 0, 0⟩)
  | _ => .Pass ⟨0, 0, 0, 0⟩
noncomputable def defArgs (s : Stmt) : Arguments := match s with
  | .FunctionDef _ a _ _ _ _ _ _ _ _ => a
  | _ => { posonlyargs := [], args := [], vararg := none, kwonlyargs := [], kw_defaults := [], kwarg := none, defaults := [] }
noncomputable def defBody (s : Stmt) : List Stmt := match s with
  | .FunctionDef _ _ b _ _ _ _ _ _ _ => b
  | _ => []
noncomputable def defScope (s : Stmt) : Scope := match s with
  | .FunctionDef _ _ _ _ _ _ sc _ _ _ => sc
  | _ => { kind := .function, names := [], isGenerator := false, isCoroutine := false }

noncomputable abbrev CX0 : CXT := fun _ _ _ _ _ _ => False
noncomputable abbrev E0 : XK := fun _ _ _ => False
theorem pass0 {X : Cx} : Passes CX0 X E0 := fun _ _ _ _ _ _ _ h => h.elim

structure Fun (K : PySem.W.Frag) (x qual : Str) (st : Stmt) (f : Addr) (fd : FuncData) : Prop where
  ex : ∃ (oc : Value) (od : Option Addr) (kV doc pm : Value) (an : Option Addr) (cdv ct : Value) (osl : Array (Option Value)),
    fd = PySem.W.fnOf x qual (defArgs st) (defBody st) (defScope st) .none kV doc pm an cdv ct ∧ K.lookup f = some ⟨oc, od, .func fd, osl⟩ ∧ PySem.W.codeIn K cdv qual = true
  kp : PySem.W.keepIn K (.ref f) = true
section
variable {P : Program} {w : World} {K : PySem.W.Frag} {mg : Str → Option Value} {base : Heap}
theorem Fun.ok {x qual : Str} {st : Stmt} {f : Addr} {fd : FuncData} {N ps : List Str} {k : Nat} {sp : Sp} (F : Fun K x qual st f fd) (S : FnScope N ps (defScope st)) (len : ∀ vs H Q E, sp vs H Q E → vs.length = ps.length)
    (hbody : ∀ (cdv : Value) (A : Around) (outer : List Env) (s : Shared) (H : Hp) (vs : List V) (Q : VK) (E : XK), Room k (A.deeper (envOfC qual (defScope st) s.heap.objs.size f cdv)) → sp vs H Q E →
      ∃ t, PSs (cxOf CX0 P w K mg base N qual (defScope st) f cdv A outer s H E).nox (defBody st) t ∧ t { nx := fun _ H' => Q .non H', rt := Q } (start N vs) H) : FnOk P w K mg base CX0 (k + 1) f fd ps sp := by
  obtain ⟨oc, od, kV, doc, pm, an, cdv, ct, osl, rfl, lk, hcd⟩ := F.ex
  refine fn_of lk hcd S len fun A outer s H vs Q E hr hsp => ?_
  obtain ⟨t, h, q⟩ := hbody cdv A outer s H vs Q E hr hsp
  exact ⟨t, h.nox, q⟩
theorem Fun.binds {x qual : Str} {st : Stmt} {f : Addr} {fd : FuncData} {ps : List Str} (F : Fun K x qual st f fd)
    (h : ∀ (kV doc pm : Value) (an : Option Addr) (cdv ct : Value) (us : List Value), us.length = ps.length → bindArgs (PySem.W.fnOf x qual (defArgs st) (defBody st) (defScope st) .none kV doc pm an cdv ct) ⟨us, []⟩ = pure (ps.zip us)) : Binds K fd ps [] := by
  obtain ⟨oc, od, kV, doc, pm, an, cdv, ct, osl, rfl, lk, hcd⟩ := F.ex
  exact .all (h kV doc pm an cdv ct)
theorem fun_mk {x qual : Str} {st : Stmt} {f : Addr} {oc : Value} {od an : Option Addr} {osl : Array (Option Value)} {kV doc pm cdv ct : Value} (l : K.lookup f = some ⟨oc, od, .func (PySem.W.fnOf x qual (defArgs st) (defBody st) (defScope st) .none kV doc pm an cdv ct), osl⟩)
    (c : PySem.W.codeIn K cdv qual = true) (k : PySem.W.keepIn K (.ref f) = true) : Fun K x qual st f (PySem.W.fnOf x qual (defArgs st) (defBody st) (defScope st) .none kV doc pm an cdv ct) := ⟨⟨oc, od, kV, doc, pm, an, cdv, ct, osl, rfl, l, c⟩, k⟩
end
section
variable {X : Cx}
theorem pv (i : Nat) {x : Str} {pos : Pos} (hN : X.N[i]? = some x := by rfl) (hv : Vis X.env.scope x := by first | exact Or.inl rfl | exact Or.inr (Or.inl rfl) | exact Or.inr (Or.inr rfl)) (hd : (x == ("__debug__" : Str)) = false := by decide)
    (hcd : (x == ("__classdict__" : Str)) = false := by decide) : PE X (.Name x pos) (tVar i) := pe_var hN hv hd hcd
end

theorem iteF {A B : Prop} (h : B) : if false = true then A else B := by
  rw [if_neg Bool.false_ne_true]
  exact h
theorem iteT {A B : Prop} (h : A) : if true = true then A else B := by
  rw [if_pos rfl]
  exact h
theorem ite2 {c A B : Prop} [Decidable c] (h1 : c → A) (h2 : ¬ c → B) : if c then A else B := by
  by_cases h : c
  · rw [if_pos h]
    exact h1 h
  · rw [if_neg h]
    exact h2 h
noncomputable def Same (H H' : Hp) : Prop := ∀ b o, H b = some o → H' b = some o
theorem Same.refl (H : Hp) : Same H H := fun _ _ h => h
theorem Same.trans {H H1 H2 : Hp} (a : Same H H1) (b : Same H1 H2) : Same H H2 := fun c o h => b c o (a c o h)
theorem Same.free {H H' : Hp} (e : Same H H') {l : Addr} (h : H' l = Option.none) : H l = Option.none := by
  cases q : H l with
  | none => rfl
  | some o =>
    rw [e l o q] at h
    cases h
theorem Same.seq {K : PySem.W.Frag} {H H' : Hp} {a : Addr} {xs : List V} (e : Same H H') (h : SqL K H a xs) : SqL K H' a xs := by
  rcases h with (h | ⟨o, h⟩) | h
  · exact .inl (.inl (e _ _ h))
  · exact .inl (.inr ⟨o, e _ _ h⟩)
  · exact .inr h

section
variable {κ : Type} [DecidableEq κ]
end
end L2


set_option Elab.async false
set_option linter.all false
set_option maxRecDepth 100000
set_option maxHeartbeats 4000000
namespace L2
open PySem PySem.Spec PyProof.Rows

theorem clos_aux (env : Env) : ∀ (l : List (Str × NameKind)) (cs : List (Str × Addr)), (∀ n, (n, NameKind.free) ∈ l → ∃ c, env.cells.lookup n = some c) → (∀ x c, cs.lookup x = some c → env.cells.lookup x = some c) →
    ∃ cl, (forIn l cs fun x s => if (x.snd == NameKind.free) = true then do let c ← cellOf env x.fst; pure (ForInStep.yield ((x.fst, c) :: s)) else pure (ForInStep.yield s)) = (pure cl : Sem (List (Str × Addr))) ∧
      (∀ x c, cl.lookup x = some c → env.cells.lookup x = some c) ∧ (∀ n, (n, NameKind.free) ∈ l → ∃ c, cl.lookup n = some c) ∧ ∀ n c, cs.lookup n = some c → ∃ c', cl.lookup n = some c'
  | [], cs, _, h => ⟨cs, rfl, h, (fun _ z => nomatch z), (fun n c e => ⟨c, e⟩)⟩
  | (n, k) :: r, cs, hf, h => by
    by_cases hk : k = .free
    · subst hk
      obtain ⟨c, hc⟩ := hf n List.mem_cons_self
      have e : cellOf env n = pure c := by unfold cellOf; rw [hc]
      obtain ⟨cl, e1, h1, h2, h3⟩ := clos_aux env r ((n, c) :: cs) (fun m hm => hf m (List.mem_cons_of_mem _ hm)) (fun x c' q => by
        rw [List.lookup_cons] at q
        by_cases hx : x = n
        · subst hx; simp at q; subst q; exact hc
        · have : (x == n) = false := by simpa using hx
          rw [this] at q; exact h x c' q)
      refine ⟨cl, ?_, h1, fun m hm => ?_, fun m c' q => ?_⟩
      · rw [List.forIn_cons]
        show ((do let c ← cellOf env n; pure (ForInStep.yield ((n, c) :: cs))) >>= _) = _
        rw [e]
        exact e1
      · rcases List.mem_cons.mp hm with z | z
        · cases z; exact h3 n c (by simp)
        · exact h2 m z
      · by_cases hx : m = n
        · subst hx; exact h3 m c (by simp)
        · have : (m == n) = false := by simpa using hx
          exact h3 m c' (by rw [List.lookup_cons, this]; exact q)
    · have hb : (k == NameKind.free) = false := by simpa using hk
      obtain ⟨cl, e1, h1, h2, h3⟩ := clos_aux env r cs (fun m hm => hf m (List.mem_cons_of_mem _ hm)) h
      refine ⟨cl, ?_, h1, fun m hm => ?_, h3⟩
      · rw [List.forIn_cons]
        dsimp only
        rw [hb]
        exact e1
      · rcases List.mem_cons.mp hm with z | z
        · cases z; exact absurd rfl hk
        · exact h2 m z

theorem closureFor_of {scope : Scope} {env : Env} (h : ∀ n, (n, NameKind.free) ∈ scope.names → ∃ c, env.cells.lookup n = some c) :
    ∃ cl, closureFor scope env = pure cl ∧ (∀ x c, cl.lookup x = some c → env.cells.lookup x = some c) ∧ ∀ n, (n, NameKind.free) ∈ scope.names → ∃ c, cl.lookup n = some c := by
  obtain ⟨cl, e, h1, h2, _⟩ := clos_aux env scope.names [] h (fun _ _ z => by simp at z)
  refine ⟨cl, ?_, h1, h2⟩
  simp only [closureFor]
  rw [e]
  rfl

noncomputable def compCx (X : Cx) (scope : Scope) (N' : List Str) (cl : List (Str × Addr)) (C : Addr) (s : Shared) (H : Hp) (fp : List Addr) (pins : List (Addr × Obj)) : Cx where
  prog := X.prog
  w := X.w
  K := X.K
  mg := X.mg
  base := X.base
  A := X.A
  N := N'
  s₀ := s
  H₀ := H
  env := compEnvC scope cl C X.env
  outer := X.stack
  stack := X.stack
  ex := fp
  calm := X.calm
  fn := fun _ => false
  pn := X.pn ++ pins
  xe := fun _ _ => False

structure CompScope (sc : Scope) (out : Scope) : Prop where
  kind : sc.kind = .function
  cell : ∀ y ∈ sc.names, y.2 ≠ .cell
  loc : ∀ y ∈ sc.names, y.2 = .local → sc.names.lookup y.1 = some .local
  free : ∀ y ∈ sc.names, y.2 = .free → out.names.lookup y.1 = some .cell ∨ out.names.lookup y.1 = some .free

noncomputable def inSt (ρ : List (Option Nat)) (σ : St) : St := ρ.map fun o => match o with | some i => (σ[i]?).getD none | none => none
noncomputable def SlotOk (sc : Scope) (env : Env) (N N' : List Str) (ρ : List (Option Nat)) : Prop :=
  ρ.length = N'.length ∧ ∀ (j i : Nat) (x : Str), ρ[j]? = some (some i) → N'[j]? = some x → N[i]? = some x ∧ Vis env.scope x ∧ (x, NameKind.free) ∈ sc.names

theorem lookup_relabel {names : List (Str × NameKind)} {env : Env} {x : Str} {k : NameKind} (h : (names.map fun (n, k) => if (k == NameKind.free && env.scope.kind == .function && env.kindOf n == some .cell) then (n, NameKind.cell) else (n, k)).lookup x = some k)
    (hk : k = .cell ∨ k = .free) (hc : ∀ y ∈ names, y.2 ≠ .cell) : (x, NameKind.free) ∈ names := by
  induction names with
  | nil => simp at h
  | cons p r ih =>
    obtain ⟨n, k'⟩ := p
    by_cases hx : x = n
    · subst hx
      have hk' : k' = .free := by
        by_cases hc' : (k' == NameKind.free && env.scope.kind == .function && env.kindOf x == some .cell) = true
        · simp only [Bool.and_eq_true, beq_iff_eq] at hc'
          exact hc'.1.1
        · simp only [List.map_cons] at h
          rw [if_neg hc'] at h
          simp at h
          subst h
          rcases hk with z | z
          · exact absurd z (hc (x, k') List.mem_cons_self)
          · exact z
      rw [hk']; exact List.mem_cons_self
    · have hb : (x == n) = false := by simpa using hx
      refine List.mem_cons_of_mem _ (ih ?_ fun y hy => hc y (List.mem_cons_of_mem _ hy))
      simp only [List.map_cons] at h
      by_cases hc' : (k' == NameKind.free && env.scope.kind == .function && env.kindOf n == some .cell) = true
      · rw [if_pos hc', List.lookup_cons, hb] at h; exact h
      · rw [if_neg hc', List.lookup_cons, hb] at h; exact h

theorem lookup_relabel_free : ∀ {names : List (Str × NameKind)} {env : Env} {x : Str}, (x, NameKind.free) ∈ names → (names.map fun (n, k) => if (k == NameKind.free && env.scope.kind == .function && env.kindOf n == some .cell) then (n, NameKind.cell) else (n, k)).lookup x = some .cell ∨
    (names.map fun (n, k) => if (k == NameKind.free && env.scope.kind == .function && env.kindOf n == some .cell) then (n, NameKind.cell) else (n, k)).lookup x = some .free ∨ names.lookup x ≠ some .free := by
  intro names env x hm
  by_cases hl : names.lookup x = some .free
  · induction names with
    | nil => simp at hl
    | cons p r ih =>
      obtain ⟨n, k'⟩ := p
      by_cases hx : x = n
      · subst hx
        simp at hl
        subst hl
        by_cases hc' : (NameKind.free == NameKind.free && env.scope.kind == .function && env.kindOf x == some .cell) = true
        · left; simp only [List.map_cons]; rw [if_pos hc']; simp
        · right; left; simp only [List.map_cons]; rw [if_neg hc']; simp
      · have hb : (x == n) = false := by simpa using hx
        rw [List.lookup_cons, hb] at hl
        have hm' : (x, NameKind.free) ∈ r := by
          rcases List.mem_cons.mp hm with z | z
          · cases z; exact absurd rfl hx
          · exact z
        have q := ih hm' hl
        simp only [List.map_cons]
        by_cases hc' : (k' == NameKind.free && env.scope.kind == .function && env.kindOf n == some .cell) = true
        · rw [if_pos hc', List.lookup_cons, hb, List.lookup_cons, hb]; exact q
        · rw [if_neg hc', List.lookup_cons, hb, List.lookup_cons, hb]; exact q
  · exact .inr (.inr hl)

section
variable {X : Cx} {pins : List (Addr × Obj)} {σ : St} {H : Hp} {s : Shared} {scope : Scope} {N' : List Str} {ρ : List (Option Nat)} {cl : List (Str × Addr)} {fp : List Addr} {C D : Addr}

theorem comp_ok (I : Inv X pins σ H s) (S : CompScope scope X.env.scope) (hf : ∀ b ∈ fp, FpOk X pins H b) (h1 : ∀ x c, cl.lookup x = some c → X.env.cells.lookup x = some c) (h2 : ∀ n, (n, NameKind.free) ∈ scope.names → ∃ c, cl.lookup n = some c)
    (hC : s.heap.objs.size ≤ C) (hfs : ∀ b ∈ fp, b < s.heap.objs.size) : (compCx X scope N' cl C s H fp pins).Ok where
  mod := I.ok.mod
  kind := S.kind
  glob := I.ok.glob
  blt := I.ok.blt
  above := hC
  inj := fun x y c e1 e2 => I.ok.inj x y c (h1 x c e1) (h1 y c e2)
  has := fun x hk => h2 x (by
    rcases hk with hk | hk
    · exact lookup_relabel (env := X.env) hk (.inl rfl) S.cell
    · exact lookup_relabel (env := X.env) hk (.inr rfl) S.cell)
  cab := fun _ _ z => nomatch z
  hd := I.ok.hd
  frames := I.ok.frames
  stk := .inl rfl
  exf := fun b hb => ⟨Nat.ne_of_lt (Nat.lt_of_lt_of_le (hfs b hb) hC), fun x c e => (hf b hb).2.2.2.2.1 x c (h1 x c e)⟩
  bs := I.bs
  bsz := Nat.le_trans I.ok.bsz I.sz
  noex := fun b o e hb => by
    rcases (hf b hb).2.2.2.1 with z | z
    · exact I.ok.noex b o e z
    · exact absurd (Nat.lt_of_lt_of_le (Nat.lt_of_lt_of_le (Heap.lt_size e) I.ok.bsz) z) (Nat.lt_irrefl _)
  exfs := fun b hb z => by
    rcases List.mem_cons.mp (I.stkSub b z) with q | q
    · exact (hf b hb).2.1 q
    · exact (hf b hb).2.2.1 q
  funs := I.stack
  frf := I.stkFree

theorem comp_start {h₁ : Heap} {tk : Nat} (I : Inv X pins σ H s) (S : CompScope scope X.env.scope) (hρ : SlotOk scope X.env X.N N' ρ) (hf : ∀ b ∈ fp, FpOk X pins H b) (h1 : ∀ x c, cl.lookup x = some c → X.env.cells.lookup x = some c)
    (h2 : ∀ n, (n, NameKind.free) ∈ scope.names → ∃ c, cl.lookup n = some c) (hC : s.heap.objs.size ≤ C) (hfs : ∀ b ∈ fp, b < s.heap.objs.size) (hn : h₁.Ns C (fun _ => none)) (hk : ∀ b o, s.heap.get? b = some o → h₁.get? b = some o)
    (hl : ∀ x, (x, NameKind.free) ∈ scope.names → scope.names.lookup x = some .free) :
    Inv (compCx X scope N' cl C s H fp pins) [] (inSt ρ σ) H { s with heap := h₁, toks := tk } where
  ok := comp_ok I S hf h1 h2 hC hfs
  os := rfl
  bare := I.bare
  base := Un.kept hk
  loc := by
    refine ⟨_, hn, fun j x v e1 e2 hv => ?_⟩
    obtain ⟨m, hm, hl'⟩ := I.loc
    unfold inSt at e2
    rw [List.getElem?_map] at e2
    cases hr : ρ[j]? with
    | none => rw [hr] at e2; simp at e2
    | some o =>
      cases o with
      | none => rw [hr] at e2; simp at e2
      | some i =>
        rw [hr] at e2
        obtain ⟨q1, q2, q3⟩ := hρ.2 j i x hr e1
        have e3 : σ[i]? = some (some v) := by
          cases hσ : σ[i]? with
          | none => simp [hσ] at e2
          | some z => simp [hσ] at e2; rw [e2]
        obtain ⟨u, r, lk⟩ := hl' i x v q1 e3 q2
        refine ⟨u, r, ?_⟩
        obtain ⟨c, hc⟩ := h2 x q3
        have hkind : (relabel scope X.env).names.lookup x = some .cell ∨ (relabel scope X.env).names.lookup x = some .free := by
          rcases lookup_relabel_free (env := X.env) q3 with z | z | z
          · exact .inl z
          · exact .inr z
          · exact absurd (hl x q3) z
        refine .inr ⟨hkind, c, hc, ?_⟩
        rcases lk with ⟨k, _⟩ | ⟨_, c', e', z⟩
        · rcases S.free (x, .free) q3 rfl with z | z
          · have k' : X.env.scope.names.lookup x = some .local := k
            rw [z] at k'; cases k'
          · have k' : X.env.scope.names.lookup x = some .local := k
            rw [z] at k'; cases k'
        · have := h1 x c hc
          rw [e'] at this; cases this
          obtain ⟨o, ho, hd⟩ := z
          exact ⟨o, hk _ _ ho, hd⟩
  cell := fun x c e => by
    obtain ⟨v, o, ho, hd⟩ := I.cell x c (h1 x c e)
    exact ⟨v, o, hk _ _ ho, hd⟩
  free := I.hok.fresh hC
  freeC := fun x c e => I.freeC x c (h1 x c e)
  pin := fun p hp => by
    have hp' : p ∈ X.pn ++ pins := by simpa [compCx] using hp
    obtain ⟨e, n, ne, nf, d⟩ := I.pin p hp'
    refine ⟨hk _ _ e, n, Nat.ne_of_lt (Nat.lt_of_lt_of_le (Heap.lt_size e) hC), fun z => ?_, d⟩
    rcases List.mem_cons.mp (I.stkSub p.1 z) with q | q
    · exact ne q
    · exact nf q
  hok := I.hok.kept hk
  len := by
    show (inSt ρ σ).length = N'.length
    unfold inSt
    rw [List.length_map]; exact hρ.1
end

theorem HOk.track {P : Program} {w : World} {H : Hp} {h : Heap} {D : Addr} {o : HO} (x : HOk P w H h) (n : H D = none) (new : ObjOk P w (upd H D o) h D o) : HOk P w (upd H D o) h := fun b u e => by
  by_cases hb : b = D
  · subst hb; rw [upd_same] at e; cases e; exact new
  · rw [upd_ne hb] at e
    exact (x b u e).stay (fun c v _ q => q) (fun c q => by rw [upd_ne (ne_of_none q n)]; exact q) fun c xs q => by rw [upd_ne (ne_of_none q n)]; exact q

section
variable {prog : Program} {w : World} {A : Around} {R : Result → Shared → Prop} {s : Shared}
theorem compLoop_gen {elt target iter : Expr} {ifs : List Expr} {scope : Scope} {pos : Pos} {it acc : Value} {env : Env} (I : Nat → Shared → Prop)
    (turn : ∀ n s, I n s → wpAny (model prog w) A (pyNext it) (fun r s₁ => match r with
      | none => R (.ok .next) s₁
      | some v => wpAny (model prog w) A (letOwnedTupleGo target it v) (fun _ s₁' => wpAny (model prog w) A (assign target env v) (fun _ s₂ =>
          wpAny (model prog w) A (forIn ifs true fun c r => if r = true then do let ok ← isTrue c env (eval c env); pure (ForInStep.yield ok) else pure (ForInStep.yield r)) (fun ok s₃ =>
            if ok = true then wpAny (model prog w) A (eval elt env) (fun x s₄ =>
              wpAny (model prog w) A (call (.builtin "list.append") [acc, x]) (fun _ s₅ => ∃ m, m < n ∧ I m s₅) (fun _ _ => False) s₄) (fun _ _ => False) s₃
            else ∃ m, m < n ∧ I m s₃) (fun _ _ => False) s₂) (fun _ _ => False) s₁') (fun _ _ => False) s₁) (fun _ _ => False) s)
    (n : Nat) (h : I n s) :
    codeAny (model prog w) A (.compLoop (.ListComp elt [⟨target, iter, ifs, 0⟩] scope pos) 0 it acc env) R s := by
  refine codeAny_loop rfl I (fun n s hI => ?_) n h
  show wpAny _ A ((compTurn (.ListComp elt [⟨target, iter, ifs, 0⟩] scope pos) 0 it acc env).onRaise (fun x => do noteFrame x env; theTreesLotGoes x)) _ _ s
  refine wpAny_noted ?_
  rw [compTurn_list]
  refine wpAny_bind (wpAny_standAt (wpAny_bind (wpAny_mono (turn n s hI) (fun r s₁ h₁ => ?_) fun _ _ h' => h'.elim)))
  cases r with
  | none => exact wpAny_pure h₁
  | some v =>
    refine wpAny_bind (wpAny_mono h₁ (fun _ s₁' h₁ => ?_) fun _ _ h' => h'.elim)
    refine wpAny_bind (wpAny_mono h₁ (fun _ s₂ h₂ => wpAny_bind (wpAny_mono h₂ (fun ok s₃ h₃ => ?_) fun _ _ h' => h'.elim)) fun _ _ h' => h'.elim)
    cases ok with
    | false => exact wpAny_pure ⟨rfl, h₃⟩
    | true =>
      exact wpAny_bind (wpAny_bind (wpAny_mono h₃ (fun x s₄ h₄ => wpAny_bind (wpAny_mono h₄ (fun _ s₅ h₅ => wpAny_pure (wpAny_pure ⟨rfl, h₅⟩)) fun _ _ h' => h'.elim)) fun _ _ h' => h'.elim))
end

noncomputable def PTs (X : Cx) (ifs : List Expr) (t : TT) : Prop :=
  ∀ (pins : List (Addr × Obj)) (s : Shared) (σ : St) (H : Hp) (Q : Bool → Hp → Prop), Inv X pins σ H s → t σ H Q →
    wpAny (model X.prog X.w) X.A (forIn ifs true fun c r => if r = true then do let ok ← isTrue c X.env (eval c X.env); pure (ForInStep.yield ok) else pure (ForInStep.yield r)) (TP X pins σ Q) X.xe s
noncomputable def tYes : TT := fun _ H Q => Q true H
theorem pts_nil {X : Cx} : PTs X [] tYes := fun _ _ _ H _ I h => wpAny_tests_nil ⟨H, I, h⟩
theorem pts_one {X : Cx} {c : Expr} {t : TT} (h : PT X c t) : PTs X [c] t := fun pins s σ H Q I hw => wpAny_tests_one (h pins s σ H Q I hw)

noncomputable def Outs (ρ : List (Option Nat)) (σ σ2 : St) : Prop := σ2.length = ρ.length ∧ ∀ (j : Nat) v, (inSt ρ σ)[j]? = some (some v) → σ2[j]? = some (some v)
noncomputable def CompW (ρ : List (Option Nat)) (g : TG) (tt : TT) (te : TE) (σ : St) (Q : VK) (J : It) (H1 : Hp) : Prop := ∃ W : Nat → Nat → List V → Hp → Prop, (∃ m, W 0 m [] H1) ∧ ∀ i m ys H', W i m ys H' →
  (J.stop i H' ∧ ys.length ≤ sizeLine ∧ ∀ p, H' p = none → Q (.ref p) (upd H' p (.lst ys))) ∨
  (J.go i H' ∧ ys.length < sizeLine ∧ ∃ N : List V → Hp → Prop, (∀ ys' H'', N ys' H'' → ∃ m', m' < m ∧ W (i + 1) m' ys' H'') ∧ ∀ x H2, J.yld i H' x H2 → g x (inSt ρ σ) H2 fun σ2 H3 => Outs ρ σ σ2 ∧ tt σ2 H3 fun ok H4 => if ok = true then te σ2 H4 fun v H5 => N (ys ++ [v]) H5 else N ys H4)
noncomputable def tComp (ρ : List (Option Nat)) (wi : TI) (g : TG) (tt : TT) (te : TE) : TE := fun σ H Q => wi σ H fun J H1 => CompW ρ g tt te σ Q J H1

theorem comp_run {X : Cx} {elt iter tg : Expr} {ifs : List Expr} {scope : Scope} {pos : Pos} {N' : List Str} {ρ : List (Option Nat)} {wi : TI} {g : TG} {tt : TT} {te : TE} {cl : List (Str × Addr)} {RR : Value → Addr → Result → Shared → Prop} (hc : X.calm = true) (hi : PI X tg iter wi) (S : CompScope scope X.env.scope) (hρ : SlotOk scope X.env X.N N' ρ)
    (hl : ∀ x, (x, NameKind.free) ∈ scope.names → scope.names.lookup x = some .free)
    (inner : ∀ (cl : List (Str × Addr)) (C : Addr) (s : Shared) (H : Hp) (fp : List Addr) (pins : List (Addr × Obj)), PG (compCx X scope N' cl C s H fp pins) tg g ∧ PTs (compCx X scope N' cl C s H fp pins) ifs tt ∧ PE (compCx X scope N' cl C s H fp pins) elt te)
    {pins : List (Addr × Obj)} {s : Shared} {σ : St} {H : Hp} {Q : VK} (I : Inv X pins σ H s) (h : tComp ρ wi g tt te σ H Q)
    (h1 : ∀ x c, cl.lookup x = some c → X.env.cells.lookup x = some c) (h2 : ∀ n, (n, NameKind.free) ∈ scope.names → ∃ c, cl.lookup n = some c)
    (fin : ∀ D C s' H' m, Inv X pins σ H' s' → Q (.ref D) H' → s'.heap.Ns C m → FpOk X pins H' C → RR (.ref D) C (.ok .next) s') :
    wpAny (model X.prog X.w) X.A (eval iter X.env) (fun x s₁ => wpAny (model X.prog X.w) X.A (pyIter x) (fun it s₂ => wpAny (model X.prog X.w) X.A (newList []) (fun acc s₃ =>
      wpAny (model X.prog X.w) X.A (newFunctionEnv scope X.env.globals cl [] X.env.qual none .none (some X.env)) (fun cenv s₄ =>
        codeAny (model X.prog X.w) X.A (.compStart (.ListComp elt [⟨tg, iter, ifs, 0⟩] scope pos) 0 it acc { cenv with scope := relabel scope X.env }) (RR acc cenv.locals) s₄) X.xe s₃) X.xe s₂) X.xe s₁) X.xe s := by
  refine thn (hi pins s σ H _ I h) fun v s1 h1' => thn h1' fun itv s2 hx => ?_
  obtain ⟨it, fp, tn, J, H2, e, I2, T, st2, f2, W, ⟨m0, w0⟩, turn⟩ := hx
  subst e
  have hfs : ∀ b ∈ fp, b < s2.heap.objs.size := fun b hb => by
    obtain ⟨o, e, _⟩ := T.obj _ _ st2 b hb
    exact Heap.lt_size e
  refine wpAny_newObj_type (wpAny_newFunctionEnv S.cell (by intro y hy; simp at hy) (fun h₁ hns₁ hsb₁ => ?_) S.kind)
  dsimp only at hns₁ hsb₁ ⊢
  generalize hH2 : s2.heap.push { cls := .type "list", dict := none, data := .seq ([] : List Value).toArray } = G at hns₁ hsb₁ ⊢
  have hC : G.objs.size = s2.heap.objs.size + 1 := by rw [← hH2, Heap.size_push]
  have hDC : s2.heap.objs.size ≠ G.objs.size := by rw [hC]; exact Nat.ne_of_lt (Nat.lt_succ_self _)
  have hCle : s2.heap.objs.size ≤ G.objs.size := by rw [hC]; exact Nat.le_succ _
  have old : ∀ b o, s2.heap.get? b = some o → h₁.get? b = some o := fun b o e => hsb₁.extBut b o (Nat.ne_of_lt (Nat.lt_of_lt_of_le (Heap.lt_size e) hCle)) (Heap.get?_push_of_some _ (hH2 ▸ Heap.get?_push_of_some _ e))
  have hacc : h₁.get? s2.heap.objs.size = some { cls := .type "list", dict := none, data := .seq ([] : List Value).toArray } := hsb₁.extBut _ _ hDC (Heap.get?_push_of_some _ (hH2 ▸ Heap.get?_push_size _ rfl))
  have hns₂ : h₁.Ns G.objs.size (fun _ => none) := hns₁
  generalize hXX : compCx X scope N' cl G.objs.size s2 H2 fp pins = XX at *
  have IN : ∀ (tk : Nat), Inv XX [] (inSt ρ σ) H2 { s2 with heap := h₁, toks := tk } := fun tk => hXX ▸ comp_start (N' := N') I2 S hρ f2 h1 h2 hCle hfs hns₂ old hl
  obtain ⟨pg, pt, pe⟩ := inner cl G.objs.size s2 H2 fp pins
  rw [hXX] at pg pt pe
  have eP : XX.prog = X.prog := by rw [← hXX]; rfl
  have eW : XX.w = X.w := by rw [← hXX]; rfl
  have eK : XX.K = X.K := by rw [← hXX]; rfl
  have eA : XX.A = X.A := by rw [← hXX]; rfl
  have eE : XX.env = compEnvC scope cl G.objs.size X.env := by rw [← hXX]; rfl
  have eL : XX.env.locals = G.objs.size := by rw [eE]; rfl
  have ec : XX.calm = true := by rw [← hXX]; exact hc
  have ex : XX.xe = fun _ _ => False := by rw [← hXX]; rfl
  have es0 : XX.s₀ = s2 := by rw [← hXX]; rfl
  have eex : XX.ex = fp := by rw [← hXX]; rfl
  have efs : XX.fs = frs X.stack := by rw [← hXX]; rfl
  have eH0 : XX.H₀ = H2 := by rw [← hXX]; rfl
  have epn : XX.pn = X.pn ++ pins := by rw [← hXX]; rfl
  have ecl : XX.env.cells = cl := by rw [eE]; rfl
  -- what stays true of the iterator's records
  have stat : ∀ {H' : Hp} {ps : List (Addr × Obj)}, (∀ b ∈ fp, H' b = none) → (∀ p ∈ ps, p.1 = s2.heap.objs.size) → ∀ b ∈ fp, FpOk XX ps H' b := fun {H' ps} hn hp b hb => by
    refine ⟨hn b hb, ?_, ?_, ?_, ?_, ?_⟩
    · rw [eL]; exact Nat.ne_of_lt (Nat.lt_of_lt_of_le (hfs b hb) hCle)
    · rw [efs]
      intro z
      rcases List.mem_cons.mp (I2.stkSub b z) with q | q
      · exact (f2 b hb).2.1 q
      · exact (f2 b hb).2.2.1 q
    · rw [eex]; exact .inl hb
    · rw [ecl]; exact fun x c e => (f2 b hb).2.2.2.2.1 x c (h1 x c e)
    · intro p hp' z
      rw [epn] at hp'
      rcases List.mem_append.mp hp' with q | q
      · exact (f2 b hb).2.2.2.2.2 p q z
      · rw [hp p q] at z
        exact absurd (hfs b hb) (by rw [z]; exact Nat.lt_irrefl _)
  have nofsD : s2.heap.objs.size ∉ XX.fs := by
    rw [efs]; intro z
    rcases List.mem_cons.mp (I2.stkSub _ z) with q | q
    · exact absurd I2.lt (by rw [← q]; exact Nat.lt_irrefl _)
    · exact I2.nofs (Nat.le_refl _) q
  have pinD : ∀ {σ' : St} {H' : Hp} {s' : Shared} {its : List Value} {n : Nat}, Inv XX [] σ' H' s' → H' s2.heap.objs.size = none → s'.heap.get? s2.heap.objs.size = some { cls := .type "list", data := .seq its.toArray n } →
      Inv XX [(s2.heap.objs.size, { cls := .type "list", data := .seq its.toArray n })] σ' H' s' := fun {σ' H' s' its n} I' hn ho => I'.pins_of fun p hp => by
    have e : p = (s2.heap.objs.size, { cls := .type "list", data := .seq its.toArray n }) := by simpa using hp
    subst e
    refine ⟨ho, hn, by rw [eL]; exact hDC, nofsD, fun v z => ?_⟩
    have z' : Data.seq its.toArray n = Data.cell v := z
    cases z'
  have loop : ∀ s₃ : Shared, (∃ tk, s₃ = { s2 with heap := h₁, toks := tk }) →
      codeAny (model X.prog X.w) X.A (.compLoop (.ListComp elt [⟨tg, iter, ifs, 0⟩] scope pos) 0 (.ref it) (.ref s2.heap.objs.size) (compEnvC scope cl G.objs.size X.env)) (RR (.ref s2.heap.objs.size) G.objs.size) s₃ := by
    rintro s₃ ⟨tk, rfl⟩
    refine compLoop_gen (fun n s' => ∃ i ys its k H', Inv XX [] (inSt ρ σ) H' s' ∧ tn i s'.heap ∧ (∀ b ∈ fp, H' b = none) ∧ H' s2.heap.objs.size = none ∧ Vals ys its ∧
      s'.heap.get? s2.heap.objs.size = some { cls := .type "list", data := .seq its.toArray k } ∧ W i n ys H') ?_ m0
      ⟨0, [], [], 0, H2, IN tk, T.keep _ _ _ st2 fun b _ o e => old b o e, fun b hb => (f2 b hb).1, I2.hok.fresh (Nat.le_refl _), .nil, hacc, w0⟩
    rintro n s3 ⟨i, ys, its, k, H3, I3, st3, fr3, hD3, rv, ho3, w3⟩
    rcases turn i n ys H3 w3 with ⟨stop, hz, qn⟩ | ⟨go, hz, N, hN, step⟩
    · have I3p := pinD I3 hD3 ho3
      have q := T.done XX eP eW eK ec i _ s3 (inSt ρ σ) H3 (fun _ _ => False) I3p (stat fr3 (by simp)) st3 stop
      rw [eA] at q
      refine thn q fun r s4 ⟨hr, I4⟩ => ?_
      subst hr
      have ho4 := (I4.pin (s2.heap.objs.size, { cls := .type "list", data := .seq its.toArray k }) (by simp)).1
      obtain ⟨m, hm, _⟩ := I4.loc
      rw [eL] at hm
      have hun : Un (frs X.stack) fp H2 (upd H3 s2.heap.objs.size (.lst ys)) s2.heap s4.heap := by
        have u := I4.base
        rw [efs, eex, eH0, es0] at u
        refine ⟨u.keep, u.slot, fun b o e n hx => ?_, u.there, fun b xs e => ?_, fun b o xs e => ?_, fun b ps e => ?_⟩
        · rw [upd_ne (Nat.ne_of_lt (Heap.lt_size e))]; exact u.free b o e n hx
        · have q := u.tups b xs e
          rw [upd_ne (ne_of_none q hD3)]; exact q
        · have q := u.frzs b o xs e
          rw [upd_ne (ne_of_none q hD3)]; exact q
        · obtain ⟨more, q⟩ := u.tbls b ps e
          exact ⟨more, by rw [upd_ne (ne_of_none q hD3)]; exact q⟩
      have hok : HOk X.prog X.w (upd H3 s2.heap.objs.size (.lst ys)) s4.heap := by
        have q := I4.hok
        rw [eP, eW] at q
        exact q.track hD3 ⟨hz, its, k, rv, ho4⟩
      have hfr : ∀ b ∈ fp, (b ∈ X.ex ∨ X.s₀.heap.objs.size ≤ b) ∧ b ≠ X.env.locals ∧ (∀ x c, X.env.cells.lookup x = some c → c ≠ b) ∧ ∀ p ∈ X.pn ++ pins, p.1 ≠ b := fun b hb => ⟨(f2 b hb).2.2.2.1, (f2 b hb).2.1, (f2 b hb).2.2.2.2.1, (f2 b hb).2.2.2.2.2⟩
      have IO : Inv X pins σ (upd H3 s2.heap.objs.size (.lst ys)) s4 := I2.call' (by have := I4.os; rw [es0] at this; exact this) hun hok I4.bare hfr
      refine fin _ _ s4 _ m IO (qn _ hD3) hm (I2.fpOk hCle ?_)
      rw [upd_ne (Ne.symm hDC)]
      have := I4.free
      rw [eL] at this
      exact this
    · have I3p := pinD I3 hD3 ho3
      have q := T.item XX eP eW eK ec i _ s3 (inSt ρ σ) H3 (fun _ _ => False) I3p (stat fr3 (by simp)) st3 go
      rw [eA] at q
      refine thn q fun r s4 ⟨u, hr, h4⟩ => ?_
      subst hr
      refine thn h4 fun _ s5 ⟨x, H5, I5, r5, y5, st5, fr5⟩ => ?_
      have I5' := I5.pinned (stat fr5 (by simp)) (T.obj _ _ st5)
      have qa := pg _ s5 (inSt ρ σ) H5 x u _ I5' r5 (step x H5 y5)
      rw [eP, eW, eA, eE, ex] at qa
      refine thn qa fun _ s6 ⟨σ6, H6, I6, ⟨ou1, ou2⟩, q6⟩ => ?_
      have hw6 : (inSt ρ σ).length = σ6.length := by rw [ou1]; unfold inSt; rw [List.length_map]
      have qt := pt _ s6 σ6 H6 _ I6 q6
      rw [eP, eW, eA, eE, ex] at qt
      refine thn qt fun ok s7 ⟨H7, I7, q7⟩ => ?_
      have back : ∀ {s8 : Shared} {H8 : Hp}, Inv XX ([(s2.heap.objs.size, { cls := .type "list", data := .seq its.toArray k })] ++ pinsAt fp s5.heap) σ6 H8 s8 → tn (i + 1) s8.heap ∧ (∀ b ∈ fp, H8 b = none) ∧ H8 s2.heap.objs.size = none ∧
          s8.heap.get? s2.heap.objs.size = some { cls := .type "list", data := .seq its.toArray k } := fun {s8 H8} I8 => by
        refine ⟨T.keep _ _ _ st5 fun b hb o e => (I8.pin (b, o) (List.mem_append_right _ (List.mem_append_right _ (mem_pinsAt hb e)))).1, fun b hb => ?_, ?_, ?_⟩
        · obtain ⟨o, e, d⟩ := T.obj _ _ st5 b hb
          exact (I8.pin (b, o) (List.mem_append_right _ (List.mem_append_right _ (mem_pinsAt hb e)))).2.1
        · exact (I8.pin (s2.heap.objs.size, { cls := .type "list", data := .seq its.toArray k }) (by simp)).2.1
        · exact (I8.pin (s2.heap.objs.size, { cls := .type "list", data := .seq its.toArray k }) (by simp)).1
      cases ok with
      | false =>
        obtain ⟨m', hm, w7⟩ := hN _ _ q7
        obtain ⟨b1, b2, b3, b4⟩ := back I7
        exact ⟨m', hm, i + 1, ys, its, k, H7, (I7.pins_of (pins' := []) (fun _ z => nomatch z)).weak hw6 ou2, b1, b2, b3, rv, b4, w7⟩
      | true =>
        have qe := pe _ s7 σ6 H7 _ I7 q7
        rw [eP, eW, eA, eE, ex] at qe
        refine thn qe fun y s8 ⟨v8, H8, I8, r8, n8⟩ => ?_
        obtain ⟨m', hm, w8⟩ := hN _ _ n8
        obtain ⟨b1, b2, b3, b4⟩ := back I8
        have hlen := rv.length
        refine call_meets F.slot_list_append ⟨_, b4, rfl⟩ F.entry_list_append (F.args_list_append_2 _ _) (PySem.list_append s2.heap.objs.size its.toArray k y (by rw [List.size_toArray]; omega)) ⟨b4, ?_⟩
        have qL := PySem.IsL.update b4 (fun xs => xs.push y)
        have I8' : Inv XX [] σ6 H8 s8 := I8.pins_of (fun _ z => nomatch z)
        have I9 : Inv XX [] σ6 H8 { s8 with heap := s8.heap.update s2.heap.objs.size (Obj.mapSeq fun xs => xs.push y), toks := s8.toks } := I8'.turned (it := s2.heap.objs.size) (fun b o hb e => (Heap.get?_update_other s8.heap _ (Ne.symm hb)).trans e) b3
          (by rw [eL]; exact hDC) (.inr (by rw [es0]; exact Nat.le_refl _)) (by
            rw [ecl]; intro x c e z
            obtain ⟨v, qc⟩ := I2.cell x c (h1 x c e)
            exact absurd qc.lt (by rw [z]; exact Nat.lt_irrefl _)) (by
            intro p hp z
            have hp' : p ∈ X.pn ++ pins := by rw [epn] at hp; simpa using hp
            exact absurd (Heap.lt_size (I2.pin p hp').1) (by rw [z]; exact Nat.lt_irrefl _))
        have hnd : s2.heap.objs.size ∉ fp := fun z => Nat.lt_irrefl _ (hfs _ z)
        rw [show its.toArray.push y = (its ++ [y]).toArray by simp] at qL
        refine ⟨m', hm, i + 1, ys ++ [v8], its ++ [y], _, H8, I9.weak hw6 ou2, T.keep _ _ _ b1 fun b hb o e => (Heap.get?_update_other s8.heap _ (by rintro rfl; exact hnd hb)).trans e, b2, b3, rv.append (.cons r8 .nil), qL, w8⟩
  refine codeAny_compStart_list (loop _ ⟨_, rfl⟩) (T.self X.A 0 _ _ _ (T.keep _ _ _ st2 fun b _ o e => old b o e) (loop _ ⟨_, rfl⟩))
theorem pe_comp {X : Cx} {elt iter tg : Expr} {ifs : List Expr} {scope : Scope} {pos : Pos} (N' : List Str) (ρ : List (Option Nat)) {wi : TI} {g : TG} {tt : TT} {te : TE} (hc : X.calm = true) (hi : PI X tg iter wi) (S : CompScope scope X.env.scope) (hρ : SlotOk scope X.env X.N N' ρ)
    (hl : ∀ x, (x, NameKind.free) ∈ scope.names → scope.names.lookup x = some .free)
    (inner : ∀ (cl : List (Str × Addr)) (C : Addr) (s : Shared) (H : Hp) (fp : List Addr) (pins : List (Addr × Obj)), PG (compCx X scope N' cl C s H fp pins) tg g ∧ PTs (compCx X scope N' cl C s H fp pins) ifs tt ∧ PE (compCx X scope N' cl C s H fp pins) elt te)
    (hs : ∀ x, foldedSetIterable iter X.env x = pure x := by intro _; rfl) : PE X (.ListComp elt [⟨tg, iter, ifs, 0⟩] scope pos) (tComp ρ wi g tt te) := by
  intro pins s σ H Q I h
  obtain ⟨cl, hcl, h1, h2⟩ := closureFor_of (scope := scope) (env := X.env) (fun n hn => I.ok.has n (S.free (n, .free) hn rfl))
  rw [eval_ListComp]
  refine wpAny_comprehension_free (use := none) rfl hs hcl S.kind S.loc ?_
  refine comp_run (RR := fun acc C => compPost (model X.prog X.w) X.A X.xe none (EP X pins σ Q) acc C) hc hi S hρ hl inner I h h1 h2 ?_
  intro D C s' H' m I' q hm hf
  refine ⟨m, hm, fun h' sb => ⟨.ref D, H', ?_, rfl, q⟩⟩
  exact I'.turned (t' := s'.toks) (fun b o hb e => (sb.2 b hb).trans e) hf.1 hf.2.1 hf.2.2.2.1 hf.2.2.2.2.1 hf.2.2.2.2.2

theorem inSt_cons (σ : St) (o : Option Nat) (ρ : List (Option Nat)) : inSt (o :: ρ) σ = (match o with | some i => (σ[i]?).getD none | none => none) :: inSt ρ σ := rfl
theorem outs1 {ρ : List (Option Nat)} {σ : St} (o : Option V) : Outs (none :: ρ) σ (o :: inSt ρ σ) := by
  refine ⟨by unfold inSt; simp, fun j v e => ?_⟩
  cases j with
  | zero => rw [inSt_cons] at e; simp at e
  | succ j => rw [inSt_cons] at e; simpa using e
theorem comp_by {J : It} {n : Nat} {X : Nat → V → Prop} {ρ : List (Option Nat)} {tt : TT} {te : TE} {σ : St} {H : Hp} {Q : VK} (Pv : Nat → List V → Hp → Prop) (h0 : Pv 0 [] H) (hlen : n ≤ sizeLine)
    (hy : ∀ i ys H, i ≤ n → Pv i ys H → ys.length ≤ i) (hgo : ∀ i ys H, i < n → Pv i ys H → J.go i H) (hyl : ∀ i ys H x H', i < n → Pv i ys H → J.yld i H x H' → H' = H ∧ X i x) (hst : ∀ ys H, Pv n ys H → J.stop n H)
    (hs : ∀ i x ys H, i < n → X i x → Pv i ys H → tt (some x :: inSt ρ σ) H fun ok H4 => if ok = true then te (some x :: inSt ρ σ) H4 fun v H5 => Pv (i + 1) (ys ++ [v]) H5 else Pv (i + 1) ys H4)
    (hd : ∀ ys H, Pv n ys H → ∀ p, H p = none → Q (.ref p) (upd H p (.lst ys))) :
    CompW (none :: ρ) (gName 0) tt te σ Q J H := by
  refine ⟨fun i m ys H => m = n - i ∧ i ≤ n ∧ Pv i ys H, ⟨n, by simp, Nat.zero_le _, h0⟩, ?_⟩
  rintro i m ys H ⟨rfl, hi, p⟩
  have hl := hy i ys H hi p
  by_cases hlt : i < n
  · refine .inr ⟨hgo i ys H hlt p, by omega, Pv (i + 1), fun ys' H'' p' => ⟨n - (i + 1), by omega, rfl, hlt, p'⟩, fun x H' y => ?_⟩
    obtain ⟨e, y2⟩ := hyl i ys H x H' hlt p y
    subst e
    exact ⟨outs1 _, hs i x ys _ hlt y2 p⟩
  · have e : i = n := by omega
    subst e
    exact .inl ⟨hst ys H p, by omega, hd ys H p⟩
theorem comp_tup {K : PySem.W.Frag} {a : Addr} {xs : List V} {ρ : List (Option Nat)} {tt : TT} {te : TE} {σ : St} {H : Hp} {Q : VK} (Pv : Nat → List V → Hp → Prop) (h0 : Pv 0 [] H) (hlen : xs.length ≤ sizeLine) (hl : ∀ i ys H, i ≤ xs.length → Pv i ys H → SqT K H a xs ∧ ys.length ≤ i)
    (hs : ∀ i x ys H, xs[i]? = some x → Pv i ys H → tt (some x :: inSt ρ σ) H fun ok H4 => if ok = true then te (some x :: inSt ρ σ) H4 fun v H5 => Pv (i + 1) (ys ++ [v]) H5 else Pv (i + 1) ys H4)
    (hd : ∀ ys H, Pv xs.length ys H → ∀ p, H p = none → Q (.ref p) (upd H p (.lst ys))) :
    CompW (none :: ρ) (gName 0) tt te σ Q (Itt K a) H :=
  comp_by (n := xs.length) (X := fun i x => xs[i]? = some x) Pv h0 hlen (fun i ys H hi p => (hl i ys H hi p).2) (fun i ys H hi p => ⟨xs, xs[i], (hl i ys H (Nat.le_of_lt hi) p).1, by simp [hi]⟩) (fun i ys H x H' hi p y => ⟨y.1, y.2 xs (hl i ys H (Nat.le_of_lt hi) p).1⟩)
    (fun ys H p => ⟨xs, (hl _ ys H (Nat.le_refl _) p).1, Nat.le_refl _⟩) (fun i x ys H _ e p => hs i x ys H e p) hd
theorem comp_list {K : PySem.W.Frag} {a : Addr} {xs : List V} {ρ : List (Option Nat)} {tt : TT} {te : TE} {σ : St} {H : Hp} {Q : VK} (Pv : Nat → List V → Hp → Prop) (h0 : Pv 0 [] H) (hlen : xs.length ≤ sizeLine) (hl : ∀ i ys H, i ≤ xs.length → Pv i ys H → SqL K H a xs ∧ ys.length ≤ i)
    (hs : ∀ i x ys H, xs[i]? = some x → Pv i ys H → tt (some x :: inSt ρ σ) H fun ok H4 => if ok = true then te (some x :: inSt ρ σ) H4 fun v H5 => Pv (i + 1) (ys ++ [v]) H5 else Pv (i + 1) ys H4)
    (hd : ∀ ys H, Pv xs.length ys H → ∀ p, H p = none → Q (.ref p) (upd H p (.lst ys))) :
    CompW (none :: ρ) (gName 0) tt te σ Q (Itl K a) H :=
  comp_by (n := xs.length) (X := fun i x => xs[i]? = some x) Pv h0 hlen (fun i ys H hi p => (hl i ys H hi p).2) (fun i ys H hi p => ⟨xs, xs[i], (hl i ys H (Nat.le_of_lt hi) p).1, by simp [hi]⟩) (fun i ys H x H' hi p y => ⟨y.1, y.2 xs (hl i ys H (Nat.le_of_lt hi) p).1⟩)
    (fun ys H p => ⟨xs, (hl _ ys H (Nat.le_refl _) p).1, Nat.le_refl _⟩) (fun i x ys H _ e p => hs i x ys H e p) hd
theorem comp_range {lo : Int} {n : Nat} {ρ : List (Option Nat)} {tt : TT} {te : TE} {σ : St} {H : Hp} {Q : VK} (Pv : Nat → List V → Hp → Prop) (h0 : Pv 0 [] H) (hlen : n ≤ sizeLine) (hl : ∀ i ys H, i ≤ n → Pv i ys H → ys.length ≤ i)
    (hs : ∀ i ys H, i < n → Pv i ys H → tt (some (.int (lo + i)) :: inSt ρ σ) H fun ok H4 => if ok = true then te (some (.int (lo + i)) :: inSt ρ σ) H4 fun v H5 => Pv (i + 1) (ys ++ [v]) H5 else Pv (i + 1) ys H4)
    (hd : ∀ ys H, Pv n ys H → ∀ p, H p = none → Q (.ref p) (upd H p (.lst ys))) :
    CompW (none :: ρ) (gName 0) tt te σ Q (Itr lo n) H :=
  comp_by (n := n) (X := fun i x => x = .int (lo + i)) Pv h0 hlen hl (fun i ys H hi p => hi) (fun i ys H x H' hi p y => y) (fun ys H p => Nat.le_refl _) (fun i x ys H hi e p => by subst e; exact hs i ys H hi p) hd
end L2

set_option Elab.async false
set_option linter.all false
set_option maxRecDepth 100000
set_option maxHeartbeats 4000000
namespace L2
open PySem PySem.Spec PyProof.Rows

noncomputable abbrev cds (x : Str) : List Nat := x.cps.toList
theorem cds_len (x : Str) : (cds x).length = x.length := by simp [cds, Str.length]
theorem cds_ext {x y : Str} (h : cds x = cds y) : x = y := StrLaws.mk_of_toList (x := x) h ▸ (StrLaws.mk_of_toList (x := y) rfl).symm
theorem cds_app (x y : Str) : cds (x ++ y) = cds x ++ cds y := by simp [cds, Str.cps_append]
theorem cds_one (c : Nat) : cds ⟨#[c]⟩ = [c] := rfl
theorem cds_mk (l : List Nat) : cds ⟨l.toArray⟩ = l := by simp [cds]
noncomputable def sOf (l : List Nat) : Str := ⟨l.toArray⟩
theorem cds_sOf (l : List Nat) : cds (sOf l) = l := by simp [cds, sOf]
theorem sOf_cds (x : Str) : sOf (cds x) = x := cds_ext (cds_sOf _)

noncomputable def cutC {α : Type} (xs : List α) (lo hi : Option Int) : List α := (xs.drop (HT.sIx xs.length 0 lo)).take (HT.sIx xs.length xs.length hi - HT.sIx xs.length 0 lo)
theorem clip_str (n : Nat) (i : Int) (k : Nat) : max 0 (min (if i < 0 then i + (n : Int) else i) (n : Int)) = ((HT.sIx n k (some i) : Nat) : Int) := by
  unfold HT.sIx
  dsimp only
  split <;> omega
theorem slice_ix (lo hi : Option Int) (n : Nat) : Builtin.Str.strSliceIndices lo hi 1 n = (List.range (HT.sIx n n hi - HT.sIx n 0 lo)).map (fun k => HT.sIx n 0 lo + k) := by
  have e : Builtin.Str.strSliceIndices lo hi 1 n = sliceRange ((HT.sIx n 0 lo : Nat) : Int) ((HT.sIx n n hi : Nat) : Int) 1 := by
    unfold Builtin.Str.strSliceIndices
    simp only [show ((1 : Int) > 0) = True by simp, if_true]
    congr 1
    · cases lo with
      | none => rfl
      | some i => exact clip_str n i 0
    · cases hi with
      | none => rfl
      | some i => exact clip_str n i n
  rw [e]
  unfold sliceRange
  simp only [show ((1 : Int) > 0) = True by simp, if_true]
  generalize HT.sIx n 0 lo = a
  generalize HT.sIx n n hi = b
  by_cases h : (a : Int) < b
  · rw [if_pos h, show (((b : Int) - a + 1 - 1) / 1).toNat = b - a by simp <;> omega]
    refine List.map_congr_left fun k _ => ?_
    omega
  · rw [if_neg h, show b - a = 0 by omega]
    rfl
theorem cds_slice (x : Str) (lo hi : Option Int) : cds (Txt.slice x lo hi) = cutC (cds x) lo hi := by
  unfold Txt.slice cutC
  have hl := cds_len x
  rw [hl, slice_ix]
  have b1 := HT.sIx_le x.length 0 (Nat.zero_le _) lo
  have b2 := HT.sIx_le x.length x.length (Nat.le_refl _) hi
  generalize HT.sIx x.length 0 lo = a at *
  generalize HT.sIx x.length x.length hi = b at *
  split
  · rename_i h
    have hb : b - a = x.length := by simpa using h
    have ha : a = 0 := by omega
    subst ha
    rw [List.drop_zero, hb, ← hl, List.take_length]
  · by_cases hab : a ≤ b
    · have q := StrLaws.picks (cds x) (b - a) a (by omega)
      have q2 : (List.filterMap (fun x_1 => x.cps[x_1]?) (List.map (fun k => a + k) (List.range (b - a)))) = List.filterMap (fun x_1 => (cds x)[x_1]?) (List.map (fun k => a + k) (List.range (b - a))) := by
        simp [cds]
      rw [cds_mk, q2, q]
    · rw [show b - a = 0 by omega]
      simp [cds]
section
variable {X : Cx}
noncomputable def rSlS : V → Option Int → Option Int → Hp → VK → Prop := fun x lo hi H Q => ∃ z, x = .str z ∧ z.length ≤ sizeLine ∧ Q (.str (sOf (cutC (cds z) lo hi))) H
theorem sl_str : SlR X rSlS := by
  intro pins s σ H x v vl vu lo hi sl Q I rx hs pl pu h
  obtain ⟨z, rfl, hz, q⟩ := h
  obtain ⟨t, rfl⟩ := rx
  rw [← cds_slice, sOf_cds] at q
  refine ⟨"str", _, F.slot_str_getitem.lookup, typeIs_str _ _ _, ?_⟩
  have go : ∀ (l u : Option (Int × Tok)), l.map (·.1) = lo → u.map (·.1) = hi → s.heap.IsSlice sl l u none → wpAny (model X.prog X.w) X.A (getItem (.str z t) (.ref sl)) (EP X pins σ Q) X.xe s := fun l u e1 e2 hS => by
    subst e1 e2
    exact wpAny_getItem_str_slice hS rfl (post_val_or_str ⟨Nat.le_trans (Txt.slice_le z _ _) hz, fun t' k => ⟨.str _, H, I.tok _, ⟨_, rfl⟩, q⟩⟩)
  cases pl with
  | none =>
    cases pu with
    | none => exact go none none rfl rfl hs
    | int j u => exact go none (some (j, u)) rfl rfl hs
  | int i t' =>
    cases pu with
    | none => exact go (some (i, t')) none rfl rfl hs
    | int j u => exact go (some (i, t')) (some (j, u)) rfl rfl hs

theorem idxOf_first {c : Nat} : ∀ {l : List Nat} {i : Nat}, l[i]? = some c → (∀ k, k < i → l[k]? ≠ some c) → l.idxOf c = i
  | [], i, h, _ => by simp at h
  | a :: r, 0, h, _ => by simp at h; subst h; simp
  | a :: r, i + 1, h, hn => by
    have ha : a ≠ c := fun e => hn 0 (Nat.succ_pos _) (by simp [e])
    have q := idxOf_first (c := c) (l := r) (i := i) (by simpa using h) (fun k hk => by simpa using hn (k + 1) (Nat.succ_lt_succ hk))
    have hb : (a == c) = false := by simpa using ha
    rw [List.idxOf_cons, hb, q]
    rfl
theorem in_one (x : Str) (c : Nat) : (!(Builtin.Str.occurrences x ⟨#[c]⟩ 0 x.length 1).isEmpty) = decide (c ∈ cds x) := StrLaws.found_one x c

noncomputable def rJoin (K : PySem.W.Frag) : V → List V → Hp → VK → Prop := fun x xs H Q => ∃ z p ys, x = .str z ∧ xs = [.ref p] ∧ (SqL K H p (ys.map V.str) ∨ SqT K H p (ys.map V.str)) ∧ (ys.map (·.length)).sum + ys.length * z.length ≤ 16777216 ∧ Q (.str (Txt.join z ys)) H
theorem strsAre_of : ∀ {ys : List Str} {us : List Value}, Vals (ys.map V.str) us → StrsAre us ys
  | [], _, .nil => .nil
  | y :: ys, _, .cons r t => by
    obtain ⟨k, rfl⟩ := r
    exact .cons y k (strsAre_of t)
theorem mt_join : MtR X "str.join" (rJoin X.K) := by
  intro pins s σ H x xs v us Q I rx rv h
  obtain ⟨z, p, ys, rfl, rfl, hq, hz, q⟩ := h
  obtain ⟨t, rfl⟩ := rx
  obtain ⟨u, rfl, ru⟩ := rv.one
  cases ru
  rcases hq with hq | hq
  · obtain ⟨its, r, pl, _⟩ := I.list hq
    exact join_list pl.isList (by simpa using strsAre_of r) hz fun t' k => ⟨.str _, H, I.tok _, ⟨_, rfl⟩, q⟩
  · obtain ⟨its, r, pl, _⟩ := I.tuple hq
    exact join_tuple pl (by simpa using strsAre_of r) hz fun t' k => ⟨.str _, H, I.tok _, ⟨_, rfl⟩, q⟩
theorem call_int_text : CallR X (.type "int") (fun xs H Q => ∃ z n, xs = [.str z] ∧ intText? z = some n ∧ z.length ≤ 640 ∧ Q (.int n) H) := by
  intro pins s σ H xs us Q I r h
  obtain ⟨z, n, rfl, hn, hl, q⟩ := h
  obtain ⟨u, rfl, t, rfl⟩ := vals1 r
  exact PySem.W.KIN.call_text hn hl ⟨.int n, H, I.tok _, ⟨_, rfl⟩, q⟩
end

noncomputable def Its (z : Str) : It := ⟨fun i _ => i < (cds z).length, fun i H x H' => H' = H ∧ ∃ c, (cds z)[i]? = some c ∧ x = .str ⟨#[c]⟩, fun i _ => (cds z).length ≤ i⟩
theorem turn_str {P : Program} {w : World} {K : PySem.W.Frag} {tg : Expr} (it : Addr) (z : Str) (t : Tok) (ty : String) (hty : ty = "str_ascii_iterator" ∨ ty = "str_iterator") : Turn P w K tg (Its z) [it] it (fun i h => h.IsStrIter it ty z t i) where
  mem := by simp
  obj := fun i h st b hb => by
    have e : b = it := by simpa using hb
    subst e
    obtain ⟨o, e, c, d⟩ := st
    exact ⟨o, e, fun v z => by rw [d] at z; cases z⟩
  keep := fun i h h' st k => let ⟨o, ho, r⟩ := st; ⟨o, k it (by simp) o ho, r⟩
  item := by
    intro X hP hw hK hc i pins s σ H E I hf st hg
    subst hP hw hK
    obtain ⟨f0, f1, f2, f3, f4, f5⟩ := hf it (by simp)
    have hlt : i < z.cps.size := by have : i < (cds z).length := hg; simpa [cds] using this
    have W : Walks X.prog X.w X.A it [it] [it] z.cps.size (SignAt z) (fun i h => h.IsStrIter it ty z t i) := by
      rcases hty with rfl | rfl
      · exact Walks.strAscii (I.ok.hd hc) it z t
      · exact Walks.strWide (I.ok.hd hc) it z t
    refine W.item i s _ _ hlt st fun v h' tk hv st' kk => ?_
    obtain ⟨c, u, hcu, rfl⟩ := hv
    have I1 : Inv X pins σ H { s with heap := h', toks := tk } := I.turned (fun b o hb e => kk b o (by simpa using hb) e) f0 f1 f3 f4 f5
    obtain ⟨o, e, c1, d⟩ := id st'
    refine ⟨_, rfl, go_of (s := { s with heap := h', toks := tk }) e c1 d (by rcases hty with rfl | rfl <;> decide) ⟨.str ⟨#[c]⟩, H, I1, ⟨u, rfl⟩, ⟨rfl, c, by simpa [cds] using hcu, rfl⟩, st', fun b hb => (hf b hb).1⟩⟩
  done := by
    intro X hP hw hK hc i pins s σ H E I hf st hg
    subst hP hw hK
    obtain ⟨f0, f1, f2, f3, f4, f5⟩ := hf it (by simp)
    have hle : z.cps.size ≤ i := by have : (cds z).length ≤ i := hg; simpa [cds] using this
    have hn : z.cps[i]? = none := by simp [hle]
    rcases hty with rfl | rfl
    · exact wpAny_pyNext_ascii_end (I.ok.hd hc) st hn fun h' he' => ⟨rfl, I.turned (t' := s.toks) (fun b o hb e => he' b o hb e) f0 f1 f3 f4 f5⟩
    · exact wpAny_pyNext_wide_end (I.ok.hd hc) st hn fun h' he' => ⟨rfl, I.turned (t' := s.toks) (fun b o hb e => he' b o hb e) f0 f1 f3 f4 f5⟩
  self := fun _ _ _ _ _ st h => by
    rcases hty with rfl | rfl
    · exact wpAny_pyIter_striter_ascii st h
    · exact wpAny_pyIter_striter_wide st h
noncomputable def iStr (tl : TE) : TI := fun σ H R => tl σ H fun x H1 => ∃ z, x = .str z ∧ R (Its z) H1
theorem pi_str {X : Cx} {tg l : Expr} {tl : TE} (hl : PE X l tl) : PI X tg l (iStr tl) := by
  intro pins s σ H R I h
  refine thn (hl pins s σ H _ I h) fun v s1 ⟨x, H1, I1, r1, q1⟩ => ?_
  obtain ⟨z, e, q⟩ := q1
  subst e
  obtain ⟨t, rfl⟩ := r1
  have fin : ∀ b ∈ [s1.heap.objs.size], FpOk X pins H1 b := fun b hb => by
    have e : b = s1.heap.objs.size := by simpa using hb
    subst e
    exact I1.fpOk (Nat.le_refl _) (I1.hok.fresh (Nat.le_refl _))
  cases ha : z.cps.all (· < 128)
  · refine wpAny_pyIter_wide ha ?_
    exact ⟨s1.heap.objs.size, [s1.heap.objs.size], _, _, H1, rfl, I1.kept (t' := s1.toks) fun b o e => Heap.get?_push_of_some _ e, turn_str _ z t _ (.inr rfl), ⟨_, Heap.get?_push_size _ rfl, rfl, rfl⟩, fin, q⟩
  · refine wpAny_pyIter_ascii ha ?_
    exact ⟨s1.heap.objs.size, [s1.heap.objs.size], _, _, H1, rfl, I1.kept (t' := s1.toks) fun b o e => Heap.get?_push_of_some _ e, turn_str _ z t _ (.inl rfl), ⟨_, Heap.get?_push_size _ rfl, rfl, rfl⟩, fin, q⟩
theorem comp_str {z : Str} {ρ : List (Option Nat)} {tt : TT} {te : TE} {σ : St} {H : Hp} {Q : VK} (Pv : Nat → List V → Hp → Prop) (h0 : Pv 0 [] H) (hlen : (cds z).length ≤ sizeLine) (hl : ∀ i ys H, i ≤ (cds z).length → Pv i ys H → ys.length ≤ i)
    (hs : ∀ i c ys H, (cds z)[i]? = some c → Pv i ys H → tt (some (.str ⟨#[c]⟩) :: inSt ρ σ) H fun ok H4 => if ok = true then te (some (.str ⟨#[c]⟩) :: inSt ρ σ) H4 fun v H5 => Pv (i + 1) (ys ++ [v]) H5 else Pv (i + 1) ys H4)
    (hd : ∀ ys H, Pv (cds z).length ys H → ∀ p, H p = none → Q (.ref p) (upd H p (.lst ys))) :
    CompW (none :: ρ) (gName 0) tt te σ Q (Its z) H :=
  comp_by (n := (cds z).length) (X := fun i x => ∃ c, (cds z)[i]? = some c ∧ x = .str ⟨#[c]⟩) Pv h0 hlen hl (fun i ys H hi p => hi) (fun i ys H x H' hi p y => y) (fun ys H p => Nat.le_refl _) (fun i x ys H hi ⟨c, hc, e⟩ p => by subst e; exact hs i c ys H hc p) hd

section
variable {X : Cx}
theorem call_allB (hc : X.calm = true) : CallR X (.builtin "all") (fun xs H Q => ∃ (p : Addr) (bs : List Bool), xs = [.ref p] ∧ SqL X.K H p (bs.map V.bl) ∧ Q (.bl (bs.all id)) H) := by
  intro pins s σ H xs us Q I r h
  obtain ⟨p, bs, rfl, hq, q⟩ := h
  obtain ⟨u, rfl, ru⟩ := vals1 r
  cases ru
  obtain ⟨its, rv, pl, hz⟩ := I.list hq
  have hne : p ≠ s.heap.objs.size := by
    obtain ⟨o, n, e, _⟩ := pl
    exact Nat.ne_of_lt (Heap.lt_size e)
  have hl := rv.length
  refine call_all_walk (wpAny_pyIter_list pl.isList ⟨s.heap.objs.size, _, _, its.toArray.size, _, _, fun i => bs.getD i true, rfl, Walks.list (A := X.A.in1) (show X.A.in1.handled = none from I.ok.hd hc) s.heap.objs.size p hne its.toArray, ⟨⟨_, Heap.get?_push_size _ rfl, rfl, rfl⟩, (pl.isList).push _⟩, ?_, fun h' tk kk => ?_⟩)
  · intro i v s' Q' E hv hq'
    have hv' : its[i]? = some v := by simpa using hv
    have hb : ∃ b, bs[i]? = some b ∧ v = .bool b := by
      cases e : (bs.map V.bl)[i]? with
      | none =>
        have := rv.none_of e
        rw [hv'] at this; cases this
      | some y =>
        obtain ⟨u, hu, ru⟩ := rv.get e
        rw [hv'] at hu; cases hu
        rw [List.getElem?_map] at e
        cases eb : bs[i]? with
        | none => rw [eb] at e; cases e
        | some b =>
          rw [eb] at e
          cases e
          exact ⟨b, rfl, ru⟩
    obtain ⟨b, hb, rfl⟩ := hb
    refine wpAny_truthy_bool ?_
    have hq2 : Q' ((bs[i]?).getD true) s' := hq'
    rw [hb] at hq2
    exact hq2
  · have e : ((List.range its.toArray.size).all fun i => bs.getD i true) = bs.all id := by
      have el : its.toArray.size = bs.length := by rw [List.size_toArray, ← hl, List.length_map]
      rw [el]
      rw [Bool.eq_iff_iff]
      simp only [List.all_eq_true, List.mem_range]
      constructor
      · intro h b hb
        obtain ⟨i, hi, e⟩ := List.mem_iff_getElem.mp hb
        have := h i hi
        rw [List.getD_eq_getElem?_getD, List.getElem?_eq_getElem hi] at this
        rw [← e]; exact this
      · intro h i hi
        rw [List.getD_eq_getElem?_getD, List.getElem?_eq_getElem hi]
        exact h _ (List.getElem_mem hi)
    rw [e]
    refine ⟨.bl (bs.all id), H, I.kept (t' := tk) fun b o eb => kk b o ?_ (Heap.get?_push_of_some _ eb), rfl, q⟩
    intro z
    have z' : b = s.heap.objs.size := by simpa using z
    exact absurd (Heap.lt_size eb) (by rw [z']; exact Nat.lt_irrefl _)

noncomputable def clsV : V → Option Value
  | .ty n => some (.type n)
  | .ref a => some (.ref a)
  | _ => none
theorem call_isi : CallR X (.builtin "isinstance") (fun xs H Q => ∃ x c t cv b, xs = [x, c] ∧ clsV c = some cv ∧ TyOf X.K H x t ∧ PySem.W.kitOne X.K t cv = some b ∧ Q (.bl b) H) := by
  intro pins s σ H xs us Q I r h
  obtain ⟨x, c, t, cv, b, rfl, rc, ty, e, q⟩ := h
  obtain ⟨u, w', rfl, rx, rw'⟩ := r.two
  have : w' = cv := by
    cases c with
    | ref a => cases rc; exact rw'
    | ty a => cases rc; exact rw'
    | _ => cases rc
  subst this
  exact isinst_ok I rx ty e fun tk => ⟨.bl b, H, I.tok _, rfl, q⟩
end
end L2

set_option Elab.async false
set_option linter.all false
set_option maxRecDepth 100000
set_option maxHeartbeats 4000000
namespace L2
open PySem PySem.Spec PyProof.Rows

noncomputable def compB (sc out : Scope) (N N' : List Str) (ρ : List (Option Nat)) : Bool :=
  decide (sc.kind = .function) && sc.names.all (fun y => decide (y.2 ≠ .cell)) && sc.names.all (fun y => decide (y.2 = .local → sc.names.lookup y.1 = some .local)) &&
  sc.names.all (fun y => decide (y.2 = .free → sc.names.lookup y.1 = some .free ∧ (out.names.lookup y.1 = some .cell ∨ out.names.lookup y.1 = some .free))) &&
  decide (ρ.length = N'.length) && decide N'.Nodup &&
  (ρ.zip N').all (fun p => match p.1 with | none => true | some i => decide (N[i]? = some p.2) && decide (out.names.lookup p.2 = some .local ∨ out.names.lookup p.2 = some .cell ∨ out.names.lookup p.2 = some .free) && sc.names.any (fun y => decide (y = (p.2, NameKind.free))))
structure CompF (sc : Scope) (env : Env) (N N' : List Str) (ρ : List (Option Nat)) : Prop where
  S : CompScope sc env.scope
  sl : SlotOk sc env N N' ρ
  hl : ∀ x, (x, NameKind.free) ∈ sc.names → sc.names.lookup x = some .free
  nd : N'.Nodup
theorem compF_of {sc : Scope} {env : Env} {N N' : List Str} {ρ : List (Option Nat)} (h : compB sc env.scope N N' ρ = true) : CompF sc env N N' ρ := by
  unfold compB at h
  simp only [Bool.and_eq_true, decide_eq_true_eq, List.all_eq_true] at h
  obtain ⟨⟨⟨⟨⟨⟨h1, h2⟩, h3⟩, h4⟩, h5⟩, h6⟩, h7⟩ := h
  refine ⟨⟨h1, h2, h3, fun y hy e => (h4 y hy e).2⟩, ⟨h5, fun j i x e1 e2 => ?_⟩, fun x hx => (h4 _ hx rfl).1, h6⟩
  have hm : (some i, x) ∈ ρ.zip N' := by
    refine List.mem_of_getElem? (i := j) ?_
    rw [List.getElem?_zip_eq_some]
    exact ⟨e1, e2⟩
  have q := h7 _ hm
  simp only [Bool.and_eq_true, decide_eq_true_eq, List.any_eq_true] at q
  obtain ⟨⟨q1, q2⟩, y, hy, e⟩ := q
  exact ⟨q1, q2, e ▸ hy⟩

theorem pe_compB {X : Cx} {elt iter tg : Expr} {ifs : List Expr} {scope : Scope} {pos : Pos} (N' : List Str) (ρ : List (Option Nat)) {wi : TI} {g : TG} {tt : TT} {te : TE} (hc : X.calm = true) (hi : PI X tg iter wi) (h : compB scope X.env.scope X.N N' ρ = true)
    (inner : ∀ (cl : List (Str × Addr)) (C : Addr) (s : Shared) (H : Hp) (fp : List Addr) (pins : List (Addr × Obj)), PG (compCx X scope N' cl C s H fp pins) tg g ∧ PTs (compCx X scope N' cl C s H fp pins) ifs tt ∧ PE (compCx X scope N' cl C s H fp pins) elt te)
    (hs : ∀ x, foldedSetIterable iter X.env x = pure x := by intro _; rfl) : PE X (.ListComp elt [⟨tg, iter, ifs, 0⟩] scope pos) (tComp ρ wi g tt te) :=
  have F := compF_of h
  pe_comp N' ρ hc hi F.S F.sl F.hl inner hs
noncomputable def spLaw (K : PySem.W.Frag) : Sp := fun vs H Q _ => ∃ (a : Addr) (ns : List Int), vs = [.ref a] ∧ SqL K H a (ns.map V.int) ∧ ns.length ≤ 63 ∧ Only H ∧ ∀ H', Q (.bl true) H'
theorem law_walk {l : PySem.W.OpenLaw} {q : Program} {loose : List Str} {XP : (Str → Option Value) → Heap → Prop} {YP : World → Heap → Prop} {d : DefRec} {K : Params → PySem.W.Frag} {x : Str} (k : Nat) (hk : k ≤ 200) (hn : l.most = some 63) (hdf : d.params.defaults = [])
    (hY : ∀ (w : World) (h : Heap), YP w h → (K w.params).In h)
    (F : ∀ (w : World) (mg : Str → Option Value) (fa : Addr) (h : Heap), (K w.params).In h → h.Ns mainGlobals mg → mg d.name = some (.ref fa) →
      ∃ fd : FuncData, (∀ (s : Shared) (u : Value), BindsTo s fd ⟨[u], []⟩ [(x, u)]) ∧ ∀ base : Heap, (K w.params).In base → base.Ns mainGlobals mg → FnOk l.prog w (K w.params) mg base CX0 k fa fd [x] (spLaw (K w.params))) :
    PySem.W.WalkO q loose XP YP l.row.toRowW d [] (fun f vs => PySem.call f vs) :=
  L2.walk_of (n := 63) (k := k) (x := x) (CX := fun _ => CX0) (sp := fun w => spLaw (K w.params)) hn (by decide) hdf
    ⟨rfl, by have : callerA.depth + 605 < recursionLimit := by decide
             omega, by have : callerA.units + 3400 < cLine := by decide
                       omega, rfl⟩ hY F (fun _ H a ns hl hO hS => ⟨a, ns, rfl, hS, hl, hO, fun _ => rfl⟩) fun _ _ _ _ _ z => z
end L2
namespace L2
open PySem
noncomputable def mkSc (l : List (Str × NameKind)) : Scope := { kind := .function, names := l, isGenerator := false, isCoroutine := false, more := [] }
end L2

namespace L2
open PySem
theorem bt_len : bootBuiltins "len" = some (.builtin "len") := by decide +kernel
theorem bt_all : bootBuiltins "all" = some (.builtin "all") := by decide +kernel
theorem bt_isinstance : bootBuiltins "isinstance" = some (.builtin "isinstance") := by decide +kernel
theorem bt_abs : bootBuiltins "abs" = some (.builtin "abs") := by decide +kernel
theorem bt_max : bootBuiltins "max" = some (.builtin "max") := by decide +kernel
theorem bt_int : bootBuiltins "int" = some (.type "int") := by decide +kernel
theorem bt_str : bootBuiltins "str" = some (.type "str") := by decide +kernel
theorem bt_bool : bootBuiltins "bool" = some (.type "bool") := by decide +kernel
theorem bt_list : bootBuiltins "list" = some (.type "list") := by decide +kernel
theorem bt_tuple : bootBuiltins "tuple" = some (.type "tuple") := by decide +kernel
end L2

set_option Elab.async false
set_option linter.all false
set_option maxRecDepth 100000
set_option maxHeartbeats 4000000
namespace L2
open PySem PySem.Spec PyProof.Rows

theorem szl {n : Nat} (h : n ≤ 1000000) : n ≤ sizeLine := by rw [sizeLine_eq]; omega
theorem szlt {n : Nat} (h : n < 1000000) : n < sizeLine := by rw [sizeLine_eq]; omega
theorem same_new {H : Hp} {p : Addr} (h : H p = none) (o : HO) : Same H (upd H p o) := fun b u q => by rw [upd_ne (ne_of_none q h)]; exact q
theorem Same.seqT {K : PySem.W.Frag} {H H' : Hp} {a : Addr} {xs : List V} (e : Same H H') (h : SqT K H a xs) : SqT K H' a xs := by
  rcases h with h | h
  · rcases h with h | ⟨o, h⟩
    · exact .inl (.inl (e _ _ h))
    · exact .inl (.inr ⟨o, e _ _ h⟩)
  · exact .inr h
theorem dT {p : Prop} [Decidable p] (h : decide p = true) : p := of_decide_eq_true h
theorem dF {p : Prop} [Decidable p] (h : ¬ decide p = true) : ¬ p := fun z => h (decide_eq_true z)

noncomputable def spCell (K : PySem.W.Frag) : Sp := fun vs H Q _ => ∃ (a : Addr) (ns : List Int) (k : Int), vs = [.ref a, .int k] ∧ SqL K H a (ns.map V.int) ∧ 0 ≤ k ∧ Q (.int (ns.getD k.toNat 0)) H
theorem cell_in {ns : List Int} {k : Int} (h0 : 0 ≤ k) (h : k < (ns.length : Int)) : atI (ns.map V.int) k = some (.int (ns.getD k.toNat 0)) := by
  have hk : k.toNat < ns.length := by omega
  have ek : k = ((k.toNat : Nat) : Int) := by omega
  have q : atI (ns.map V.int) ((k.toNat : Nat) : Int) = some (.int (ns.getD k.toNat 0)) := atI_nat (by rw [List.getElem?_map, List.getElem?_eq_getElem hk]; simp [List.getD_eq_getElem?_getD, hk])
  rw [← ek] at q
  exact q
theorem cell_out {ns : List Int} {k : Int} (h : ¬ k < (ns.length : Int)) : ns.getD k.toNat 0 = 0 := by rw [List.getD_eq_getElem?_getD, List.getElem?_eq_none (by omega)]; rfl
noncomputable def isInt : V → Bool
  | .int _ => true
  | _ => false
noncomputable def plainV : V → Bool
  | .int _ => true
  | .bl _ => true
  | .non => true
  | .str _ => true
  | _ => false
noncomputable def spWhole : Sp := fun vs H Q _ => ∃ x, vs = [x] ∧ plainV x = true ∧ Q (.bl (isInt x)) H
noncomputable def spMade : Sp := fun vs H Q _ => ∃ z y : Str, vs = [.str z, .str y] ∧ z.length ≤ 1000 ∧ ∀ H', Same H H' → Q (.bl (decide (∀ c ∈ cds z, c ∈ cds y))) H'
noncomputable def GoodN (l : List Nat) : Prop := 1 ≤ l.length ∧ l.length ≤ 18 ∧ ¬ (l.head? = some 48 ∧ 1 < l.length) ∧ ∀ c ∈ l, 48 ≤ c ∧ c ≤ 57
instance (l : List Nat) : Decidable (GoodN l) := by unfold GoodN; infer_instance
noncomputable def numV (l : List Nat) : V := if GoodN l then .int ((NumText.digitsVal l : Nat) : Int) else .non
noncomputable def spNum : Sp := fun vs H Q _ => ∃ z : Str, vs = [.str z] ∧ z.length ≤ 1000 ∧ ∀ H', Same H H' → Q (numV (cds z)) H'
theorem cds_figs : cds "0123456789" = [48, 49, 50, 51, 52, 53, 54, 55, 56, 57] := by decide +kernel
theorem mem_figs (c : Nat) : c ∈ cds "0123456789" ↔ 48 ≤ c ∧ c ≤ 57 := by
  rw [cds_figs]
  simp
  omega
theorem take_snoc {α : Type} {l : List α} {i : Nat} {c : α} (h : l[i]? = some c) : l.take (i + 1) = l.take i ++ [c] := by
  rw [List.take_succ, h]; rfl
theorem cds_zero {z : Str} : z = "0" ↔ cds z = [48] := ⟨fun h => by rw [h]; decide +kernel, fun h => cds_ext (by rw [h]; decide +kernel)⟩
theorem cds_empty {z : Str} : z = "" ↔ cds z = [] := ⟨fun h => by rw [h]; decide +kernel, fun h => cds_ext (by rw [h]; decide +kernel)⟩
end L2
namespace L2
open PySem
end L2
namespace L2
open PySem
theorem seq_any {t u : TS} {D : Ends} {σ : St} {H : Hp} (M : St → Hp → Prop) (hu : ∀ σ' H', M σ' H' → u D σ' H') (ht : (∀ σ' H', M σ' H' → u D σ' H') → t { D with nx := u D } σ H) : tSeq t u D σ H := ht hu
theorem ndF {p : Prop} [Decidable p] (h : p) : (!decide p) = false := by rw [decide_eq_true h]; rfl
theorem iteE {b : Bool} {A B : Prop} {v : Bool} (e : b = v) (h : if v = true then A else B) : if b = true then A else B := by rw [e]; exact h
end L2
namespace L2
open PySem
theorem len_sOf (l : List Nat) : (sOf l).length = l.length := by rw [← cds_len, cds_sOf]
theorem len_app (x y : Str) : (x ++ y).length = x.length + y.length := Str.length_append x y
end L2

set_option Elab.async false
set_option linter.all false
set_option maxRecDepth 100000
set_option maxHeartbeats 4000000
namespace L2
open PySem PySem.Spec PyProof.Rows

set_option genInjectivity true in
inductive Tr where
  | v (x : V)
  | lst (l : List Tr)
  | tup (l : List Tr)
mutual
inductive TrIs (K : PySem.W.Frag) (H : Hp) : V → Tr → Prop
  | flat {x : V} : flatV x = true → TrIs K H x (.v x)
  | lst {p : Addr} {xs : List V} {l : List Tr} : SqL K H p xs → TrsIs K H xs l → TrIs K H (.ref p) (.lst l)
  | tup {p : Addr} {xs : List V} {l : List Tr} : SqT K H p xs → TrsIs K H xs l → TrIs K H (.ref p) (.tup l)
inductive TrsIs (K : PySem.W.Frag) (H : Hp) : List V → List Tr → Prop
  | nil : TrsIs K H [] []
  | cons {x : V} {t : Tr} {xs : List V} {l : List Tr} : TrIs K H x t → TrsIs K H xs l → TrsIs K H (x :: xs) (t :: l)
end
mutual
noncomputable def eqT : Tr → Tr → Bool
  | .v x, .v y => eqV x y
  | .lst l, .lst m => eqTs l m
  | .tup l, .tup m => eqTs l m
  | _, _ => false
noncomputable def eqTs : List Tr → List Tr → Bool
  | [], [] => true
  | x :: l, y :: m => eqT x y && eqTs l m
  | _, _ => false
end
mutual
noncomputable def simT : Tr → Tr → Bool
  | .v _, .v _ => true
  | .lst l, .lst m => simTs l m
  | .tup l, .tup m => simTs l m
  | _, _ => false
noncomputable def simTs : List Tr → List Tr → Bool
  | x :: l, y :: m => simT x y && simTs l m
  | _, _ => true
end
mutual
noncomputable def depT : Tr → Nat
  | .v _ => 0
  | .lst l => depTs l + 1
  | .tup l => depTs l + 1
noncomputable def depTs : List Tr → Nat
  | [] => 0
  | x :: l => max (depT x) (depTs l)
end
theorem eqV_refl {x : V} (h : flatV x = true) : eqV x x = true := by
  cases x <;> first | rfl | (simp [eqV]; done) | (simp [flatV] at h)
mutual
/-- a tree of flat values -/
noncomputable def okT : Tr → Bool
  | .v x => flatV x
  | .lst l => okTs l
  | .tup l => okTs l
noncomputable def okTs : List Tr → Bool
  | [] => true
  | x :: l => okT x && okTs l
end
mutual
theorem eqT_refl : ∀ t : Tr, okT t = true → eqT t t = true
  | .v x, h => by rw [eqT]; exact eqV_refl (by simpa [okT] using h)
  | .lst l, h => by rw [eqT]; exact eqTs_refl l (by simpa [okT] using h)
  | .tup l, h => by rw [eqT]; exact eqTs_refl l (by simpa [okT] using h)
theorem eqTs_refl : ∀ l : List Tr, okTs l = true → eqTs l l = true
  | [], _ => by rw [eqTs]
  | x :: l, h => by
    rw [okTs, Bool.and_eq_true] at h
    rw [eqTs, eqT_refl x h.1, eqTs_refl l h.2]; rfl
end
mutual
theorem simT_refl : ∀ t : Tr, simT t t = true
  | .v x => by rw [simT]
  | .lst l => by rw [simT]; exact simTs_refl l
  | .tup l => by rw [simT]; exact simTs_refl l
theorem simTs_refl : ∀ l : List Tr, simTs l l = true
  | [] => by simp [simTs]
  | x :: l => by rw [simTs, simT_refl x, simTs_refl l]; rfl
end
mutual
theorem TrIs.ok {K : PySem.W.Frag} {H : Hp} : ∀ {x : V} {t : Tr}, TrIs K H x t → okT t = true
  | _, _, h => by
    cases h with
    | flat h => rw [okT]; exact h
    | lst _ h => rw [okT]; exact h.ok
    | tup _ h => rw [okT]; exact h.ok
theorem TrsIs.ok {K : PySem.W.Frag} {H : Hp} : ∀ {xs : List V} {l : List Tr}, TrsIs K H xs l → okTs l = true
  | _, _, h => by
    cases h with
    | nil => rw [okTs]
    | cons h r => rw [okTs, h.ok, r.ok]; rfl
end
theorem TrsIs.length {K : PySem.W.Frag} {H : Hp} : ∀ {xs : List V} {l : List Tr}, TrsIs K H xs l → xs.length = l.length
  | _, _, h => by
    cases h with
    | nil => rfl
    | cons _ r => simp [r.length]
theorem eqTs_len : ∀ {l m : List Tr}, l.length ≠ m.length → eqTs l m = false
  | [], [], h => absurd rfl h
  | [], _ :: _, _ => by rw [eqTs] <;> simp
  | _ :: _, [], _ => by rw [eqTs] <;> simp
  | x :: l, y :: m, h => by
    rw [eqTs, eqTs_len (l := l) (m := m) (fun e => h (by simp [e])), Bool.and_false]
section
variable {X : Cx} {pins : List (Addr × Obj)} {σ : St} {H : Hp} {s : Shared}
mutual
theorem TrIs.inj (I : Inv X pins σ H s) : ∀ {t t' : Tr} {x : V}, TrIs X.K H x t → TrIs X.K H x t' → t = t'
  | _, _, _, h, h' => by
    cases h with
    | flat h =>
      cases h' with
      | flat _ => rfl
      | lst _ _ => cases h
      | tup _ _ => cases h
    | lst hq hr =>
      cases h' with
      | flat h => cases h
      | lst hq' hr' =>
        have e := I.list_inj hq hq'
        subst e
        rw [TrsIs.inj I hr hr']
      | tup hq' hr' =>
        obtain ⟨_, _, ⟨o, n, e1, c1, _⟩, _⟩ := I.list hq
        obtain ⟨_, _, ⟨o', e2, c2, _⟩, _⟩ := I.tuple hq'
        rw [e1] at e2; cases e2
        rw [c1] at c2; simp at c2
    | tup hq hr =>
      cases h' with
      | flat h => cases h
      | tup hq' hr' =>
        have e := I.tuple_inj hq hq'
        subst e
        rw [TrsIs.inj I hr hr']
      | lst hq' hr' =>
        obtain ⟨_, _, ⟨o, n, e1, c1, _⟩, _⟩ := I.list hq'
        obtain ⟨_, _, ⟨o', e2, c2, _⟩, _⟩ := I.tuple hq
        rw [e1] at e2; cases e2
        rw [c1] at c2; simp at c2
theorem TrsIs.inj (I : Inv X pins σ H s) : ∀ {l l' : List Tr} {xs : List V}, TrsIs X.K H xs l → TrsIs X.K H xs l' → l = l'
  | _, _, _, h, h' => by
    cases h with
    | nil =>
      cases h'
      rfl
    | cons h r =>
      cases h' with
      | cons h2 r2 => rw [TrIs.inj I h h2, TrsIs.inj I r r2]
end
theorem range_all_eq {α : Type} {e : Nat → Bool} {f : α → Bool} : ∀ {l : List α}, (∀ j x, l[j]? = some x → e j = f x) → (List.range l.length).all e = l.all f := by
  intro l h
  rw [Bool.eq_iff_iff]
  simp only [List.all_eq_true, List.mem_range]
  constructor
  · intro q x hx
    obtain ⟨i, hi, hx⟩ := List.mem_iff_getElem.mp hx
    rw [← h i x (by rw [List.getElem?_eq_getElem hi, hx])]
    exact q i hi
  · intro q i hi
    rw [h i l[i] (List.getElem?_eq_getElem hi)]
    exact q _ (List.getElem_mem hi)
theorem eqTs_zip : ∀ {l m : List Tr}, l.length = m.length → eqTs l m = (l.zip m).all fun p => eqT p.1 p.2
  | [], [], _ => by rw [eqTs]; rfl
  | [], _ :: _, h => by simp at h
  | _ :: _, [], h => by simp at h
  | x :: l, y :: m, h => by
    rw [eqTs, eqTs_zip (l := l) (m := m) (by simpa using h)]
    rfl
theorem TrsIs.at {K : PySem.W.Frag} {H : Hp} : ∀ {xs : List V} {l : List Tr} {j : Nat} {t : Tr}, TrsIs K H xs l → l[j]? = some t → ∃ x, xs[j]? = some x ∧ TrIs K H x t
  | _, _, _, _, .nil, h => by simp at h
  | _, _, 0, _, .cons h _, e => by simp at e; subst e; exact ⟨_, rfl, h⟩
  | _, _, j + 1, _, .cons _ r, e => by
    obtain ⟨x, h1, h2⟩ := r.at (j := j) (by simpa using e)
    exact ⟨x, by simpa using h1, h2⟩
theorem simTs_at : ∀ {l m : List Tr} {j : Nat} {t t' : Tr}, simTs l m = true → l[j]? = some t → m[j]? = some t' → simT t t' = true
  | [], _, _, _, _, _, h, _ => by simp at h
  | _ :: _, [], _, _, _, _, _, h => by simp at h
  | x :: l, y :: m, 0, t, t', h, e1, e2 => by
    simp at e1 e2; subst e1 e2
    rw [simTs, Bool.and_eq_true] at h; exact h.1
  | x :: l, y :: m, j + 1, t, t', h, e1, e2 => by
    rw [simTs, Bool.and_eq_true] at h
    exact simTs_at (j := j) h.2 (by simpa using e1) (by simpa using e2)
theorem depTs_at : ∀ {l : List Tr} {j : Nat} {t : Tr}, l[j]? = some t → depT t ≤ depTs l
  | [], _, _, h => by simp at h
  | x :: l, 0, t, h => by simp at h; subst h; rw [depTs]; omega
  | x :: l, j + 1, t, h => by
    have := depTs_at (l := l) (j := j) (t := t) (by simpa using h)
    rw [depTs]; omega
theorem items_eq {A : Around} {l m : List Tr} {xs ys : List V} {its jts : List Value} (hr : TrsIs X.K H xs l) (hr' : TrsIs X.K H ys m) (rv : Vals xs its) (rv' : Vals ys jts)
    (ih : ∀ (j : Nat) (t t' : Tr) (x y : V) (u v : Value), l[j]? = some t → m[j]? = some t' → TrIs X.K H x t → RelV x u → TrIs X.K H y t' → RelV y v → SeqAt.EqAt A.in1 s u v (eqT t t')) :
    ∀ j (h1 : j < its.toArray.size) (h2 : j < jts.toArray.size), SeqAt.EqAt A.in1 s its.toArray[j] jts.toArray[j] (match l[j]?, m[j]? with | some t, some t' => eqT t t' | _, _ => true) := by
  intro j h1 h2
  have l1 := hr.length; have l2 := hr'.length; have l3 := rv.length; have l4 := rv'.length
  rw [List.size_toArray] at h1 h2
  obtain ⟨t, ht⟩ : ∃ t, l[j]? = some t := ⟨l[j]'(by omega), List.getElem?_eq_getElem (by omega)⟩
  obtain ⟨t', ht'⟩ : ∃ t', m[j]? = some t' := ⟨m[j]'(by omega), List.getElem?_eq_getElem (by omega)⟩
  obtain ⟨x, hx, hxt⟩ := hr.at ht
  obtain ⟨y, hy, hyt⟩ := hr'.at ht'
  obtain ⟨u, hu, ru⟩ := rv.get hx
  obtain ⟨v, hv, rw'⟩ := rv'.get hy
  rw [ht, ht']
  have e1 : its.toArray[j] = u := by
    have := List.getElem?_eq_getElem (l := its) (i := j) h1
    rw [hu] at this
    simpa using (Option.some.inj this).symm
  have e2 : jts.toArray[j] = v := by
    have := List.getElem?_eq_getElem (l := jts) (i := j) h2
    rw [hv] at this
    simpa using (Option.some.inj this).symm
  rw [e1, e2]
  exact ih j t t' x y u v ht ht' hxt ru hyt rw'
theorem all_items {l m : List Tr} (h : l.length = m.length) : (List.range l.length).all (fun j => match l[j]?, m[j]? with | some t, some t' => eqT t t' | _, _ => true) = eqTs l m := by
  rw [eqTs_zip h]
  have e : l.length = (l.zip m).length := by rw [List.length_zip]; omega
  rw [e]
  refine range_all_eq fun j p hp => ?_
  obtain ⟨h1, h2⟩ := List.getElem?_zip_eq_some.mp hp
  rw [h1, h2]
theorem RcAt_lists {A : Around} {p q : Addr} {xs ys : List V} {l m : List Tr} (I : Inv X pins σ H s) (hu : A.units < cLine) (hq : SqL X.K H p xs) (hr : TrsIs X.K H xs l) (hq' : SqL X.K H q ys) (hr' : TrsIs X.K H ys m)
    (ih : ∀ (j : Nat) (t t' : Tr) (x y : V) (u v : Value), l[j]? = some t → m[j]? = some t' → TrIs X.K H x t → RelV x u → TrIs X.K H y t' → RelV y v → SeqAt.EqAt A.in1 s u v (eqT t t')) :
    SeqAt.RcAt A s (.ref p) (.ref q) (eqTs l m) ∧ SeqAt.RcNeAt A s (.ref p) (.ref q) (!eqTs l m) := by
  obtain ⟨its, rv, pl, _⟩ := I.list hq
  obtain ⟨jts, rv', pl', _⟩ := I.list hq'
  have l1 := hr.length; have l2 := hr'.length; have l3 := rv.length; have l4 := rv'.length
  by_cases hl : l.length = m.length
  · have e : its.toArray.size = l.length := by rw [List.size_toArray]; omega
    have a := SeqAt.RcAt.lists (A := A) pl.isList pl'.isList (by rw [List.size_toArray, List.size_toArray]; omega) hu (items_eq hr hr' rv rv' ih)
    have b := SeqAt.RcNeAt.lists (A := A) pl.isList pl'.isList (by rw [List.size_toArray, List.size_toArray]; omega) hu (items_eq hr hr' rv rv' ih)
    rw [e, all_items hl] at a b
    exact ⟨a, b⟩
  · rw [eqTs_len hl]
    have hne : (its.toArray.size != jts.toArray.size) = true := by
      rw [List.size_toArray, List.size_toArray]
      simp only [bne_iff_ne, ne_eq]; omega
    exact ⟨SeqAt.RcAt.lists_lengths pl.isList pl'.isList hne hu, SeqAt.RcNeAt.lists_lengths pl.isList pl'.isList hne hu⟩
theorem RcAt_tuples {A : Around} {p q : Addr} {xs ys : List V} {l m : List Tr} (I : Inv X pins σ H s) (hu : A.units < cLine) (hq : SqT X.K H p xs) (hr : TrsIs X.K H xs l) (hq' : SqT X.K H q ys) (hr' : TrsIs X.K H ys m)
    (ih : ∀ (j : Nat) (t t' : Tr) (x y : V) (u v : Value), l[j]? = some t → m[j]? = some t' → TrIs X.K H x t → RelV x u → TrIs X.K H y t' → RelV y v → SeqAt.EqAt A.in1 s u v (eqT t t')) :
    SeqAt.RcAt A s (.ref p) (.ref q) (eqTs l m) ∧ SeqAt.RcNeAt A s (.ref p) (.ref q) (!eqTs l m) := by
  obtain ⟨its, rv, pl, _⟩ := I.tuple hq
  obtain ⟨jts, rv', pl', _⟩ := I.tuple hq'
  have l1 := hr.length; have l2 := hr'.length; have l3 := rv.length; have l4 := rv'.length
  have a := SeqAt.RcAt.tuples (A := A) (show s.heap.IsTuple p its.toArray from pl) (show s.heap.IsTuple q jts.toArray from pl') hu (items_eq hr hr' rv rv' ih)
  have b := SeqAt.RcNeAt.tuples (A := A) (show s.heap.IsTuple p its.toArray from pl) (show s.heap.IsTuple q jts.toArray from pl') hu (items_eq hr hr' rv rv' ih)
  have e : ((List.range (min its.toArray.size jts.toArray.size)).all (fun j => match l[j]?, m[j]? with | some t, some t' => eqT t t' | _, _ => true) && its.toArray.size == jts.toArray.size) = eqTs l m := by
    by_cases hl : l.length = m.length
    · have e1 : min its.toArray.size jts.toArray.size = l.length := by rw [List.size_toArray, List.size_toArray]; omega
      have e2 : (its.toArray.size == jts.toArray.size) = true := by rw [List.size_toArray, List.size_toArray]; simp; omega
      rw [e1, e2, all_items hl, Bool.and_true]
    · have e2 : (its.toArray.size == jts.toArray.size) = false := by rw [List.size_toArray, List.size_toArray]; simp; omega
      rw [e2, eqTs_len hl, Bool.and_false]
  rw [e] at a b
  exact ⟨a, b⟩
theorem eqAt_T (I : Inv X pins σ H s) (n : Nat) : ∀ (A : Around) (t t' : Tr) (x y : V) (u v : Value), depT t ≤ n → A.units + n < cLine → simT t t' = true → TrIs X.K H x t → RelV x u → TrIs X.K H y t' → RelV y v → SeqAt.EqAt A s u v (eqT t t') := by
  induction n with
  | zero =>
    intro A t t' x y u v hd hu hs hx rx hy ry
    cases hx with
    | flat fx =>
      cases hy with
      | flat fy => rw [eqT]; exact eqAt_V rx ry fx fy
      | lst _ _ => simp [simT] at hs
      | tup _ _ => simp [simT] at hs
    | lst _ _ => simp [depT] at hd
    | tup _ _ => simp [depT] at hd
  | succ n ih =>
    intro A t t' x y u v hd hu hs hx rx hy ry
    cases hx with
    | flat fx =>
      cases hy with
      | flat fy => rw [eqT]; exact eqAt_V rx ry fx fy
      | lst _ _ => simp [simT] at hs
      | tup _ _ => simp [simT] at hs
    | @lst p xs l hq hr =>
      cases hy with
      | flat fy => simp [simT] at hs
      | tup _ _ => simp [simT] at hs
      | @lst q ys m hq' hr' =>
        cases rx; cases ry
        rw [depT] at hd
        rw [simT] at hs
        by_cases e : p = q
        · subst e
          have e1 := TrIs.inj I (TrIs.lst hq hr) (TrIs.lst hq' hr')
          rw [← e1, eqT_refl _ (TrIs.lst hq hr).ok]
          exact SeqAt.EqAt.same _
        · rw [eqT]
          refine SeqAt.EqAt.of_refs e (RcAt_lists I (by omega) hq hr hq' hr' fun j t t' x y u v h1 h2 h3 h4 h5 h6 => ?_).1
          exact ih A.in1 t t' x y u v (by have := depTs_at h1; omega) (by show A.units + 1 + n < cLine; omega) (simTs_at hs h1 h2) h3 h4 h5 h6
    | @tup p xs l hq hr =>
      cases hy with
      | flat fy => simp [simT] at hs
      | lst _ _ => simp [simT] at hs
      | @tup q ys m hq' hr' =>
        cases rx; cases ry
        rw [depT] at hd
        rw [simT] at hs
        by_cases e : p = q
        · subst e
          have e1 := TrIs.inj I (TrIs.tup hq hr) (TrIs.tup hq' hr')
          rw [← e1, eqT_refl _ (TrIs.tup hq hr).ok]
          exact SeqAt.EqAt.same _
        · rw [eqT]
          refine SeqAt.EqAt.of_refs e (RcAt_tuples I (by omega) hq hr hq' hr' fun j t t' x y u v h1 h2 h3 h4 h5 h6 => ?_).1
          exact ih A.in1 t t' x y u v (by have := depTs_at h1; omega) (by show A.units + 1 + n < cLine; omega) (simTs_at hs h1 h2) h3 h4 h5 h6
end

section
variable {X : Cx}
noncomputable def rEqX (K : PySem.W.Frag) (neg : Bool) : R2 := fun x y H Q => ∃ t t', TrIs K H x t ∧ TrIs K H y t' ∧ (∃ p, x = .ref p) ∧ (∃ p, y = .ref p) ∧ simT t t' = true ∧ depT t ≤ 60 ∧ Q (.bl (if neg then !eqT t t' else eqT t t')) H
theorem eqX_aux {neg : Bool} (hu : X.A.units + 64 < cLine) : OpR X (compareOp (if neg then .NotEq else .Eq)) (rEqX X.K neg) := by
  intro pins s σ H x y v u Q I rx ry h
  obtain ⟨t, t', hx, hy, ⟨p, rfl⟩, ⟨q, rfl⟩, hs, hd, q'⟩ := h
  cases rx; cases ry
  have done : ∀ l m, SeqAt.RcAt X.A s (.ref p) (.ref q) (eqTs l m) ∧ SeqAt.RcNeAt X.A s (.ref p) (.ref q) (!eqTs l m) → Q (.bl (if neg then !eqTs l m else eqTs l m)) H →
      wpAny (model X.prog X.w) X.A (compareOp (if neg then .NotEq else .Eq) (.ref p) (.ref q)) (EP X pins σ Q) X.xe s := fun l m hb hq => by
    cases neg with
    | false => exact hb.1 X.prog X.w X.xe _ ⟨.bl _, H, I, rfl, hq⟩
    | true => exact hb.2 X.prog X.w X.xe _ ⟨.bl _, H, I, rfl, hq⟩
  cases hx with
  | flat fx => cases fx
  | @lst _ xs l hq hr =>
    cases hy with
    | flat fy => cases fy
    | tup _ _ => simp [simT] at hs
    | @lst _ ys m hq' hr' =>
      rw [depT] at hd
      rw [simT] at hs
      rw [eqT] at q'
      refine done l m (RcAt_lists I (by omega) hq hr hq' hr' fun j t t' x y u v h1 h2 h3 h4 h5 h6 => ?_) q'
      exact eqAt_T I 60 X.A.in1 t t' x y u v (by have := depTs_at h1; omega) (by show X.A.units + 1 + 60 < cLine; omega) (simTs_at hs h1 h2) h3 h4 h5 h6
  | @tup _ xs l hq hr =>
    cases hy with
    | flat fy => cases fy
    | lst _ _ => simp [simT] at hs
    | @tup _ ys m hq' hr' =>
      rw [depT] at hd
      rw [simT] at hs
      rw [eqT] at q'
      refine done l m (RcAt_tuples I (by omega) hq hr hq' hr' fun j t t' x y u v h1 h2 h3 h4 h5 h6 => ?_) q'
      exact eqAt_T I 60 X.A.in1 t t' x y u v (by have := depTs_at h1; omega) (by show X.A.units + 1 + 60 < cLine; omega) (simTs_at hs h1 h2) h3 h4 h5 h6
theorem op_neS (hu : X.A.units + 64 < cLine) : OpR X (compareOp .NotEq) (rEqX X.K true) := eqX_aux (neg := true) hu
theorem hu64 {A : Around} {k : Nat} (hr : Room k A) : A.units + 64 < cLine := by have := hr.un; omega
end
end L2

set_option Elab.async false
set_option linter.all false
set_option maxRecDepth 100000
set_option maxHeartbeats 4000000
namespace L2
open PySem PySem.Spec PyProof.Rows

section
variable {X : Cx}
end

end L2

set_option Elab.async false
set_option linter.all false
set_option maxRecDepth 100000
set_option maxHeartbeats 4000000
namespace L2
open PySem PySem.Spec PyProof.Rows

noncomputable def stepS (x : Int) (k : Int) : Int := (x * x + 48271 * x + k) % 2147483647
noncomputable def seqS (x k : Int) : Nat → List Int
  | 0 => []
  | n + 1 => stepS x k :: seqS (stepS x k) (k + 1) n
theorem seqS_len (x k : Int) (n : Nat) : (seqS x k n).length = n := by
  induction n generalizing x k with
  | zero => rfl
  | succ n ih => simp [seqS, ih]
theorem seqS_mem {x k y : Int} {n : Nat} (h : y ∈ seqS x k n) : 0 ≤ y ∧ y < 2147483647 := by
  induction n generalizing x k with
  | zero => cases h
  | succ n ih =>
    rcases List.mem_cons.mp h with rfl | h
    · exact ⟨Int.emod_nonneg _ (by decide), Int.emod_lt_of_pos _ (by decide)⟩
    · exact ih h
noncomputable def lastS (x k : Int) : Nat → Int
  | 0 => x
  | n + 1 => lastS (stepS x k) (k + 1) n
theorem lastS_succ (x k : Int) (n : Nat) : lastS x k (n + 1) = stepS (lastS x k n) (k + n) := by
  induction n generalizing x k with
  | zero => simp [lastS]
  | succ n ih =>
    rw [lastS, ih, lastS]
    congr 1
    omega
theorem seqS_snoc (x k : Int) (n : Nat) : seqS x k (n + 1) = seqS x k n ++ [lastS x k (n + 1)] := by
  induction n generalizing x k with
  | zero => simp [seqS, lastS]
  | succ n ih =>
    rw [seqS, ih, seqS, List.cons_append]
    rfl
noncomputable def seedS (c : Int) : Int := c % 2147483647 + 48271
noncomputable def strm (c : Int) (n : Nat) : List Int := (seqS (seedS c) 0 (n + 1)).drop 1
theorem strm_len (c : Int) (n : Nat) : (strm c n).length = n := by unfold strm; rw [List.length_drop, seqS_len]; omega
theorem strm_mem {c y : Int} {n : Nat} (h : y ∈ strm c n) : 0 ≤ y ∧ y < 2147483647 := seqS_mem (List.mem_of_mem_drop h)
noncomputable def spStream : Sp := fun vs H Q _ => ∃ (c n : Int), vs = [.int c, .int n] ∧ 0 ≤ n ∧ n ≤ 1000 ∧ ∀ (r : Addr) (H' : Hp), Same H H' → H' r = some (.lst ((strm c n.toNat).map V.int)) → Q (.ref r) H'
theorem step_bound {x : Int} (h0 : 0 ≤ x) (h1 : x < 2147531918) : -(2 ^ 64 : Int) < x ∧ x < 2 ^ 64 := by
  have : (2 : Int) ^ 64 = 18446744073709551616 := by decide
  omega
theorem seed_bound (c : Int) : 0 ≤ seedS c ∧ seedS c < 2147531918 := by
  have h0 := Int.emod_nonneg c (show (2147483647 : Int) ≠ 0 by decide)
  have h1 := Int.emod_lt_of_pos c (show (0 : Int) < 2147483647 by decide)
  unfold seedS; omega
theorem last_bound (c : Int) (n : Nat) : 0 ≤ lastS (seedS c) 0 n ∧ lastS (seedS c) 0 n < 2147531918 := by
  cases n with
  | zero => exact seed_bound c
  | succ n =>
    rw [lastS_succ]
    unfold stepS
    have h0 := Int.emod_nonneg (lastS (seedS c) 0 n * lastS (seedS c) 0 n + 48271 * lastS (seedS c) 0 n + (0 + (n : Int))) (show (2147483647 : Int) ≠ 0 by decide)
    have h1 := Int.emod_lt_of_pos (lastS (seedS c) 0 n * lastS (seedS c) 0 n + 48271 * lastS (seedS c) 0 n + (0 + (n : Int))) (show (0 : Int) < 2147483647 by decide)
    omega
theorem cut1 {α : Type} (l : List α) : (l.drop (HT.sIx l.length 0 (some 1))).take (HT.sIx l.length l.length none - HT.sIx l.length 0 (some 1)) = l.drop 1 := by
  rw [show HT.sIx l.length 0 (some (1 : Int)) = min 1 l.length from HT.sIx_nat _ _ 1, HT.sIx_none]
  cases l with
  | nil => rfl
  | cons a r =>
    have e : min 1 (a :: r).length = 1 := by simp
    rw [e]
    simp
theorem cutV_1 (xs : List Int) : cutV (xs.map V.int) (some 1) none = (xs.drop 1).map V.int := by
  unfold cutV
  rw [cut1, List.map_drop]

theorem cds_join0 : ∀ ys : List Str, cds (Txt.join "" ys) = (ys.map cds).flatten := by
  intro ys
  show cds (Builtin.Str.glued "" ys) = _
  rw [StrLaws.glued_eq_join]
  induction ys with
  | nil => rfl
  | cons y r ih =>
    cases r with
    | nil => simp [Str.join]
    | cons z r =>
      show cds (y ++ "" ++ Str.join "" (z :: r)) = _
      rw [cds_app, cds_app, ih]
      have : cds ("" : Str) = [] := by decide +kernel
      rw [this, List.append_nil]
      rfl
noncomputable abbrev abc : Str := "abcdefghijklmnopqrstuvwxyz"
theorem cds_abc : cds abc = (List.range 26).map (97 + ·) := by decide +kernel
noncomputable def letC (x : Int) : Nat := 97 + (x % 26).toNat
theorem abc_at (x : Int) : atI (cds abc) (x % 26) = some (letC x) := by
  have h0 := Int.emod_nonneg x (show (26 : Int) ≠ 0 by decide)
  have h1 := Int.emod_lt_of_pos x (show (0 : Int) < 26 by decide)
  have e : x % 26 = (((x % 26).toNat : Nat) : Int) := by omega
  rw [e]
  refine atI_nat ?_
  rw [cds_abc, List.getElem?_map, List.getElem?_range (by omega)]
  rfl
theorem abc_len : abc.length ≤ sizeLine := szl (by decide +kernel)
noncomputable def nameW (xs : List Int) : List Nat := (xs.drop 2).map letC
noncomputable def nameLong (xs : List Int) : Int := 1 + xs.getD 1 0 % 8
noncomputable def nameAt (xs : List Int) : Int := xs.getD 1 0 / 8 % nameLong xs
noncomputable def nameA (xs : List Int) (w : List Nat) (k : Int) : List Nat := w.take (nameAt xs).toNat ++ [letC (xs.getD (2 + nameAt xs).toNat 0 + k)] ++ (w.drop (nameAt xs + 1).toNat).take ((nameLong xs).toNat - (nameAt xs + 1).toNat)
noncomputable def nameB (xs : List Int) (w : List Nat) (k : Int) : List Nat := w.take (1 + (nameLong xs + 3 * k) % 8).toNat
noncomputable def nameRaw (xs : List Int) (w : List Nat) (k : Int) : List Nat := if xs.getD 0 0 % 2 = 0 then nameB xs w k else nameA xs w k
noncomputable def resv : List (List Nat) := [cds "for", cds "end", cds "size"]
noncomputable def nameC (xs : List Int) (w : List Nat) (k : Int) : List Nat := if nameRaw xs w k ∈ resv then [122, 122] ++ nameRaw xs w k else nameRaw xs w k
theorem long_b (xs : List Int) : 1 ≤ nameLong xs ∧ nameLong xs ≤ 8 := by
  have h0 := Int.emod_nonneg (xs.getD 1 0) (show (8 : Int) ≠ 0 by decide)
  have h1 := Int.emod_lt_of_pos (xs.getD 1 0) (show (0 : Int) < 8 by decide)
  unfold nameLong; omega
theorem at_b (xs : List Int) : 0 ≤ nameAt xs ∧ nameAt xs < nameLong xs := by
  have := long_b xs
  exact ⟨Int.emod_nonneg _ (by omega), Int.emod_lt_of_pos _ (by omega)⟩
theorem nameW_len {xs : List Int} (h : xs.length = 10) : (nameW xs).length = 8 := by unfold nameW; rw [List.length_map, List.length_drop, h]
theorem in_resv (z : List Nat) : inV (.str (sOf z)) [.str "for", .str "end", .str "size"] = decide (z ∈ resv) := by
  have key : ∀ y : Str, eqV (.str y) (.str (sOf z)) = decide (z = cds y) := fun y => by
    show (y == sOf z) = _
    rw [Bool.eq_iff_iff]
    simp only [beq_iff_eq, decide_eq_true_eq]
    exact ⟨fun e => by rw [e, cds_sOf], fun e => by rw [e, sOf_cds]⟩
  unfold inV resv
  simp only [List.any_cons, List.any_nil, key, Bool.or_false]
  rw [Bool.eq_iff_iff]
  simp
theorem cut_to {α : Type} (l : List α) {k : Int} (h : 0 ≤ k) : cutC l none (some k) = l.take k.toNat := by
  unfold cutC
  have e : k = ((k.toNat : Nat) : Int) := by omega
  rw [HT.sIx_none, e, HT.sIx_nat, List.drop_zero, Nat.sub_zero]
  rw [show (((k.toNat : Nat) : Int)).toNat = k.toNat by omega]
  by_cases h : k.toNat ≤ l.length
  · rw [Nat.min_eq_left h]
  · rw [Nat.min_eq_right (by omega), List.take_of_length_le (by omega), List.take_of_length_le (by omega)]
theorem cut_mid {α : Type} (l : List α) {i j : Int} (hi : 0 ≤ i) (hj : 0 ≤ j) (hl : j ≤ (l.length : Int)) (hij : i ≤ j) : cutC l (some i) (some j) = (l.drop i.toNat).take (j.toNat - i.toNat) := by
  unfold cutC
  have e1 : i = ((i.toNat : Nat) : Int) := by omega
  have e2 : j = ((j.toNat : Nat) : Int) := by omega
  rw [e1, e2, HT.sIx_nat, HT.sIx_nat]
  rw [show (((i.toNat : Nat) : Int)).toNat = i.toNat by omega, show (((j.toNat : Nat) : Int)).toNat = j.toNat by omega, Nat.min_eq_left (by omega), Nat.min_eq_left (by omega)]
theorem cut_from {α : Type} (l : List α) {i : Int} (hi : 0 ≤ i) : cutC l (some i) none = l.drop i.toNat := by
  unfold cutC
  have e1 : i = ((i.toNat : Nat) : Int) := by omega
  rw [e1, HT.sIx_nat, HT.sIx_none, show (((i.toNat : Nat) : Int)).toNat = i.toNat by omega]
  by_cases h : i.toNat ≤ l.length
  · rw [Nat.min_eq_left h, List.take_of_length_le (by rw [List.length_drop]; omega)]
  · rw [Nat.min_eq_right (by omega), Nat.sub_self, List.take_zero, List.drop_eq_nil_of_le (by omega)]
theorem len_nameC {xs : List Int} {w : List Nat} (hw : w.length = 8) (k : Int) : (nameC xs w k).length ≤ 10 := by
  have hr : (nameRaw xs w k).length ≤ 8 := by
    unfold nameRaw
    split
    · unfold nameB; rw [List.length_take]; omega
    · have := long_b xs; have := at_b xs
      unfold nameA
      rw [List.length_append, List.length_append, List.length_take, List.length_take, List.length_drop, List.length_singleton]
      omega
  unfold nameC
  split
  · rw [List.length_append]; simp; omega
  · omega
noncomputable def numZ (c far : Int) : Int := if c % 3 = 0 then c / 3 % 7 - 3 else c / 3 % (2 * far + 1) - far
noncomputable def spNumber : Sp := fun vs H Q _ => ∃ (c far : Int), vs = [.int c, .int far] ∧ 0 ≤ far ∧ far < 2 ^ 63 ∧ Q (.int (numZ c far)) H
end L2
namespace L2
open PySem
end L2
namespace L2
open PySem
end L2
namespace L2
open PySem
end L2

set_option Elab.async false
set_option linter.all false
set_option maxRecDepth 100000
set_option maxHeartbeats 4000000
namespace L2
open PySem PySem.Spec PyProof.Rows

noncomputable def bef (c : Nat) (l : List Nat) : List Nat := l.take (l.idxOf c)
noncomputable def aft (c : Nat) (l : List Nat) : List Nat := l.drop (l.idxOf c + 1)
noncomputable def partV (c : Nat) (l : List Nat) : List V := if c ∈ l then [.str (sOf (bef c l)), .str ⟨#[c]⟩, .str (sOf (aft c l))] else [.str (sOf l), .str "", .str ""]
theorem mt_partition {X : Cx} : MtR X "str.partition" (fun x xs H Q => ∃ z c, x = .str z ∧ xs = [.str ⟨#[c]⟩] ∧ z.length ≤ sizeLine ∧ ∀ p, H p = none → Q (.ref p) (upd H p (.tup (partV c (cds z))))) := by
  intro pins s σ H x xs v us Q I rx rv h
  obtain ⟨z, c, rfl, rfl, hz, q⟩ := h
  obtain ⟨t, rfl⟩ := rx
  obtain ⟨u, rfl, t', rfl⟩ := rv.one
  have fin : ∀ (its : List Value) (tk : Nat), Vals (partV c (cds z)) its → EP X pins σ Q (.ref s.heap.objs.size) { s with toks := tk, heap := s.heap.push { cls := .type "tuple", data := .seq its.toArray } } := fun its tk hv => by
    refine ⟨.ref s.heap.objs.size, _, I.laid (t' := tk) (o := .tup (partV c (cds z))) (fun b o e => Heap.get?_push_of_some _ e) (Nat.le_refl _) ?_, rfl, q _ (I.hok.fresh (Nat.le_refl _))⟩
    refine ⟨?_, its, hv, IsTupN.new _ _⟩
    unfold partV
    split <;> exact szl (by show 3 ≤ 1000000; decide)
  refine call_meets F.slot_str_partition (typeIs_str _ _ _) F.entry_str_partition (F.args_str_partition_2 _ _) (meets_str_partition z ⟨#[c]⟩ t t' rfl hz) ?_
  rcases StrLaws.occ_head z ⟨#[c]⟩ 1 (Nat.le_refl _) with ⟨e, hn⟩ | ⟨i, r, e, ha, hn⟩
  · rw [e]
    have hc : ¬ c ∈ cds z := fun hm => by
      obtain ⟨i, hi, hc⟩ := List.mem_iff_getElem.mp hm
      exact hn i ((StrLaws.subAt_one z c i).mpr (by rw [List.getElem?_eq_getElem hi, hc]))
    refine fin _ _ ?_
    unfold partV
    rw [if_neg hc, sOf_cds]
    exact .cons ⟨_, rfl⟩ (.cons ⟨_, rfl⟩ (.cons ⟨_, rfl⟩ .nil))
  · rw [e]
    have hi := (StrLaws.subAt_one z c i).mp ha
    have ei := idxOf_first hi fun k hk w => hn k hk ((StrLaws.subAt_one z c k).mpr w)
    refine fin _ _ ?_
    unfold partV bef aft
    rw [if_pos (List.mem_of_getElem? hi), ei]
    have e1 : Builtin.Str.strSub z 0 i = sOf ((cds z).take i) := cds_ext (by rw [cds_sOf]; exact (StrLaws.strSub_toList z 0 i).trans (by simp))
    have e2 : Builtin.Str.strSub z (i + (⟨#[c]⟩ : Str).length) z.length = sOf ((cds z).drop (i + 1)) := cds_ext (by
      rw [cds_sOf]
      refine (StrLaws.strSub_toList z _ _).trans ?_
      show ((cds z).drop (i + 1)).take (z.length - (i + 1)) = _
      rw [List.take_of_length_le (by rw [List.length_drop, cds_len]; exact Nat.le_refl _)])
    rw [← e1, ← e2]
    exact .cons ⟨_, rfl⟩ (.cons ⟨_, rfl⟩ (.cons ⟨_, rfl⟩ .nil))

noncomputable def NameOk (l : List Nat) : Prop := 1 ≤ l.length ∧ l.length ≤ 8 ∧ (∀ c ∈ l, c ∈ cds abc) ∧ l ∉ resv
noncomputable instance (l : List Nat) : Decidable (NameOk l) := by unfold NameOk; infer_instance
theorem mem_abc (c : Nat) : c ∈ cds abc ↔ 97 ≤ c ∧ c ≤ 122 := by
  rw [cds_abc]
  simp only [List.mem_map, List.mem_range]
  constructor
  · rintro ⟨k, hk, rfl⟩; omega
  · intro h; exact ⟨c - 97, by omega, by omega⟩
noncomputable def dgt (l : List Nat) : Int := ((NumText.digitsVal l : Nat) : Int)
noncomputable def spotR (l : List Nat) : Option (List Nat × Int) :=
  if NameOk l then some (l, 0) else if GoodN l then some ([], dgt l)
  else if 43 ∈ l then (if GoodN (aft 43 l) ∧ NameOk (bef 43 l) then some (bef 43 l, dgt (aft 43 l)) else none)
  else if 45 ∈ l then (if GoodN (aft 45 l) then (if NameOk (bef 45 l) ∨ (bef 45 l = [] ∧ 0 < dgt (aft 45 l)) then some (bef 45 l, - dgt (aft 45 l)) else none) else none)
  else none
theorem noName {l : List Nat} {c : Nat} (h : c ∈ l) (hc : ¬ (97 ≤ c ∧ c ≤ 122)) : ¬ NameOk l := fun z => hc ((mem_abc c).mp (z.2.2.1 c h))
theorem noNum {l : List Nat} {c : Nat} (h : c ∈ l) (hc : ¬ (48 ≤ c ∧ c ≤ 57)) : ¬ GoodN l := fun z => hc (z.2.2.2 c h)
noncomputable def spIsName : Sp := fun vs H Q _ => ∃ z : Str, vs = [.str z] ∧ z.length ≤ 1000 ∧ ∀ H', Same H H' → Q (.bl (decide (NameOk (cds z)))) H'
noncomputable def SpotQ (o : Option (List Nat × Int)) (H : Hp) (Q : VK) : Prop := match o with
  | none => ∀ H', Same H H' → Q .non H'
  | some s => ∀ r H', Same H H' → H' r = some (.tup [.str (sOf s.1), .int s.2]) → Q (.ref r) H'
noncomputable def spSpot (f : List Nat → Option (List Nat × Int)) : Sp := fun vs H Q _ => ∃ z : Str, vs = [.str z] ∧ z.length ≤ 1000 ∧ SpotQ (f (cds z)) H Q
noncomputable def spParts (c : Nat) (f : List Nat → Option (List Nat × Int)) (K : PySem.W.Frag) : Sp := fun vs H Q _ => ∃ (p : Addr) (l : List Nat), vs = [.ref p] ∧ SqT K H p (partV c l) ∧ l.length ≤ 1000 ∧ SpotQ (f l) H Q
theorem partV_shape (c : Nat) (l : List Nat) (h : l.length ≤ 1000) : ∃ b m e, partV c l = [.str (sOf b), .str m, .str (sOf e)] ∧ (c ∈ l → b = bef c l ∧ e = aft c l) ∧ (c ∉ l → b = l ∧ e = []) ∧ (m = "" ↔ c ∉ l) ∧ (sOf b).length ≤ 1000 ∧ (sOf e).length ≤ 1000 := by
  unfold partV
  have k : ∀ y : List Nat, (sOf y).length = y.length := fun y => by rw [← cds_len, cds_sOf]
  by_cases hc : c ∈ l
  · rw [if_pos hc]
    refine ⟨_, _, _, rfl, fun _ => ⟨rfl, rfl⟩, fun z => absurd hc z, ⟨fun z => by have := cds_empty.mp z; rw [cds_one] at this; exact absurd this (by simp), fun z => absurd hc z⟩, ?_, ?_⟩
    · rw [k]; unfold bef; rw [List.length_take]; omega
    · rw [k]; unfold aft; rw [List.length_drop]; omega
  · rw [if_neg hc]
    refine ⟨l, "", [], rfl, fun z => absurd z hc, fun _ => ⟨rfl, rfl⟩, ⟨fun _ => hc, fun _ => rfl⟩, ?_, ?_⟩
    · rw [k]; exact h
    · rw [k]; exact Nat.zero_le _
noncomputable def riseR (l : List Nat) : Option (List Nat × Int) := if 43 ∈ l then (if GoodN (aft 43 l) ∧ NameOk (bef 43 l) then some (bef 43 l, dgt (aft 43 l)) else none) else none
noncomputable def fallR (l : List Nat) : Option (List Nat × Int) := if 45 ∈ l then (if GoodN (aft 45 l) then (if NameOk (bef 45 l) ∨ (bef 45 l = [] ∧ 0 < dgt (aft 45 l)) then some (bef 45 l, - dgt (aft 45 l)) else none) else none) else none
theorem noGood : ¬ GoodN [] := fun z => by have := z.1; simp at this
theorem numV_good {l : List Nat} (h : GoodN l) : numV l = .int (dgt l) := by unfold numV dgt; rw [if_pos h]
theorem numV_bad {l : List Nat} (h : ¬ GoodN l) : numV l = .non := by unfold numV; rw [if_neg h]
theorem SpotQ.over {o : Option (List Nat × Int)} {H H1 : Hp} {Q : VK} (q : SpotQ o H Q) (e : Same H H1) : SpotQ o H1 Q := by
  cases o with
  | none => exact fun H' e' => q H' (e.trans e')
  | some s => exact fun r H' e' h => q r H' (e.trans e') h
end L2

set_option Elab.async false
set_option linter.all false
set_option maxRecDepth 100000
set_option maxHeartbeats 4000000
namespace Rd
open PySem
noncomputable def NoAt (y l : List Nat) (n : Nat) : Prop := ∀ k, k < n → (l.drop k).take y.length ≠ y
inductive IsSplit (y : List Nat) : List Nat → List (List Nat) → Prop
  | one {l : List Nat} (h : NoAt y l (l.length + 1)) : IsSplit y l [l]
  | cut {p l : List Nat} {ps : List (List Nat)} (h : NoAt y (p ++ (y ++ l)) p.length) (t : IsSplit y l ps) : IsSplit y (p ++ (y ++ l)) (p :: ps)
theorem at_cut (p y l : List Nat) : ((p ++ (y ++ l)).drop p.length).take y.length = y := by
  rw [List.drop_left, List.take_left]
theorem IsSplit.fn {y : List Nat} {l : List Nat} {ps qs : List (List Nat)} (a : IsSplit y l ps) (b : IsSplit y l qs) : ps = qs := by
  induction a generalizing qs with
  | @one l h =>
    generalize e : l = l' at b
    cases b with
    | one _ => rfl
    | @cut p r ps h' t => exact absurd (at_cut p y r) (by rw [← e]; exact h p.length (by rw [e, List.length_append]; omega))
  | @cut p l ps h t ih =>
    generalize e : p ++ (y ++ l) = l' at b
    cases b with
    | one h' => exact absurd (at_cut p y l) (by rw [e]; exact h' p.length (by rw [← e, List.length_append]; omega))
    | @cut p' r ps' h' t' =>
      have hl : p.length = p'.length := by
        rcases Nat.lt_trichotomy p.length p'.length with z | z | z
        · exact absurd (at_cut p y l) (by rw [e]; exact h' _ z)
        · exact z
        · exact absurd (at_cut p' y r) (by rw [← e]; exact h _ z)
      obtain ⟨rfl, e2⟩ := List.append_inj e hl
      have e3 := List.append_cancel_left e2
      subst e3
      rw [ih t']
theorem parts_split (x y : Str) : ∀ (cuts : List Nat) (a f : Nat), StrLaws.ChainG x y x.length a cuts f → (∀ k, f ≤ k → ¬ StrLaws.At x y x.length k) → a ≤ x.length →
    IsSplit (L2.cds y) ((L2.cds x).drop a) ((StrLaws.partsFrom x y.length a cuts).map L2.cds)
  | [], a, f, h, hn, ha => by
    have e : f = a := h
    subst e
    have e1 : L2.cds (Builtin.Str.strSub x f x.length) = (L2.cds x).drop f := (StrLaws.strSub_toList x f x.length).trans (List.take_of_length_le (by rw [List.length_drop]; exact Nat.le_refl _))
    show IsSplit _ _ [L2.cds (Builtin.Str.strSub x f x.length)]
    rw [e1]
    refine .one fun k hk z => hn (f + k) (by omega) ⟨?_, ?_⟩
    · have z1 := congrArg List.length z
      rw [List.length_take, List.length_drop, List.length_drop, L2.cds_len, L2.cds_len] at z1
      rw [List.length_drop, L2.cds_len] at hk
      by_cases h0 : y.length = 0
      · omega
      · omega
    · rw [StrLaws.subAt_eq, beq_iff_eq]
      rw [List.drop_drop, L2.cds_len] at z
      exact z
  | c :: r, a, f, h, hn, ha => by
    obtain ⟨h1, h2, h3, h4⟩ := h
    have h20 := h2.1
    have ih := parts_split x y r (c + y.length) f h4 hn h20
    have e1 : L2.cds (Builtin.Str.strSub x a c) = ((L2.cds x).drop a).take (c - a) := StrLaws.strSub_toList x a c
    have e2 : ((L2.cds x).drop c).take y.length = L2.cds y := by have := h2.2; rw [StrLaws.subAt_eq, beq_iff_eq] at this; exact this
    have e3 : (L2.cds x).drop a = ((L2.cds x).drop a).take (c - a) ++ (L2.cds y ++ (L2.cds x).drop (c + y.length)) := by
      rw [← e2, ← List.drop_drop, List.take_append_drop, show (L2.cds x).drop c = ((L2.cds x).drop a).drop (c - a) by rw [List.drop_drop]; congr 1; omega, List.take_append_drop]
    show IsSplit _ _ (L2.cds (Builtin.Str.strSub x a c) :: _)
    rw [e1]
    have hl : (((L2.cds x).drop a).take (c - a)).length = c - a := by rw [List.length_take, List.length_drop, L2.cds_len]; omega
    have key := IsSplit.cut (y := L2.cds y) (p := ((L2.cds x).drop a).take (c - a)) (l := (L2.cds x).drop (c + y.length)) (ps := (StrLaws.partsFrom x y.length (c + y.length) r).map L2.cds) (by
      rw [← e3, hl]
      intro k hk z
      rw [List.drop_drop, L2.cds_len] at z
      refine h3 (a + k) (by omega) (by omega) ⟨by omega, ?_⟩
      rw [StrLaws.subAt_eq, beq_iff_eq]
      exact z) ih
    rw [← e3] at key
    exact key
end Rd
namespace Rd
open PySem
theorem one_split (x y : Str) (hw : 1 ≤ y.length) (h : ∀ k, ¬ StrLaws.At x y x.length k) : IsSplit (L2.cds y) (L2.cds x) [L2.cds x] := by
  have h1 := parts_split x y [] 0 0 rfl (fun k _ => h k) (Nat.zero_le _)
  rw [List.drop_zero] at h1
  have e : (StrLaws.partsFrom x y.length 0 []).map L2.cds = [L2.cds x] := by
    show [L2.cds (Builtin.Str.strSub x 0 x.length)] = _
    rw [StrLaws.sub_whole]
  rw [e] at h1
  exact h1
theorem kind_le {x y : Str} (h : ∀ c ∈ L2.cds y, c < 256) : Builtin.Str.strKind y = 1 := by
  unfold Builtin.Str.strKind
  rw [if_pos]
  rw [Array.all_eq_true']
  intro c hc
  exact decide_eq_true (h c (Array.mem_toList_iff.mpr hc))
theorem kind_pos (x : Str) : 1 ≤ Builtin.Str.strKind x := by
  unfold Builtin.Str.strKind
  split
  · decide
  · split <;> decide
theorem split_is (x y : Str) (hy : 1 ≤ y.length) (hk : ∀ c ∈ L2.cds y, c < 256) : IsSplit (L2.cds y) (L2.cds x) ((Txt.split x y).map L2.cds) := by
  obtain ⟨f, hG, hn⟩ := StrLaws.occ_tight x y hy
  unfold Txt.split
  split
  · rename_i hc
    rw [Bool.or_eq_true, decide_eq_true_eq, decide_eq_true_eq] at hc
    have k1 := kind_le (x := x) hk
    have k2 := kind_pos x
    refine one_split x y hy fun k z => ?_
    have := z.1
    omega
  · split
    · rename_i he
      have e0 : Builtin.Str.occurrences x y 0 x.length (x.length + 1) = [] := List.isEmpty_iff.mp he
      rw [e0] at hG
      have ef : f = 0 := hG
      subst ef
      exact one_split x y hy fun k => hn k (Nat.zero_le _)
    · rw [StrLaws.partsBetween_eq]
      have := parts_split x y _ 0 f hG hn (Nat.zero_le _)
      rw [List.drop_zero] at this
      exact this
theorem split_len (x y : Str) : (Builtin.Str.partsBetween x (Builtin.Str.occurrences x y 0 x.length (x.length + 1)) y.length).length ≤ x.length + 2 := by
  have h1 := StrLaws.occ_length_le x y 0 x.length (x.length + 1)
  unfold Builtin.Str.partsBetween
  rw [List.length_map, List.length_zip]
  simp only [List.length_cons, List.length_map, List.length_append, List.length_nil]
  omega
theorem split_len2 (x y : Str) : (Txt.split x y).length ≤ x.length + 2 := by
  have := split_len x y
  unfold Txt.split
  split
  · simp
  · split
    · simp
    · exact this
theorem NoAt.of {c : Nat} {y l : List Nat} {n : Nat} (h : ∀ k, k < n → l[k]? ≠ some c) : NoAt (c :: y) l n := fun k hk z => h k hk (by
  have := congrArg List.head? z
  rw [List.length_cons, List.head?_take, if_neg (by omega), List.head?_drop] at this
  exact this)
theorem NoAt.free {c : Nat} {y p l : List Nat} (h : c ∉ p) : NoAt (c :: y) (p ++ l) p.length := .of fun k hk z => h (by
  rw [List.getElem?_append_left hk] at z
  exact List.mem_of_getElem? z)
theorem IsSplit.one' {c : Nat} {y p : List Nat} (h : c ∉ p) : IsSplit (c :: y) p [p] := .one (.of fun k hk z => h (List.mem_of_getElem? z))
theorem IsSplit.cut' {c : Nat} {y p l : List Nat} {ps : List (List Nat)} (h : c ∉ p) (t : IsSplit (c :: y) l ps) : IsSplit (c :: y) (p ++ (c :: y ++ l)) (p :: ps) := .cut (.free h) t
theorem IsSplit.flat {c : Nat} {l : List Nat} {ps : List (List Nat)} (h : IsSplit [c] l ps) : ps.flatten = l.filter (· != c) := by
  have key : ∀ p : List Nat, c ∉ p → p.filter (· != c) = p := fun p hp => List.filter_eq_self.mpr fun a ha => by
    rw [bne_iff_ne]
    exact fun e => hp (e ▸ ha)
  have at1 : ∀ (p l : List Nat) (n : Nat), n ≤ p.length → NoAt [c] (p ++ l) n → ∀ k, k < n → (p)[k]? ≠ some c := fun p l n hn h k hk z => h k hk (by
    have hk' : k < p.length := by omega
    rw [List.drop_append_of_le_length (by omega), List.drop_eq_getElem_cons hk']
    rw [List.getElem?_eq_getElem hk'] at z
    rw [Option.some.inj z]
    rfl)
  induction h with
  | @one l h =>
    have hc : c ∉ l := fun hm => by
      obtain ⟨k, hk⟩ := List.getElem?_of_mem hm
      have hk' := (List.getElem?_eq_some_iff.mp hk).1
      exact at1 l [] l.length (Nat.le_refl _) (fun k hk => by rw [List.append_nil]; exact h k (by omega)) k hk' hk
    rw [key l hc]
    exact List.append_nil _
  | @cut p l ps h t ih =>
    have hc : c ∉ p := fun hm => by
      obtain ⟨k, hk⟩ := List.getElem?_of_mem hm
      exact at1 p _ p.length (Nat.le_refl _) h k (List.getElem?_eq_some_iff.mp hk).1 hk
    rw [List.flatten_cons, ih, List.filter_append, key p hc, List.filter_append]
    simp
end Rd
namespace L2
open PySem
theorem vals_strs : ∀ {l : List (Str × Tok)}, Vals ((l.map (·.1)).map V.str) (strValues l)
  | [] => .nil
  | (z, t) :: l => .cons ⟨t, rfl⟩ vals_strs
theorem mt_split {X : Cx} : MtR X "str.split" (fun x xs H Q => ∃ z y : Str, x = .str z ∧ xs = [.str y] ∧ 1 ≤ y.length ∧ (∀ c ∈ cds y, c < 256) ∧ z.length ≤ 900000 ∧ ∀ (p : Addr) (ps : List Str), H p = none → Rd.IsSplit (cds y) (cds z) (ps.map cds) → Q (.ref p) (upd H p (.lst (ps.map V.str)))) := by
  intro pins s σ H x xs v us Q I rx rv h
  obtain ⟨z, y, rfl, rfl, hy, hk, hz, q⟩ := h
  obtain ⟨t, rfl⟩ := rx
  obtain ⟨u, rfl, t', rfl⟩ := rv.one
  have e1 : sizeLine = 16777216 := sizeLine_eq
  have h1 := Rd.split_len z y
  have h2 := Rd.split_len2 z y
  have hy0 : (y.length == 0) = false := by rw [beq_eq_false_iff_ne]; omega
  have hs := Rd.split_is z y hy hk
  have fin : ∀ (l : List (Str × Tok)) (tk : Nat), l.map (·.1) = Txt.split z y → EP X pins σ Q (.ref s.heap.objs.size) { s with toks := tk, heap := s.heap.push { cls := .type "list", data := .seq (strValues l).toArray } } := fun l tk hl => by
    refine ⟨.ref s.heap.objs.size, _, I.laid (t' := tk) (o := .lst ((Txt.split z y).map V.str)) (fun b o e => Heap.get?_push_of_some _ e) (Nat.le_refl _) ?_, rfl, q _ _ (I.hok.fresh (Nat.le_refl _)) hs⟩
    refine ⟨by rw [List.length_map]; omega, strValues l, 0, ?_, Heap.get?_push_size _ rfl⟩
    rw [← hl]
    exact vals_strs
  cases h1 : (decide (z.length < y.length) || decide (Builtin.Str.strKind z < Builtin.Str.strKind y))
  · cases hf : (Builtin.Str.occurrences z y 0 z.length (z.length + 1)).isEmpty
    · refine call_meets F.slot_str_split (typeIs_str _ _ _) F.entry_str_split (F.args_str_split_2 _ _) (meets_str_split_sep z y t t' h1 hy0 hf (by omega) (by omega)) ?_
      show wants _ _ _ { s with toks := _, heap := s.heap.push { cls := .type "list", data := .seq (strsFrom s.toks (Builtin.Str.partsBetween z (Builtin.Str.occurrences z y 0 z.length (z.length + 1)) y.length)).toArray } }
      rw [strsFrom_eq]
      exact fin (numbered s.toks _) _ ((numbered_texts _ _).trans ((if_neg (ne_true_of_eq_false h1)).trans (if_neg (ne_true_of_eq_false hf))).symm)
    · exact call_meets F.slot_str_split (typeIs_str _ _ _) F.entry_str_split (F.args_str_split_2 _ _) (meets_str_split_not_found z y t t' h1 hy0 hf) (fin [(z, t)] s.toks ((if_neg (ne_true_of_eq_false h1)).trans (if_pos hf)).symm)
  · exact call_meets F.slot_str_split (typeIs_str _ _ _) F.entry_str_split (F.args_str_split_2 _ _) (meets_str_split_cannot_occur z y t t' h1) (fin [(z, t)] s.toks (if_pos h1).symm)
theorem mt_endswith {X : Cx} : MtR X "str.endswith" (fun x xs H Q => ∃ z c, x = .str z ∧ xs = [.str ⟨#[c]⟩] ∧ Q (.bl (decide ((cds z).getLast? = some c))) H) := by
  intro pins s σ H x xs v us Q I rx rv h
  obtain ⟨z, c, rfl, rfl, q⟩ := h
  obtain ⟨t, rfl⟩ := rx
  obtain ⟨u, rfl, t', rfl⟩ := rv.one
  have e : Txt.endswith z ⟨#[c]⟩ = decide ((cds z).getLast? = some c) := by
    unfold Txt.endswith
    rw [StrLaws.subAt_eq]
    have hl : (cds z).length = z.length := cds_len z
    rw [Bool.eq_iff_iff, Bool.and_eq_true, decide_eq_true_eq, decide_eq_true_eq, beq_iff_eq, List.getLast?_eq_getElem?]
    show 0 + 1 ≤ z.length ∧ ((cds z).drop (z.length - 1)).take 1 = [c] ↔ _
    rw [hl]
    constructor
    · intro ⟨a, b⟩
      have := congrArg List.head? b
      rw [List.head?_take, if_neg (by decide), List.head?_drop] at this
      exact this
    · intro b
      have hb := (List.getElem?_eq_some_iff.mp b).1
      refine ⟨by omega, ?_⟩
      rw [List.drop_eq_getElem_cons (by omega)]
      rw [List.getElem?_eq_getElem (by omega)] at b
      show [_] = _
      rw [Option.some.inj b]
  exact SC.endswith ⟨.bl _, H, I.tok _, by rw [e]; rfl, q⟩
noncomputable def stp (c : Nat) (l : List Nat) : List Nat := ((l.dropWhile (· == c)).reverse.dropWhile (· == c)).reverse
theorem mt_strip {X : Cx} : MtR X "str.strip" (fun x xs H Q => ∃ (z : Str) (c : Nat), x = .str z ∧ xs = [.str ⟨#[c]⟩] ∧ z.length ≤ sizeLine ∧ Q (.str (sOf (stp c (cds z)))) H) := by
  intro pins s σ H x xs v us Q I rx rv h
  obtain ⟨z, c, rfl, rfl, hz, q⟩ := h
  obtain ⟨t, rfl⟩ := rx
  obtain ⟨u, rfl, t', rfl⟩ := rv.one
  have hg : (#[c] : Array Nat).contains = fun a => a == c := by
    funext a
    rw [Bool.eq_iff_iff]
    simp
  have dw : ∀ (l : List Nat), l.drop (l.takeWhile (· == c)).length = l.dropWhile (· == c) := fun l => by
    induction l with
    | nil => rfl
    | cons a l ih =>
      rw [List.takeWhile_cons, List.dropWhile_cons]
      split
      · exact ih
      · rfl
  have e : Txt.stripChars z ⟨#[c]⟩ = sOf (stp c (cds z)) := by
    apply cds_ext
    rw [cds_sOf]
    have key : cds (stripped (fun a => a == c) true true z) = stp c (cds z) := by
      refine (StrLaws.strSub_toList z _ _).trans ?_
      unfold stripLo stripHi stp
      simp only [if_true]
      show ((cds z).drop ((cds z).takeWhile (· == c)).length).take (z.length - (((cds z).drop ((cds z).takeWhile (· == c)).length).reverse.takeWhile (· == c)).length - ((cds z).takeWhile (· == c)).length) = _
      rw [dw]
      generalize hm : (cds z).dropWhile (· == c) = m
      rw [← dw m.reverse, List.drop_reverse, List.reverse_reverse]
      congr 1
      have := congrArg List.length (dw (cds z))
      rw [hm, List.length_drop, cds_len] at this
      omega
    unfold Txt.stripChars Txt.stripBy
    rw [hg]
    split
    · rename_i hs
      rw [← key]
      unfold stripSame at hs
      rw [Bool.and_eq_true, beq_iff_eq, beq_iff_eq] at hs
      unfold stripped
      rw [hs.2, hs.1, StrLaws.sub_whole]
    · exact key
  exact SC.stripChars (fun t' k => ⟨.str _, H, I.tok _, ⟨_, by rw [e]⟩, q⟩) hz
end L2

set_option Elab.async false
set_option linter.all false
set_option maxRecDepth 100000
set_option maxHeartbeats 4000000
namespace Rd
open PySem
theorem runs_toks {M : Model} {Γ : Ctx} {p : Pos} {t : Sem Fin} {fs : List Frame} {s s' : Shared} {e : End} (h : Runs M Γ p t fs s e s') : s.toks ≤ s'.toks := by
  induction h with
  | done | raise | yield => exact Nat.le_refl _
  | fresh _ ih => exact Nat.le_trans (Nat.le_succ _) ih
  | again _ _ ih | rule _ ih | «at» _ ih | load _ _ ih | update _ _ ih | loadIfAlive _ ih | point _ ih | alloc _ ih | ask _ ih | choose _ _ ih | os _ ih | handled _ ih | genState _ _ ih | stack _ ih | thread _ ih | newGen _ ih => exact ih
  | callSusp _ ih => exact ih
  | segSuspOut _ _ ih => exact ih
  | resumeJustStarted _ _ _ ih | resumeThrowFresh _ _ ih | resumeRunning _ _ ih | resumeFinished _ _ ih => exact ih
  | call _ _ i1 i2 | segRet _ _ i1 i2 | segGen _ _ i1 i2 => exact Nat.le_trans i1 i2
  | resumeFresh _ _ _ _ i1 i2 | resumeSuspended _ _ _ _ i1 i2 | segSuspGen _ _ _ _ i1 i2 => exact Nat.le_trans i1 i2
theorem wakes_toks {M : Model} {Γ : Ctx} {p : Pos} {g : Nat} {r : Resume} {s s' : Shared} {res : GenResult} (h : Wakes M Γ p g r s res s') : s.toks ≤ s'.toks := by
  unfold Wakes at h
  split at h
  · exact h.elim
  · split at h
    · obtain ⟨e₁, s₁, h1, _, _, rfl⟩ := h; exact (show (s.setGen g GenState.running).toks ≤ s₁.toks from runs_toks h1)
    · obtain ⟨_, rfl⟩ := h; exact Nat.le_refl _
    · obtain ⟨_, rfl⟩ := h; exact Nat.le_refl _
  · obtain ⟨e₁, s₁, h1, _, _, rfl⟩ := h; exact (show (s.setGen g GenState.running).toks ≤ s₁.toks from runs_toks h1)
  · obtain ⟨_, rfl⟩ := h; exact Nat.le_refl _
  · obtain ⟨_, rfl⟩ := h; exact Nat.le_refl _
theorem wp_toks {α : Type} {M : Model} {Γ : Ctx} {t : Sem α} {Q : α → Pos → Shared → Prop} {E : Value → Pos → Shared → Prop} (n : Nat) (p : Pos) (s : Shared) (hn : n ≤ s.toks) (h : Sem.wp M Γ t Q E p s) :
    Sem.wp M Γ t (fun a p' s' => Q a p' s' ∧ n ≤ s'.toks) E p s := by
  revert h
  induction t generalizing p s with
  | pure x => exact fun h => ⟨h, hn⟩
  | raise v => exact id
  | unsupported | finish | yield | fork | await | register => exact id
  | rule _ k ih | «at» _ k ih | alloc _ k ih | loadIfAlive _ k ih | point _ k ih | ask k ih | os _ _ k ih | handled _ k ih | newGen _ k ih | stack k ih | thread k ih => exact ih _ _ _ hn
  | fresh k ih => exact ih _ _ _ (Nat.le_succ_of_le hn)
  | load a _ k ih | genState a k ih => exact fun ⟨o, ho, h⟩ => ⟨o, ho, ih _ _ _ hn h⟩
  | update a _ f k ih | choose _ _ k ih => exact fun ⟨ha, h⟩ => ⟨ha, ih _ _ _ hn h⟩
  | call c h g l k ih => exact fun ⟨r, s', hr, h⟩ => ⟨r, s', hr, ih r _ _ (Nat.le_trans hn (runs_toks hr)) h⟩
  | resume g r l k ih => exact fun ⟨res, s', hw, h⟩ => ⟨res, s', hw, ih _ _ _ (Nat.le_trans hn (wakes_toks hw)) h⟩
theorem wpAny_toks {α : Type} {M : Model} {A : Around} {t : Sem α} {Q : α → Shared → Prop} {E : Value → Shared → Prop} {s : Shared} {n : Nat} (hn : n ≤ s.toks) (h : wpAny M A t Q E s) : wpAny M A t (fun a s' => Q a s' ∧ n ≤ s'.toks) E s :=
  fun Γ p hΓ => wp_toks n p s hn (h Γ p hΓ)
end Rd
namespace L2
open PySem PySem.Spec PyProof.Rows
noncomputable def PEp (X : Cx) (e : Expr) (t : TE) : Prop :=
  ∀ (pins : List (Addr × Obj)) (s : Shared) (σ : St) (H : Hp) (Q : VK), 1 ≤ s.toks → Inv X pins σ H s → t σ H Q → wpAny (model X.prog X.w) X.A (eval e X.env) (EP X pins σ Q) X.xe s
noncomputable def PAp (X : Cx) (es : List Expr) (t : TA) : Prop :=
  ∀ (pos : Pos) (pins : List (Addr × Obj)) (s : Shared) (σ : St) (H : Hp) (Q : List V → Hp → Prop), 1 ≤ s.toks → Inv X pins σ H s → t σ H Q → wpAny (model X.prog X.w) X.A (spliced (backTo pos (starEach es X.env))) (AP X pins σ Q) X.xe s
section
variable {X : Cx} {a b e o : Expr} {es rest : List Expr} {ta tb te to : TE} {t : TA} {pos : Pos}
theorem pap_cons (ha : PE X e te) (hr : PAp X es t) (hs : starEach (e :: es) X.env = (false, eval e X.env) :: starEach es X.env := by rfl) : PAp X (e :: es) (tCons te t) := by
  intro pos pins s σ H Q hp I h
  rw [hs]
  show wpAny _ _ (spliced ((false, eval e X.env) :: backTo pos (starEach es X.env))) _ _ s
  refine Calls.spliced_cons (thn (Rd.wpAny_toks hp (ha pins s σ H _ I h)) fun u s1 ⟨⟨x, H1, I1, r1, q1⟩, hp1⟩ => ?_)
  exact thn (hr pos pins s1 σ H1 _ hp1 I1 q1) fun us s2 ⟨xs, H2, I2, r2, q2⟩ => ⟨x :: xs, H2, I2, .cons r1 r2, q2⟩
theorem pap_one (ha : PEp X e te) (hs : starEach [e] X.env = (false, eval e X.env) :: starEach [] X.env := by rfl) : PAp X [e] (tCons te tNil) := by
  intro pos pins s σ H Q hp I h
  rw [hs]
  show wpAny _ _ (spliced ((false, eval e X.env) :: backTo pos (starEach [] X.env))) _ _ s
  refine Calls.spliced_cons (thn (ha pins s σ H _ hp I h) fun u s1 ⟨x, H1, I1, r1, q1⟩ => ?_)
  exact Calls.spliced_nil ⟨[x], H1, I1, .cons r1 .nil, q1⟩
theorem pep_and {op : CmpOp} {r : R2} {c : Str} {j : Nat} {cp p1 : Pos} (ho : OpR X (compareOp op) r) (ha : PE X a ta) (hm : behindInMarks op (.Constant (.str c) j cp) = false) (hb : PEp X b tb) :
    PE X (.BoolOp .And [.Compare a [op] [.Constant (.str c) j cp] p1, b] pos) (tAndV (tOp r ta (tC (.str c))) tb) := by
  intro pins s σ H Q I h
  have key : wpAny (model X.prog X.w) X.A (eval (.Compare a [op] [.Constant (.str c) j cp] p1) X.env) (fun v s' => EP X pins σ (fun x H1 => ∃ c, x = .bl c ∧ if c = true then tb σ H1 Q else Q (.bl false) H1) v s' ∧ 1 ≤ s'.toks) X.xe s := by
    refine wpAny_Compare1 (thn (ha pins s σ H _ I h) fun v s1 ⟨x, H1, I1, r1, q1⟩ => ?_) hm
    refine wpAny_Constant_str ?_
    refine Rd.wpAny_toks (s := { s1 with toks := s1.toks + 1 }) (Nat.succ_le_succ (Nat.zero_le _)) ?_
    exact ho pins _ σ H1 x (.str c) v _ _ (I1.tok _) r1 ⟨_, rfl⟩ q1
  refine BoolOp_and (thn key fun v s1 ⟨⟨x, H1, I1, r1, q1⟩, hp⟩ => ?_)
  obtain ⟨c, rfl, q1⟩ := q1
  cases r1
  refine wpAny_truthy_bool ?_
  cases c with
  | true => exact BoolOp_one (hb pins s1 σ H1 Q hp I1 q1)
  | false => exact ⟨.bl false, H1, I1, rfl, q1⟩
theorem pep_call {CX : CXT} {k : Nat} {f : Addr} {fd : FuncData} {ps : List Str} {sp : Sp} {x : Str} {ds : List Value} {dvs : List V} {E : XK} {p : Pos} (F : FnOk X.prog X.w X.K X.mg X.base CX k f fd ps sp) (hr : Room k X.A) (hg : Gl X x) (hm : X.mg x = some (.ref f)) (hk : PySem.W.keepIn X.K (.ref f) = true) (hb : Binds X.K fd ps ds) (hd : Vals dvs ds) (hx : Passes CX X E)
    (ha : PAp X (e :: es) t) (hdb : (x == ("__debug__" : Str)) = false := by decide) (he : starEach (e :: es) X.env = (false, eval e X.env) :: starEach es X.env := by rfl) (hpl : (backTo pos (starEach es X.env)).any (·.1) = false := by rfl) :
    PEp X (.Call (.Name x p) (e :: es) [] pos) (tCall sp dvs E t) := by
  intro pins s σ H Q hp I h
  refine wpAny_Call_Name_kw (ld_glob I hg hm ?_ hdb)
  refine PySem.W.callWith_K (h₀ := X.base) I.ok.mod.kin hk (thn (ha pos pins s σ H _ hp I h) fun us s1 ⟨vs, H1, I1, r, q⟩ => ⟨I1.kIn, ?_⟩) he hpl
  exact run_fn F hr hb hd hx I1 r q
theorem repl_is (x : Str) (c : Nat) (hc : c < 256) : cds (Txt.replace x ⟨#[c]⟩ ⟨#[]⟩) = (cds x).filter (· != c) := by
  have h := Rd.split_is x ⟨#[c]⟩ (Nat.le_refl _) (fun d hd => by have : d = c := by simpa [cds] using hd
                                                                 omega)
  have hcd : cds ⟨#[c]⟩ = [c] := rfl
  rw [hcd] at h
  have e : cds (Txt.replace x ⟨#[c]⟩ ⟨#[]⟩) = ((Txt.split x ⟨#[c]⟩).map cds).flatten := by
    rw [← cds_join0]
    unfold Txt.replace Txt.split
    cases hf : (Builtin.Str.occurrences x ⟨#[c]⟩ 0 x.length (x.length + 1)).isEmpty
    · have e1 : (false || ((⟨#[c]⟩ : Str).length == 0 && (⟨#[]⟩ : Str).length == 0)) = false := rfl
      rw [e1]
      simp only [Bool.false_eq_true, if_false]
      rw [if_neg]
      · rfl
      · intro hk
        rw [Bool.or_eq_true, decide_eq_true_eq, decide_eq_true_eq] at hk
        have hne : Builtin.Str.occurrences x ⟨#[c]⟩ 0 x.length (x.length + 1) ≠ [] := fun z => by rw [z] at hf; cases hf
        have k1 := Rd.kind_le (x := x) (y := ⟨#[c]⟩) (fun d hd => by have : d = c := by simpa [cds] using hd
                                                                     omega)
        have k2 := Rd.kind_pos x
        have hl : x.length < 1 := by
          rcases hk with z | z
          · exact z
          · omega
        obtain ⟨f, hG, _⟩ := StrLaws.occ_tight x ⟨#[c]⟩ (Nat.le_refl _)
        cases hL : Builtin.Str.occurrences x ⟨#[c]⟩ 0 x.length (x.length + 1) with
        | nil => exact hne hL
        | cons i r =>
          rw [hL] at hG
          have h1 := hG.2.1.1
          have : (⟨#[c]⟩ : Str).length = 1 := rfl
          omega
    · simp only [Bool.true_or, if_true]
      split
      · exact congrArg cds (show x = Txt.join "" [x] from rfl)
      · exact congrArg cds (show x = Txt.join "" [x] from rfl)
  rw [e, h.flat]
noncomputable def rRepl (c : Nat) : V → List V → Hp → VK → Prop := fun x xs H Q => ∃ z : Str, x = .str z ∧ z.length ≤ 1000000 ∧ Q (.str (sOf ((cds z).filter (· != c)))) H
theorem pep_repl {c : Nat} {y w' : Str} {j1 j2 : Nat} {p1 p2 apos : Pos} (hy : y = ⟨#[c]⟩) (hw : w' = ⟨#[]⟩) (hc : c < 256) (ho : PE X o to)
    (hbase : attributeBase o "replace" X.env (eval o X.env) = eval o X.env := by rfl)
    (hfew : ((backTo pos (starEach [.Constant (.str y) j1 p1, .Constant (.str w') j2 p2] X.env)).all (fun x => !x.1) && (backToKw pos (keywordEach [] X.env)).all (fun x => x.1.isSome)
      && decide (([.Constant (.str y) j1 p1, .Constant (.str w') j2 p2] : List Expr).length + ([] : List Keyword).length + (if ([] : List Keyword).isEmpty then 0 else 1) < 30)) = true := by rfl)
    (hline : (apos.endLine == pos.line) = true := by rfl) :
    PEp X (.Call (.Attribute o "replace" apos) [.Constant (.str y) j1 p1, .Constant (.str w') j2 p2] [] pos) (tBM X.K "str" (rRepl c) to tNil) := by
  intro pins s σ H Q hp I h
  refine wpAny_Call_method_late hbase hfew hline rfl (thn (Rd.wpAny_toks hp (ho pins s σ H _ I h)) fun v s1 ⟨⟨x, H1, I1, r1, ty, q1⟩, hp1⟩ => ?_)
  obtain ⟨h1, h2⟩ := tyV_is I1 r1 ty
  refine ⟨"str", "str.replace", F.plainAttrs_str, F.slot_str_replace, F.type_str_replace, h1, h2, ?_⟩
  obtain ⟨z, rfl, hz, q⟩ := (show rRepl c x [] H1 Q from q1)
  obtain ⟨t, rfl⟩ := r1
  refine Calls.callWith_builtin rfl (Calls.evalArgs_plain ?_)
  show wpAny _ _ (spliced ((false, eval (.Constant (.str y) j1 p1) X.env) :: (false, eval (.Constant (.str w') j2 p2) X.env) :: [])) _ _ _
  refine Calls.spliced_cons (wpAny_Constant_str (Calls.spliced_cons (wpAny_Constant_str (Calls.spliced_nil ?_))))
  subst hy hw
  show wpAny _ _ (call (.builtin "str.replace") [.str z t, .str ⟨#[c]⟩ s1.toks, .str ⟨#[]⟩ (s1.toks + 1)]) _ _ { s1 with toks := s1.toks + 1 + 1 }
  refine SC.replaceW (show s1.toks ≠ 0 by omega) (show s1.toks + 1 ≠ 0 by omega) (show s1.toks ≠ s1.toks + 1 by omega) (by rw [beq_eq_false_iff_ne]; exact fun z => by cases z) (by omega) (Nat.zero_le _) fun t' k => ⟨.str _, H1, I1.tok _, ⟨t', ?_⟩, q⟩
  exact congrArg (fun y => Value.str y t') (cds_ext (by rw [cds_sOf]; exact repl_is z c hc))
end
end L2

set_option Elab.async false
set_option linter.all false
set_option maxRecDepth 100000
set_option maxHeartbeats 4000000
namespace L2
open PySem PySem.Spec PyProof.Rows
noncomputable def spDInit (C : Addr) : Sp := fun vs H Q _ => ∃ (x dx : Addr) (v1 v2 v3 v4 v5 v6 v7 : V), vs = [.ref x, v1, v2, v3, v4, v5, v6, v7] ∧ H x = some (.ins C dx []) ∧ ∀ H', (∀ b o, H b = some o → b ≠ x → H' b = some o) → (∃ dx, H' x = some (.ins C dx [("names", v1), ("lows", v2), ("highs", v3), ("table", v4), ("spots", v5), ("term", v6), ("path", v7)])) → Q .non H'
theorem resv_head {l : List Nat} (h : l ∈ resv) : l.head? ≠ some 122 := by
  have e1 : (cds "for").head? ≠ some 122 := by decide +kernel
  have e2 : (cds "end").head? ≠ some 122 := by decide +kernel
  have e3 : (cds "size").head? ≠ some 122 := by decide +kernel
  unfold resv at h
  rcases List.mem_cons.mp h with rfl | h
  · exact e1
  rcases List.mem_cons.mp h with rfl | h
  · exact e2
  rcases List.mem_cons.mp h with rfl | h
  · exact e3
  · cases h
theorem if_any {tt : TT} {ta tb : TS} {D : Ends} {σ : St} {H : Hp} (M : Hp → Prop) (hb : ∀ H', M H' → tb D σ H') (h : (∀ H', M H' → tb D σ H') → tIfS tt ta tb D σ H) : tIfS tt ta tb D σ H := h hb
theorem snoc_of {α : Type} {l : List α} {n : Nat} (h : l.length = n + 1) : ∃ p x, l = p ++ [x] ∧ p.length = n := by
  have hne : l ≠ [] := fun e => by rw [e] at h; cases h
  exact ⟨l.dropLast, l.getLast hne, (List.dropLast_concat_getLast hne).symm, by rw [List.length_dropLast]; omega⟩
theorem made_same {H H2 : Hp} {x dx C : Addr} (hx : H x = none) (hdx : H dx = none) (k : ∀ b o, (upd (upd H dx (.own x)) x (.ins C dx [])) b = some o → b ≠ x → H2 b = some o) : Same H H2 := fun b o e => by
  have n1 := ne_of_none e hx
  have n2 := ne_of_none e hdx
  exact k b o (by rw [upd_ne n1, upd_ne n2]; exact e) n1
theorem cutV_map (ns : List Int) (lo hi : Option Int) : cutV (ns.map V.int) lo hi = (cutC ns lo hi).map V.int := by
  unfold cutV cutC
  rw [List.length_map, List.map_take, List.map_drop]
end L2

set_option Elab.async false
set_option linter.all false
set_option maxRecDepth 100000
set_option maxHeartbeats 4000000
namespace L2
open PySem PySem.Spec PyProof.Rows
section
variable {X : Cx} {pins : List (Addr × Obj)} {σ : St} {H : Hp} {s : Shared} {h' : Heap}
theorem Inv.turnedL {t' : Nat} {ch : List Addr} (I : Inv X pins σ H s) (k : ∀ b o, b ∉ ch → s.heap.get? b = some o → h'.get? b = some o) (hf : ∀ b ∈ ch, FpOk X pins H b) : Inv X pins σ H { s with heap := h', toks := t' } := by
  have nit : ∀ b u, H b = some u → b ∉ ch := fun b u e z => by rw [(hf b z).1] at e; cases e
  have hL : X.env.locals ∉ ch := fun z => (hf _ z).2.1 rfl
  refine I.step (g' := s.gens) (d' := s.drawn) (ch := ch) (fun b hb => ?_) (fun b o _ _ hc e _ => k b o hc e) (fun b o _ _ hc e _ => ⟨o.slots, k b o hc e⟩) (fun _ _ _ _ n => n)
    (fun b o hc e => ⟨o, k b o hc e⟩) (fun _ _ e => e) (fun _ _ _ e => e) (fun b ps e => ⟨#[], by rw [e]; simp⟩) (fun m hm => ?_) (fun b u e => ?_) I.bare
  · obtain ⟨f0, f1, f2, f3, f4, f5⟩ := hf b hb
    exact ⟨f3, f1, f4, f5⟩
  · obtain ⟨o, es, ep, ho, r⟩ := hm
    exact ⟨o, es, ep, k _ o hL ho, r⟩
  · refine (I.hok b u e).stay (fun c v hc q => k c v ?_ q) (fun _ q => q) fun _ _ q => q
    rcases hc with z | z
    · rw [z]; exact nit b u e
    · exact nit c _ z
end
end L2

set_option Elab.async false
set_option linter.all false
set_option maxRecDepth 100000
set_option maxHeartbeats 4000000
namespace Rd
open PySem
open AutoSeq1 (wpAny_loadPart')
section
variable {prog : Program} {w : World} {A : Around} {E : Value → Shared → Prop} {s : Shared}
theorem callType_kw {T newId initId : String} {Bn Bi : Builtin} {args : List Value} {kw : List (Str × Value)} {S : Spec} {Q Q₁ : Value → Shared → Prop} (ft : TypeCalled T newId initId)
    (hct : checkTypeCall T ⟨args, kw⟩ = pure ()) (hcn : checkBuiltinCall newId ⟨.type T :: args, kw⟩ = pure ())
    (entryN : entryFor table newId = some Bn) (entryI : entryFor table initId = some Bi) (g : Meets (Bn ⟨.type T :: args, kw⟩) S)
    (h : S A.in1 (wants Q₁ E) s)
    (hnext : ∀ obj s₁, Q₁ obj s₁ → s₁.TypeIs obj T ∧ argsOk initId ⟨obj :: args, kw⟩ ∧ ∃ Si, Meets (Bi ⟨obj :: args, kw⟩) Si ∧ Si A.in1 (wants (fun r s₂ => r = .none ∧ Q obj s₂) E) s₁) :
    wpAny (model prog w) A (call (.type T) args kw) Q E s := by
  obtain ⟨c, tl, hmro⟩ := ft.mro
  have hmade := ft.made
  have hsub := ft.sub
  refine wpAny_call (codeAny_of_tree ?_)
  show wpAny _ _ (callAny (.type T) _) _ _ _
  refine wpAny_pure ⟨Code.quiet_builtin _ (by decide +kernel), codeAny_builtin F.entry_type_call ?_⟩
  rw [Around.under_plain (weight_type_call_type T args kw) (units_type_call_type T args kw)]
  have h1 := ft.notType
  have h2 := ft.canCreate
  repeat (any_goals (first | assumption | wp_step))

  refine codeAny_mono (codeAny_call_builtin ft.plain entryN (wpAny_of_eq hcn (g prog w A.in1 _ s h))) fun r s₁ hr => ?_
  cases r with
  | error e => exact hr
  | ok fl =>
    cases fl with
    | ret obj =>
      obtain ⟨hT, hok, Si, gi, hsi⟩ := hnext _ _ hr
      have hli := ft.init.lookup
      have hbi := ft.init.bind obj
      repeat (any_goals (first | assumption | wp_step))

      refine codeAny_mono (codeAny_call_builtin ft.init.plain entryI (ft.init.check _ _ _ _ _ _ _ _ hT hok (gi prog w A.in1 _ s₁ hsi))) fun r₂ s₂ hr₂ => ?_
      cases r₂ with
      | error e => exact hr₂
      | ok fl₂ =>
        cases fl₂ with
        | ret r =>
          obtain ⟨rfl, hq⟩ := hr₂
          repeat (any_goals (first | assumption | wp_step))
        | _ => exact hr₂.elim
    | _ => exact hr.elim
theorem init_meets_kw {T newId : String} {self : Value} {rest : List Value} {kw : List (Str × Value)} (hl : typeLookup (.type T) "__init__" = pure (some (.builtin "object.__init__")))
    (hm : Bind.madeBy (.type T) = pure (some newId)) (hne : (some newId != some "object.__new__") = true) (hr : rest ≠ []) :
    Meets (Builtin.«object.__init__» ⟨self :: rest, kw⟩) (fun _ R s => s.TypeIs self T ∧ R (.ok (.ret .none)) s) := by
  refine Meets.of_wp fun prog w A R s hs => ?_
  obtain ⟨hT, hq⟩ := hs
  cases rest with
  | nil => exact absurd rfl hr
  | cons a rest =>
    repeat (any_goals (first | assumption | wp_step))
    exact ⟨_, rfl, hq⟩
theorem meets_enum_start (l : Addr) (items : Array Value) (n : Nat) (dct : Option Addr) (sl : Array (Option Value)) (t : Tok) :
    Meets (Builtin.«enumerate.__new__» ⟨[.type "enumerate", .ref l], [("start", .int 1 t)]⟩) (fun _ R s => s.heap.get? l = some { cls := .type "list", dict := dct, data := .seq items n, slots := sl } ∧
      R (.ok (.ret (.ref (s.heap.push { cls := .type "list_iterator", data := .fields #[.ref l, .int 0 0] }).objs.size)))
        { s with heap := (s.heap.push { cls := .type "list_iterator", data := .fields #[.ref l, .int 0 0] }).push { cls := .type "enumerate", data := .fields #[.none, .bool false, .ref s.heap.objs.size, rawInt 1, .none, .none] } }) :=
  .of_wp fun prog w A R s h => by
    obtain ⟨hp, g, d, tk, os⟩ := s; obtain ⟨hl, h⟩ := h
    have hsub := sub_enumerate
    have hL : Heap.IsList (Shared.heap ⟨hp, g, d, tk, os⟩) l items := ⟨_, hl, rfl, n, rfl⟩
    wp_walk using wpAny_loadPart' hl
    refine wpAny_stack_any fun st => wpAny_pure ?_
    split
    · rename_i c _ _ _ _ _
      cases (c == Value.type "enumerate")
      · wp_walk using wpAny_loadPart' hl, wpAny_pyIter_list hL
        exact ⟨_, rfl, h⟩
      · wp_walk using wpAny_loadPart' hl, wpAny_pyIter_list hL
        exact ⟨_, rfl, h⟩
    · wp_walk using wpAny_loadPart' hl, wpAny_pyIter_list hL
      exact ⟨_, rfl, h⟩
theorem args_init_kw (a b c : Value) : argsOk "object.__init__" ⟨[a, b], [("start", c)]⟩ := by
  unfold argsOk
  rw [signature?_of (id := "object.__init__") (n := ['_', '_', 't', 'i', 'n', 'i', '_', '_']) (o := ['t', 'c', 'e', 'j', 'b', 'o']) (by kernel_rfl) F.owner_object]
  kernel_rfl
theorem call_enum_start {l : Addr} {items : Array Value} {t : Tok} {Q : Value → Shared → Prop} (hL : s.heap.IsList l items)
    (h : ∀ h', IsEnum h' (s.heap.objs.size + 1) s.heap.objs.size 1 .none → h'.IsListIter s.heap.objs.size l 0 → h'.objs.size = s.heap.objs.size + 2 →
      (∀ b o, s.heap.get? b = some o → h'.get? b = some o) → Q (.ref (s.heap.objs.size + 1)) { s with heap := h' }) :
    wpAny (model prog w) A (call (.type "enumerate") [.ref l] [("start", .int 1 t)]) Q E s := by
  obtain ⟨⟨c, dct, dt, sl⟩, hl, hc, n, hd⟩ := hL
  replace hc : c = .type "list" := hc
  replace hd : dt = .seq items n := hd
  subst hc hd
  refine callType_kw (Q₁ := fun obj s₁ => s₁.TypeIs obj "enumerate" ∧ Q obj s₁) F.called_enumerate (by kernel_rfl) (by kernel_rfl) F.entry_enumerate_new F.entry_object_init (meets_enum_start l items n dct sl t) ⟨hl, ?_⟩ fun obj s₁ hq => ⟨hq.1, args_init_kw _ _ _, _, init_meets_kw F.called_enumerate.init.lookup F.called_enumerate.made (by decide) (List.cons_ne_nil _ _), hq.1, rfl, hq.2⟩
  have hz : (s.heap.push { cls := .type "list_iterator", data := .fields #[.ref l, .int 0 0] }).objs.size = s.heap.objs.size + 1 := Heap.size_push ..
  show _ ∧ _
  rw [hz]
  have he : IsEnum ((s.heap.push { cls := .type "list_iterator", data := .fields #[.ref l, .int 0 0] }).push
      { cls := .type "enumerate", data := .fields #[.none, .bool false, .ref s.heap.objs.size, rawInt 1, .none, .none] }) (s.heap.objs.size + 1) s.heap.objs.size 1 .none := by
    have := Heap.get?_push_size (s.heap.push { cls := .type "list_iterator", data := .fields #[.ref l, .int 0 0] })
      (o := { cls := .type "enumerate", data := .fields #[.none, .bool false, .ref s.heap.objs.size, rawInt 1, .none, .none] }) rfl
    rw [hz] at this; exact this
  refine ⟨⟨_, he, rfl⟩, h _ he ⟨_, Heap.get?_push_of_some _ (Heap.get?_push_size _ rfl), rfl, rfl⟩ (by rw [Heap.size_push, hz]) fun b o x => Heap.get?_push_of_some _ (Heap.get?_push_of_some _ x)⟩
end
end Rd

set_option Elab.async false
set_option linter.all false
set_option maxRecDepth 100000
set_option maxHeartbeats 4000000
namespace Rd
open PySem
open AutoSeq1 (wpAny_loadPart')
section
variable {prog : Program} {w : World} {A : Around} {E : Value → Shared → Prop} {s : Shared}
theorem enumC_item {e it l : Addr} {i : Nat} {c : Int} {items : Array Value} {x old : Value} {Q : Value → Shared → Prop}
    (he : IsEnum s.heap e it c old) (hit : s.heap.IsListIter it l i) (hl : s.heap.IsList l items) (hx : items[i]? = some x) (hne : e ≠ it)
    (hQ : ∀ h', IsEnumOut h' e it (c + 1) x s.heap.objs.size → h'.IsListIter it l (i + 1) →
      h'.get? s.heap.objs.size = some { cls := .type "tuple", data := .seq #[.int c s.toks, x] } → h'.objs.size = s.heap.objs.size + 1 →
      (∀ b o, b ≠ e → b ≠ it → s.heap.get? b = some o → h'.get? b = some o) → Q (.ref s.heap.objs.size) { s with heap := h', toks := s.toks + 1 }) :
    wpAny (model prog w) A (Builtin.«enumerate.__next__» ⟨[.ref e], []⟩) (fun fin s' => ∃ v, fin = .done (.ret v) ∧ Q v s') E s := by
  obtain ⟨hp, g, d, tk, os⟩ := s
  show wpAny _ _ (field (.ref e) 2 >>= _) _ _ _
  refine wpAny_bind (wpAny_field he rfl (x := .ref it) rfl ?_)
  refine wpAny_bind (wpAny_nextOf_list_item hit hl hx fun h₁ hit₁ hs₁ => ?_)
  replace hs₁ : Heap.SameBut it hp h₁ := hs₁
  have he₁ : IsEnum h₁ e it c old := (hs₁.2 e hne).trans he
  show wpAny _ _ (field (.ref e) 3 >>= _) _ _ ⟨h₁, g, d, tk, os⟩
  refine wpAny_bind (wpAny_field he₁ rfl (x := rawInt c) rfl ?_)
  show wpAny _ _ (field (.ref e) 4 >>= _) _ _ ⟨h₁, g, d, tk, os⟩
  refine wpAny_bind (wpAny_field he₁ rfl (x := .none) rfl ?_)
  show wpAny _ _ (mkInt c >>= _) _ _ ⟨h₁, g, d, tk, os⟩
  refine wpAny_bind (wpAny_mkInt ?_)
  show wpAny _ _ (setField (.ref e) 3 (rawInt (c + 1)) >>= _) _ _ ⟨h₁, g, d, tk + 1, os⟩
  refine wpAny_bind (wpAny_setField_rec he₁ (by simp) fun h₂ he₂ hs₂ => ?_)
  replace hs₂ : Heap.SameBut e h₁ h₂ := hs₂
  replace he₂ : IsEnum h₂ e it (c + 1) old := he₂
  show wpAny _ _ (setField (.ref e) 4 .none >>= _) _ _ ⟨h₂, g, d, tk + 1, os⟩
  refine wpAny_bind (wpAny_setField_rec he₂ (by simp) fun h₃ he₃ hs₃ => ?_)
  replace hs₃ : Heap.SameBut e h₂ h₃ := hs₃
  replace he₃ : IsEnum h₃ e it (c + 1) old := he₃
  show wpAny _ _ (newTuple [.int c tk, x] >>= _) _ _ ⟨h₃, g, d, tk + 1, os⟩
  refine wpAny_bind (wpAny_newTuple ?_)
  have he₄ : IsEnum (h₃.push { cls := .type "tuple", data := .seq #[.int c tk, x] }) e it (c + 1) old := Heap.get?_push_of_some _ he₃
  generalize hh₄ : h₃.push { cls := .type "tuple", data := .seq #[.int c tk, x] } = h₄ at he₄
  have hsz : h₃.objs.size = hp.objs.size := by rw [hs₃.1, hs₂.1, hs₁.1]
  have hel : e < hp.objs.size := Heap.lt_size he
  have ht₄ : h₄.get? hp.objs.size = some { cls := .type "tuple", data := .seq #[.int c tk, x] } := by rw [← hh₄, ← hsz]; exact Heap.get?_push_size _ rfl
  have hz₄ : h₄.objs.size = hp.objs.size + 1 := by rw [← hh₄, Heap.size_push, hsz]
  have hk₄ : ∀ b o, b ≠ e → b ≠ it → hp.get? b = some o → h₄.get? b = some o := fun b o hbe hbi hb => by
    rw [← hh₄]; exact Heap.get?_push_of_some _ (hs₃.extBut b o hbe (hs₂.extBut b o hbe (hs₁.extBut b o hbi hb)))
  have hit₄ : h₄.IsListIter it l (i + 1) := by
    rw [← hh₄]; obtain ⟨o, ho, r⟩ := (hit₁.extBut hs₂.extBut (Ne.symm hne)).extBut hs₃.extBut (Ne.symm hne); exact ⟨o, Heap.get?_push_of_some _ ho, r⟩
  show wpAny _ _ (Builtin.SmallTypes.ownedTupleIsFree (.ref e) >>= _) _ _ ⟨h₄, g, d, tk + 1, os⟩
  rw [hsz]
  clear hh₄ he₃ hs₃ he₂ hs₂ he₁ hs₁ hit₁ hsz h₃ h₂ h₁
  refine wpAny_bind ?_
  · unfold Builtin.SmallTypes.ownedTupleIsFree
    refine wpAny_bind (wpAny_field he₄ rfl (x := .none) rfl (wpAny_pure ?_))
    simp only [if_true]
    refine wpAny_bind (wpAny_rule ?_)
    refine wpAny_bind (wpAny_field he₄ rfl (x := old) rfl ?_)
    refine wpAny_bind (wpAny_setField_rec he₄ (by simp) fun h₅ he₅ hs₅ => ?_)
    replace hs₅ : Heap.SameBut e h₄ h₅ := hs₅
    replace he₅ : IsEnum h₅ e it (c + 1) x := he₅
    show wpAny _ _ (Builtin.SmallTypes.ownedTupleHandOut (.ref e) (.ref hp.objs.size) >>= _) _ _ ⟨h₅, g, d, tk + 1, os⟩
    refine wpAny_bind ?_
    · unfold Builtin.SmallTypes.ownedTupleHandOut
      refine wpAny_bind (wpAny_setField_rec he₅ (by simp) fun h₆ he₆ hs₆ => ?_)
      replace hs₆ : Heap.SameBut e h₅ h₆ := hs₆
      replace he₆ : IsEnumOut h₆ e it (c + 1) x hp.objs.size := he₆
      refine wpAny_setField_rec he₆ (by simp) fun h₇ he₇ hs₇ => ?_
      replace hs₇ : Heap.SameBut e h₆ h₇ := hs₇
      replace he₇ : IsEnumOut h₇ e it (c + 1) x hp.objs.size := he₇
      refine wpAny_bind (wpAny_letGo (wpAny_pure ⟨_, rfl, hQ h₇ he₇ ?_ ?_ ?_ ?_⟩))
      · exact ((hit₄.extBut hs₅.extBut (Ne.symm hne)).extBut hs₆.extBut (Ne.symm hne)).extBut hs₇.extBut (Ne.symm hne)
      · exact hs₇.extBut _ _ (Nat.ne_of_gt hel) (hs₆.extBut _ _ (Nat.ne_of_gt hel) (hs₅.extBut _ _ (Nat.ne_of_gt hel) ht₄))
      · rw [hs₇.1, hs₆.1, hs₅.1, hz₄]
      · exact fun b o hbe hbi hb => hs₇.extBut b o hbe (hs₆.extBut b o hbe (hs₅.extBut b o hbe (hk₄ b o hbe hbi hb)))
theorem enumC_next {e it l : Addr} {i : Nat} {c : Int} {items : Array Value} {x old : Value} {Q : Option Value → Shared → Prop}
    (he : IsEnum s.heap e it c old) (hit : s.heap.IsListIter it l i) (hl : s.heap.IsList l items) (hx : items[i]? = some x) (hne : e ≠ it)
    (hQ : ∀ h', IsEnumOut h' e it (c + 1) x s.heap.objs.size → h'.IsListIter it l (i + 1) →
      h'.get? s.heap.objs.size = some { cls := .type "tuple", data := .seq #[.int c s.toks, x] } → h'.objs.size = s.heap.objs.size + 1 →
      (∀ b o, b ≠ e → b ≠ it → s.heap.get? b = some o → h'.get? b = some o) → Q (some (.ref s.heap.objs.size)) { s with heap := h', toks := s.toks + 1 }) :
    wpAny (model prog w) A (pyNext (.ref e)) Q E s := by
  have hT : s.TypeIs (.ref e) "enumerate" := ⟨_, he, rfl⟩
  unfold pyNext
  exact wpAny_bind (wpAny_attempt (wpAny_callSpecial?_slot (name := Str.ofString "__next__") hT F.slot_enumerate_next
    (wpAny_call_entry F.slot_enumerate_next hT F.entry_enumerate_next
      (enumC_item he hit hl hx hne fun h' a b c d k => wpAny_pure (hQ h' a b c d k)) (F.args_enumerate_next_1 _))))
theorem enumC_end {e it l : Addr} {i : Nat} {c : Int} {items : Array Value} {old : Value} {Q : Option Value → Shared → Prop} (hh : A.handled = none)
    (he : IsEnum s.heap e it c old) (hit : s.heap.IsListIter it l i) (hl : s.heap.IsList l items) (hx : items[i]? = none)
    (hQ : ∀ h', Heap.ExtBut it s.heap h' → Q none { s with heap := h' }) : wpAny (model prog w) A (pyNext (.ref e)) Q E s := by
  have hT : s.TypeIs (.ref e) "enumerate" := ⟨_, he, rfl⟩
  unfold pyNext
  refine wpAny_bind (wpAny_attempt (wpAny_callSpecial?_slot (name := Str.ofString "__next__") hT F.slot_enumerate_next
    (wpAny_call_entry F.slot_enumerate_next hT F.entry_enumerate_next ?_ (F.args_enumerate_next_1 _))))
  show wpAny _ _ (field (.ref e) 2 >>= _) _ _ _
  refine wpAny_bind (wpAny_field he rfl (x := .ref it) rfl ?_)
  refine wpAny_bind (wpAny_nextOf_list_end hh hit hl hx fun h' x he' hx' => ?_)
  obtain ⟨o, ho, hc⟩ := hx'
  refine wpAny_bind (wpAny_isInstance (T := "StopIteration") (b := true) ⟨o, ho, hc⟩ isSubtype_stop ?_)
  exact wpAny_pure (hQ _ he')
end
section
open PyProof.Rows
variable {M : Model} {A : Around} {E : Value → Shared → Prop} {s : Shared} {env : Env}
theorem callWith_type_kwB {pos : Pos} {id : String} {first : List Value} {args : List (Bool × Sem Value)} {keywords : List (Option Str × Sem Value)} {Q : Value → Shared → Prop}
    (hplain : args.any (·.1) = false) (hkw : keywords.any (·.1.isNone) = false)
    (h : wpAny M A (evalArgs (.type id) true args keywords) (fun a s₁ => wpAny M A (call (.type id) (first ++ a.pos) a.kw) Q E s₁) E s) :
    wpAny M A (callWith pos (.type id) first args keywords) Q E s := by
  unfold callWith
  refine wpAny_bind (wpAny_holding (wpAny_mono h (fun a s₁ h₁ => wpAny_bind (wpAny_standAt ?_)) fun _ _ x => x))
  simp only [hplain, hkw, Bool.or_false]
  refine wpAny_bind (wpAny_pure ?_)
  exact wpAny_bind (wpAny_mono h₁ (fun r s₂ hr => wpAny_bind (wpAny_holding (wpAny_point (wpAny_pure hr)))) fun _ _ x => x)
theorem callWith_kwT {pos : Pos} {id : String} {e : Expr} {rest : List Expr} {kws : List Keyword} {Q : Value → Shared → Prop}
    (h : wpAny M A (spliced (backTo pos (starEach (e :: rest) env))) (fun vs s₁ => wpAny M A (evalAll ((backToKw pos (keywordEach kws env)).map (·.2)))
      (fun kvs s₂ => wpAny M A (call (.type id) vs (((backToKw pos (keywordEach kws env)).filterMap (·.1)).zip kvs)) Q E s₂) E s₁) E s)
    (he : backTo pos (starEach (e :: rest) env) = (false, eval e env) :: backTo pos (starEach rest env) := by rfl)
    (hplain : (backTo pos (starEach (e :: rest) env)).any (·.1) = false := by rfl)
    (hall : (backToKw pos (keywordEach kws env)).all (·.1.isSome) = true := by rfl)
    (hkw : (backToKw pos (keywordEach kws env)).any (·.1.isNone) = false := by rfl) :
    wpAny M A (callWith pos (.type id) [] (backTo pos (starEach (e :: rest) env)) (backToKw pos (keywordEach kws env))) Q E s := by
  refine callWith_type_kwB hplain hkw ?_
  rw [he] at h ⊢
  exact evalArgs_kwB hall h
end
end Rd

set_option Elab.async false
set_option linter.all false
set_option maxRecDepth 100000
set_option maxHeartbeats 400000
namespace L2
open PySem PySem.Spec PyProof.Rows
noncomputable def Ite1 (K : PySem.W.Frag) (a : Addr) : It :=
  ⟨fun i H => ∃ xs x, SqL K H a xs ∧ xs[i]? = some x, fun i H v H' => ∃ x T, (∀ xs, SqL K H a xs → xs[i]? = some x) ∧ H T = none ∧ v = .ref T ∧ H' = upd H T (.tup [.int ((i : Int) + 1), x]), fun i H => ∃ xs, SqL K H a xs ∧ xs.length ≤ i⟩
theorem turn_enum1 {P : Program} {w : World} {K : PySem.W.Frag} {elts : List Expr} {x1 : Nat} {pos : Pos} (a e it : Addr) (hei : e ≠ it) : Turn P w K (.Tuple elts x1 pos) (Ite1 K a) [e, it] e (fun i h => (∃ old, IsEnum h e it ((i : Int) + 1) old) ∧ h.IsListIter it a i) where
  mem := by simp
  obj := fun i h st b hb => by
    obtain ⟨⟨old, he⟩, hit⟩ := st
    rcases List.mem_cons.mp hb with rfl | hb
    · exact ⟨_, he, fun v z => by cases z⟩
    · have e : b = it := by simpa using hb
      subst e
      obtain ⟨o, e, c, d⟩ := hit
      exact ⟨o, e, fun v z => by rw [d] at z; cases z⟩
  keep := fun i h h' st k => by
    obtain ⟨⟨old, he⟩, hit⟩ := st
    exact ⟨⟨old, k e (by simp) _ he⟩, hit.at fun o e => k it (by simp) o e⟩
  item := by
    intro X hP hw hK hc i pins s σ H E I hf st hg
    subst hP hw hK
    obtain ⟨xs, x, hq, hx⟩ := hg
    obtain ⟨its, rv, p, hz⟩ := I.list hq
    obtain ⟨u, hu, ru⟩ := rv.get hx
    obtain ⟨⟨old, he⟩, hit⟩ := st
    refine Rd.enumC_next he hit p.isList (x := u) (by simpa using hu) hei fun h1 ho hit' hT hsz hk => ⟨_, rfl, ?_⟩
    refine wpAny_letOwnedTupleGo_enum ho fun h2 he2 hs2 => ?_
    have hTn : H s.heap.objs.size = none := I.hok.fresh (Nat.le_refl _)
    have helt : e < s.heap.objs.size := Heap.lt_size he
    have hilt : it < s.heap.objs.size := by obtain ⟨_, x, _⟩ := hit; exact Heap.lt_size x
    have I1 : Inv X pins σ (upd H s.heap.objs.size (.tup [.int ((i : Int) + 1), x])) { s with heap := s.heap.push { cls := .type "tuple", data := .seq #[.int ((i : Int) + 1) s.toks, u] }, toks := s.toks + 1 } := I.laid (t' := s.toks + 1) (o := .tup [.int ((i : Int) + 1), x]) (fun b o e => Heap.get?_push_of_some _ e) (Nat.le_refl _) ⟨szl (by show 2 ≤ 1000000; decide), [.int ((i : Int) + 1) s.toks, u], .cons ⟨_, rfl⟩ (.cons ru .nil), IsTupN.new _ _⟩
    have I2 : Inv X pins σ (upd H s.heap.objs.size (.tup [.int ((i : Int) + 1), x])) { s with heap := h2, toks := s.toks + 1 } := by
      refine Inv.turnedL (s := { s with heap := s.heap.push { cls := .type "tuple", data := .seq #[.int ((i : Int) + 1) s.toks, u] }, toks := s.toks + 1 }) (h' := h2) (ch := [e, it]) (t' := s.toks + 1) I1 (fun b o hb q => ?_) (fun b hb => ?_)
      · have nbe : b ≠ e := fun z => hb (by simp [z])
        have nbi : b ≠ it := fun z => hb (by simp [z])
        show h2.get? b = some o
        rw [hs2.2 b nbe]
        rcases Heap.get?_push_cases q with ⟨rfl, rfl⟩ | q
        · exact hT
        · exact hk b o nbe nbi q
      · obtain ⟨f0, f1, f2, f3, f4, f5⟩ := hf b hb
        have nb : b ≠ s.heap.objs.size := by
          rcases List.mem_cons.mp hb with rfl | hb
          · exact Nat.ne_of_lt helt
          · have : b = it := by simpa using hb
            subst this
            exact Nat.ne_of_lt hilt
        exact ⟨by rw [upd_ne nb]; exact f0, f1, f2, f3, f4, f5⟩
    refine ⟨.ref s.heap.objs.size, _, I2, rfl, ⟨x, _, fun ys hy => by rw [I.list_inj hy hq]; exact hx, hTn, rfl, rfl⟩, ⟨⟨_, by simpa using he2⟩, hit'.at fun o y => (hs2.2 it hei.symm).trans y⟩, fun b hb => ?_⟩
    obtain ⟨f0, f1, f2, f3, f4, f5⟩ := hf b hb
    have nb : b ≠ s.heap.objs.size := by
      rcases List.mem_cons.mp hb with rfl | hb
      · exact Nat.ne_of_lt helt
      · have : b = it := by simpa using hb
        subst this
        exact Nat.ne_of_lt hilt
    rw [upd_ne nb]
    exact f0
  done := by
    intro X hP hw hK hc i pins s σ H E I hf st hg
    subst hP hw hK
    obtain ⟨xs, hq, hx⟩ := hg
    obtain ⟨its, rv, p, hz⟩ := I.list hq
    obtain ⟨⟨old, he⟩, hit⟩ := st
    have hl := rv.length
    refine Rd.enumC_end (I.ok.hd hc) he hit p.isList (by simp; omega) fun h' eb => ⟨rfl, ?_⟩
    exact I.turnedL (ch := [e, it]) (t' := s.toks) (fun b o hb q => eb b o (fun z => hb (by simp [z])) q) hf
  self := fun _ _ _ _ _ st h => by
    obtain ⟨⟨old, he⟩, _⟩ := st
    exact wpAny_pyIter_enum he h
noncomputable def iEnum1 (K : PySem.W.Frag) (ta : TA) : TI := fun σ H R => ta σ H fun vs H1 => ∃ a : Addr, vs = [.ref a] ∧ (∃ xs, SqL K H1 a xs) ∧ R (Ite1 K a) H1
theorem pi_enum1 {X : Cx} {a : Expr} {ta : TA} {p pos kp ip : Pos} {elts : List Expr} {x1 j : Nat} {pos2 : Pos} (hg : Gl X "enumerate") (hm : X.mg "enumerate" = none) (ha : PA X [a] ta) (hs : starEach [a] X.env = [(false, eval a X.env)] := by rfl) : PI X (.Tuple elts x1 pos2) (.Call (.Name "enumerate" p) [a] [⟨some "start", .Constant (.int 1) j ip, kp⟩] pos) (iEnum1 X.K ta) := by
  intro pins s σ H R I h
  refine wpAny_Call_Name_kw (ld_blt I hg hm boot_enumerate ?_)
  refine Rd.callWith_kwT (thn (ha pos pins s σ H _ I h) fun us s1 ⟨vs, H1, I1, r1, q1⟩ => ?_) (by rw [hs]; rfl) (by rw [hs]; rfl)
  refine PyProof.Rows.kws_cons (wpAny_Constant_int (PyProof.Rows.kws_nil ?_))
  obtain ⟨l, rfl, ⟨xs, hq⟩, q⟩ := q1
  cases r1 with
  | cons r rr =>
    cases rr
    cases r
    have I2 := I1.tok (s1.toks + 1)
    obtain ⟨its, rv, pl, hz⟩ := I2.list hq
    refine Rd.call_enum_start pl.isList fun h' he hit hsz hk => ?_
    refine wpAny_pyIter_enum he ?_
    refine ⟨_, [s1.heap.objs.size + 1, s1.heap.objs.size], _, _, H1, rfl, I2.kept (t' := s1.toks + 1) hk, turn_enum1 l _ _ (Nat.ne_of_gt (Nat.lt_succ_self _)), ⟨⟨_, he⟩, hit⟩, fun b hb => ?_, q⟩
    rcases List.mem_cons.mp hb with rfl | hb
    · exact I2.fpOk (Nat.le_succ _) (I2.hok.fresh (Nat.le_succ _))
    · have e : b = s1.heap.objs.size := by simpa using hb
      subst e
      exact I2.fpOk (Nat.le_refl _) (I2.hok.fresh (Nat.le_refl _))
theorem for_enum1 {K : PySem.W.Frag} {a : Addr} {xs : List V} {g : TG} {tb : TS} {D : Ends} {σ : St} {H : Hp} (Pv : Nat → St → Hp → Prop) (h0 : Pv 0 σ H) (hl : ∀ i σ H, i ≤ xs.length → Pv i σ H → SqL K H a xs)
    (hs : ∀ i x T σ H, xs[i]? = some x → Pv i σ H → H T = none → g (.ref T) σ (upd H T (.tup [.int ((i : Int) + 1), x])) fun σ2 H2 => tb { D with nx := Pv (i + 1), ct := Pv (i + 1), bk := D.nx } σ2 H2) (hd : ∀ σ H, Pv xs.length σ H → D.nx σ H) :
    ∃ W : Nat → Nat → St → Hp → Prop, (∃ m, W 0 m σ H) ∧ ∀ i m σ H, W i m σ H →
      ((Ite1 K a).stop i H ∧ D.nx σ H) ∨ ((Ite1 K a).go i H ∧ ∃ N : St → Hp → Prop, (∀ σ' H', N σ' H' → ∃ m', m' < m ∧ W (i + 1) m' σ' H') ∧ ∀ x H', (Ite1 K a).yld i H x H' → g x σ H' fun σ2 H2 => tb { D with nx := N, ct := N, bk := D.nx } σ2 H2) := by
  refine ⟨fun i m σ H => m = xs.length - i ∧ i ≤ xs.length ∧ Pv i σ H, ⟨xs.length, by simp, Nat.zero_le _, h0⟩, ?_⟩
  rintro i m σ H ⟨rfl, hi, p⟩
  have q := hl i σ H hi p
  by_cases hlt : i < xs.length
  · refine .inr ⟨⟨xs, xs[i], q, List.getElem?_eq_getElem hlt⟩, Pv (i + 1), fun σ' H' p' => ⟨xs.length - (i + 1), by omega, rfl, hlt, p'⟩, fun v H' y => ?_⟩
    obtain ⟨x, T, hx, hT, rfl, rfl⟩ := y
    exact hs i x T σ H (hx xs q) p hT
  · have e : i = xs.length := by omega
    subst e
    exact .inl ⟨⟨xs, q, Nat.le_refl _⟩, hd σ H p⟩
end L2

set_option Elab.async false
set_option linter.all false
set_option maxRecDepth 100000
set_option maxHeartbeats 1000000
namespace L2
open PySem PySem.Spec PyProof.Rows
theorem d_setdef {X : Cx} {pins : List (Addr × Obj)} {σ : St} {H : Hp} {s : Shared} {A : Around} {E : Value → Shared → Prop} {a : Addr} {kvs : List (Key × V)} {k : Key} {x : V} {u r : Value} {Q : Value → Shared → Prop} (I : Inv X pins σ H s) (e : H a = some (.dK kvs)) (ry : RelV (kV k) u) (rx : RelV x r) (hz : kvs.length ≤ 1000000)
    (h1 : ∀ v w' s', valV kvs k = some v → Inv X pins σ H s' → RelV v w' → Q w' s')
    (h2 : valV kvs k = none → ∀ s', Inv X pins σ (upd H a (.dK (putK kvs k x))) s' → Q r s') : wpAny (model X.prog X.w) A (call (.builtin "dict.setdefault") [.ref a, u, r]) Q E s := by
  obtain ⟨z, hd, vs, rel, dd⟩ := dk_of I.hok e
  have hl : (putK kvs k x).length ≤ sizeLine := by have := length_putK kvs k x; have := sizeLine_eq; omega
  refine call_meetsIn PySem.F.slot_dict_setdefault dd.typeIs PySem.F.entry_dict_setdefault (PySem.F.args_dict_setdefault_3 _ _ _) (kt_meets_setdefault (mixKind X.prog X.w) a (kV_is ry) hd r)
    ⟨vs, dd, by rw [← rel.length]; exact z, fun v hv => ?_, fun hn h' dd' hs => ?_⟩
  · have rl := rel.val k
    rw [hv] at rl
    cases l : valV kvs k with
    | none => rw [l] at rl; exact rl.elim
    | some v0 => rw [l] at rl; exact h1 v0 v _ l (I.tok _) rl
  · have rl := rel.val k
    rw [hn] at rl
    have he : ∃ q, h'.get? a = some q := let ⟨q, _, _, hq, _⟩ := dd'; ⟨q, hq⟩
    cases l : valV kvs k with
    | some v0 => rw [l] at rl; exact rl.elim
    | none => exact h2 l _ (d_write I (by rw [e]; exact True.intro) hs he (dk_new hl hd (rel.put k rx) dd'))
noncomputable def tDSet (td ty tx : TE) : TE := fun σ H Q => td σ H fun x H1 => ∃ a, x = .ref a ∧ IsD H1 a ∧ ty σ H1 fun y H2 => tx σ H2 fun z H3 => ∃ kvs k, H3 a = some (.dK kvs) ∧ y = kV k ∧ kvs.length ≤ 1000000 ∧
  (∀ v, valV kvs k = some v → Q v H3) ∧ (valV kvs k = none → Q z (upd H3 a (.dK (putK kvs k z))))
theorem pe_dsetd {X : Cx} {o e f : Expr} {td ty tx : TE} {apos cpos : Pos} (ho : PE X o td) (he : PE X e ty) (hf : PE X f tx) (m : M2 X o "setdefault" apos e f cpos) : PE X (.Call (.Attribute o "setdefault" apos) [e, f] [] cpos) (tDSet td ty tx) := by
  intro pins s σ H Q I h
  refine wpAny_Call_method m.base m.few m.line PySem.F.plainAttrs_dict PySem.F.slot_dict_setdefault PySem.F.type_dict_setdefault (thn (ho pins s σ H _ I h) fun u s1 ⟨x, H1, I1, rx, a, ex, d, q1⟩ => ?_)
  subst ex
  obtain rfl : u = Value.ref a := rx
  obtain ⟨t1, t2, _⟩ := isD_at I1 d
  refine ⟨t1, t2, ?_⟩
  rw [m.trees]
  refine Calls.callWith_builtin rfl (Calls.evalArgs_plain (Calls.spliced_cons (thn (he pins s1 σ H1 _ I1 q1) fun iv s2 ⟨y, H2, I2, ry, q2⟩ =>
    Calls.spliced_cons (thn (hf pins s2 σ H2 _ I2 q2) fun fv s3 ⟨z, H3, I3, rz, kvs, k, ea, ey, hz, q3, q4⟩ => Calls.spliced_nil ?_))))
  subst ey
  exact d_setdef I3 ea ry rz hz (fun v w' s4 l I4 rw' => ⟨v, H3, I4, rw', q3 v l⟩) fun l s4 I4 => ⟨z, _, I4, rz, q4 l⟩
end L2

set_option Elab.async false
set_option linter.all false
set_option maxRecDepth 100000
set_option maxHeartbeats 1000000
namespace L2
open PySem PySem.Spec PyProof.Rows
noncomputable def KDict (P : Program) (w : World) (K : PySem.W.Frag) (a : Addr) (kvs : List (Key × V)) : Prop :=
  (a == sysModules) = false ∧ ∀ h : Heap, K.In h → ∃ vs, KV kvs vs ∧ h.DictOf (mixKind P w) a vs
noncomputable def tKGet (P : Program) (w : World) (K : PySem.W.Frag) (td ty : TE) : TE := fun σ H Q => td σ H fun x H1 => ty σ H1 fun y H2 => ∃ a kvs k v, x = .ref a ∧ KDict P w K a kvs ∧ y = kV k ∧ valV kvs k = some v ∧ Q v H2
theorem pe_kget {X : Cx} {o i : Expr} {pos : Pos} {td ty : TE} (ho : PE X o td) (hi : PE X i ty) (hs : NoSl i) : PE X (.Subscript o i pos) (tKGet X.prog X.w X.K td ty) := by
  intro pins s σ H Q I h
  refine subD_of PySem.F.slot_dict_getitem.lookup hs (thn (ho pins s σ H _ I h) fun u s1 ⟨x, H1, I1, rx, q1⟩ => thn (hi pins s1 σ H1 _ I1 q1) fun iv s2 ⟨y, H2, I2, ry, a, kvs, k, v, ex, g, ey, l, q2⟩ => ?_)
  subst ex ey
  obtain rfl : u = Value.ref a := rx
  obtain ⟨vs, rel, dd⟩ := g.2 s2.heap I2.kIn
  obtain ⟨w', hw, rw'⟩ := RelO.some_of (v := v) (o := valueAt vs k) (by rw [← l]; exact rel.val k)
  exact ⟨dd.typeIs, wpAny_getItem_of (kV_is ry) dd.mapOf hw ⟨v, H2, I2.tok _, rw', q2⟩⟩
theorem kdict4s {P : Program} {w : World} {K : PySem.W.Frag} {u : Addr} {ep : Nat} {x0 x1 x2 x3 : Str} {y0 y1 y2 y3 : Int} {h0 h1 h2 h3 : Int} {t0 t1 t2 t3 s0 s1 s2 s3 : Tok}
    (q : K.lookup u = some ⟨.type "dict", none, .dict #[⟨h0, .str x0 t0, .int y0 s0⟩, ⟨h1, .str x1 t1, .int y1 s1⟩, ⟨h2, .str x2 t2, .int y2 s2⟩, ⟨h3, .str x3 t3, .int y3 s3⟩] ep, #[]⟩) (e0 : h0 = hashStr w x0) (e1 : h1 = hashStr w x1) (e2 : h2 = hashStr w x2) (e3 : h3 = hashStr w x3) (sm : (u == sysModules) = false)
    (nd : [x0, x1, x2, x3].Nodup) : KDict P w K u [(.inr x0, .int y0), (.inr x1, .int y1), (.inr x2, .int y2), (.inr x3, .int y3)] := ⟨sm, fun h X => by
  subst e0 e1 e2 e3
  have is : ∀ (x : Str) (t : Tok), (mixKind P w).is (.inr x) (.str x t) = true := fun x t => kV_is (k := .inr x) ⟨t, rfl⟩
  refine ⟨[(.inr x0, .int y0 s0), (.inr x1, .int y1 s1), (.inr x2, .int y2 s2), (.inr x3, .int y3 s3)], .cons ⟨rfl, ⟨_, rfl⟩⟩ (.cons ⟨rfl, ⟨_, rfl⟩⟩ (.cons ⟨rfl, ⟨_, rfl⟩⟩ (.cons ⟨rfl, ⟨_, rfl⟩⟩ .nil))), _, _, _, X _ _ q, ⟨rfl, rfl, rfl⟩, rfl, fun e he => ?_, .cons (is _ _) rfl (.cons (is _ _) rfl (.cons (is _ _) rfl (.cons (is _ _) rfl .nil))), ?_⟩
  · simp only [List.mem_toArray, List.mem_cons, List.not_mem_nil, or_false] at he
    rcases he with rfl | rfl | rfl | rfl
    · exact ⟨.inr x0, is _ _, rfl⟩
    · exact ⟨.inr x1, is _ _, rfl⟩
    · exact ⟨.inr x2, is _ _, rfl⟩
    · exact ⟨.inr x3, is _ _, rfl⟩
  · simp only [List.map_cons, List.map_nil, List.nodup_cons, List.mem_cons, List.not_mem_nil, or_false, not_or, Sum.inr.injEq, not_false_eq_true, List.nodup_nil, and_true] at nd ⊢
    exact nd⟩
end L2

set_option Elab.async false
set_option linter.all false
set_option maxRecDepth 100000
set_option maxHeartbeats 1000000
namespace L2
open PySem PySem.Spec PyProof.Rows
section
variable {X : Cx}
noncomputable def rEqE (K : PySem.W.Frag) (neg : Bool) : R2 := fun x y H Q => ∃ p q xs, x = .ref p ∧ y = .ref q ∧ SqL K H p xs ∧ SqL K H q [] ∧ Q (.bl (if neg then !xs.isEmpty else xs.isEmpty)) H
theorem eqE_aux {neg : Bool} (hu : X.A.units + 64 < cLine) : OpR X (compareOp (if neg then .NotEq else .Eq)) (rEqE X.K neg) := by
  intro pins s σ H x y v u Q I rx ry h
  obtain ⟨p, q, xs, rfl, rfl, hp, hq, q'⟩ := h
  cases rx; cases ry
  have key : SeqAt.RcAt X.A s (.ref p) (.ref q) xs.isEmpty ∧ SeqAt.RcNeAt X.A s (.ref p) (.ref q) (!xs.isEmpty) := by
    obtain ⟨its, rv, pl, _⟩ := I.list hp
    obtain ⟨jts, rv', pl', _⟩ := I.list hq
    have l1 := rv.length
    have l2 : 0 = jts.length := rv'.length
    cases xs with
    | nil =>
      have l1 : 0 = its.length := l1
      have hsz : its.toArray.size = jts.toArray.size := by rw [List.size_toArray, List.size_toArray]; omega
      have a := SeqAt.RcAt.lists (A := X.A) (e := fun _ => true) pl.isList pl'.isList hsz (by omega) (fun j u v => absurd u (by rw [List.size_toArray]; omega))
      have b := SeqAt.RcNeAt.lists (A := X.A) (e := fun _ => true) pl.isList pl'.isList hsz (by omega) (fun j u v => absurd u (by rw [List.size_toArray]; omega))
      have e : its.toArray.size = 0 := by rw [List.size_toArray]; omega
      rw [e] at a b
      exact ⟨a, b⟩
    | cons x0 xs =>
      rw [List.length_cons] at l1
      have hne : (its.toArray.size != jts.toArray.size) = true := by
        rw [List.size_toArray, List.size_toArray]
        simp only [bne_iff_ne, ne_eq]; omega
      exact ⟨SeqAt.RcAt.lists_lengths pl.isList pl'.isList hne (by omega), SeqAt.RcNeAt.lists_lengths pl.isList pl'.isList hne (by omega)⟩
  cases neg with
  | false => exact key.1 X.prog X.w X.xe _ ⟨.bl _, H, I, rfl, q'⟩
  | true => exact key.2 X.prog X.w X.xe _ ⟨.bl _, H, I, rfl, q'⟩
theorem op_eqE (hu : X.A.units + 64 < cLine) : OpR X (compareOp .Eq) (rEqE X.K false) := eqE_aux (neg := false) hu
theorem op_neE (hu : X.A.units + 64 < cLine) : OpR X (compareOp .NotEq) (rEqE X.K true) := eqE_aux (neg := true) hu
end
end L2

set_option Elab.async false
set_option linter.all false
set_option maxRecDepth 100000
set_option maxHeartbeats 4000000
namespace Bd
end Bd
namespace L2
open PySem PySem.Spec PyProof.Rows Bd
section
variable {es : List Expr} {env : Env} {p : Pos}
theorem star_C {c : Const} {n : Nat} : starEach (.Constant c n p :: es) env = (false, eval (.Constant c n p) env) :: starEach es env := rfl
theorem star_N {x : Str} : starEach (.Name x p :: es) env = (false, eval (.Name x p) env) :: starEach es env := rfl
theorem star_B {a b : Expr} {o : Operator} : starEach (.BinOp a o b p :: es) env = (false, eval (.BinOp a o b p) env) :: starEach es env := rfl
theorem star_K {f : Expr} {as : List Expr} {ks : List Keyword} : starEach (.Call f as ks p :: es) env = (false, eval (.Call f as ks p) env) :: starEach es env := rfl
theorem star_S {a b : Expr} : starEach (.Subscript a b p :: es) env = (false, eval (.Subscript a b p) env) :: starEach es env := rfl
theorem star_T {as : List Expr} {n : Nat} : starEach (.Tuple as n p :: es) env = (false, eval (.Tuple as n p) env) :: starEach es env := rfl
end
@[irreducible] def PAq (X : Cx) (es : List Expr) (t : TA) : Prop := PA X es t
section
variable {X : Cx} {e : Expr} {es : List Expr} {te : TE} {t : TA} {pos : Pos}
theorem paq_nil : PAq X [] tNil := by unfold PAq; exact pa_nil
theorem paq_cons (ha : PE X e te) (hr : PAq X es t) (hs : starEach (e :: es) X.env = (false, eval e X.env) :: starEach es X.env) : PAq X (e :: es) (tCons te t) := by unfold PAq at *; exact pa_cons ha hr hs
theorem pe_lstq (h : PAq X es t) : PE X (.List es pos) (tLst t) := by unfold PAq at h; exact pe_lst h
theorem pe_tupq {x1 : Nat} (h : PAq X es t) : PE X (.Tuple es x1 pos) (tTup t) := by unfold PAq at h; exact pe_tup h
end
theorem while_ix {c : TT} {tb : TS} {D : Ends} {σ : St} {H : Hp} (k : Nat) (Pv : Nat → St → Hp → Prop) (h0 : Pv 0 σ H)
    (hs : ∀ i σ H, i ≤ k → Pv i σ H → c σ H fun b H1 => if b = true then i < k ∧ tb { D with nx := Pv (i + 1), ct := Pv (i + 1), bk := D.nx } σ H1 else D.nx σ H1)
    (mono : ∀ σ H Q Q', (∀ b H1, Q b H1 → Q' b H1) → c σ H Q → c σ H Q') : tWhile c tb D σ H := by
  refine ⟨fun m σ H => ∃ i, i ≤ k ∧ m = k - i ∧ Pv i σ H, ⟨_, 0, Nat.zero_le _, rfl, h0⟩, ?_⟩
  rintro m σ H ⟨i, hi, rfl, p⟩
  refine mono σ H _ _ (fun b H1 q => ?_) (hs i σ H hi p)
  cases b with
  | true => exact ⟨Pv (i + 1), fun σ' H' p' => ⟨k - (i + 1), by have := q.1; omega, i + 1, by have := q.1; omega, rfl, p'⟩, q.2⟩
  | false => exact q
end L2

set_option Elab.async false
set_option linter.all false
set_option maxRecDepth 100000
set_option maxHeartbeats 4000000
namespace Bd
end Bd
namespace L2
open PySem PySem.Spec PyProof.Rows Bd
end L2

set_option Elab.async false
set_option linter.all false
set_option maxRecDepth 100000
set_option maxHeartbeats 4000000
namespace L2
open PySem PySem.Spec PyProof.Rows
open Bd
end L2

set_option Elab.async false
set_option linter.all false
set_option maxRecDepth 100000
set_option maxHeartbeats 4000000
namespace L2
open PySem PySem.Spec PyProof.Rows
noncomputable def spIni (C : Addr) (fs : List Str) : Sp := fun as H Q _ => ∃ (x dx : Addr) (vs : List V), as = .ref x :: vs ∧ vs.length = fs.length ∧ H x = some (.ins C dx []) ∧ ∀ H', (∀ b o, H b = some o → b ≠ x → H' b = some o) → (∃ dx, H' x = some (.ins C dx (fs.zip vs))) → Q .non H'
structure Cs where
  n : Addr
  v : Addr
  c : Addr
  j : Addr
end L2

set_option Elab.async false
set_option linter.all false
set_option maxRecDepth 100000
set_option maxHeartbeats 4000000
namespace PySem
open Builtin
open AutoSeq1 (wpAny_loadPart')
end PySem
namespace L2
open PySem PySem.Spec PyProof.Rows
section
variable {X : Cx}
end
end L2

set_option Elab.async false
set_option linter.all false
set_option maxRecDepth 100000
set_option maxHeartbeats 4000000
namespace L2
open PySem PySem.Spec PyProof.Rows Bd
theorem dS {x y : Str} (h : x ≠ y) : decide (V.str x = V.str y) = false := decide_eq_false fun e => h (V.str.inj e)
end L2

set_option Elab.async false
set_option linter.all false
set_option maxRecDepth 100000
set_option maxHeartbeats 4000000
namespace L2
open PySem PySem.Spec PyProof.Rows
section
open PySem.SeqAt
open PySem.AutoSeq1 (wpAny_loadPart')
open PySem.MeetsSeq PySem.MeetsSeq2 PySem.MeetsSeq3
end
end L2

set_option Elab.async false
set_option linter.all false
set_option maxRecDepth 100000
set_option maxHeartbeats 4000000
namespace L2
open PySem PySem.Spec PyProof.Rows
section
variable {prog : Program} {w : World} {A : Around} {E : Value → Shared → Prop} {s : Shared}
end
section
variable {prog : Program} {w : World} {A : Around} {E : Value → Shared → Prop} {s : Shared}
end
end L2

set_option Elab.async false
set_option linter.all false
set_option maxRecDepth 100000
set_option maxHeartbeats 4000000
namespace L2
open PySem PySem.Spec PyProof.Rows
end L2
namespace L2
open PySem PySem.Spec PyProof.Rows
end L2
namespace L2
open PySem PySem.Spec PyProof.Rows
end L2

set_option linter.all false
namespace Fo
variable {W L : Type}
section
variable (hdr : Nat → Bool → W → L) (dl : Nat → Int → List (Int × Int) → L)
end
end Fo
namespace Fo
variable {W L : Type}
end Fo

set_option Elab.async false
set_option linter.all false
set_option maxRecDepth 100000
set_option maxHeartbeats 4000000
namespace L2
open PySem PySem.Spec PyProof.Rows
noncomputable def All2 {α : Type} (R : V → α → Prop) (xs : List V) (as : List α) : Prop := xs.length = as.length ∧ ∀ (i : Nat) (x : V) (a : α), xs[i]? = some x → as[i]? = some a → R x a
theorem All2.nil {α : Type} {R : V → α → Prop} : All2 R [] [] := ⟨rfl, fun i x a h => by simp at h⟩
theorem All2.mono {α : Type} {R S : V → α → Prop} {xs : List V} {as : List α} (h : All2 R xs as) (m : ∀ x a, R x a → S x a) : All2 S xs as := ⟨h.1, fun i x a p q => m _ _ (h.2 i x a p q)⟩
theorem All2.get' {α : Type} {R : V → α → Prop} {xs : List V} {as : List α} {i : Nat} {x : V} (h : All2 R xs as) (hx : xs[i]? = some x) : ∃ a, as[i]? = some a ∧ R x a := by
  have hi : i < as.length := by rw [← h.1]; exact (List.getElem?_eq_some_iff.mp hx).1
  exact ⟨_, List.getElem?_eq_getElem hi, h.2 i x _ hx (List.getElem?_eq_getElem hi)⟩
theorem All2.app {α : Type} {R : V → α → Prop} {xs ys : List V} {as bs : List α} (h : All2 R xs as) (g : All2 R ys bs) : All2 R (xs ++ ys) (as ++ bs) := by
  refine ⟨by rw [List.length_append, List.length_append, h.1, g.1], fun i x a p q => ?_⟩
  by_cases l : i < xs.length
  · rw [List.getElem?_append_left l] at p
    rw [List.getElem?_append_left (by rw [← h.1]; exact l)] at q
    exact h.2 i x a p q
  · rw [List.getElem?_append_right (by omega)] at p
    rw [List.getElem?_append_right (by have := h.1; omega)] at q
    rw [h.1] at p
    exact g.2 _ x a p q
theorem All2.one {α : Type} {R : V → α → Prop} {x : V} {a : α} (h : R x a) : All2 R [x] [a] := ⟨rfl, fun i y b p q => by
  cases i with
  | zero => cases p; cases q; exact h
  | succ i => simp at p⟩
theorem All2.snoc {α : Type} {R : V → α → Prop} {xs : List V} {as : List α} {x : V} {a : α} (h : All2 R xs as) (g : R x a) : All2 R (xs ++ [x]) (as ++ [a]) := h.app (.one g)
theorem All2.cons {α : Type} {R : V → α → Prop} {xs : List V} {as : List α} {x : V} {a : α} (g : R x a) (h : All2 R xs as) : All2 R (x :: xs) (a :: as) := All2.app (.one g) h
end L2

set_option Elab.async false
set_option linter.all false
set_option maxRecDepth 100000
set_option maxHeartbeats 4000000
namespace L2
open PySem PySem.Spec PyProof.Rows
noncomputable def TK (H H' : Hp) : Prop := ∀ (b : Addr) (xs : List V), H b = some (.tup xs) → H' b = some (.tup xs)
theorem TK.trans {H H' H'' : Hp} (a : TK H H') (b : TK H' H'') : TK H H'' := fun x xs h => b x xs (a x xs h)
theorem Same.tk {H H' : Hp} (e : Same H H') : TK H H' := fun b xs h => e b _ h
theorem TK.upd {H : Hp} {l : Addr} {xs : List V} {o : HO} (hl : H l = some (.lst xs)) : TK H (upd H l o) := fun b ys hb => by
  rw [upd_ne (ne_of hb hl (by intro z; cases z))]
  exact hb
theorem cds_join (z : Str) : ∀ (x : Str) (ys : List Str), cds (Txt.join z (x :: ys)) = cds x ++ (ys.map fun y => cds z ++ cds y).flatten := by
  intro x ys
  show cds (Builtin.Str.glued z (x :: ys)) = _
  rw [StrLaws.glued_eq_join]
  induction ys generalizing x with
  | nil => simp [Str.join]
  | cons y r ih =>
    show cds (x ++ z ++ Str.join z (y :: r)) = _
    rw [cds_app, cds_app, ih]
    simp
theorem neg_text {i : Int} (h : i < 0) : Str.ofString (toString i) = "-" ++ Str.ofString (toString (0 - i)) := by
  cases i with
  | ofNat n => exact absurd h (by simp)
  | negSucc n =>
    have e : (0 - Int.negSucc n) = ((n + 1 : Nat) : Int) := by omega
    rw [e]
    refine cds_ext ?_
    rw [cds_app]
    show ((Str.ofString ("-" ++ Nat.repr (n + 1))).cps).toList = _
    have ap : ∀ a b : String, cds (Str.ofString (a ++ b)) = cds (Str.ofString a) ++ cds (Str.ofString b) := fun a b => by
      simp [cds, Str.ofString_eq_toList]
    exact ap "-" (Nat.repr (n + 1))
theorem text_len {i : Int} (h0 : -999999999999999999 ≤ i) (h1 : i ≤ 999999999999999999) : (Str.ofString (toString i)).length ≤ 19 := by
  by_cases c : i < 0
  · rw [neg_text c, ← cds_len, cds_app, List.length_append, cds_len, cds_len]
    have := PyProof.Rows.toString_length_le (v := 0 - i) (by omega) (k := 18) (by decide) (by show 0 - i < 10 ^ 18; omega)
    have e : ("-" : Str).length = 1 := by decide +kernel
    omega
  · have := PyProof.Rows.toString_length_le (v := i) (by omega) (k := 18) (by decide) (by show i < 10 ^ 18; omega)
    omega

theorem sLen (x y : Str) : (x ++ y).length = x.length + y.length := by rw [← cds_len, cds_app, List.length_append, cds_len, cds_len]
theorem log_small {i : Int} (h0 : -999999999999999999 ≤ i) (h1 : i ≤ 999999999999999999) : i.natAbs.log2 < 1920 := by
  by_cases z : i.natAbs = 0
  · rw [z]; decide
  · have : i.natAbs < 2 ^ 64 := by omega
    have := (Nat.log2_lt z).mpr this
    omega
theorem sum_lens {ys : List Str} {c : Nat} (h : ∀ y ∈ ys, y.length ≤ c) : (ys.map (·.length)).sum ≤ c * ys.length := by
  induction ys with
  | nil => exact Nat.zero_le _
  | cons y ys ih =>
    have h1 := ih fun z hz => h z (List.mem_cons_of_mem _ hz)
    have h2 := h y List.mem_cons_self
    rw [List.map_cons, List.sum_cons, List.length_cons, Nat.mul_succ]
    omega
theorem join_len (z : Str) (ys : List Str) : (Txt.join z ys).length ≤ (ys.map (·.length)).sum + ys.length * z.length := by
  show (Builtin.Str.glued z ys).length ≤ _
  rw [StrLaws.glued_eq_join]
  exact StrLaws.join_length_le z ys
noncomputable def ME (t : TE) : Prop := ∀ (σ : St) (H : Hp) (Q Q' : VK), (∀ v H1, Q v H1 → Q' v H1) → t σ H Q → t σ H Q'
noncomputable def MT (t : TT) : Prop := ∀ σ H Q Q', (∀ b H1, Q b H1 → Q' b H1) → t σ H Q → t σ H Q'
noncomputable def MA (t : TA) : Prop := ∀ σ H Q Q', (∀ b H1, Q b H1 → Q' b H1) → t σ H Q → t σ H Q'
noncomputable def MR (r : R2) : Prop := ∀ (x y : V) (H : Hp) (Q Q' : VK), (∀ v H1, Q v H1 → Q' v H1) → r x y H Q → r x y H Q'
noncomputable def MB (r : List V → Hp → VK → Prop) : Prop := ∀ (vs : List V) (H : Hp) (Q Q' : VK), (∀ v H1, Q v H1 → Q' v H1) → r vs H Q → r vs H Q'
theorem ME.var (i : Nat) : ME (tVar i) := fun σ H Q Q' hq ⟨v, h, k⟩ => ⟨v, h, hq _ _ k⟩
theorem ME.c (v : V) : ME (tC v) := fun σ H Q Q' hq h => hq _ _ h
theorem ME.op {r : R2} {a b : TE} (hr : MR r) (ha : ME a) (hb : ME b) : ME (tOp r a b) := fun σ H Q Q' hq h => ha _ _ _ _ (fun x H1 k => hb _ _ _ _ (fun y H2 k => hr _ _ _ _ _ hq k) k) h
theorem ME.cb {r : List V → Hp → VK → Prop} {t : TA} (hr : MB r) (h : MA t) : ME (tCB r t) := fun σ H Q Q' hq k => h _ _ _ _ (fun xs H1 m => hr _ _ _ _ hq m) k
theorem MA.nil : MA tNil := fun σ H Q Q' hq h => hq _ _ h
theorem MA.cons {t : TE} {u : TA} (ht : ME t) (hu : MA u) : MA (tCons t u) := fun σ H Q Q' hq h => ht _ _ _ _ (fun x H1 k => hu _ _ _ _ (fun xs H2 m => hq _ _ m) k) h
theorem MT.test {t : TE} (h : ME t) : MT (tTest t) := fun σ H Q Q' hq k => h _ _ _ _ (fun x H1 ⟨b, e, m⟩ => ⟨b, e, hq _ _ m⟩) k
theorem MR.i0 (g : Int → Int → V) : MR (rI0 g) := fun x y H Q Q' hq ⟨i, j, a, b, d⟩ => ⟨i, j, a, b, hq _ _ d⟩
theorem MB.len {P R : Hp → Addr → List V → Prop} : MB (fun xs H Q => ∃ p ys, xs = [V.ref p] ∧ (P H p ys ∨ R H p ys) ∧ Q (V.int (ys.length : Int)) H) := fun vs H Q Q' hq ⟨p, ys, a, b, c⟩ => ⟨p, ys, a, b, hq _ _ c⟩
end L2

set_option Elab.async false
set_option linter.all false
set_option maxRecDepth 100000
set_option maxHeartbeats 4000000
namespace L2
open PySem PySem.Spec PyProof.Rows
end L2
namespace HT
open PySem PySem.Spec PyProof.Rows L2
section
variable {prog : Program} {w : World} {A : Around} {E : Value → Shared → Prop} {s : Shared}
end
end HT
namespace L2
open PySem PySem.Spec PyProof.Rows
noncomputable def spPInit (C : Addr) : Sp := fun vs H Q _ => ∃ (x dx l : Addr) (v1 : V) (xs : List V), vs = [.ref x, v1, .ref l] ∧ H x = some (.ins C dx []) ∧ H l = some (.lst xs) ∧ xs.length ≤ 1000 ∧ ∀ (H' : Hp) (dl : Addr), (∀ b o, H b = some o → b ≠ x → H' b = some o) → (∃ dx, H' x = some (.ins C dx [("size", v1), ("deeds", .ref dl)])) → H' dl = some (.lst xs) → Q .non H'
end L2

set_option Elab.async false
set_option linter.all false
set_option maxRecDepth 100000
set_option maxHeartbeats 4000000
namespace L2
open PySem PySem.Spec PyProof.Rows

end L2

set_option Elab.async false
set_option linter.all false
set_option maxRecDepth 100000
set_option maxHeartbeats 4000000
namespace L2
open PySem PySem.Spec PyProof.Rows
end L2

set_option Elab.async false
set_option linter.all false
set_option maxRecDepth 100000
set_option maxHeartbeats 4000000
namespace L2
open PySem PySem.Spec PyProof.Rows
set_option genInjectivity true in
inductive Tw where
  | n (i : Int)
  | v (z : Str)
  | c (z : Str) (sp : List (Str × Int))
  | j (z : Str) (l r : Tw)
noncomputable def nS (i : Int) : Str := Str.ofString (toString i)
noncomputable def spS (s : Str × Int) : Str := if s.1 = "" then nS s.2 else if s.2 = 0 then s.1 else if 0 < s.2 then s.1 ++ "+" ++ nS s.2 else s.1 ++ nS s.2
noncomputable def boxS (s : Str × Int) : Str := "[" ++ spS s ++ "]"
noncomputable def celS (z : Str) (sp : List (Str × Int)) : Str := z ++ Txt.join "" (sp.map boxS)
namespace Tw
noncomputable def sz : Tw → Nat
  | .j _ l r => sz l + sz r
  | _ => 1
end Tw
noncomputable def sgn3 : List Str := ["+", "-", "*"]
noncomputable def SpB (s : Str × Int) : Prop := s.1.length ≤ 20 ∧ -999999999999999999 ≤ s.2 ∧ s.2 ≤ 999999999999999999
noncomputable def Tw.Ok : Tw → Prop
  | .n i => 0 ≤ i ∧ i ≤ 999999999999999999
  | .v z => z.length ≤ 20
  | .c z sp => z.length ≤ 20 ∧ sp.length ≤ 3 ∧ ∀ s ∈ sp, SpB s
  | .j z l r => z ∈ sgn3 ∧ Tw.Ok l ∧ Tw.Ok r
theorem Tw.sz_pos : ∀ t : Tw, 1 ≤ t.sz
  | .n _ => Nat.le_refl _
  | .v _ => Nat.le_refl _
  | .c _ _ => Nat.le_refl _
  | .j _ l r => Nat.le_trans (Tw.sz_pos l) (Nat.le_add_right _ _)
theorem nS_len {i : Int} (h0 : -999999999999999999 ≤ i) (h1 : i ≤ 999999999999999999) : (nS i).length ≤ 19 := text_len h0 h1
theorem plus_len : ("+" : Str).length = 1 := by decide +kernel
theorem spS_len {s : Str × Int} (h : SpB s) : (spS s).length ≤ 40 := by
  obtain ⟨a, b, c⟩ := h
  have h1 := nS_len b c
  have h2 := plus_len
  unfold spS
  split
  · omega
  · split
    · omega
    · split
      · rw [sLen, sLen]; omega
      · rw [sLen]; omega
theorem boxS_len {s : Str × Int} (h : SpB s) : (boxS s).length ≤ 42 := by
  have h1 := spS_len h
  have h2 : ("[" : Str).length = 1 := by decide +kernel
  have h3 : ("]" : Str).length = 1 := by decide +kernel
  unfold boxS
  rw [sLen, sLen]
  omega
theorem empty_len : ("" : Str).length = 0 := by decide +kernel
theorem boxes_sum {sp : List (Str × Int)} (hl : sp.length ≤ 3) (h : ∀ s ∈ sp, SpB s) : ((sp.map boxS).map (·.length)).sum + (sp.map boxS).length * ("" : Str).length ≤ 126 := by
  have h1 := sum_lens (ys := sp.map boxS) (c := 42) fun y hy => by
    obtain ⟨s, hs, rfl⟩ := List.mem_map.mp hy
    exact boxS_len (h s hs)
  rw [empty_len, Nat.mul_zero]
  rw [List.length_map] at h1
  omega
theorem celS_len {z : Str} {sp : List (Str × Int)} (hz : z.length ≤ 20) (hl : sp.length ≤ 3) (h : ∀ s ∈ sp, SpB s) : (celS z sp).length ≤ 146 := by
  have h1 := join_len "" (sp.map boxS)
  have h2 := boxes_sum hl h
  unfold celS
  rw [sLen]
  omega
theorem spS_law {s : Str × Int} (h1 : ¬ s.1 = "") (h2 : ¬ s.2 = 0) : spS s = s.1 ++ (if s.2 < 0 then ("-" : Str) else "+") ++ nS (if s.2 < 0 then -s.2 else s.2) := by
  unfold spS
  rw [if_neg h1, if_neg h2]
  by_cases c : s.2 < 0
  · rw [if_neg (by omega), if_pos c, if_pos c]
    unfold nS
    rw [neg_text c, show (0 - s.2) = -s.2 by omega]
    exact cds_ext (by rw [cds_app, cds_app, cds_app, cds_app, List.append_assoc])
  · rw [if_pos (by omega), if_neg c, if_neg c]
noncomputable def SpoAt (H : Hp) (x : V) (s : Str × Int) : Prop := ∃ t, x = .ref t ∧ H t = some (.tup [.str s.1, .int s.2])
noncomputable def SpsAt (H : Hp) (p : Addr) (sp : List (Str × Int)) : Prop := ∃ xs, H p = some (.tup xs) ∧ All2 (SpoAt H) xs sp
theorem SpoAt.tk {H H' : Hp} {x : V} {s : Str × Int} (k : TK H H') (h : SpoAt H x s) : SpoAt H' x s := let ⟨t, e, h⟩ := h; ⟨t, e, k _ _ h⟩
theorem SpsAt.tk {H H' : Hp} {p : Addr} {sp : List (Str × Int)} (k : TK H H') (h : SpsAt H p sp) : SpsAt H' p sp := let ⟨xs, e, h⟩ := h; ⟨xs, k _ _ e, h.mono fun _ _ z => z.tk k⟩
noncomputable def ShAt (H : Hp) : Tw → V → Prop
  | .n i, x => ∃ t, x = .ref t ∧ H t = some (.tup [.str "n", .int i])
  | .v z, x => ∃ t, x = .ref t ∧ H t = some (.tup [.str "v", .str z])
  | .c z sp, x => ∃ t p, x = .ref t ∧ H t = some (.tup [.str "c", .str z, .ref p]) ∧ SpsAt H p sp
  | .j z l r, x => ∃ t a b, x = .ref t ∧ H t = some (.tup [.str z, a, b]) ∧ ShAt H l a ∧ ShAt H r b
theorem ShAt.tk {H H' : Hp} (k : TK H H') : ∀ {t : Tw} {x : V}, ShAt H t x → ShAt H' t x
  | .n i, x, h => let ⟨t, e, h⟩ := h; ⟨t, e, k _ _ h⟩
  | .v z, x, h => let ⟨t, e, h⟩ := h; ⟨t, e, k _ _ h⟩
  | .c z sp, x, h => let ⟨t, p, e, h, g⟩ := h; ⟨t, p, e, k _ _ h, g.tk k⟩
  | .j z l r, x, h => let ⟨t, a, b, e, h, g1, g2⟩ := h; ⟨t, a, b, e, k _ _ h, ShAt.tk k g1, ShAt.tk k g2⟩
noncomputable def TbAt (c : Cs) (H : Hp) : Tw → V → Prop
  | .n i, x => ∃ t dx, x = .ref t ∧ H t = some (.ins c.n dx [("n", .int i)])
  | .v z, x => ∃ t dx, x = .ref t ∧ H t = some (.ins c.v dx [("name", .str z)])
  | .c z sp, x => ∃ t dx p, x = .ref t ∧ H t = some (.ins c.c dx [("table", .str z), ("spots", .ref p)]) ∧ SpsAt H p sp
  | .j z l r, x => ∃ t dx a b, x = .ref t ∧ H t = some (.ins c.j dx [("sign", .str z), ("left", a), ("right", b)]) ∧ TbAt c H l a ∧ TbAt c H r b
theorem TbAt.over {c : Cs} {H H' : Hp} (e : Same H H') : ∀ {t : Tw} {x : V}, TbAt c H t x → TbAt c H' t x
  | .n i, x, h => let ⟨t, dx, r, h⟩ := h; ⟨t, dx, r, e _ _ h⟩
  | .v z, x, h => let ⟨t, dx, r, h⟩ := h; ⟨t, dx, r, e _ _ h⟩
  | .c z sp, x, h => let ⟨t, dx, p, r, h, g⟩ := h; ⟨t, dx, p, r, e _ _ h, g.tk (Same.tk e)⟩
  | .j z l r, x, h => let ⟨t, dx, a, b, r, h, g1, g2⟩ := h; ⟨t, dx, a, b, r, e _ _ h, TbAt.over e g1, TbAt.over e g2⟩
noncomputable def spSpotT : Sp := fun vs H Q _ => ∃ (x : V) (s : Str × Int), vs = [x] ∧ SpoAt H x s ∧ SpB s ∧ Q (.str (spS s)) H
theorem pop_last {ys : List V} {x : V} : (ys ++ [x])[(ys ++ [x]).length - 1]? = some x ∧ (ys ++ [x]).dropLast = ys := by
  refine ⟨?_, List.dropLast_concat⟩
  rw [List.length_append, List.length_singleton, Nat.add_sub_cancel, List.getElem?_append_right (Nat.le_refl _), Nat.sub_self]
  rfl
end L2
namespace L2
open PySem
theorem numZ_b (c : Int) {far : Int} (h : far = 999999999999999999) : -999999999999999999 ≤ numZ c far ∧ numZ c far ≤ 999999999999999999 := by
  subst h
  unfold numZ
  split
  · have := Int.emod_nonneg (c / 3) (show (7 : Int) ≠ 0 by decide)
    have := Int.emod_lt_of_pos (c / 3) (show (0 : Int) < 7 by decide)
    omega
  · have := Int.emod_nonneg (c / 3) (show (2 * 999999999999999999 + 1 : Int) ≠ 0 by decide)
    have := Int.emod_lt_of_pos (c / 3) (show (0 : Int) < 2 * 999999999999999999 + 1 by decide)
    omega
end L2
namespace L2
open PySem
theorem sgn_ne {z : Str} (h : z ∈ sgn3) : z ≠ "n" ∧ z ≠ "v" ∧ z ≠ "c" := by
  have : ∀ w ∈ sgn3, w ≠ "n" ∧ w ≠ "v" ∧ w ≠ "c" := by decide +kernel
  exact this z h
theorem sgn_at {i : Int} (h0 : 0 ≤ i) (h1 : i < 3) : ∃ c : Nat, atI (cds (Str.ofString "+-*")) i = some c ∧ (⟨#[c]⟩ : Str) ∈ sgn3 := by
  have : i = 0 ∨ i = 1 ∨ i = 2 := by omega
  rcases this with rfl | rfl | rfl
  · exact ⟨43, by decide +kernel, by decide +kernel⟩
  · exact ⟨45, by decide +kernel, by decide +kernel⟩
  · exact ⟨42, by decide +kernel, by decide +kernel⟩
end L2
namespace L2
open PySem
end L2
namespace L2
open PySem
theorem rawB_head' {xs : List Int} {w : List Nat} (he : xs.getD 0 0 % 2 = 0) (k : Int) : (nameRaw xs w k).head? = w.head? := by
  unfold nameRaw nameB
  rw [if_pos he]
  have h0 := Int.emod_nonneg (nameLong xs + 3 * k) (show (8 : Int) ≠ 0 by decide)
  obtain ⟨m, hm⟩ : ∃ m, (1 + (nameLong xs + 3 * k) % 8).toNat = m + 1 := ⟨((nameLong xs + 3 * k) % 8).toNat, by omega⟩
  rw [hm]
  cases w with
  | nil => rfl
  | cons _ _ => rfl
theorem rawB_len' {xs : List Int} {w : List Nat} (wl : w.length = 8) (he : xs.getD 0 0 % 2 = 0) (k : Int) : (nameRaw xs w k).length = (1 + (nameLong xs + 3 * k) % 8).toNat := by
  unfold nameRaw nameB
  rw [if_pos he, List.length_take, wl]
  have h0 := Int.emod_nonneg (nameLong xs + 3 * k) (show (8 : Int) ≠ 0 by decide)
  have h1 := Int.emod_lt_of_pos (nameLong xs + 3 * k) (show (0 : Int) < 8 by decide)
  omega
theorem rawA_len' {xs : List Int} {w : List Nat} (he : ¬ xs.getD 0 0 % 2 = 0) (j k : Int) : (nameRaw xs w j).length = (nameRaw xs w k).length := by
  unfold nameRaw nameA
  rw [if_neg he, if_neg he]
  simp only [List.length_append, List.length_singleton]
theorem rawA_at' {xs : List Int} {w : List Nat} (wl : w.length = 8) (he : ¬ xs.getD 0 0 % 2 = 0) (k : Int) : (nameRaw xs w k)[(nameAt xs).toNat]? = some (letC (xs.getD (2 + nameAt xs).toNat 0 + k)) := by
  unfold nameRaw nameA
  have hl := wl
  obtain ⟨a0, a1⟩ := at_b xs
  obtain ⟨_, l1⟩ := long_b xs
  rw [if_neg he, List.append_assoc, List.getElem?_append_right (by rw [List.length_take]; omega), List.length_take, hl]
  rw [show (nameAt xs).toNat - min (nameAt xs).toNat 8 = 0 by omega]
  rfl
theorem raw_ne' {xs : List Int} {w : List Nat} (wl : w.length = 8) {j k : Nat} (hj : j < 8) (hk : k < 8) (h : j ≠ k) : nameRaw xs w (j : Int) ≠ nameRaw xs w (k : Int) := fun e => by
  by_cases he : xs.getD 0 0 % 2 = 0
  · have := congrArg List.length e
    rw [rawB_len' wl he, rawB_len' wl he] at this
    omega
  · have := congrArg (fun l : List Nat => l[(nameAt xs).toNat]?) e
    rw [rawA_at' wl he, rawA_at' wl he] at this
    have := Option.some.inj this
    unfold letC at this
    omega
theorem zz_ne' {xs : List Int} {w : List Nat} (wl : w.length = 8) {j k : Int} (hr : nameRaw xs w j ∈ resv) : [122, 122] ++ nameRaw xs w j ≠ nameRaw xs w k := fun e => by
  by_cases he : xs.getD 0 0 % 2 = 0
  · have := congrArg List.head? e
    rw [rawB_head' he] at this
    have h2 := rawB_head' (w := w) he j
    rw [← this] at h2
    exact resv_head hr h2
  · have := congrArg List.length e
    rw [List.length_append, rawA_len' he j k] at this
    simp at this
theorem nameC_ne' {xs : List Int} {w : List Nat} (wl : w.length = 8) {j k : Nat} (hj : j < 8) (hk : k < 8) (h : j ≠ k) : nameC xs w (j : Int) ≠ nameC xs w (k : Int) := fun e => by
  unfold nameC at e
  by_cases c1 : nameRaw xs w (j : Int) ∈ resv <;> by_cases c2 : nameRaw xs w (k : Int) ∈ resv
  · rw [if_pos c1, if_pos c2] at e
    exact raw_ne' wl hj hk h (List.append_cancel_left e)
  · rw [if_pos c1, if_neg c2] at e
    exact zz_ne' wl c1 e
  · rw [if_neg c1, if_pos c2] at e
    exact zz_ne' wl c2 e.symm
  · rw [if_neg c1, if_neg c2] at e
    exact raw_ne' wl hj hk h e
theorem namesZ_nd {xs : List Int} {w : List Nat} (wl : w.length = 8) : ((List.range 8).map fun k : Nat => sOf (nameC xs w (k : Int))).Nodup := by
  rw [List.nodup_iff_pairwise_ne, List.pairwise_map]
  refine (List.pairwise_lt_range (n := 8)).imp_of_mem fun {i j} hi hj h => ?_
  have hi := List.mem_range.mp hi
  have hj := List.mem_range.mp hj
  intro e
  have := congrArg cds e
  rw [cds_sOf, cds_sOf] at this
  exact nameC_ne' wl (by omega) (by omega) (by omega) this
end L2

set_option Elab.async false
set_option linter.all false
set_option maxRecDepth 100000
set_option maxHeartbeats 4000000
namespace Rd
open PySem L2
set_option genInjectivity true in
inductive Tk where
  | s (c : Nat)
  | t (w : Tw)
set_option genInjectivity true in
inductive Ex where
  | lf (t : Tw)
  | br (e : Ex)
  | jn (c : Nat) (l r : Ex)
noncomputable def st (c : Nat) : Nat := if c = 40 then 0 else if c = 42 then 2 else 1
noncomputable def sg (c : Nat) : Str := ⟨#[c]⟩
namespace Ex
noncomputable def tk : Ex → List Tk
  | lf t => [.t t]
  | br e => .s 40 :: (e.tk ++ [.s 41])
  | jn c l r => l.tk ++ .s c :: r.tk
noncomputable def hd : Ex → Nat
  | lf _ => 3
  | br _ => 3
  | jn c _ _ => st c
noncomputable def sh : Ex → Tw
  | lf t => t
  | br e => e.sh
  | jn c l r => .j (sg c) l.sh r.sh
noncomputable def Ok : Ex → Prop
  | lf _ => True
  | br e => e.Ok
  | jn c l r => (c = 43 ∨ c = 45 ∨ c = 42) ∧ l.Ok ∧ r.Ok ∧ st c ≤ l.hd ∧ st c < r.hd
theorem hd_pos : ∀ {e : Ex}, e.Ok → 1 ≤ e.hd
  | lf _, _ => by show 1 ≤ 3; decide
  | br _, _ => by show 1 ≤ 3; decide
  | jn c l r, h => by
    show 1 ≤ st c
    rcases h.1 with rfl | rfl | rfl <;> decide
end Ex
noncomputable def jw (k : Nat) : List Nat → List Tw → List Tw × List Nat
  | [], T => (T, [])
  | c :: S, r :: l :: T => if k ≤ st c then jw k S (.j (sg c) l r :: T) else (r :: l :: T, c :: S)
  | c :: S, T => (T, c :: S)
theorem jw_no {k c : Nat} {S : List Nat} {T : List Tw} (h : st c < k) : jw k (c :: S) T = (T, c :: S) := by
  match T with
  | [] => rfl
  | [_] => rfl
  | r :: l :: T => show (if k ≤ st c then _ else _) = _; exact if_neg (by omega)
theorem jw_yes {k c : Nat} {S : List Nat} {l r : Tw} {T : List Tw} (h : k ≤ st c) : jw k (c :: S) (r :: l :: T) = jw k S (.j (sg c) l r :: T) := by
  show (if k ≤ st c then _ else _) = _; exact if_pos h
structure Sta where
  T : List Tw
  S : List Nat
  due : Bool
noncomputable def step (x : Sta) : Tk → Option Sta
  | .t w => if x.due then some ⟨w :: x.T, x.S, false⟩ else none
  | .s c => if c = 40 then (if x.due then some ⟨x.T, 40 :: x.S, true⟩ else none)
    else if x.due then none
    else if c = 41 then match (jw 1 x.S x.T).2 with
      | [] => none
      | _ :: S => some ⟨(jw 1 x.S x.T).1, S, false⟩
    else some ⟨(jw (st c) x.S x.T).1, c :: (jw (st c) x.S x.T).2, true⟩
noncomputable def run : List Tk → Sta → Option Sta
  | [], x => some x
  | k :: ks, x => match step x k with
    | some y => run ks y
    | none => none
theorem run_app {a b : List Tk} {x y : Sta} (h : run a x = some y) : run (a ++ b) x = run b y := by
  induction a generalizing x with
  | nil => cases h; rfl
  | cons k ks ih =>
    rw [List.cons_append, run]
    rw [run] at h
    cases hs : step x k with
    | none => rw [hs] at h; cases h
    | some z => rw [hs] at h; exact ih h
noncomputable def low (S : List Nat) (k : Nat) : Prop := ∀ c S', S = c :: S' → st c < k
theorem jw_low {S : List Nat} {k : Nat} {T : List Tw} (h : low S k) : jw k S T = (T, S) := by
  cases S with
  | nil => rfl
  | cons c S => exact jw_no (h c S rfl)
theorem run_ex : ∀ {e : Ex} {T : List Tw} {S : List Nat}, e.Ok → low S e.hd → ∃ T' S', run e.tk ⟨T, S, true⟩ = some ⟨T', S', false⟩ ∧ ∀ k, k ≤ e.hd → jw k S' T' = jw k S (e.sh :: T)
  | .lf t, T, S, _, _ => ⟨t :: T, S, rfl, fun _ _ => rfl⟩
  | .br e, T, S, ok, hl => by
    obtain ⟨T', S', h1, h2⟩ := run_ex (e := e) (T := T) (S := 40 :: S) ok (fun c S' h => by cases h; have := Ex.hd_pos (e := e) ok; show 0 < e.hd; omega)
    refine ⟨e.sh :: T, S, ?_, fun _ _ => rfl⟩
    have j : jw 1 S' T' = (e.sh :: T, 40 :: S) := by
      rw [h2 1 (Ex.hd_pos ok)]; exact jw_no (by decide)
    show run (e.tk ++ [.s 41]) ⟨T, 40 :: S, true⟩ = _
    rw [run_app h1, run, step, if_neg (by decide)]
    simp only [Bool.false_eq_true, if_false, if_true]
    rw [j]
    rfl
  | .jn c l r, T, S, ok, hl => by
    obtain ⟨hc, okl, okr, k1, k2⟩ := ok
    have hl : low S (st c) := hl
    obtain ⟨T1, S1, h1, h2⟩ := run_ex (e := l) (T := T) (S := S) okl (fun c' S' h => by have := hl c' S' h; omega)
    obtain ⟨T2, S2, g1, g2⟩ := run_ex (e := r) (T := l.sh :: T) (S := c :: S) okr (fun c' S' h => by cases h; exact k2)
    have j : jw (st c) S1 T1 = (l.sh :: T, S) := by rw [h2 _ k1]; exact jw_low hl
    have n1 : c ≠ 40 := by omega
    have n2 : c ≠ 41 := by omega
    refine ⟨T2, S2, ?_, fun k hk => ?_⟩
    · show run (l.tk ++ .s c :: r.tk) ⟨T, S, true⟩ = _
      rw [run_app h1, run, step, if_neg n1]
      simp only [Bool.false_eq_true, if_false]
      rw [if_neg n2, j]
      exact g1
    · have hk : k ≤ st c := hk
      rw [g2 k (by omega), jw_yes hk]; rfl
theorem run_whole {e : Ex} (ok : e.Ok) : ∃ T' S', run e.tk ⟨[], [], true⟩ = some ⟨T', S', false⟩ ∧ jw 1 S' T' = ([e.sh], []) := by
  obtain ⟨T', S', h1, h2⟩ := run_ex (e := e) (T := []) (S := []) ok (fun c S' h => by cases h)
  exact ⟨T', S', h1, h2 1 (Ex.hd_pos ok)⟩
end Rd

set_option Elab.async false
set_option linter.all false
set_option maxRecDepth 100000
set_option maxHeartbeats 4000000
namespace Rd
open PySem L2
noncomputable def sg5 : List Nat := [43, 45, 42, 40, 41]
noncomputable def ins (b : Bool) (c : Nat) : Bool := decide (c = 91) || (b && decide (c ≠ 93))
noncomputable def scan : Bool → List Nat → Nat
  | _, [] => 0
  | b, c :: l => if b = true ∨ c ∉ sg5 then 1 + scan (ins b c) l else 0
noncomputable def pass : Bool → List Nat → Option Bool
  | b, [] => some b
  | b, c :: l => if b = true ∨ c ∉ sg5 then pass (ins b c) l else none
theorem pass_app {b c : Bool} {x y : List Nat} (h : pass b x = some c) : pass b (x ++ y) = pass c y := by
  induction x generalizing b with
  | nil => cases h; rfl
  | cons a x ih =>
    rw [List.cons_append, pass]
    rw [pass] at h
    split
    · rename_i hc; rw [if_pos hc] at h; exact ih h
    · rename_i hc; rw [if_neg hc] at h; cases h
theorem scan_app {b c : Bool} {x y : List Nat} (h : pass b x = some c) : scan b (x ++ y) = x.length + scan c y := by
  induction x generalizing b with
  | nil => cases h; exact (Nat.zero_add _).symm
  | cons a x ih =>
    rw [List.cons_append, scan]
    rw [pass] at h
    split
    · rename_i hc
      rw [if_pos hc] at h
      rw [ih h, List.length_cons]
      omega
    · rename_i hc; rw [if_neg hc] at h; cases h
noncomputable def pend : List Nat → Nat
  | [] => 0
  | c :: l => if c ∈ sg5 then 1 else scan false (c :: l)
noncomputable def Stop (l : List Nat) : Prop := ∀ c r, l = c :: r → c ∈ sg5
theorem stop_scan {l : List Nat} (h : Stop l) : scan false l = 0 := by
  cases l with
  | nil => rfl
  | cons c l =>
    rw [scan, if_neg]
    intro z
    rcases z with z | z
    · cases z
    · exact z (h c l rfl)
structure Whole (w : List Nat) : Prop where
  pass : pass false w = some false
  head : ∃ c r, w = c :: r ∧ c ∉ sg5
theorem Whole.pend {w l : List Nat} (h : Whole w) (hs : Stop l) : Rd.pend (w ++ l) = w.length := by
  obtain ⟨c, r, e, hc⟩ := h.head
  have h1 := scan_app (y := l) h.pass
  rw [stop_scan hs, Nat.add_zero] at h1
  rw [← h1, e, List.cons_append, Rd.pend, if_neg hc]
theorem plain_pass {w : List Nat} (h : ∀ c ∈ w, (48 ≤ c ∧ c ≤ 57) ∨ (97 ≤ c ∧ c ≤ 122)) : Rd.pass false w = some false := by
  induction w with
  | nil => rfl
  | cons c w ih =>
    have hc := h c List.mem_cons_self
    have n5 : c ∉ sg5 := fun z => by
      unfold sg5 at z
      simp only [List.mem_cons, List.not_mem_nil, or_false] at z
      omega
    rw [Rd.pass, if_pos (.inr n5)]
    have e : ins false c = false := by
      unfold ins
      rw [Bool.false_and, Bool.or_false]
      exact decide_eq_false (by omega)
    rw [e]
    exact ih fun d hd => h d (List.mem_cons_of_mem _ hd)
theorem in_pass {w : List Nat} (h : 93 ∉ w) : Rd.pass true w = some true := by
  induction w with
  | nil => rfl
  | cons c w ih =>
    rw [Rd.pass, if_pos (.inl rfl)]
    have e : ins true c = true := by
      unfold ins
      rw [Bool.true_and, Bool.or_eq_true]
      exact .inr (decide_eq_true fun z => h (z ▸ List.mem_cons_self))
    rw [e]
    exact ih fun z => h (List.mem_cons_of_mem _ z)
theorem plain_whole {w : List Nat} (h : ∀ c ∈ w, (48 ≤ c ∧ c ≤ 57) ∨ (97 ≤ c ∧ c ≤ 122)) (hl : 1 ≤ w.length) : Whole w := by
  refine ⟨plain_pass h, ?_⟩
  cases w with
  | nil => exact absurd hl (by decide)
  | cons c w =>
    refine ⟨c, w, rfl, fun z => ?_⟩
    have hc := h c List.mem_cons_self
    unfold sg5 at z
    simp only [List.mem_cons, List.not_mem_nil, or_false] at z
    omega
theorem name_whole {w : List Nat} (h : NameOk w) : Whole w := plain_whole (fun c hc => .inr ((mem_abc c).mp (h.2.2.1 c hc))) h.1
theorem num_whole {w : List Nat} (h : GoodN w) : Whole w := plain_whole (fun c hc => .inl (h.2.2.2 c hc)) h.1
theorem head_dig : ∀ m : Nat, 0 < m → ((Nat.toDigits 10 m).map Char.toNat).head? ≠ some 48 := by
  intro m
  induction m using Nat.strongRecOn with
  | _ m ih =>
    intro hm
    by_cases h : m < 10
    · rw [Nat.toDigits_of_lt_base h]
      have : ∀ d : Nat, d < 10 → 0 < d → (Nat.digitChar d).toNat ≠ 48 := by decide
      exact fun z => this m h hm (Option.some.inj z)
    · have hm2 : m % 10 < 10 := Nat.mod_lt m (by decide)
      have t : Nat.toDigits 10 (m / 10) ++ Nat.toDigits 10 (m % 10) = Nat.toDigits 10 (10 * (m / 10) + m % 10) := Nat.toDigits_append_toDigits (by decide) (by omega) hm2
      rw [Nat.div_add_mod] at t
      rw [← t, List.map_append]
      have ih1 := ih (m / 10) (by omega) (by omega)
      cases hd : (Nat.toDigits 10 (m / 10)).map Char.toNat with
      | nil =>
        have h := toDigits_len_ge 10 (m / 10)
        rw [List.map_eq_nil_iff.mp hd] at h
        exact absurd h (by decide)
      | cons c r => rw [hd] at ih1; exact ih1
theorem nS_good {i : Int} (h0 : 0 ≤ i) (h1 : i ≤ 999999999999999999) : GoodN (cds (nS i)) ∧ dgt (cds (nS i)) = i := by
  have hl := PyProof.Rows.toString_length_le (v := i) h0 (k := 18) (by decide) (by show i < 10 ^ 18; omega)
  obtain ⟨m, rfl⟩ := Int.eq_ofNat_of_zero_le h0
  have e : cds (nS ((m : Nat) : Int)) = (Nat.toDigits 10 m).map Char.toNat := PySem.W.KIN.signs_num m
  have hlen : (cds (nS ((m : Nat) : Int))).length ≤ 18 := by rw [cds_len]; exact hl
  refine ⟨⟨?_, hlen, ?_, ?_⟩, ?_⟩
  · rw [e, List.length_map]; exact toDigits_len_ge 10 m
  · rw [e]
    intro ⟨a, b⟩
    by_cases hm : 0 < m
    · exact head_dig m hm a
    · have : m = 0 := by omega
      subst this
      exact absurd b (by decide)
  · intro c hc
    rw [e] at hc
    obtain ⟨ch, hch, e2⟩ := List.mem_map.mp hc
    have r := PyProof.Rows.digit_range (Nat.isDigit_of_mem_toDigits (by decide) (by decide) hch)
    rw [← e2]
    exact r
  · unfold dgt
    rw [e, PySem.W.KIN.val_back]
noncomputable def SpN (s : Str × Int) : Prop := (s.1 = "" ∨ NameOk (cds s.1)) ∧ SpB s
theorem bef_app {c : Nat} {x y : List Nat} (h : c ∉ x) : bef c (x ++ c :: y) = x ∧ aft c (x ++ c :: y) = y := by
  have e : (x ++ c :: y).idxOf c = x.length := by
    refine idxOf_first (by rw [List.getElem?_append_right (Nat.le_refl _), Nat.sub_self]; rfl) fun k hk z => h (by rw [List.getElem?_append_left hk] at z; exact List.mem_of_getElem? z)
  unfold bef aft
  rw [e]
  refine ⟨List.take_left, ?_⟩
  rw [← List.drop_drop, List.drop_left]
  rfl
theorem name_no {w : List Nat} (h : NameOk w) {c : Nat} (hc : ¬ (97 ≤ c ∧ c ≤ 122)) : c ∉ w := fun z => hc ((mem_abc c).mp (h.2.2.1 c z))
theorem num_no {w : List Nat} (h : GoodN w) {c : Nat} (hc : ¬ (48 ≤ c ∧ c ≤ 57)) : c ∉ w := fun z => hc (h.2.2.2 c z)
theorem nS_neg {i : Int} (h : i < 0) : cds (nS i) = 45 :: cds (nS (0 - i)) := by
  unfold nS
  rw [neg_text h, cds_app]
  rfl
theorem num_name {w : List Nat} (h : GoodN w) : ¬ NameOk w := fun z => by
  cases w with
  | nil => exact absurd h.1 (by decide)
  | cons a r =>
    have h1 := (mem_abc a).mp (z.2.2.1 a List.mem_cons_self)
    have h2 := h.2.2.2 a List.mem_cons_self
    omega
theorem spot_read {s : Str × Int} (h : SpN s) : spotR (cds (spS s)) = some (cds s.1, s.2) := by
  obtain ⟨hn, _, b0, b1⟩ := h
  unfold spS
  by_cases e0 : s.1 = ""
  · rw [if_pos e0]
    have c0 : cds s.1 = [] := by rw [e0]; rfl
    rw [c0]
    by_cases hs : s.2 < 0
    · rw [nS_neg hs]
      obtain ⟨g, d⟩ := nS_good (i := 0 - s.2) (by omega) (by omega)
      generalize cds (nS (0 - s.2)) = w at g d
      have m45 : (45 : Nat) ∈ 45 :: w := List.mem_cons_self
      have n43 : (43 : Nat) ∉ 45 :: w := fun z => by
        rcases List.mem_cons.mp z with z | z
        · cases z
        · exact num_no g (by omega) z
      have ba := bef_app (c := 45) (x := []) (y := w) (by simp)
      unfold spotR
      rw [if_neg (noName m45 (by omega)), if_neg (noNum m45 (by omega)), if_neg n43, if_pos m45]
      rw [List.nil_append] at ba
      rw [ba.1, ba.2, if_pos g, if_pos (.inr ⟨rfl, by omega⟩), d]
      congr 2
      omega
    · obtain ⟨g, d⟩ := nS_good (i := s.2) (by omega) (by omega)
      unfold spotR
      rw [if_neg (num_name g), if_pos g, d]
  · have hn : NameOk (cds s.1) := hn.resolve_left e0
    rw [if_neg e0]
    by_cases e1 : s.2 = 0
    · rw [if_pos e1]
      unfold spotR
      rw [if_pos hn, e1]
    · rw [if_neg e1]
      by_cases e2 : 0 < s.2
      · rw [if_pos e2, cds_app, cds_app]
        obtain ⟨g, d⟩ := nS_good (i := s.2) (by omega) (by omega)
        have ec : cds ("+" : Str) = [43] := by decide +kernel
        rw [ec, List.append_assoc]
        show spotR (cds s.1 ++ 43 :: cds (nS s.2)) = _
        have ba := bef_app (c := 43) (x := cds s.1) (y := cds (nS s.2)) (name_no hn (by omega))
        have m : (43 : Nat) ∈ cds s.1 ++ 43 :: cds (nS s.2) := List.mem_append_right _ List.mem_cons_self
        unfold spotR
        rw [if_neg (noName m (by omega)), if_neg (noNum m (by omega)), if_pos m, ba.1, ba.2, if_pos ⟨g, hn⟩, d]
      · rw [if_neg e2, cds_app, nS_neg (by omega)]
        obtain ⟨g, d⟩ := nS_good (i := 0 - s.2) (by omega) (by omega)
        have ba := bef_app (c := 45) (x := cds s.1) (y := cds (nS (0 - s.2))) (name_no hn (by omega))
        have m : (45 : Nat) ∈ cds s.1 ++ 45 :: cds (nS (0 - s.2)) := List.mem_append_right _ List.mem_cons_self
        have n43 : (43 : Nat) ∉ cds s.1 ++ 45 :: cds (nS (0 - s.2)) := fun z => by
          rcases List.mem_append.mp z with z | z
          · exact name_no hn (by omega) z
          · rcases List.mem_cons.mp z with z | z
            · cases z
            · exact num_no g (by omega) z
        unfold spotR
        rw [if_neg (noName m (by omega)), if_neg (noNum m (by omega)), if_neg n43, if_pos m, ba.1, ba.2, if_pos g, if_pos (.inl hn), d]
        congr 2
        omega
theorem spot_free {s : Str × Int} (h : SpN s) {c : Nat} (hc : ¬ (97 ≤ c ∧ c ≤ 122) ∧ ¬ (48 ≤ c ∧ c ≤ 57) ∧ c ≠ 43 ∧ c ≠ 45) : c ∉ cds (spS s) := by
  obtain ⟨hn, _, b0, b1⟩ := h
  have kn : c ∉ cds (nS s.2) := by
    by_cases hs : s.2 < 0
    · rw [nS_neg hs]
      obtain ⟨g, d⟩ := nS_good (i := 0 - s.2) (by omega) (by omega)
      intro z
      rcases List.mem_cons.mp z with z | z
      · exact hc.2.2.2 z
      · exact num_no g hc.2.1 z
    · obtain ⟨g, d⟩ := nS_good (i := s.2) (by omega) (by omega)
      exact num_no g hc.2.1
  have ks : c ∉ cds s.1 := by
    rcases hn with e | e
    · rw [e]
      show c ∉ []
      simp
    · exact name_no e hc.1
  unfold spS
  split
  · exact kn
  · split
    · exact ks
    · split
      · rw [cds_app, cds_app]
        have ec : cds ("+" : Str) = [43] := by decide +kernel
        rw [ec]
        intro z
        rcases List.mem_append.mp z with z | z
        · rcases List.mem_append.mp z with z | z
          · exact ks z
          · exact hc.2.2.1 (List.mem_singleton.mp z)
        · exact kn z
      · rw [cds_app]
        intro z
        rcases List.mem_append.mp z with z | z
        · exact ks z
        · exact kn z
noncomputable def inner : List (List Nat) → List Nat
  | [] => []
  | [a] => a
  | a :: b :: l => a ++ ([93, 91] ++ inner (b :: l))
theorem boxes_eq : ∀ {sp : List (Str × Int)}, sp ≠ [] → ((sp.map boxS).map cds).flatten = 91 :: (inner (sp.map fun s => cds (spS s)) ++ [93])
  | [], h => absurd rfl h
  | [s], _ => by
    show cds (boxS s) ++ [] = 91 :: (cds (spS s) ++ [93])
    rw [List.append_nil]
    unfold boxS
    rw [cds_app, cds_app]
    rfl
  | s :: s2 :: sp, _ => by
    have ih := boxes_eq (sp := s2 :: sp) (List.cons_ne_nil _ _)
    show cds (boxS s) ++ (((s2 :: sp).map boxS).map cds).flatten = 91 :: ((cds (spS s) ++ ([93, 91] ++ inner ((s2 :: sp).map fun s => cds (spS s)))) ++ [93])
    rw [ih]
    unfold boxS
    rw [cds_app, cds_app]
    show [91] ++ cds (spS s) ++ [93] ++ _ = _
    simp
theorem inner_split : ∀ {l : List (List Nat)}, l ≠ [] → (∀ a ∈ l, 93 ∉ a) → IsSplit [93, 91] (inner l) l
  | [], h, _ => absurd rfl h
  | [a], _, h => .one' (h a List.mem_cons_self)
  | a :: b :: l, _, h => .cut' (h a List.mem_cons_self) (inner_split (List.cons_ne_nil _ _) fun c hc => h c (List.mem_cons_of_mem _ hc))
theorem cel_cds {z : Str} {sp : List (Str × Int)} (hs : sp ≠ []) : cds (celS z sp) = cds z ++ 91 :: (inner (sp.map fun s => cds (spS s)) ++ [93]) := by
  unfold celS
  rw [cds_app, cds_join0, boxes_eq hs]
theorem cell_whole {z : Str} {sp : List (Str × Int)} (hz : NameOk (cds z)) (hs : sp ≠ []) (h : ∀ s ∈ sp, SpN s) : Whole (cds (celS z sp)) := by
  have hw := name_whole hz
  obtain ⟨c, r, e, hc⟩ := hw.head
  refine ⟨?_, c, r ++ 91 :: (inner (sp.map fun s => cds (spS s)) ++ [93]), by rw [cel_cds hs, e]; rfl, hc⟩
  have key : ∀ {l : List (List Nat)}, (∀ a ∈ l, 93 ∉ a) → Rd.pass true (inner l) = some true := fun {l} hl => by
    induction l with
    | nil => rfl
    | cons a l ih =>
      cases l with
      | nil => exact in_pass (hl a List.mem_cons_self)
      | cons b l =>
        show Rd.pass true (a ++ ([93, 91] ++ inner (b :: l))) = _
        rw [pass_app (in_pass (hl a List.mem_cons_self))]
        exact ih fun c hc => hl c (List.mem_cons_of_mem _ hc)
  rw [cel_cds hs, pass_app hw.pass]
  show Rd.pass true (inner (sp.map fun s => cds (spS s)) ++ [93]) = some false
  rw [pass_app (key fun a ha => ?_)]
  · rfl
  · obtain ⟨s, hs', rfl⟩ := List.mem_map.mp ha
    exact spot_free (h s hs') (by omega)
end Rd

set_option Elab.async false
set_option linter.all false
set_option maxRecDepth 100000
set_option maxHeartbeats 4000000
namespace Rd
open PySem L2
noncomputable def Tk.txt : Tk → Str
  | .s c => ⟨#[c]⟩
  | .t (.n i) => nS i
  | .t (.v z) => z
  | .t (.c z sp) => celS z sp
  | .t (.j z _ _) => z
noncomputable def Tk.Ok : Tk → Prop
  | .s c => c ∈ sg5
  | .t (.n i) => 0 ≤ i ∧ i ≤ 999999999999999999
  | .t (.v z) => NameOk (cds z)
  | .t (.c z sp) => NameOk (cds z) ∧ sp ≠ [] ∧ sp.length ≤ 3 ∧ ∀ s ∈ sp, SpN s
  | .t (.j _ _ _) => False
noncomputable def PtAt (c : Cs) (H : Hp) (v : V) : Tk → Prop
  | .s a => v = .str ⟨#[a]⟩
  | .t w => TbAt c H w v
theorem PtAt.over {c : Cs} {H H' : Hp} (e : Same H H') {v : V} {k : Tk} (h : PtAt c H v k) : PtAt c H' v k := by
  cases k with
  | s a => exact h
  | t w => exact TbAt.over e h
theorem Tk.whole {w : Tw} (h : (Tk.t w).Ok) : Whole (cds (Tk.t w).txt) := by
  cases w with
  | n i => exact num_whole (nS_good h.1 h.2).1
  | v z => exact name_whole h
  | c z sp => exact cell_whole h.1 h.2.1 h.2.2.2
  | j _ _ _ => exact h.elim
noncomputable def Adj : List Tk → Prop
  | .t _ :: .t w :: l => False
  | _ :: l => Adj l
  | [] => True
noncomputable def txts (ks : List Tk) : List Nat := (ks.map fun k => cds k.txt).flatten
theorem not_sign {z : Str} {c : Nat} {r : List Nat} (e : cds z = c :: r) (hc : c ∉ sg5) : (!(Builtin.Str.occurrences (Str.ofString "+-*()") z 0 (Str.ofString "+-*()").length 1).isEmpty) = false := by
  rw [Bool.eq_false_iff]
  intro h
  obtain ⟨i, h1, h2⟩ := (StrLaws.found_iff _ _).mp h
  rw [StrLaws.subAt_eq, beq_iff_eq] at h2
  have e2 : (Str.ofString "+-*()").cps.toList = sg5 := by decide +kernel
  have e3 : z.cps.toList = c :: r := e
  rw [e2, e3] at h2
  have h3 : c ∈ (sg5.drop i).take z.length := by rw [h2]; exact List.mem_cons_self
  exact hc (List.mem_of_mem_drop (List.mem_of_mem_take h3))
theorem is_sign {c : Nat} (hc : c ∈ sg5) : (!(Builtin.Str.occurrences (Str.ofString "+-*()") ⟨#[c]⟩ 0 (Str.ofString "+-*()").length 1).isEmpty) = true := by
  rw [in_one]
  have e2 : cds (Str.ofString "+-*()") = sg5 := by decide +kernel
  rw [e2]
  exact decide_eq_true hc
noncomputable def spPend : Sp := fun vs H Q _ => ∃ (z : Str) (i : Nat), vs = [.str z, .int (i : Int)] ∧ i < (cds z).length ∧ z.length ≤ 100000 ∧ Q (.int ((i + pend ((cds z).drop i) : Nat) : Int)) H
noncomputable def spCellOf (c : Cs) : Sp := fun vs H Q _ => ∃ (z : Str) (sp : List (Str × Int)), vs = [.str (celS z sp)] ∧ (Tk.t (.c z sp)).Ok ∧ ∀ (x : V) (H' : Hp), Same H H' → TbAt c H' (.c z sp) x → Q x H'
noncomputable def spPartOf (c : Cs) : Sp := fun vs H Q _ => ∃ k : Tk, vs = [.str k.txt] ∧ k.Ok ∧ ∀ (x : V) (H' : Hp), Same H H' → PtAt c H' x k → Q x H'
noncomputable def spPartsOf (c : Cs) : Sp := fun vs H Q _ => ∃ (z : Str) (ks : List Tk), vs = [.str z] ∧ cds z = txts ks ∧ z.length ≤ 100000 ∧ (∀ k ∈ ks, k.Ok) ∧ Adj ks ∧ ∀ (l : Addr) (xs : List V) (H' : Hp), Same H H' → H l = none → H' l = some (.lst xs) → All2 (PtAt c H') xs ks → Q (.ref l) H'
noncomputable def nb (S : List Nat) : Nat := (S.filter (· != 40)).length
theorem nb_cons {a : Nat} {S : List Nat} (h : a ≠ 40) : nb (a :: S) = nb S + 1 := by
  unfold nb
  rw [List.filter_cons, if_pos (by simpa using h)]
  rfl
theorem nb_br {S : List Nat} : nb (40 :: S) = nb S := rfl
theorem jw_nb (k : Nat) (hk : 1 ≤ k) : ∀ {S : List Nat} {T : List Tw}, nb S < T.length → nb (jw k S T).2 < (jw k S T).1.length ∧ T.length + nb (jw k S T).2 = (jw k S T).1.length + nb S
  | [], T, h => ⟨by cases T <;> exact h, by cases T <;> rfl⟩
  | a :: S, T, h => by
    by_cases c : k ≤ st a
    · have n40 : a ≠ 40 := fun z => by subst z; exact absurd c (by show ¬ k ≤ 0; omega)
      rw [nb_cons n40] at h ⊢
      match T, h with
      | r :: l :: T, h =>
        rw [jw_yes c]
        have := jw_nb k hk (S := S) (T := .j (sg a) l r :: T) (by rw [List.length_cons]; rw [List.length_cons, List.length_cons] at h; omega)
        rw [List.length_cons] at this
        rw [List.length_cons, List.length_cons]
        omega
      | [_], h => exact absurd h (by rw [List.length_singleton]; omega)
      | [], h => exact absurd h (by rw [List.length_nil]; omega)
    · rw [jw_no (by omega)]
      exact ⟨h, rfl⟩
noncomputable def B2 (l r : Addr) (H H' : Hp) : Prop := ∀ b o, H b = some o → b ≠ l → b ≠ r → H' b = some o
noncomputable def spJoinW (c : Cs) : Sp := fun vs H Q _ => ∃ (l r : Addr) (ts ss : List V) (T : List Tw) (S : List Nat) (k : Nat), vs = [.ref l, .ref r, .int (k : Int)] ∧ l ≠ r ∧ 1 ≤ k ∧ H l = some (.lst ts) ∧ H r = some (.lst ss) ∧ All2 (fun v t => TbAt c H t v) ts T.reverse ∧ ss = S.reverse.map (fun a => V.str (sg a)) ∧ (∀ a ∈ S, a ∈ sg5 ∧ a ≠ 41) ∧ nb S < T.length ∧ T.length ≤ 1000 ∧
  ∀ (ts' ss' : List V) (H' : Hp), B2 l r H H' → H' l = some (.lst ts') → H' r = some (.lst ss') → All2 (fun v t => TbAt c H' t v) ts' (jw k S T).1.reverse → ss' = (jw k S T).2.reverse.map (fun a => V.str (sg a)) → Q .non H'
noncomputable def spTermOf (c : Cs) : Sp := fun vs H Q _ => ∃ (l : Addr) (xs : List V) (ks : List Tk) (T : List Tw) (S : List Nat) (t : Tw), vs = [.ref l] ∧ H l = some (.lst xs) ∧ All2 (PtAt c H) xs ks ∧ xs.length ≤ 1000 ∧ (∀ k ∈ ks, k.Ok) ∧ run ks ⟨[], [], true⟩ = some ⟨T, S, false⟩ ∧ jw 1 S T = ([t], []) ∧ ∀ (x : V) (H' : Hp), Same H H' → TbAt c H' t x → Q x H'
theorem cut_last {α : Type} (l : List α) (c : α) : cutC (l ++ [c]) none (some (-1)) = l := by
  unfold cutC
  have e : HT.sIx (l ++ [c]).length (l ++ [c]).length (some (-1)) = l.length := by
    unfold HT.sIx
    rw [List.length_append, List.length_singleton]
    dsimp only
    split <;> omega
  rw [HT.sIx_none, e, List.drop_zero, Nat.sub_zero, List.take_left]
theorem pend_cons {k : Tk} {l : List Tk} (ok : k.Ok) (okl : ∀ x ∈ l, x.Ok) (ad : Adj (k :: l)) : pend (cds k.txt ++ txts l) = (cds k.txt).length ∧ 1 ≤ (cds k.txt).length := by
  cases k with
  | s c =>
    refine ⟨?_, Nat.le_refl _⟩
    show pend (c :: txts l) = 1
    rw [pend, if_pos (show c ∈ sg5 from ok)]
  | t w =>
    have hw := Tk.whole ok
    obtain ⟨c, r, e, _⟩ := hw.head
    refine ⟨hw.pend fun d r' e' => ?_, by rw [e, List.length_cons]; omega⟩
    cases l with
    | nil => cases e'
    | cons k' l =>
      cases k' with
      | s c' =>
        have e2 : c' :: txts l = d :: r' := e'
        injection e2 with e3 _
        rw [← e3]
        exact okl (.s c') List.mem_cons_self
      | t w' => exact ad.elim
theorem adj_tail {k : Tk} {l : List Tk} (ad : Adj (k :: l)) : Adj l := by
  cases k with
  | s c => exact ad
  | t w =>
    cases l with
    | nil => exact True.intro
    | cons k' l =>
      cases k' with
      | s c' => exact ad
      | t w' => exact ad.elim
theorem adj_drop : ∀ {ks : List Tk} (j : Nat), Adj ks → Adj (ks.drop j)
  | _, 0, h => h
  | [], _ + 1, h => h
  | _ :: _, j + 1, h => adj_drop j (adj_tail h)
theorem txts_cons (k : Tk) (l : List Tk) : txts (k :: l) = cds k.txt ++ txts l := rfl
theorem PtAt.some {c : Cs} {H : Hp} {v : V} {k : Tk} (ok : k.Ok) (h : PtAt c H v k) : v ≠ .non := by
  intro e
  subst e
  cases k with
  | s a => cases h
  | t w =>
    cases w with
    | n i => obtain ⟨_, _, e, _⟩ := h; cases e
    | v z => obtain ⟨_, _, e, _⟩ := h; cases e
    | c z sp => obtain ⟨_, _, _, e, _⟩ := h; cases e
    | j _ _ _ => exact ok
noncomputable def NL (H H' : Hp) : Prop := ∀ b o, H b = some o → (∀ xs, o ≠ .lst xs) → H' b = some o
theorem NL.of {H H' : Hp} (e : Same H H') : NL H H' := fun b o h _ => e b o h
theorem NL.trans {H H1 H2 : Hp} (a : NL H H1) (b : NL H1 H2) : NL H H2 := fun c o h n => b c o (a c o h n) n
theorem NL.upd {H : Hp} {l : Addr} {xs ys : List V} (h : H l = some (.lst xs)) : NL H (upd H l (.lst ys)) := fun b o e n => by
  rw [upd_ne (fun z => by rw [z, h] at e; exact n xs (Option.some.inj e).symm)]
  exact e
theorem NL.tk {H H' : Hp} (e : NL H H') : TK H H' := fun p xs h => e _ _ h (fun _ z => nomatch z)
theorem tb_nl {c : Cs} {H H' : Hp} (e : NL H H') : ∀ {t : Tw} {x : V}, TbAt c H t x → TbAt c H' t x
  | .n i, x, h => let ⟨t, dx, r, h⟩ := h; ⟨t, dx, r, e _ _ h (fun _ z => nomatch z)⟩
  | .v z, x, h => let ⟨t, dx, r, h⟩ := h; ⟨t, dx, r, e _ _ h (fun _ z => nomatch z)⟩
  | .c z sp, x, h => let ⟨t, dx, p, r, h, g⟩ := h; ⟨t, dx, p, r, e _ _ h (fun _ z => nomatch z), g.tk e.tk⟩
  | .j z l r, x, h => let ⟨t, dx, a, b, r, h, g1, g2⟩ := h; ⟨t, dx, a, b, r, e _ _ h (fun _ z => nomatch z), tb_nl e g1, tb_nl e g2⟩
theorem PtAt.nl {c : Cs} {H H' : Hp} (e : NL H H') {v : V} {k : Tk} (h : PtAt c H v k) : PtAt c H' v k := by
  cases k with
  | s a => exact h
  | t w => exact tb_nl e h
noncomputable def strV : List (Key × V) := [(.inr "(", .int 0), (.inr "+", .int 1), (.inr "-", .int 1), (.inr "*", .int 2)]
theorem st_val {a : Nat} (h : a ∈ sg5 ∧ a ≠ 41) : valV strV (.inr (sg a)) = some (.int (st a : Int)) := by
  obtain ⟨h5, n⟩ := h
  unfold sg5 at h5
  simp only [List.mem_cons, List.not_mem_nil, or_false] at h5
  rcases h5 with rfl | rfl | rfl | rfl | rfl
  · decide +kernel
  · decide +kernel
  · decide +kernel
  · decide +kernel
  · exact absurd rfl n
theorem all2_pop {β : Type} {R : V → β → Prop} {xs : List V} {ys : List β} {y : β} (h : All2 R xs (ys ++ [y])) : ∃ xs' x, xs = xs' ++ [x] ∧ All2 R xs' ys ∧ R x y := by
  have hl := h.1
  rw [List.length_append, List.length_singleton] at hl
  obtain ⟨us, x, rfl, ul⟩ := snoc_of hl
  refine ⟨us, x, rfl, ⟨ul, fun i a b ha hb => ?_⟩, ?_⟩
  · exact h.2 i a b (by rw [List.getElem?_append_left (List.getElem?_eq_some_iff.mp ha).1]; exact ha) (by rw [List.getElem?_append_left (List.getElem?_eq_some_iff.mp hb).1]; exact hb)
  · exact h.2 us.length x y (by rw [List.getElem?_append_right (Nat.le_refl _), Nat.sub_self]; rfl) (by rw [ul, List.getElem?_append_right (Nat.le_refl _), Nat.sub_self]; rfl)
theorem run_prefix : ∀ {a b : List Tk} {x y : Sta}, run (a ++ b) x = some y → ∃ z, run a x = some z ∧ run b z = some y
  | [], b, x, y, h => ⟨x, rfl, h⟩
  | k :: a, b, x, y, h => by
    rw [List.cons_append, run] at h
    cases hs : step x k with
    | none => rw [hs] at h; cases h
    | some z =>
      rw [hs] at h
      obtain ⟨u, h1, h2⟩ := run_prefix (a := a) h
      exact ⟨u, by rw [run, hs]; exact h1, h2⟩
theorem run_at {ks : List Tk} {x y : Sta} {i : Nat} {k : Tk} (h : run ks x = some y) (hk : ks[i]? = some k) : ∃ z u, run (ks.take i) x = some z ∧ step z k = some u ∧ run (ks.take (i + 1)) x = some u := by
  have hi := (List.getElem?_eq_some_iff.mp hk).1
  have e : ks = ks.take i ++ (k :: ks.drop (i + 1)) := by
    have h2 := List.drop_eq_getElem_cons hi
    rw [List.getElem?_eq_getElem hi] at hk
    rw [Option.some.inj hk] at h2
    rw [← h2, List.take_append_drop]
  rw [e] at h
  obtain ⟨z, h1, h2⟩ := run_prefix h
  rw [run] at h2
  cases hs : step z k with
  | none => rw [hs] at h2; cases h2
  | some u =>
    refine ⟨z, u, h1, hs, ?_⟩
    rw [take_snoc hk, run_app h1, run, hs]
    rfl
theorem jw_sub (k : Nat) : ∀ {S : List Nat} {T : List Tw}, ∀ c ∈ (jw k S T).2, c ∈ S
  | [], T, c, h => by cases T <;> exact h
  | a :: S, T, c, h => by
    match T with
    | [] => exact h
    | [_] => exact h
    | r :: l :: T =>
      by_cases hk : k ≤ st a
      · rw [jw_yes hk] at h
        exact List.mem_cons_of_mem _ (jw_sub k c h)
      · rw [jw_no (by omega)] at h
        exact h
theorem jw_top (k : Nat) (hk : 1 ≤ k) : ∀ {S : List Nat} {T : List Tw} {d : Nat} {S' : List Nat}, nb S < T.length → (jw k S T).2 = d :: S' → st d < k
  | [], T, d, S', _, h => by cases T <;> cases h
  | a :: S, T, d, S', hn, h => by
    by_cases c : k ≤ st a
    · have n40 : a ≠ 40 := fun z => by subst z; exact absurd c (by show ¬ k ≤ 0; omega)
      rw [nb_cons n40] at hn
      match T, hn with
      | r :: l :: T, hn =>
        rw [jw_yes c] at h
        exact jw_top k hk (by rw [List.length_cons]; rw [List.length_cons, List.length_cons] at hn; omega) h
      | [_], hn => exact absurd hn (by rw [List.length_singleton]; omega)
      | [], hn => exact absurd hn (by rw [List.length_nil]; omega)
    · rw [jw_no (by omega)] at h
      have h : a :: S = d :: S' := h
      injection h with e _
      rw [← e]
      omega
theorem st_40 {d : Nat} (h : st d < 1) : d = 40 := Classical.byContradiction fun n => by
  unfold st at h
  rw [if_neg n] at h
  split at h <;> omega
structure Wt (x : Sta) : Prop where
  sg : ∀ c ∈ x.S, c ∈ sg5 ∧ c ≠ 41
  nb : nb x.S + (if x.due then 0 else 1) = x.T.length
theorem Wt.step {x y : Sta} {k : Tk} (w : Wt x) (ok : k.Ok) (h : Rd.step x k = some y) : Wt y := by
  obtain ⟨T, S, due⟩ := x
  have wn := w.nb
  cases k with
  | t t =>
    cases due with
    | false => cases h
    | true =>
      have h : some (⟨t :: T, S, false⟩ : Sta) = some y := h
      cases h
      exact ⟨w.sg, by have : Rd.nb S + 0 = T.length := wn; show Rd.nb S + 1 = T.length + 1; omega⟩
  | s c =>
    have ok : c ∈ sg5 := ok
    rw [Rd.step] at h
    by_cases c40 : c = 40
    · subst c40
      rw [if_pos rfl] at h
      cases due with
      | false => cases h
      | true =>
        have h : some (⟨T, 40 :: S, true⟩ : Sta) = some y := h
        cases h
        refine ⟨fun d hd => ?_, wn⟩
        rcases List.mem_cons.mp hd with rfl | z
        · exact ⟨by decide, by decide⟩
        · exact w.sg d z
    · rw [if_neg c40] at h
      cases due with
      | true => cases h
      | false =>
        have wn : Rd.nb S + 1 = T.length := wn
        rw [if_neg (show ¬ (Sta.due ⟨T, S, false⟩ = true) from Bool.false_ne_true)] at h
        by_cases c41 : c = 41
        · rw [if_pos c41] at h
          have j := jw_nb 1 (Nat.le_refl _) (S := S) (T := T) (by omega)
          cases hs : (jw 1 S T).2 with
          | nil => simp only [hs] at h; cases h
          | cons d S' =>
            simp only [hs] at h
            cases h
            rw [hs] at j
            refine ⟨fun e he => w.sg e (jw_sub 1 e (by rw [hs]; exact List.mem_cons_of_mem _ he)), ?_⟩
            have e := st_40 (jw_top 1 (Nat.le_refl _) (by omega) hs)
            subst e
            rw [nb_br] at j
            show Rd.nb S' + 1 = (jw 1 S T).1.length
            omega
        · rw [if_neg c41] at h
          cases h
          have j := jw_nb (st c) (by unfold st; rw [if_neg c40]; split <;> decide) (S := S) (T := T) (by omega)
          refine ⟨fun e he => ?_, ?_⟩
          · rcases List.mem_cons.mp he with rfl | z
            · exact ⟨ok, c41⟩
            · exact w.sg e (jw_sub _ e z)
          · show Rd.nb (c :: (jw (st c) S T).2) + 0 = (jw (st c) S T).1.length
            rw [nb_cons c40]
            omega
theorem jw_len (k : Nat) : ∀ {S : List Nat} {T : List Tw}, (jw k S T).1.length ≤ T.length
  | [], T => by cases T <;> exact Nat.le_refl _
  | a :: S, T => by
    match T with
    | [] => exact Nat.le_refl _
    | [_] => exact Nat.le_refl _
    | r :: l :: T =>
      by_cases hk : k ≤ st a
      · rw [jw_yes hk]
        have := jw_len k (S := S) (T := .j (sg a) l r :: T)
        rw [List.length_cons] at this ⊢
        rw [List.length_cons]
        omega
      · rw [jw_no (by omega)]
        exact Nat.le_refl _
theorem jw_len2 (k : Nat) : ∀ {S : List Nat} {T : List Tw}, (jw k S T).2.length ≤ S.length
  | [], T => by cases T <;> exact Nat.le_refl _
  | a :: S, T => by
    match T with
    | [] => exact Nat.le_refl _
    | [_] => exact Nat.le_refl _
    | r :: l :: T =>
      by_cases hk : k ≤ st a
      · rw [jw_yes hk, List.length_cons]
        have := jw_len2 k (S := S) (T := .j (sg a) l r :: T)
        omega
      · rw [jw_no (by omega)]
        exact Nat.le_refl _
noncomputable def bare (l : List Nat) : List Nat := stp 32 (if 59 ∈ l then bef 59 l else l)
noncomputable def spBare : Sp := fun vs H Q _ => ∃ z : Str, vs = [.str z] ∧ z.length ≤ 100000 ∧ ∀ H', Same H H' → Q (.str (sOf (bare (cds z)))) H'
noncomputable def spWords : Sp := fun vs H Q _ => ∃ z : Str, vs = [.str z] ∧ z.length ≤ 100000 ∧ ∀ (l : Addr) (H' : Hp) (ps : List Str), Same H H' → IsSplit [32] (cds z) (ps.map cds) → H' l = some (.lst ((ps.filter fun y : Str => decide (y ≠ Str.ofString "")).map V.str)) → Q (.ref l) H'
theorem split_many {y l : List Nat} {ps : List (List Nat)} (hy : 1 ≤ y.length) (h : IsSplit y l ps) : ps.length ≤ l.length + 1 := by
  induction h with
  | one _ => rw [List.length_singleton]; omega
  | cut _ _ ih => rw [List.length_cons, List.length_append, List.length_append]; omega
noncomputable def DrN (C : Addr) (H : Hp) (d : Addr) (nm : List Str) : Prop := ∃ (dx : Addr) (fs : List (Str × V)) (n : Addr), H d = some (.ins C dx fs) ∧ fs.lookup (Str.ofString "names") = some (V.ref n) ∧ H n = some (.lst (nm.map V.str))
noncomputable def knw (nm : List Str) (s : Str × Int) : Bool := decide (s.1 = Str.ofString "") || decide (s.1 ∈ nm)
noncomputable def spKnown (C : Addr) : Sp := fun vs H Q _ => ∃ (d p : Addr) (nm : List Str) (sp : List (Str × Int)), vs = [.ref d, .ref p] ∧ DrN C H d nm ∧ SpsAt H p sp ∧ sp.length ≤ 1000 ∧ ∀ H', Same H H' → Q (.bl (sp.all (knw nm))) H'
end Rd

set_option linter.all false
namespace Pw
variable {T S : Type}
end Pw

set_option Elab.async false
set_option linter.all false
set_option maxRecDepth 100000
set_option maxHeartbeats 4000000
namespace L2
open PySem PySem.Spec PyProof.Rows
structure LpT where
  nm : Str
  lo : Str × Int
  hi : Str × Int
structure Dw where
  loops : List LpT
  tbl : Str
  sp : List (Str × Int)
  tm : Tw
  path : List Int
noncomputable def DoAt (C : Addr) (c : Cs) (H : Hp) (x : V) (D : Dw) : Prop := ∃ (p dx nm lo hi ps pt : Addr) (ob : V) (ls hs : List V), x = .ref p ∧ H p = some (.ins C dx [("names", .ref nm), ("lows", .ref lo), ("highs", .ref hi), ("table", .str D.tbl), ("spots", .ref ps), ("term", ob), ("path", .ref pt)]) ∧ H nm = some (.tup (D.loops.map fun t => V.str t.nm)) ∧ H lo = some (.tup ls) ∧ All2 (fun v t => SpoAt H v (LpT.lo t)) ls D.loops ∧ H hi = some (.tup hs) ∧ All2 (fun v t => SpoAt H v (LpT.hi t)) hs D.loops ∧ SpsAt H ps D.sp ∧ TbAt c H D.tm ob ∧ H pt = some (.tup (D.path.map V.int))
theorem DoAt.over {C : Addr} {c : Cs} {H H' : Hp} {x : V} {D : Dw} (e : Same H H') (h : DoAt C c H x D) : DoAt C c H' x D := by
  obtain ⟨p, dx, nm, lo, hi, ps, pt, ob, ls, hs, rfl, h0, h1, h2, h3, h4, h5, h6, h7, h8⟩ := h
  exact ⟨p, dx, nm, lo, hi, ps, pt, ob, ls, hs, rfl, e _ _ h0, e _ _ h1, e _ _ h2, h3.mono fun _ _ z => z.tk (Same.tk e), e _ _ h4, h5.mono fun _ _ z => z.tk (Same.tk e), h6.tk (Same.tk e), h7.over e, e _ _ h8⟩
noncomputable def DosAt (C : Addr) (c : Cs) (H : Hp) (l : Addr) (Ds : List Dw) : Prop := ∃ xs, H l = some (.lst xs) ∧ All2 (DoAt C c H) xs Ds
noncomputable def PrgW (CP C : Addr) (c : Cs) (H : Hp) (v : V) (n : Int) (Ds : List Dw) : Prop := ∃ (x dx dl : Addr), v = .ref x ∧ H x = some (.ins CP dx [("size", .int n), ("deeds", .ref dl)]) ∧ DosAt C c H dl Ds
end L2
namespace L2
open PySem
end L2
namespace L2
open PySem PySem.Spec PyProof.Rows
end L2

set_option Elab.async false
set_option linter.all false
set_option maxRecDepth 100000
set_option maxHeartbeats 4000000
namespace L2
open PySem PySem.Spec PyProof.Rows
section
variable {X : Cx}
noncomputable def rGetN : V → V → Hp → VK → Prop := fun o i H Q => ∃ p xs v, o = .ref p ∧ i = .int (-1) ∧ H p = some (.lst (xs ++ [v])) ∧ Q v H
theorem get_neg : PGet X rGetN := by
  intro pins s σ H o i ov iv Q I ro ri h
  obtain ⟨p, xs, z, rfl, rfl, hp, q⟩ := h
  cases ro
  obtain ⟨t, rfl⟩ := ri
  obtain ⟨its, r, pl, hz⟩ := I.list (SqL.of hp)
  obtain ⟨j, h1, h2, h3, h4, h5⟩ := atI_get (atI_last xs z)
  obtain ⟨w, ew, rw'⟩ := r.get h2
  have hl := r.length
  have hn := line63
  have fin : EP X pins σ Q w s := ⟨z, H, I, rw', q⟩
  have hj : ((-1 : Int) + (its.toArray.size : Int)).toNat = j := by
    rw [seqIndex_neg (by omega) h4] at h1
    rw [List.size_toArray, ← hl]
    exact Option.some.inj h1
  exact wpAny_getItem_list_neg pl.isList (by omega) (by rw [List.size_toArray] <;> omega) (by omega) (by rw [hj]; simpa using ew) fin
end
theorem ixN_last (n : Nat) : ixN (n + 1) (-1) = some n := by
  unfold ixN
  rw [if_neg (by decide), if_pos (by omega)]
  congr 1
  omega
end L2
namespace Rd
open PySem L2
structure Dr where
  sz : Option Int
  dd : List Dw
  lp : List LpT
  pa : List Int
  la : Int
structure Da where
  d : Addr
  dx : Addr
  dl : Addr
  tl : Addr
  nl : Addr
  ll : Addr
  hl : Addr
  pl : Addr
noncomputable def Da.own (A : Da) (b : Addr) : Prop := b = A.d ∨ b = A.dl ∨ b = A.tl ∨ b = A.nl ∨ b = A.ll ∨ b = A.hl ∨ b = A.pl
noncomputable def szV : Option Int → V
  | none => .non
  | some n => .int n
noncomputable def Da.fs (A : Da) (v : V) : List (Str × V) := [("size", v), ("deeds", .ref A.dl), ("tables", .ref A.tl), ("names", .ref A.nl), ("lows", .ref A.ll), ("highs", .ref A.hl), ("path", .ref A.pl)]
noncomputable def Ob : HO → Prop
  | .tup _ => True
  | .ins _ _ fs => fs.lookup (Str.ofString "size") = none
  | _ => False
noncomputable def Kp (H H' : Hp) : Prop := ∀ b o, H b = some o → Ob o → H' b = some o
theorem Kp.trans {H H1 H2 : Hp} (a : Kp H H1) (b : Kp H1 H2) : Kp H H2 := fun c o h n => b c o (a c o h n) n
theorem Kp.lst {H : Hp} {l : Addr} {xs ys : List V} (h : H l = some (.lst xs)) : Kp H (upd H l (.lst ys)) := fun b o e n => by
  rw [upd_ne (fun z => by rw [z, h] at e; cases e; exact n)]
  exact e
theorem Kp.tk {H H' : Hp} (e : Kp H H') : TK H H' := fun p xs h => e _ _ h True.intro
theorem tb_kp {c : Cs} {H H' : Hp} (e : Kp H H') : ∀ {t : Tw} {x : V}, TbAt c H t x → TbAt c H' t x
  | .n i, x, h => let ⟨t, dx, r, h⟩ := h; ⟨t, dx, r, e _ _ h (by show List.lookup _ _ = none; rfl)⟩
  | .v z, x, h => let ⟨t, dx, r, h⟩ := h; ⟨t, dx, r, e _ _ h (by show List.lookup _ _ = none; rfl)⟩
  | .c z sp, x, h => let ⟨t, dx, p, r, h, g⟩ := h; ⟨t, dx, p, r, e _ _ h (by show List.lookup _ _ = none; rfl), g.tk e.tk⟩
  | .j z l r, x, h => let ⟨t, dx, a, b, r, h, g1, g2⟩ := h; ⟨t, dx, a, b, r, e _ _ h (by show List.lookup _ _ = none; rfl), tb_kp e g1, tb_kp e g2⟩
theorem PtAt.kp {c : Cs} {H H' : Hp} (e : Kp H H') {v : V} {k : Tk} (h : PtAt c H v k) : PtAt c H' v k := by
  cases k with
  | s a => exact h
  | t w => exact tb_kp e h
theorem do_kp {C : Addr} {c : Cs} {H H' : Hp} {x : V} {D : Dw} (e : Kp H H') (h : DoAt C c H x D) : DoAt C c H' x D := by
  obtain ⟨p, dx, nm, lo, hi, ps, pt, ob, ls, hs, rfl, h0, h1, h2, h3, h4, h5, h6, h7, h8⟩ := h
  exact ⟨p, dx, nm, lo, hi, ps, pt, ob, ls, hs, rfl, e _ _ h0 (by show List.lookup _ _ = none; rfl), e _ _ h1 True.intro, e _ _ h2 True.intro, h3.mono fun _ _ z => z.tk e.tk, e _ _ h4 True.intro, h5.mono fun _ _ z => z.tk e.tk, h6.tk e.tk, tb_kp e h7, e _ _ h8 True.intro⟩
noncomputable def tbK (tb : List (Str × Nat)) : List (Key × V) := tb.map fun p => (.inr p.1, .int (p.2 : Int))
structure DrAt (CD C : Addr) (c : Cs) (f : Str → Nat) (H : Hp) (A : Da) (D : Dr) : Prop where
  o : H A.d = some (.ins CD A.dx (A.fs (szV D.sz)))
  dd : ∃ xs, H A.dl = some (.lst xs) ∧ All2 (DoAt C c H) xs D.dd
  tb : ∃ tb, H A.tl = some (.dK (tbK tb)) ∧ (∀ p ∈ tb, p.2 = f p.1) ∧ tb.length ≤ 2000 * D.dd.length
  nm : H A.nl = some (.lst (D.lp.map fun t => V.str t.nm))
  lo : ∃ xs, H A.ll = some (.lst xs) ∧ All2 (fun v t => SpoAt H v (LpT.lo t)) xs D.lp
  hi : ∃ xs, H A.hl = some (.lst xs) ∧ All2 (fun v t => SpoAt H v (LpT.hi t)) xs D.lp
  pa : H A.pl = some (.lst ((D.pa ++ [D.la]).map V.int))
  nd : [A.dl, A.nl, A.ll, A.hl, A.pl].Nodup
  pl : D.pa.length = D.lp.length
noncomputable def Out (A : Da) (H H' : Hp) : Prop := ∀ b o, H b = some o → ¬ A.own b → H' b = some o
theorem Out.of {A : Da} {H H' : Hp} (e : Same H H') : Out A H H' := fun b o h _ => e b o h
theorem Out.trans {A : Da} {H H1 H2 : Hp} (a : Out A H H1) (b : Out A H1 H2) : Out A H H2 := fun c o h n => b c o (a c o h n) n
theorem Out.put {A : Da} {H : Hp} {l : Addr} {u : HO} (h : A.own l) : Out A H (upd H l u) := fun b o e n => by
  rw [upd_ne (show b ≠ l from fun z => n (by rw [z]; exact h))]
  exact e
theorem DrAt.over {CD C : Addr} {c : Cs} {f : Str → Nat} {H H' : Hp} {A : Da} {D : Dr} (e : Same H H') (h : DrAt CD C c f H A D) : DrAt CD C c f H' A D := by
  obtain ⟨xs, d1, d2⟩ := h.dd
  obtain ⟨tb, t1, t2⟩ := h.tb
  obtain ⟨ls, l1, l2⟩ := h.lo
  obtain ⟨hs, h1, h2⟩ := h.hi
  exact ⟨e _ _ h.o, ⟨xs, e _ _ d1, d2.mono fun _ _ z => z.over e⟩, ⟨tb, e _ _ t1, t2⟩, e _ _ h.nm, ⟨ls, e _ _ l1, l2.mono fun _ _ z => z.tk (Same.tk e)⟩, ⟨hs, e _ _ h1, h2.mono fun _ _ z => z.tk (Same.tk e)⟩, e _ _ h.pa, h.nd, h.pl⟩
theorem DrAt.not_own {CD C : Addr} {c : Cs} {f : Str → Nat} {H : Hp} {A : Da} {D : Dr} (h : DrAt CD C c f H A D) {b : Addr} {o : HO} (e : H b = some o) (ob : Ob o) : ¬ A.own b := by
  obtain ⟨xs, d1, d2⟩ := h.dd
  obtain ⟨tb, t1, t2⟩ := h.tb
  obtain ⟨ls, l1, l2⟩ := h.lo
  obtain ⟨hs, h1, h2⟩ := h.hi
  have key : ∀ {a : Addr} {u : HO}, H a = some u → ¬ Ob u → b ≠ a := fun {a u} ea nu z => by
    rw [z, ea] at e
    exact nu (Option.some.inj e ▸ ob)
  rintro (z | z | z | z | z | z | z)
  · exact key h.o (fun z => by have z : List.lookup _ _ = none := z; exact absurd z (by show ¬ some _ = none; exact fun y => nomatch y)) z
  · exact key d1 (fun z => z) z
  · exact key t1 (fun z => z) z
  · exact key h.nm (fun z => z) z
  · exact key l1 (fun z => z) z
  · exact key h1 (fun z => z) z
  · exact key h.pa (fun z => z) z
theorem DrAt.kp {CD C : Addr} {c : Cs} {f : Str → Nat} {H H' : Hp} {A : Da} {D : Dr} (h : DrAt CD C c f H A D) (e : Out A H H') : Kp H H' := fun b o hb ob => e b o hb (h.not_own hb ob)
noncomputable def DrAt.drn {CD C : Addr} {c : Cs} {f : Str → Nat} {H : Hp} {A : Da} {D : Dr} (h : DrAt CD C c f H A D) : DrN CD H A.d (D.lp.map (·.nm)) := ⟨A.dx, _, A.nl, h.o, rfl, by rw [List.map_map]; exact h.nm⟩
noncomputable def D0 : Dr := ⟨none, [], [], [], 0⟩
noncomputable def spDrI (CD C : Addr) (c : Cs) : Sp := fun vs H Q _ => ∃ (x dx : Addr), vs = [.ref x] ∧ H x = some (.ins CD dx []) ∧ ∀ (H' : Hp) (A : Da), A.d = x → (∀ b o, H b = some o → b ≠ x → H' b = some o) → (∀ b, A.own b → b ≠ x → H b = none) → (∀ f, DrAt CD C c f H' A D0) → Q .non H'
noncomputable def tkn (nm : List Str) : Tk → Prop
  | .t (.v z) => z ∈ nm
  | .t (.c _ sp) => sp.all (knw nm) = true
  | _ => True
noncomputable def spNamesK (CD : Addr) (c : Cs) : Sp := fun vs H Q _ => ∃ (d l : Addr) (nm : List Str) (xs : List V) (ks : List Tk), vs = [.ref d, .ref l] ∧ DrN CD H d nm ∧ H l = some (.lst xs) ∧ All2 (PtAt c H) xs ks ∧ (∀ k ∈ ks, k.Ok) ∧ (∀ k ∈ ks, tkn nm k) ∧ ∀ H', Same H H' → Q (.bl true) H'
noncomputable def tkf (f : Str → Nat) : Tk → Prop
  | .t (.c z sp) => f z = sp.length
  | _ => True
noncomputable def spTabs (CD : Addr) (c : Cs) : Sp := fun vs H Q _ => ∃ (d l dx t : Addr) (fs : List (Str × V)) (xs : List V) (ks : List Tk) (f : Str → Nat) (tb : List (Str × Nat)), vs = [.ref d, .ref l] ∧ H d = some (.ins CD dx fs) ∧ fs.lookup (Str.ofString "tables") = some (.ref t) ∧ H t = some (.dK (tbK tb)) ∧ (∀ p ∈ tb, p.2 = f p.1) ∧ tb.length + ks.length ≤ 100000 ∧ H l = some (.lst xs) ∧ All2 (PtAt c H) xs ks ∧ (∀ k ∈ ks, k.Ok) ∧ (∀ k ∈ ks, tkf f k) ∧
  ∀ (H' : Hp) (tb' : List (Str × Nat)), (∀ b o, H b = some o → b ≠ t → H' b = some o) → H' t = some (.dK (tbK tb')) → (∀ p ∈ tb', p.2 = f p.1) → tb'.length ≤ tb.length + ks.length → Q (.bl true) H'
theorem tb_val {tb : List (Str × Nat)} {f : Str → Nat} (h : ∀ p ∈ tb, p.2 = f p.1) {z : Str} {v : V} (e : valV (tbK tb) (.inr z) = some v) : v = .int (f z : Int) := by
  unfold valV tbK at e
  cases hf : (tb.map fun p => ((.inr p.1 : Key), V.int (p.2 : Int))).find? (fun kv => decide (kv.1 = (.inr z : Key))) with
  | none => rw [hf] at e; cases e
  | some q =>
    rw [hf] at e
    obtain ⟨p, hp, e2⟩ := List.mem_map.mp (List.mem_of_find?_eq_some hf)
    have e3 : q.1 = (.inr z : Key) := by have := List.find?_some hf; exact of_decide_eq_true this
    subst e2
    have e4 : p.1 = z := Sum.inr.inj e3
    have e5 : V.int (p.2 : Int) = v := Option.some.inj e
    rw [← e5, h p hp, e4]
theorem tb_put {tb : List (Str × Nat)} {f : Str → Nat} (h : ∀ p ∈ tb, p.2 = f p.1) {z : Str} (e : valV (tbK tb) (.inr z) = none) : ∃ tb', putK (tbK tb) (.inr z) (.int (f z : Int)) = tbK tb' ∧ (∀ p ∈ tb', p.2 = f p.1) ∧ tb'.length = tb.length + 1 := by
  refine ⟨tb ++ [(z, f z)], ?_, fun p hp => ?_, by rw [List.length_append]; rfl⟩
  · have hn : (tbK tb).find? (fun kv => decide (kv.1 = (.inr z : Key))) = none := by
      unfold valV at e
      cases hf : (tbK tb).find? (fun kv => decide (kv.1 = (.inr z : Key))) with
      | none => rfl
      | some q => rw [hf] at e; cases e
    have hany : (tbK tb).any (fun kv => decide (kv.1 = (.inr z : Key))) = false := by
      rw [List.any_eq_false]
      exact List.find?_eq_none.mp hn
    unfold putK
    rw [hany]
    unfold tbK
    rw [List.map_append]
    rfl
  · rcases List.mem_append.mp hp with hp | hp
    · exact h p hp
    · rw [List.mem_singleton.mp hp]
theorem flat_strs (nm : List Str) : (nm.map V.str).all flatV = true := by
  rw [List.all_eq_true]
  intro x hx
  obtain ⟨z, _, rfl⟩ := List.mem_map.mp hx
  rfl
theorem in_strs (nm : List Str) (z : Str) : inV (.str z) (nm.map V.str) = decide (z ∈ nm) := by
  induction nm with
  | nil => rfl
  | cons a l ih =>
    have e : inV (.str z) ((a :: l).map V.str) = (decide (a = z) || inV (.str z) (l.map V.str)) := rfl
    rw [e, ih, ← Bool.decide_or]
    exact decide_eq_decide.mpr (by rw [List.mem_cons]; exact ⟨fun h => h.elim (fun h => .inl h.symm) .inr, fun h => h.elim (fun h => .inl h.symm) .inr⟩)
theorem put2 {H : Hp} {l x : Addr} {u v w : HO} (hl : H l = none) (hx : H x = some u) : l ≠ x ∧ (upd (upd H l v) x w) l = some v ∧ ∀ b o, H b = some o → b ≠ x → (upd (upd H l v) x w) b = some o := by
  have n : l ≠ x := fun e => by rw [e, hx] at hl; cases hl
  refine ⟨n, by rw [upd_ne n]; exact upd_same, fun b o e nb => ?_⟩
  rw [upd_ne nb, upd_ne (ne_of_none e hl)]
  exact e
noncomputable def opens (D : Dr) (t : LpT) : Dr := ⟨D.sz, D.dd, D.lp ++ [t], D.pa ++ [D.la], 0⟩
noncomputable def does (D : Dr) (tb : Str) (sp : List (Str × Int)) (t : Tw) : Dr := ⟨D.sz, D.dd ++ [⟨D.lp, tb, sp, t, D.pa ++ [D.la]⟩], D.lp, D.pa, D.la + 1⟩
theorem cel_no {z : Str} {sp : List (Str × Int)} (ok : (Tk.t (.c z sp)).Ok) {c : Nat} (hc : ¬ (97 ≤ c ∧ c ≤ 122) ∧ ¬ (48 ≤ c ∧ c ≤ 57) ∧ c ≠ 43 ∧ c ≠ 45 ∧ c ≠ 91 ∧ c ≠ 93 := by omega) : c ∉ cds (celS z sp) := by
  obtain ⟨hz, hne, _, hsp⟩ := ok
  have key : ∀ {l : List (List Nat)}, (∀ a ∈ l, c ∉ a) → c ∉ inner l := fun {l} hl => by
    induction l with
    | nil => intro z; cases z
    | cons a l ih =>
      cases l with
      | nil => exact hl a List.mem_cons_self
      | cons b l =>
        intro z
        have z : c ∈ a ++ ([93, 91] ++ inner (b :: l)) := z
        rcases List.mem_append.mp z with z | z
        · exact hl a List.mem_cons_self z
        · rcases List.mem_append.mp z with z | z
          · simp only [List.mem_cons, List.not_mem_nil, or_false] at z
            omega
          · exact ih (fun x hx => hl x (List.mem_cons_of_mem _ hx)) z
  rw [cel_cds hne]
  intro z
  rcases List.mem_append.mp z with z | z
  · exact name_no hz hc.1 z
  · rcases List.mem_cons.mp z with z | z
    · omega
    · rcases List.mem_append.mp z with z | z
      · refine key (fun a ha => ?_) z
        obtain ⟨s, hs, rfl⟩ := List.mem_map.mp ha
        exact spot_free (hsp s hs) ⟨hc.1, hc.2.1, hc.2.2.1, hc.2.2.2.1⟩
      · have := List.mem_singleton.mp z
        omega
theorem map_cds_inj : ∀ {a b : List Str}, a.map cds = b.map cds → a = b
  | [], [], _ => rfl
  | [], _ :: _, h => nomatch h
  | _ :: _, [], h => nomatch h
  | x :: a, y :: b, h => by
    rw [List.map_cons, List.map_cons] at h
    injection h with h1 h2
    rw [cds_ext h1, map_cds_inj h2]
theorem stp_len (c : Nat) (l : List Nat) : (stp c l).length ≤ l.length := by
  unfold stp
  rw [List.length_reverse]
  have h1 := (List.dropWhile_sublist (· == c) (l := (l.dropWhile (· == c)).reverse)).length_le
  have h2 := (List.dropWhile_sublist (· == c) (l := l)).length_le
  rw [List.length_reverse] at h1
  omega
theorem bare_len (l : List Nat) : (bare l).length ≤ l.length := by
  unfold bare
  have h := stp_len 32 (if 59 ∈ l then bef 59 l else l)
  split at h
  · unfold bef at h ⊢
    rename_i hc
    rw [if_pos hc]
    rw [List.length_take] at h
    omega
  · rename_i hc
    rw [if_neg hc]
    exact h
theorem split_part {y l : List Nat} {ps : List (List Nat)} (h : IsSplit y l ps) : ∀ p ∈ ps, p.length ≤ l.length := by
  induction h with
  | one _ => intro p hp; rw [List.mem_singleton.mp hp]; omega
  | cut _ _ ih =>
    intro p hp
    rw [List.length_append, List.length_append]
    rcases List.mem_cons.mp hp with rfl | hp
    · omega
    · have := ih p hp
      omega
theorem set_last (xs : List V) (v w : V) : (xs ++ [v]).set xs.length w = xs ++ [w] := by
  rw [List.set_append_right _ _ (Nat.le_refl _), Nat.sub_self]
  rfl
theorem ix_end (xs : List V) (v : V) : ixN (xs ++ [v]).length (-1) = some xs.length := by
  rw [List.length_append]
  exact ixN_last _
section
variable {CD C : Addr} {c : Cs} {f : Str → Nat} {H H' : Hp} {A : Da} {D : Dr}
theorem DrAt.ne (h : DrAt CD C c f H A D) : A.nl ≠ A.d ∧ A.ll ≠ A.d ∧ A.hl ≠ A.d ∧ A.pl ≠ A.d ∧ A.dl ≠ A.d ∧ A.tl ≠ A.d ∧ A.nl ≠ A.tl ∧ A.ll ≠ A.tl ∧ A.hl ≠ A.tl ∧ A.pl ≠ A.tl ∧ A.dl ≠ A.tl := by
  obtain ⟨xs, d1, d2⟩ := h.dd
  obtain ⟨tb, t1, t2⟩ := h.tb
  obtain ⟨ls, l1, l2⟩ := h.lo
  obtain ⟨hs, h1, h2⟩ := h.hi
  exact ⟨ne_of h.nm h.o (by intro z; cases z), ne_of l1 h.o (by intro z; cases z), ne_of h1 h.o (by intro z; cases z), ne_of h.pa h.o (by intro z; cases z), ne_of d1 h.o (by intro z; cases z), ne_of t1 h.o (by intro z; cases z), ne_of h.nm t1 (by intro z; cases z), ne_of l1 t1 (by intro z; cases z), ne_of h1 t1 (by intro z; cases z), ne_of h.pa t1 (by intro z; cases z), ne_of d1 t1 (by intro z; cases z)⟩
theorem DrAt.nds (h : DrAt CD C c f H A D) : (A.dl ≠ A.nl ∧ A.dl ≠ A.ll ∧ A.dl ≠ A.hl ∧ A.dl ≠ A.pl) ∧ (A.nl ≠ A.ll ∧ A.nl ≠ A.hl ∧ A.nl ≠ A.pl) ∧ (A.ll ≠ A.hl ∧ A.ll ≠ A.pl) ∧ A.hl ≠ A.pl := by
  have := h.nd
  simp only [List.nodup_cons, List.mem_cons, List.not_mem_nil, or_false, not_or, List.nodup_nil, not_false_eq_true, and_true] at this
  exact this
theorem DrAt.size (h : DrAt CD C c f H A D) (n : Int) : Out A H (upd H A.d (.ins CD A.dx (putF "size" (.int n) (A.fs (szV D.sz))))) ∧ DrAt CD C c f (upd H A.d (.ins CD A.dx (putF "size" (.int n) (A.fs (szV D.sz))))) A ⟨some n, D.dd, D.lp, D.pa, D.la⟩ := by
  have out : Out A H (upd H A.d (.ins CD A.dx (putF "size" (.int n) (A.fs (szV D.sz))))) := Out.put (.inl rfl)
  have kp := h.kp out
  obtain ⟨n1, n2, n3, n4, n5, n6, _⟩ := h.ne
  obtain ⟨xs, d1, d2⟩ := h.dd
  obtain ⟨tb, t1, t2⟩ := h.tb
  obtain ⟨ls, l1, l2⟩ := h.lo
  obtain ⟨hs, h1, h2⟩ := h.hi
  exact ⟨out, upd_same, ⟨xs, by rw [upd_ne n5]; exact d1, d2.mono fun _ _ z => do_kp kp z⟩, ⟨tb, by rw [upd_ne n6]; exact t1, t2⟩, by rw [upd_ne n1]; exact h.nm, ⟨ls, by rw [upd_ne n2]; exact l1, l2.mono fun _ _ z => z.tk kp.tk⟩, ⟨hs, by rw [upd_ne n3]; exact h1, h2.mono fun _ _ z => z.tk kp.tk⟩, by rw [upd_ne n4]; exact h.pa, h.nd, h.pl⟩
noncomputable def four (H : Hp) (A : Da) (a b c d : List V) : Hp := upd (upd (upd (upd H A.nl (.lst a)) A.ll (.lst b)) A.hl (.lst c)) A.pl (.lst d)
theorem DrAt.four (h : DrAt CD C c f H A D) {lp : List LpT} {pa : List Int} {la : Int} {ls hs : List V} (hl : All2 (fun v t => SpoAt H v (LpT.lo t)) ls lp) (hh : All2 (fun v t => SpoAt H v (LpT.hi t)) hs lp) (pl : pa.length = lp.length) :
    Out A H (Rd.four H A (lp.map fun t => V.str t.nm) ls hs ((pa ++ [la]).map V.int)) ∧ DrAt CD C c f (Rd.four H A (lp.map fun t => V.str t.nm) ls hs ((pa ++ [la]).map V.int)) A ⟨D.sz, D.dd, lp, pa, la⟩ := by
  have out : Out A H (Rd.four H A (lp.map fun t => V.str t.nm) ls hs ((pa ++ [la]).map V.int)) := (((Out.put (.inr (.inr (.inr (.inl rfl))))).trans (Out.put (.inr (.inr (.inr (.inr (.inl rfl))))))).trans (Out.put (.inr (.inr (.inr (.inr (.inr (.inl rfl)))))))).trans (Out.put (.inr (.inr (.inr (.inr (.inr (.inr rfl)))))))
  have kp := h.kp out
  obtain ⟨n1, n2, n3, n4, n5, n6, m1, m2, m3, m4, m5⟩ := h.ne
  obtain ⟨⟨a1, a2, a3, a4⟩, ⟨b1, b2, b3⟩, ⟨c1, c2⟩, e1⟩ := h.nds
  obtain ⟨xs, d1, d2⟩ := h.dd
  obtain ⟨tb, t1, t2⟩ := h.tb
  refine ⟨out, ?_, ⟨xs, ?_, d2.mono fun _ _ z => do_kp kp z⟩, ⟨tb, ?_, t2⟩, ?_, ⟨ls, ?_, hl.mono fun _ _ z => z.tk kp.tk⟩, ⟨hs, ?_, hh.mono fun _ _ z => z.tk kp.tk⟩, upd_same, h.nd, pl⟩
  · unfold Rd.four; rw [upd_ne (Ne.symm n4), upd_ne (Ne.symm n3), upd_ne (Ne.symm n2), upd_ne (Ne.symm n1)]; exact h.o
  · unfold Rd.four; rw [upd_ne a4, upd_ne a3, upd_ne a2, upd_ne a1]; exact d1
  · unfold Rd.four; rw [upd_ne (Ne.symm m4), upd_ne (Ne.symm m3), upd_ne (Ne.symm m2), upd_ne (Ne.symm m1)]; exact t1
  · unfold Rd.four; rw [upd_ne b3, upd_ne b2, upd_ne b1]; exact upd_same
  · unfold Rd.four; rw [upd_ne c2, upd_ne c1]; exact upd_same
  · unfold Rd.four; rw [upd_ne e1]; exact upd_same
theorem DrAt.deed {H0 : Hp} (h : DrAt CD C c f H0 A D) {tb : List (Str × Nat)} {xs : List V} {x : V} {W : Dw} (o : H A.d = some (.ins CD A.dx (A.fs (szV D.sz)))) (nm : H A.nl = some (.lst (D.lp.map fun t => V.str t.nm))) {ls hs : List V} (l1 : H A.ll = some (.lst ls)) (l2 : All2 (fun v t => SpoAt H v (LpT.lo t)) ls D.lp) (h1 : H A.hl = some (.lst hs)) (h2 : All2 (fun v t => SpoAt H v (LpT.hi t)) hs D.lp) (pa : H A.pl = some (.lst (D.pa.map V.int ++ [.int D.la])))
    (hd : H A.dl = some (.lst xs)) (pd : All2 (DoAt C c H) xs D.dd) (hx : DoAt C c H x W) (ht : H A.tl = some (.dK (tbK tb))) (hf : ∀ p ∈ tb, p.2 = f p.1) (hl : tb.length ≤ 2000 * (D.dd.length + 1)) :
    Out A H (upd (upd H A.dl (.lst (xs ++ [x]))) A.pl (.lst (D.pa.map V.int ++ [.int (D.la + 1)]))) ∧ DrAt CD C c f (upd (upd H A.dl (.lst (xs ++ [x]))) A.pl (.lst (D.pa.map V.int ++ [.int (D.la + 1)]))) A ⟨D.sz, D.dd ++ [W], D.lp, D.pa, D.la + 1⟩ := by
  have out : Out A H (upd (upd H A.dl (.lst (xs ++ [x]))) A.pl (.lst (D.pa.map V.int ++ [.int (D.la + 1)]))) := (Out.put (.inr (.inl rfl))).trans (Out.put (.inr (.inr (.inr (.inr (.inr (.inr rfl)))))))
  obtain ⟨n1, n2, n3, n4, n5, n6, m1, m2, m3, m4, m5⟩ := h.ne
  obtain ⟨⟨a1, a2, a3, a4⟩, ⟨b1, b2, b3⟩, ⟨c1, c2⟩, e1⟩ := h.nds
  have kp : Kp H (upd (upd H A.dl (.lst (xs ++ [x]))) A.pl (.lst (D.pa.map V.int ++ [.int (D.la + 1)]))) := (Kp.lst hd).trans (Kp.lst ((upd_ne (Ne.symm a4)).trans pa))
  refine ⟨out, ?_, ⟨xs ++ [x], ?_, (pd.mono fun _ _ z => do_kp kp z).snoc (do_kp kp hx)⟩, ⟨tb, ?_, hf, by rw [List.length_append]; exact hl⟩, ?_, ⟨ls, ?_, l2.mono fun _ _ z => z.tk kp.tk⟩, ⟨hs, ?_, h2.mono fun _ _ z => z.tk kp.tk⟩, ?_, h.nd, h.pl⟩
  · rw [upd_ne (Ne.symm n4), upd_ne (Ne.symm n5)]; exact o
  · rw [upd_ne a4]; exact upd_same
  · rw [upd_ne (Ne.symm m4), upd_ne (Ne.symm m5)]; exact ht
  · rw [upd_ne b3, upd_ne (Ne.symm a1)]; exact nm
  · rw [upd_ne c2, upd_ne (Ne.symm a2)]; exact l1
  · rw [upd_ne e1, upd_ne (Ne.symm a3)]; exact h1
  · rw [upd_same]
    show _ = some (HO.lst ((D.pa ++ [D.la + 1]).map V.int))
    rw [List.map_append]
    rfl
theorem DrAt.tabs (h : DrAt CD C c f H A D) (e : ∀ b o, H b = some o → b ≠ A.tl → H' b = some o) : Kp H H' ∧ Out A H H' ∧ H' A.d = some (.ins CD A.dx (A.fs (szV D.sz))) ∧ (∃ xs, H' A.dl = some (.lst xs) ∧ All2 (DoAt C c H') xs D.dd) ∧ H' A.nl = some (.lst (D.lp.map fun t => V.str t.nm)) ∧ (∃ xs, H' A.ll = some (.lst xs) ∧ All2 (fun v t => SpoAt H' v (LpT.lo t)) xs D.lp) ∧ (∃ xs, H' A.hl = some (.lst xs) ∧ All2 (fun v t => SpoAt H' v (LpT.hi t)) xs D.lp) ∧ H' A.pl = some (.lst ((D.pa ++ [D.la]).map V.int)) := by
  have out : Out A H H' := fun b o hb n => e b o hb (fun z => n (.inr (.inr (.inl z))))
  have kp := h.kp out
  obtain ⟨n1, n2, n3, n4, n5, n6, m1, m2, m3, m4, m5⟩ := h.ne
  obtain ⟨xs, d1, d2⟩ := h.dd
  obtain ⟨ls, l1, l2⟩ := h.lo
  obtain ⟨hs, h1, h2⟩ := h.hi
  exact ⟨kp, out, e _ _ h.o (Ne.symm n6), ⟨xs, e _ _ d1 m5, d2.mono fun _ _ z => do_kp kp z⟩, e _ _ h.nm m1, ⟨ls, e _ _ l1 m2, l2.mono fun _ _ z => z.tk kp.tk⟩, ⟨hs, e _ _ h1 m3, h2.mono fun _ _ z => z.tk kp.tk⟩, e _ _ h.pa m4⟩
end
set_option genInjectivity true in
inductive Rk where
  | sz (n : Int)
  | opn (t : LpT)
  | fin
  | ded (tb : Str) (sp : List (Str × Int)) (ks : List Tk) (t : Tw)
noncomputable def Stp (f : Str → Nat) (D D' : Dr) : Rk → Prop
  | .sz n => D.sz = none ∧ 2 ≤ n ∧ n ≤ 999999999999999999 ∧ D' = ⟨some n, D.dd, D.lp, D.pa, D.la⟩
  | .opn t => D.sz ≠ none ∧ D.lp.length < 3 ∧ NameOk (cds t.nm) ∧ t.nm ∉ D.lp.map (·.nm) ∧ SpN t.lo ∧ SpN t.hi ∧ knw (D.lp.map (·.nm)) t.lo = true ∧ knw (D.lp.map (·.nm)) t.hi = true ∧ D' = opens D t
  | .fin => D.sz ≠ none ∧ ∃ (lp : List LpT) (t : LpT) (pa : List Int) (m : Int), D.lp = lp ++ [t] ∧ D.pa = pa ++ [m] ∧ D.la ≠ 0 ∧ D' = ⟨D.sz, D.dd, lp, pa, m + 1⟩
  | .ded tb sp ks t => D.sz ≠ none ∧ D.dd.length < 6 ∧ (Tk.t (.c tb sp)).Ok ∧ (∀ k ∈ ks, k.Ok) ∧ Adj ks ∧ ks.length ≤ 999 ∧ (∃ T S, run ks ⟨[], [], true⟩ = some ⟨T, S, false⟩ ∧ jw 1 S T = ([t], [])) ∧ (∀ k ∈ Tk.t (.c tb sp) :: ks, tkn (D.lp.map (·.nm)) k) ∧ (∀ k ∈ Tk.t (.c tb sp) :: ks, tkf f k) ∧ D' = does D tb sp t
noncomputable def dedT (tb : Str) (sp : List (Str × Int)) (ks : List Tk) : List Nat := cds (celS tb sp) ++ 61 :: txts ks
noncomputable def spSizeT (CD C : Addr) (c : Cs) : Sp := fun vs H Q _ => ∃ (f : Str → Nat) (A : Da) (D D' : Dr) (w : Addr) (n : Int), vs = [.ref A.d, .ref w] ∧ DrAt CD C c f H A D ∧ H w = some (.lst [.str "size", .str (nS n)]) ∧ Stp f D D' (.sz n) ∧ ∀ H', Out A H H' → DrAt CD C c f H' A D' → Q (.bl true) H'
noncomputable def spLoopT (CD C : Addr) (c : Cs) : Sp := fun vs H Q _ => ∃ (f : Str → Nat) (A : Da) (D D' : Dr) (w : Addr) (t : LpT), vs = [.ref A.d, .ref w] ∧ DrAt CD C c f H A D ∧ H w = some (.lst [.str "for", .str t.nm, .str (spS t.lo), .str (spS t.hi)]) ∧ Stp f D D' (.opn t) ∧ ∀ H', Out A H H' → DrAt CD C c f H' A D' → Q (.bl true) H'
noncomputable def spEndT (CD C : Addr) (c : Cs) : Sp := fun vs H Q _ => ∃ (f : Str → Nat) (A : Da) (D D' : Dr) (w : Addr), vs = [.ref A.d, .ref w] ∧ DrAt CD C c f H A D ∧ H w = some (.lst [.str "end"]) ∧ Stp f D D' .fin ∧ ∀ H', Out A H H' → DrAt CD C c f H' A D' → Q (.bl true) H'
noncomputable def spDeedT (CD C : Addr) (c : Cs) : Sp := fun vs H Q _ => ∃ (f : Str → Nat) (A : Da) (D D' : Dr) (z : Str) (tb : Str) (sp : List (Str × Int)) (ks : List Tk) (t : Tw), vs = [.ref A.d, .str z] ∧ DrAt CD C c f H A D ∧ cds z = dedT tb sp ks ∧ z.length ≤ 100000 ∧ Stp f D D' (.ded tb sp ks t) ∧ ∀ H', Out A H H' → DrAt CD C c f H' A D' → Q (.bl true) H'
noncomputable def Wds (l : List Nat) (ws : List Str) : Prop := ∃ ps : List Str, IsSplit [32] l (ps.map cds) ∧ ps.filter (fun y : Str => decide (y ≠ Str.ofString "")) = ws
theorem Wds.at {l : List Nat} {ws ps : List Str} (h : Wds l ws) (s : IsSplit [32] l (ps.map cds)) : ps.filter (fun y : Str => decide (y ≠ Str.ofString "")) = ws := by
  obtain ⟨p0, s0, e⟩ := h
  have : ps = p0 := map_cds_inj (s.fn s0)
  rw [this]
  exact e
noncomputable def RowT (l : List Nat) : Rk → Prop
  | .sz n => Wds l ["size", nS n]
  | .opn t => Wds l ["for", t.nm, spS t.lo, spS t.hi]
  | .fin => Wds l ["end"]
  | .ded tb sp ks _ => (∃ w ws, Wds l (w :: ws) ∧ w ≠ "for" ∧ w ≠ "end" ∧ w ≠ "size") ∧ l.filter (· ≠ 32) = dedT tb sp ks
noncomputable def spTaken (CD C : Addr) (c : Cs) : Sp := fun vs H Q _ => ∃ (f : Str → Nat) (A : Da) (D D' : Dr) (z : Str) (r : Rk), vs = [.ref A.d, .str z] ∧ DrAt CD C c f H A D ∧ z.length ≤ 100000 ∧ RowT (cds z) r ∧ Stp f D D' r ∧ ∀ H', Out A H H' → DrAt CD C c f H' A D' → Q (.bl true) H'
inductive Rds (f : Str → Nat) : List Str → Dr → Dr → Prop
  | nil {D} : Rds f [] D D
  | no {z zs D E} : bare (cds z) = [] → Rds f zs D E → Rds f (z :: zs) D E
  | row {z zs D D' E r} : bare (cds z) ≠ [] → RowT (bare (cds z)) r → Stp f D D' r → Rds f zs D' E → Rds f (z :: zs) D E
theorem Rds.six {f : Str → Nat} {zs : List Str} {D E : Dr} (h : Rds f zs D E) : D.dd.length ≤ 6 → E.dd.length ≤ 6 := by
  induction h with
  | nil => exact id
  | no _ _ ih => exact ih
  | @row z zs D D' E r _ _ hs _ ih =>
    intro h6
    refine ih ?_
    cases r with
    | sz n => obtain ⟨_, _, _, rfl⟩ := hs; exact h6
    | opn t => obtain ⟨_, _, _, _, _, _, _, _, rfl⟩ := hs; exact h6
    | fin => obtain ⟨_, _, _, _, _, _, _, _, rfl⟩ := hs; exact h6
    | ded tb sp ks t =>
      obtain ⟨_, h, _, _, _, _, _, _, _, rfl⟩ := hs
      show (D.dd ++ [_]).length ≤ 6
      rw [List.length_append, List.length_singleton]
      omega
noncomputable def spRead (CP C : Addr) (c : Cs) : Sp := fun vs H Q _ => ∃ (f : Str → Nat) (z : Str) (rows : List Str) (E : Dr) (n : Int), vs = [.str z] ∧ z.length ≤ 100000 ∧ IsSplit [10] (cds z) (rows.map cds) ∧ rows.length ≤ 1000 ∧ Rds f rows D0 E ∧ E.sz = some n ∧ E.dd ≠ [] ∧ E.lp = [] ∧ ∀ (v : V) (H' : Hp), Same H H' → PrgW CP C c H' v n E.dd → Q v H'
end Rd

set_option Elab.async false
set_option linter.all false
set_option maxRecDepth 100000
set_option maxHeartbeats 4000000
namespace Rd
open PySem L2
noncomputable def tf (ns : List Str) (z : Str) : Nat := (ns.idxOf z + 1) / 2
structure Lk (nms ns : List Str) (k : Tk) : Prop where
  ok : k.Ok
  kn : tkn nms k
  tb : tkf (tf ns) k
noncomputable def Ex.txt : Ex → Str
  | .lf t => (Tk.t t).txt
  | .br e => "(" ++ e.txt ++ ")"
  | .jn c l r => l.txt ++ sg c ++ r.txt
theorem txts_app (a b : List Tk) : txts (a ++ b) = txts a ++ txts b := by
  unfold txts
  rw [List.map_append, List.flatten_append]
theorem txts_one (k : Tk) : txts [k] = cds k.txt := by rw [txts_cons]; exact List.append_nil _
theorem Ex.txt_tk : ∀ e : Ex, cds e.txt = txts e.tk
  | .lf t => (txts_one _).symm
  | .br e => by
    show cds ("(" ++ e.txt ++ ")") = txts (.s 40 :: (e.tk ++ [.s 41]))
    rw [cds_app, cds_app, Ex.txt_tk e, txts_cons, txts_app, txts_one]
    have e1 : cds ("(" : Str) = [40] := by decide +kernel
    have e2 : cds (")" : Str) = [41] := by decide +kernel
    rw [e1, e2, List.append_assoc]
    rfl
  | .jn c l r => by
    show cds (l.txt ++ sg c ++ r.txt) = txts (l.tk ++ .s c :: r.tk)
    rw [cds_app, cds_app, Ex.txt_tk l, Ex.txt_tk r, txts_app, txts_cons, List.append_assoc]
    rfl
noncomputable def Ex.lv : Ex → Nat
  | .lf _ => 1
  | .br e => e.lv
  | .jn _ l r => l.lv + r.lv
theorem Ex.lv_pos : ∀ e : Ex, 1 ≤ e.lv
  | .lf _ => Nat.le_refl _
  | .br e => Ex.lv_pos e
  | .jn _ l r => Nat.le_trans (Ex.lv_pos l) (Nat.le_add_right _ _)
structure ExOk (nms ns : List Str) (e : Ex) : Prop where
  ok : e.Ok
  lk : ∀ k ∈ e.tk, Lk nms ns k
  ln : e.tk.length + 5 ≤ 8 * e.lv
theorem adj_cons {c : Nat} {b : List Tk} (k : Tk) (h : Adj b) : Adj (k :: .s c :: b) := by
  cases k <;> exact h
theorem adj_app {c : Nat} {b : List Tk} (hb : Adj b) : ∀ {a : List Tk}, Adj a → Adj (a ++ .s c :: b)
  | [], _ => hb
  | [k], _ => adj_cons k hb
  | k :: k2 :: a, h => by
    have ih := adj_app (c := c) hb (adj_tail h)
    cases k with
    | s d => exact ih
    | t w =>
      cases k2 with
      | s d => exact ih
      | t w2 => exact h.elim
theorem Ex.adj : ∀ e : Ex, Adj e.tk
  | .lf t => True.intro
  | .br e => adj_app (b := []) (show Adj [] from True.intro) (Ex.adj e)
  | .jn c l r => adj_app (Ex.adj r) (Ex.adj l)
theorem Tk.len {k : Tk} (ok : k.Ok) : (cds k.txt).length ≤ 150 := by
  cases k with
  | s c => show 1 ≤ 150; decide
  | t w =>
    cases w with
    | n i => have := (nS_good ok.1 ok.2).1.2.1; exact Nat.le_trans this (by decide)
    | v z => exact Nat.le_trans ok.2.1 (by decide)
    | c z sp =>
      have h1 := ok.1.2.1
      rw [cds_len] at h1
      have := celS_len (z := z) (sp := sp) (by omega) ok.2.2.1 fun s hs => (ok.2.2.2 s hs).2
      rw [cds_len]
      exact Nat.le_trans this (by decide)
    | j _ _ _ => exact ok.elim
theorem txts_len : ∀ {ks : List Tk}, (∀ k ∈ ks, k.Ok) → (txts ks).length ≤ 150 * ks.length
  | [], _ => Nat.le_refl _
  | k :: ks, h => by
    have h1 := Tk.len (h k List.mem_cons_self)
    have h2 := txts_len (ks := ks) fun x hx => h x (List.mem_cons_of_mem _ hx)
    rw [txts_cons, List.length_append, List.length_cons]
    omega
theorem ExOk.len {nms ns : List Str} {e : Ex} (h : ExOk nms ns e) : e.txt.length ≤ 1200 * e.lv := by
  have := txts_len (ks := e.tk) fun k hk => (h.lk k hk).ok
  rw [← Ex.txt_tk, cds_len] at this
  have := h.ln
  omega
noncomputable def ExAt (H : Hp) (x : V) (e : Ex) : Prop := ∃ (p : Addr) (y : V) (d : Int), x = .ref p ∧ H p = some (.tup [.str e.txt, .int (e.hd : Int), y, .int d]) ∧ ShAt H e.sh y
theorem ExAt.tk {H H' : Hp} {x : V} {e : Ex} (k : TK H H') (h : ExAt H x e) : ExAt H' x e := let ⟨p, y, d, r, h, g⟩ := h; ⟨p, y, d, r, k _ _ h, g.tk k⟩
noncomputable def KnAt (H : Hp) (l : Addr) (nms : List Str) : Prop := H l = some (.lst ((("" : Str) :: nms).map V.str)) ∧ nms.length ≤ 3 ∧ ∀ z ∈ nms, NameOk (cds z)
noncomputable def NmAt (H : Hp) (l : Addr) (ns : List Str) : Prop := H l = some (.lst (ns.map V.str)) ∧ ns.length = 8 ∧ ns.Nodup ∧ ∀ z ∈ ns, NameOk (cds z)
theorem KnAt.over {H H' : Hp} {l : Addr} {nms : List Str} (e : Same H H') (h : KnAt H l nms) : KnAt H' l nms := ⟨e _ _ h.1, h.2⟩
theorem NmAt.over {H H' : Hp} {l : Addr} {ns : List Str} (e : Same H H') (h : NmAt H l ns) : NmAt H' l ns := ⟨e _ _ h.1, h.2⟩
theorem strs_at {zs : List Str} {i : Int} (h0 : 0 ≤ i) (h1 : i < (zs.length : Int)) : ∃ z : Str, atI (zs.map V.str) i = some (.str z) ∧ zs[i.toNat]? = some z := by
  obtain ⟨k, rfl⟩ : ∃ k : Nat, i = (k : Int) := ⟨i.toNat, by omega⟩
  have hk : k < zs.length := by omega
  exact ⟨zs[k], atI_nat (by rw [List.getElem?_map, List.getElem?_eq_getElem hk]; rfl), by rw [Int.toNat_natCast]; exact List.getElem?_eq_getElem hk⟩
theorem idx_nodup {ns : List Str} {j : Nat} {z : Str} (nd : ns.Nodup) (h : ns[j]? = some z) : ns.idxOf z = j := by
  obtain ⟨hj, e⟩ := List.getElem?_eq_some_iff.mp h
  rw [← e]
  exact List.Nodup.idxOf_getElem nd j hj
theorem spn_of {nms : List Str} {z : Str} {n : Int} (h : ∀ z ∈ nms, NameOk (cds z)) (hz : z ∈ ("" : Str) :: nms) (n0 : -999999999999999999 ≤ n) (n1 : n ≤ 999999999999999999) : SpN (z, n) ∧ knw nms (z, n) = true := by
  rcases List.mem_cons.mp hz with rfl | hz
  · exact ⟨⟨.inl rfl, (by show (Str.ofString "").length ≤ 20; decide +kernel), n0, n1⟩, rfl⟩
  · have hk := h z hz
    refine ⟨⟨.inr hk, ?_, n0, n1⟩, ?_⟩
    · have := hk.2.1
      rw [cds_len] at this
      exact Nat.le_trans this (by decide)
    · unfold knw
      rw [decide_eq_true hz, Bool.or_true]
theorem mem_behind {nms : List Str} {z : Str} {i : Int} (h : 1 ≤ i) (e : (("" : Str) :: nms)[i.toNat]? = some z) : z ∈ nms := by
  obtain ⟨k, rfl⟩ : ∃ k : Nat, i = ((k + 1 : Nat) : Int) := ⟨i.toNat - 1, by omega⟩
  rw [Int.toNat_natCast, List.getElem?_cons_succ] at e
  exact List.mem_of_getElem? e
theorem letC_abc (x : Int) : 97 ≤ letC x ∧ letC x ≤ 122 := by
  unfold letC
  have h0 := Int.emod_nonneg x (show (26 : Int) ≠ 0 by decide)
  have h1 := Int.emod_lt_of_pos x (show (0 : Int) < 26 by decide)
  omega
theorem nameW_abc (xs : List Int) : ∀ c ∈ nameW xs, 97 ≤ c ∧ c ≤ 122 := fun c hc => by
  unfold nameW at hc
  obtain ⟨x, _, rfl⟩ := List.mem_map.mp hc
  exact letC_abc x
theorem nameRaw_b {xs : List Int} {w : List Nat} (wl : w.length = 8) (wb : ∀ c ∈ w, 97 ≤ c ∧ c ≤ 122) (k : Int) : 1 ≤ (nameRaw xs w k).length ∧ (nameRaw xs w k).length ≤ 8 ∧ ∀ c ∈ nameRaw xs w k, 97 ≤ c ∧ c ≤ 122 := by
  obtain ⟨lb0, lb1⟩ := long_b xs
  obtain ⟨ab0, ab1⟩ := at_b xs
  unfold nameRaw
  split
  · unfold nameB
    have b0 := Int.emod_nonneg (nameLong xs + 3 * k) (show (8 : Int) ≠ 0 by decide)
    have b1 := Int.emod_lt_of_pos (nameLong xs + 3 * k) (show (0 : Int) < 8 by decide)
    rw [List.length_take, wl]
    exact ⟨by omega, by omega, fun c hc => wb c (List.mem_of_mem_take hc)⟩
  · unfold nameA
    rw [List.length_append, List.length_append, List.length_singleton, List.length_take, List.length_take, List.length_drop, wl]
    refine ⟨by omega, by omega, fun c hc => ?_⟩
    rcases List.mem_append.mp hc with hc | hc
    · rcases List.mem_append.mp hc with hc | hc
      · exact wb c (List.mem_of_mem_take hc)
      · rw [List.mem_singleton.mp hc]; exact letC_abc _
    · exact wb c (List.mem_of_mem_drop (List.mem_of_mem_take hc))
theorem nameC_ok {xs : List Int} {w : List Nat} (wl : w.length = 8) (wb : ∀ c ∈ w, 97 ≤ c ∧ c ≤ 122) (k : Int) : NameOk (nameC xs w k) := by
  obtain ⟨h1, h2, h3⟩ := nameRaw_b (xs := xs) wl wb k
  unfold nameC
  split
  · rename_i h
    have : ∀ r ∈ resv, NameOk ([122, 122] ++ r) := by decide +kernel
    exact this _ h
  · rename_i h
    exact ⟨h1, h2, fun c hc => (mem_abc c).mpr (h3 c hc), h⟩
noncomputable def spNames23 : Sp := fun vs H Q _ => ∃ (c : Int), vs = [.int c, .int 8] ∧ ∀ (l : Addr) (H' : Hp) (ns : List Str), Same H H' → NmAt H' l ns → Q (.ref l) H'
noncomputable def spSpot23 : Sp := fun vs H Q _ => ∃ (x y : Int) (kl : Addr) (nms : List Str), vs = [.int x, .int y, .ref kl] ∧ 0 ≤ x ∧ x < 2147483647 ∧ 0 ≤ y ∧ y < 2147483647 ∧ KnAt H kl nms ∧ ∀ (r : V) (H' : Hp) (s : Str × Int), Same H H' → SpoAt H' r s → SpN s → knw nms s = true → Q r H'
noncomputable def spCell23 : Sp := fun vs H Q _ => ∃ (rx kl nl : Addr) (xs : List Int) (nms ns : List Str), vs = [.ref rx, .ref kl, .ref nl] ∧ H rx = some (.lst (xs.map V.int)) ∧ xs.length = 5 ∧ (∀ x ∈ xs, 0 ≤ x ∧ x < 2147483647) ∧ KnAt H kl nms ∧ NmAt H nl ns ∧ ∀ (r p : Addr) (H' : Hp) (z : Str) (sp : List (Str × Int)), Same H H' → H' r = some (.tup [.str z, .ref p, .str (celS z sp)]) → SpsAt H' p sp → Lk nms ns (.t (.c z sp)) → Q (.ref r) H'
noncomputable def spLeaf23 : Sp := fun vs H Q _ => ∃ (c : Int) (kl nl : Addr) (nms ns : List Str), vs = [.int c, .ref kl, .ref nl] ∧ KnAt H kl nms ∧ NmAt H nl ns ∧ ∀ (x : V) (H' : Hp) (t : Tw), Same H H' → (∃ p y, x = .ref p ∧ H' p = some (.tup [.str (Tk.t t).txt, .int 3, y]) ∧ ShAt H' t y) → Lk nms ns (.t t) → Q x H'
noncomputable def spRound23 : Sp := fun vs H Q _ => ∃ (x : V) (e : Ex) (b m : Bool), vs = [x, .bl b, .bl m] ∧ ExAt H x e ∧ e.txt.length ≤ 900000 ∧ ∀ (x' : V) (H' : Hp) (e' : Ex), Same H H' → ExAt H' x' e' → ((e' = e ∧ b = false) ∨ e' = .br e) → Q x' H'
noncomputable def spDeep23 : Sp := fun vs H Q _ => ∃ (c : Int) (kl nl : Addr) (nms ns : List Str), vs = [.int c, .ref kl, .ref nl] ∧ KnAt H kl nms ∧ NmAt H nl ns ∧ ∀ (x : V) (H' : Hp) (e : Ex), Same H H' → ExAt H' x e → ExOk nms ns e → e.lv = 1 → Q x H'
noncomputable def spBoth23 : Sp := fun vs H Q _ => ∃ (ch : Nat) (x y : V) (l r : Ex) (c : Int) (nms ns : List Str), vs = [.str ⟨#[ch]⟩, x, y, .int c] ∧ (⟨#[ch]⟩ : Str) ∈ sgn3 ∧ ExAt H x l ∧ ExAt H y r ∧ ExOk nms ns l ∧ ExOk nms ns r ∧ l.lv + r.lv ≤ 100 ∧ ∀ (v : V) (H' : Hp) (e : Ex), Same H H' → ExAt H' v e → ExOk nms ns e → e.lv = l.lv + r.lv → Q v H'
noncomputable def spTree23 (K : PySem.W.Frag) : Sp := fun vs H Q _ => ∃ (cl nl : Addr) (seed : Int) (cs : List Int) (ns : List Str), vs = [.ref cl, .int seed, .ref nl] ∧ SqL K H cl (cs.map V.int) ∧ cs.length ≤ 39 ∧ NmAt H nl ns ∧ ∀ (x : V) (H' : Hp) (e : Ex), Same H H' → ExAt H' x e → ExOk (ns.take 3) ns e → e.lv ≤ 40 → Q x H'
noncomputable def spSame23 (c : Cs) (n : Nat) : Sp := fun vs H Q _ => ∃ (x y : V) (t : Tw), vs = [x, y] ∧ TbAt c H t x ∧ ShAt H t y ∧ Tw.Ok t ∧ t.sz ≤ n ∧ ∀ H', Same H H' → Q (.bl true) H'
noncomputable def spSpots23 : Sp := fun vs H Q _ => ∃ (p q : Addr) (sp : List (Str × Int)), vs = [.ref p, .ref q] ∧ SpsAt H p sp ∧ SpsAt H q sp ∧ sp.length ≤ 1000 ∧ ∀ H', Same H H' → Q (.bl true) H'
noncomputable def spT (s : Str × Int) : Tr := .tup [.v (.str s.1), .v (.int s.2)]
theorem sps_trs {K : PySem.W.Frag} {H : Hp} : ∀ {xs : List V} {sp : List (Str × Int)}, All2 (SpoAt H) xs sp → TrsIs K H xs (sp.map spT)
  | [], [], _ => .nil
  | [], _ :: _, g => absurd g.1 (by simp)
  | _ :: _, [], g => absurd g.1 (by simp)
  | x :: xs, s :: sp, g => by
    obtain ⟨t, rfl, e⟩ := g.2 0 x s rfl rfl
    exact .cons (.tup (SqT.of e) (.cons (.flat rfl) (.cons (.flat rfl) .nil))) (sps_trs ⟨Nat.succ.inj g.1, fun i y b p q => g.2 (i + 1) y b p q⟩)
theorem sps_tr {K : PySem.W.Frag} {H : Hp} {p : Addr} {sp : List (Str × Int)} (h : SpsAt H p sp) : TrIs K H (.ref p) (.tup (sp.map spT)) := let ⟨_, e, g⟩ := h; .tup (SqT.of e) (sps_trs g)
theorem spT_dep : ∀ sp : List (Str × Int), depTs (sp.map spT) ≤ 2
  | [] => by rw [List.map_nil, depTs]; exact Nat.zero_le _
  | s :: sp => by
    have := spT_dep sp
    rw [List.map_cons, depTs]
    have h : depT (spT s) ≤ 2 := by unfold spT; rw [depT, depTs, depTs, depTs, depT, depT]; decide
    omega
theorem ne_same {K : PySem.W.Frag} {H : Hp} {x y : Addr} {t : Tr} {Q : VK} (hx : TrIs K H (.ref x) t) (hy : TrIs K H (.ref y) t) (hd : depT t ≤ 60) (h : Q (.bl false) H) : rEqX K true (.ref x) (.ref y) H Q := by
  refine ⟨t, t, hx, hy, ⟨_, rfl⟩, ⟨_, rfl⟩, simT_refl t, hd, ?_⟩
  rw [eqT_refl t hx.ok]
  exact h
theorem sps_dep (sp : List (Str × Int)) : depT (.tup (sp.map spT)) ≤ 60 := by
  rw [depT]
  have := spT_dep sp
  omega
noncomputable def Blk (n : Nat) (l l' : List Nat) : Prop := l' = l ∨ ∃ k, n ≤ k ∧ k ≤ l.length ∧ l' = l.take k ++ 32 :: l.drop k
noncomputable def spBlank23 : Sp := fun vs H Q _ => ∃ (z : Str) (n : Nat) (c : Int), vs = [.str z, .int (n : Int), .int c] ∧ n ≤ z.length ∧ z.length ≤ 100000 ∧ ∀ (H' : Hp) (z' : Str), Same H H' → Blk n (cds z) (cds z') → Q (.str z') H'
structure StE (H : Hp) (nms ns : List Str) (xs : List V) (es : List Ex) (N : Nat) : Prop where
  at' : All2 (ExAt H) xs es
  ok : ∀ e ∈ es, ExOk nms ns e
  sum : (es.map Ex.lv).sum ≤ N
section
variable {H H' : Hp} {nms ns : List Str} {xs : List V} {es : List Ex} {N : Nat}
theorem StE.tk (k : TK H H') (h : StE H nms ns xs es N) : StE H' nms ns xs es N := ⟨h.at'.mono fun _ _ z => z.tk k, h.ok, h.sum⟩
theorem StE.len (h : StE H nms ns xs es N) : xs.length ≤ N := by
  rw [h.at'.1]
  have : ∀ l : List Ex, l.length ≤ (l.map Ex.lv).sum := fun l => by
    induction l with
    | nil => exact Nat.le_refl _
    | cons t l ih => have := t.lv_pos; rw [List.map_cons, List.sum_cons, List.length_cons]; omega
  exact Nat.le_trans (this es) h.sum
theorem StE.push {x : V} {e : Ex} (h : StE H nms ns xs es N) (hx : ExAt H x e) (ht : ExOk nms ns e) {M : Nat} (hM : N + e.lv ≤ M) : StE H nms ns (xs ++ [x]) (es ++ [e]) M := by
  refine ⟨h.at'.snoc hx, fun u hu => ?_, ?_⟩
  · rcases List.mem_append.mp hu with z | z
    · exact h.ok u z
    · rw [List.mem_singleton.mp z]; exact ht
  · have := h.sum
    rw [List.map_append, List.sum_append]
    show _ + (e.lv + 0) ≤ M
    omega
theorem StE.pop (h : StE H nms ns xs es N) (hl : 0 < xs.length) : ∃ ys x us e M, xs = ys ++ [x] ∧ es = us ++ [e] ∧ StE H nms ns ys us M ∧ ExAt H x e ∧ ExOk nms ns e ∧ M + e.lv ≤ N := by
  obtain ⟨n, hn⟩ : ∃ n, es.length = n + 1 := ⟨es.length - 1, by have := h.at'.1; omega⟩
  obtain ⟨us, e, rfl, ul⟩ := snoc_of hn
  obtain ⟨ys, x, rfl, pa, px⟩ := all2_pop h.at'
  have hs := h.sum
  rw [List.map_append, List.sum_append] at hs
  have hs : (us.map Ex.lv).sum + (e.lv + 0) ≤ N := hs
  exact ⟨ys, x, us, e, (us.map Ex.lv).sum, rfl, rfl, ⟨pa, fun u hu => h.ok u (List.mem_append_left _ hu), Nat.le_refl _⟩, px, h.ok e (by simp), by omega⟩
end
theorem join_ok {nms ns : List Str} {ch : Nat} {l r l' r' : Ex} (hc : ch = 43 ∨ ch = 45 ∨ ch = 42) (okl : ExOk nms ns l) (okr : ExOk nms ns r) (hl : (l' = l ∧ st ch ≤ l.hd) ∨ l' = .br l) (hr : (r' = r ∧ st ch < r.hd) ∨ r' = .br r) : ExOk nms ns (.jn ch l' r') ∧ (Ex.jn ch l' r').lv = l.lv + r.lv := by
  have s3 : st ch < 3 := by rcases hc with rfl | rfl | rfl <;> decide
  have sgk : ∀ c, c ∈ sg5 → Lk nms ns (.s c) := fun c hc => ⟨hc, True.intro, True.intro⟩
  have brk : ∀ {e : Ex}, ExOk nms ns e → (∀ k ∈ (Ex.br e).tk, Lk nms ns k) := fun {e} h k hk => by
    have hk : k ∈ Tk.s 40 :: (e.tk ++ [.s 41]) := hk
    rcases List.mem_cons.mp hk with rfl | hk
    · exact sgk 40 (by decide)
    · rcases List.mem_append.mp hk with hk | hk
      · exact h.lk k hk
      · rw [List.mem_singleton.mp hk]; exact sgk 41 (by decide)
  have brl : ∀ e : Ex, (Ex.br e).tk.length = e.tk.length + 2 := fun e => by
    show (Tk.s 40 :: (e.tk ++ [.s 41])).length = _
    rw [List.length_cons, List.length_append]
    rfl
  have key : ∀ {e e' : Ex}, ExOk nms ns e → (e' = e ∨ e' = .br e) → e'.Ok ∧ (∀ k ∈ e'.tk, Lk nms ns k) ∧ e'.tk.length ≤ e.tk.length + 2 ∧ e'.lv = e.lv := fun {e e'} h he => by
    rcases he with rfl | rfl
    · exact ⟨h.ok, h.lk, Nat.le_add_right _ _, rfl⟩
    · exact ⟨h.ok, brk h, Nat.le_of_eq (brl e), rfl⟩
  obtain ⟨a1, a2, a3, a4⟩ := key okl (hl.imp And.left id)
  obtain ⟨b1, b2, b3, b4⟩ := key okr (hr.imp And.left id)
  have hL : st ch ≤ l'.hd := by rcases hl with ⟨rfl, h⟩ | rfl; exact h; exact Nat.le_of_lt s3
  have hR : st ch < r'.hd := by rcases hr with ⟨rfl, h⟩ | rfl; exact h; exact s3
  have lvE : (Ex.jn ch l' r').lv = l.lv + r.lv := by show l'.lv + r'.lv = _; rw [a4, b4]
  refine ⟨⟨⟨hc, a1, b1, hL, hR⟩, fun k hk => ?_, ?_⟩, lvE⟩
  · have hk : k ∈ l'.tk ++ .s ch :: r'.tk := hk
    rcases List.mem_append.mp hk with hk | hk
    · exact a2 k hk
    · rcases List.mem_cons.mp hk with rfl | hk
      · exact sgk ch (by rcases hc with rfl | rfl | rfl <;> decide)
      · exact b2 k hk
  · have h1 := okl.ln
    have h2 := okr.ln
    rw [lvE]
    show (l'.tk ++ .s ch :: r'.tk).length + 5 ≤ _
    rw [List.length_append, List.length_cons]
    omega
theorem sgn3_c {ch : Nat} (h : (⟨#[ch]⟩ : Str) ∈ sgn3) : ch = 43 ∨ ch = 45 ∨ ch = 42 := by
  unfold sgn3 at h
  simp only [List.mem_cons, List.not_mem_nil, or_false] at h
  have key : ∀ {d : Nat} {s : Str}, cds s = [d] → (⟨#[ch]⟩ : Str) = s → ch = d := fun {d s} e z => by
    rw [← z] at e
    have e : [ch] = [d] := e
    injection e
  rcases h with h | h | h
  · exact .inl (key (by decide +kernel) h)
  · exact .inr (.inl (key (by decide +kernel) h))
  · exact .inr (.inr (key (by decide +kernel) h))
theorem br_ok {nms ns : List Str} {e : Ex} (h : ExOk nms ns e) (hl : e.tk.length = 1) : ExOk nms ns (.br e) := by
  refine ⟨h.ok, fun k hk => ?_, ?_⟩
  · have hk : k ∈ Tk.s 40 :: (e.tk ++ [.s 41]) := hk
    rcases List.mem_cons.mp hk with rfl | hk
    · exact ⟨by show (40 : Nat) ∈ sg5; decide, True.intro, True.intro⟩
    · rcases List.mem_append.mp hk with hk | hk
      · exact h.lk k hk
      · rw [List.mem_singleton.mp hk]; exact ⟨by show (41 : Nat) ∈ sg5; decide, True.intro, True.intro⟩
  · have := e.lv_pos
    show (Tk.s 40 :: (e.tk ++ [.s 41])).length + 5 ≤ 8 * e.lv
    rw [List.length_cons, List.length_append, hl, List.length_singleton]
    omega
theorem cut_few (ns : List Int) : (cutC ns (some 4) (some 28)).length ≤ 39 := by
  unfold cutC
  rw [List.length_take]
  have : HT.sIx ns.length ns.length (some 28) ≤ 28 := by unfold HT.sIx; dsimp only; split <;> omega
  omega
theorem sh_ok {nms ns : List Str} : ∀ {e : Ex}, e.Ok → (∀ k ∈ e.tk, Lk nms ns k) → Tw.Ok e.sh ∧ e.sh.sz = e.lv
  | .lf t, _, h => by
    have ok := (h (.t t) List.mem_cons_self).ok
    cases t with
    | n i => exact ⟨ok, rfl⟩
    | v z => exact ⟨by have := ok.2.1; rw [cds_len] at this; exact Nat.le_trans this (by decide), rfl⟩
    | c z sp => exact ⟨⟨by have := ok.1.2.1; rw [cds_len] at this; exact Nat.le_trans this (by decide), ok.2.2.1, fun s hs => (ok.2.2.2 s hs).2⟩, rfl⟩
    | j _ _ _ => exact ok.elim
  | .br e, o, h => sh_ok (e := e) o fun k hk => h k (List.mem_cons_of_mem _ (List.mem_append_left _ hk))
  | .jn c l r, o, h => by
    obtain ⟨hc, ol, or', _⟩ := o
    have h1 := sh_ok (e := l) ol fun k hk => h k (List.mem_append_left _ hk)
    have h2 := sh_ok (e := r) or' fun k hk => h k (List.mem_append_right _ (List.mem_cons_of_mem _ hk))
    refine ⟨⟨?_, h1.1, h2.1⟩, by show l.sh.sz + r.sh.sz = l.lv + r.lv; rw [h1.2, h2.2]⟩
    rcases hc with rfl | rfl | rfl <;> decide +kernel
theorem blk_len {n : Nat} {l l' : List Nat} (h : Blk n l l') : l.length ≤ l'.length ∧ l'.length ≤ l.length + 1 := by
  rcases h with rfl | ⟨k, _, hk, rfl⟩
  · omega
  · rw [List.length_append, List.length_cons, List.length_take, List.length_drop]
    omega
theorem join_split : ∀ {rows : List Str}, rows ≠ [] → (∀ z ∈ rows, 10 ∉ cds z) → IsSplit [10] (cds (Txt.join "\n" rows)) (rows.map cds)
  | [], h, _ => absurd rfl h
  | [z], _, h => by
    rw [cds_join]
    show IsSplit [10] (cds z ++ []) [cds z]
    rw [List.append_nil]
    exact .one' (h z List.mem_cons_self)
  | z :: z2 :: rows, _, h => by
    have ih := join_split (rows := z2 :: rows) (List.cons_ne_nil _ _) fun y hy => h y (List.mem_cons_of_mem _ hy)
    rw [cds_join] at ih ⊢
    have e : cds ("\n" : Str) = [10] := by decide +kernel
    rw [List.map_cons, List.flatten_cons, e, List.append_assoc]
    exact .cut' (h z List.mem_cons_self) (by rw [e] at ih; exact ih)
theorem split_ex : ∀ l : List Nat, ∃ ps : List (List Nat), IsSplit [32] l (l.takeWhile (· != 32) :: ps)
  | [] => ⟨[], .one' (fun h => nomatch h)⟩
  | c :: l => by
    obtain ⟨ps, h⟩ := split_ex l
    by_cases hc : c = 32
    · subst hc
      exact ⟨_, .cut' (p := []) (fun h => nomatch h) h⟩
    · rw [List.takeWhile_cons, if_pos (bne_iff_ne.mpr hc)]
      generalize hp : l.takeWhile (· != 32) :: ps = qs at h
      have n32 : 32 ∉ l.takeWhile (· != 32) := fun z => by
        have := List.all_eq_true.mp (List.all_takeWhile (p := (· != 32)) (l := l)) 32 z
        exact absurd rfl (bne_iff_ne.mp this)
      cases h with
      | one _ =>
        injection hp with e1 e2
        subst e2
        rw [e1] at n32 ⊢
        exact ⟨[], .one' (fun z => (List.mem_cons.mp z).elim (fun y => hc y.symm) n32)⟩
      | cut hf ht =>
        injection hp with e1 e2
        subst e2
        rw [e1] at n32 ⊢
        exact ⟨_, .cut' (p := c :: _) (fun z => (List.mem_cons.mp z).elim (fun y => hc y.symm) n32) ht⟩
theorem wds_first {l : List Nat} {c : Nat} {r : List Nat} (e : l = c :: r) (hc : c ≠ 32) : ∃ ws, Wds l (sOf (l.takeWhile (· != 32)) :: ws) := by
  obtain ⟨ps, h⟩ := split_ex l
  have e1 : l.takeWhile (· != 32) ≠ [] := by rw [e, List.takeWhile_cons, if_pos (bne_iff_ne.mpr hc)]; exact List.cons_ne_nil _ _
  refine ⟨(ps.map sOf).filter (fun y : Str => decide (y ≠ Str.ofString "")), (sOf (l.takeWhile (· != 32))) :: ps.map sOf, ?_, ?_⟩
  · have : ((sOf (l.takeWhile (· != 32))) :: ps.map sOf).map cds = l.takeWhile (· != 32) :: ps := by
      rw [List.map_cons, List.map_map, cds_sOf]
      congr 1
      exact (List.map_congr_left fun x _ => cds_sOf x).trans (List.map_id _)
    rw [this]
    exact h
  · have hne : sOf (l.takeWhile (· != 32)) ≠ Str.ofString "" := fun z => e1 (by have z := congrArg cds z; rw [cds_sOf] at z; exact z)
    rw [List.filter_cons, if_pos (decide_eq_true hne)]
theorem filter_drop (l : List Nat) : (l.dropWhile (· == 32)).filter (· != 32) = l.filter (· != 32) := by
  induction l with
  | nil => rfl
  | cons c l ih =>
    rw [List.dropWhile_cons]
    split
    · rename_i h
      rw [ih, List.filter_cons, if_neg]
      simpa using h
    · rfl
theorem stp_pre {c : Nat} {x r : List Nat} (hc : c ≠ 32) (hx : 32 ∉ x) (hn : r.filter (· != 32) ≠ []) : ∃ r', stp 32 (c :: x ++ r) = c :: x ++ r' ∧ r'.filter (· != 32) = r.filter (· != 32) := by
  have h1 : (c :: x ++ r).dropWhile (· == 32) = c :: x ++ r := by
    rw [List.cons_append, List.dropWhile_cons, if_neg]
    simpa using hc
  have h2 : (c :: x ++ r).reverse.dropWhile (· == 32) = r.reverse.dropWhile (· == 32) ++ (c :: x).reverse := by
    rw [List.reverse_append]
    have key : ∀ {a b : List Nat}, a.filter (· != 32) ≠ [] → (a ++ b).dropWhile (· == 32) = a.dropWhile (· == 32) ++ b := fun {a b} h => by
      induction a with
      | nil => exact absurd rfl h
      | cons d a ih =>
        rw [List.cons_append, List.dropWhile_cons, List.dropWhile_cons]
        split
        · rename_i hd
          refine ih ?_
          rw [List.filter_cons, if_neg (by simpa using hd)] at h
          exact h
        · rfl
    refine key ?_
    rw [List.filter_reverse]
    simpa using hn
  refine ⟨(r.reverse.dropWhile (· == 32)).reverse, ?_, ?_⟩
  · unfold stp
    rw [h1, h2, List.reverse_append, List.reverse_reverse]
  · rw [List.filter_reverse, filter_drop, List.filter_reverse, List.reverse_reverse]
theorem fil_eq (l : List Nat) : l.filter (fun c => decide (c ≠ 32)) = l.filter (· != 32) := by
  congr 1
  funext c
  by_cases h : c = 32
  · rw [h]; rfl
  · rw [decide_eq_true h]
    exact (bne_iff_ne.mpr h).symm
theorem fil_id {l : List Nat} (h : 32 ∉ l) : l.filter (· != 32) = l := List.filter_eq_self.mpr fun c hc => bne_iff_ne.mpr fun z => h (z ▸ hc)
theorem bare_no {l : List Nat} (h : 59 ∉ l) : bare l = stp 32 l := by unfold bare; rw [if_neg h]
noncomputable def DRow (tb : Str) (sp : List (Str × Int)) (ks : List Tk) (l : List Nat) : Prop := ∃ r, l = cds tb ++ r ∧ r.filter (· != 32) = 91 :: (inner (sp.map fun s => cds (spS s)) ++ [93]) ++ 61 :: txts ks ∧ 10 ∉ r ∧ 59 ∉ r
theorem row_ded {tb : Str} {sp : List (Str × Int)} {ks : List Tk} {l : List Nat} (ok : (Tk.t (.c tb sp)).Ok) (h : DRow tb sp ks l) (t : Tw) : bare l ≠ [] ∧ RowT (bare l) (.ded tb sp ks t) ∧ 10 ∉ l := by
  obtain ⟨r, rfl, hf, h10, h59⟩ := h
  have hz := ok.1
  have n59 : 59 ∉ cds tb ++ r := fun z => (List.mem_append.mp z).elim (name_no hz (by omega)) h59
  have n10 : 10 ∉ cds tb ++ r := fun z => (List.mem_append.mp z).elim (name_no hz (by omega)) h10
  have n32 : 32 ∉ cds tb := name_no hz (by omega)
  obtain ⟨c, x, ex⟩ : ∃ c x, cds tb = c :: x := by
    cases e : cds tb with
    | nil => have := hz.1; rw [e] at this; exact absurd this (by decide)
    | cons c x => exact ⟨c, x, rfl⟩
  have hc : c ≠ 32 := fun z => n32 (by rw [ex, z]; exact List.mem_cons_self)
  have hx : 32 ∉ x := fun z => n32 (by rw [ex]; exact List.mem_cons_of_mem _ z)
  obtain ⟨r', e1, e2⟩ := stp_pre (r := r) hc hx (by rw [hf]; exact List.cons_ne_nil _ _)
  rw [← ex] at e1
  have hb : bare (cds tb ++ r) = cds tb ++ r' := (bare_no n59).trans e1
  rw [hb]
  refine ⟨by rw [ex]; exact List.cons_ne_nil _ _, ⟨?_, ?_⟩, n10⟩
  · obtain ⟨ws, hw⟩ := wds_first (l := cds tb ++ r') (by rw [ex]; rfl) hc
    have key : ∀ {a b : List Nat}, 32 ∉ a → (a ++ b).takeWhile (· != 32) = a ++ b.takeWhile (· != 32) := fun {a b} h => by
      induction a with
      | nil => rfl
      | cons d a ih =>
        rw [List.cons_append, List.takeWhile_cons, if_pos (bne_iff_ne.mpr (show d ≠ 32 from fun z => h (by rw [z]; exact List.mem_cons_self))), ih fun z => h (List.mem_cons_of_mem _ z)]
        rfl
    rw [key n32] at hw
    have hres : cds tb ++ r'.takeWhile (· != 32) ∉ resv := by
      cases r' with
      | nil => rw [hf] at e2; exact absurd e2 (by intro z; cases z)
      | cons d r'' =>
        by_cases hd : d = 32
        · rw [List.takeWhile_cons, if_neg (by simpa using hd), List.append_nil]
          exact hz.2.2.2
        · rw [List.filter_cons, if_pos (bne_iff_ne.mpr hd), hf] at e2
          injection e2 with e3 _
          intro z
          have m91 : (91 : Nat) ∈ cds tb ++ (d :: r'').takeWhile (· != 32) := by
            rw [List.takeWhile_cons, if_pos (bne_iff_ne.mpr hd), e3]
            exact List.mem_append_right _ List.mem_cons_self
          generalize cds tb ++ (d :: r'').takeWhile (· != 32) = u at z m91
          unfold resv at z
          simp only [List.mem_cons, List.not_mem_nil, or_false] at z
          rcases z with rfl | rfl | rfl
          · exact absurd m91 (by decide +kernel)
          · exact absurd m91 (by decide +kernel)
          · exact absurd m91 (by decide +kernel)
    have nr : ∀ u : Str, cds u ∈ resv → sOf (cds tb ++ r'.takeWhile (· != 32)) ≠ u := fun u hu z => by
      have z := congrArg cds z
      rw [cds_sOf] at z
      exact hres (z ▸ hu)
    exact ⟨_, ws, hw, nr "for" (by decide +kernel), nr "end" (by decide +kernel), nr "size" (by decide +kernel)⟩
  · rw [fil_eq, List.filter_append, fil_id n32, e2, hf]
    unfold dedT
    rw [cel_cds ok.2.1, List.append_assoc]
theorem stp_same {l : List Nat} {c d : Nat} {r s : List Nat} (e1 : l = c :: r) (e2 : l = s ++ [d]) (hc : c ≠ 32) (hd : d ≠ 32) : stp 32 l = l := by
  unfold stp
  have h1 : l.dropWhile (· == 32) = l := by rw [e1, List.dropWhile_cons, if_neg (by simpa using hc)]
  have h2 : l.reverse.dropWhile (· == 32) = l.reverse := by rw [e2, List.reverse_append, List.reverse_singleton, List.singleton_append, List.dropWhile_cons, if_neg (by simpa using hd)]
  rw [h1, h2, List.reverse_reverse]
theorem last_of {l : List Nat} (h : l ≠ []) (n : 32 ∉ l) : ∃ s d, l = s ++ [d] ∧ d ≠ 32 := by
  refine ⟨l.dropLast, l.getLast h, (List.dropLast_concat_getLast h).symm, fun z => n ?_⟩
  rw [← z]
  exact List.getLast_mem h
noncomputable def wj : List (List Nat) → List Nat
  | [] => []
  | [a] => a
  | a :: b :: l => a ++ ([32] ++ wj (b :: l))
theorem wj_split : ∀ {ws : List (List Nat)}, ws ≠ [] → (∀ w ∈ ws, 32 ∉ w) → IsSplit [32] (wj ws) ws
  | [], h, _ => absurd rfl h
  | [a], _, h => .one' (h a List.mem_cons_self)
  | a :: b :: l, _, h => .cut' (h a List.mem_cons_self) (wj_split (List.cons_ne_nil _ _) fun w hw => h w (List.mem_cons_of_mem _ hw))
theorem wj_mem {c : Nat} (hc : c ≠ 32) : ∀ {ws : List (List Nat)}, (∀ w ∈ ws, c ∉ w) → c ∉ wj ws
  | [], _ => fun z => nomatch z
  | [a], h => h a List.mem_cons_self
  | a :: b :: l, h => fun z => by
    have z : c ∈ a ++ ([32] ++ wj (b :: l)) := z
    rcases List.mem_append.mp z with z | z
    · exact h a List.mem_cons_self z
    · rcases List.mem_append.mp z with z | z
      · exact hc (List.mem_singleton.mp z)
      · exact wj_mem hc (ws := b :: l) (fun w hw => h w (List.mem_cons_of_mem _ hw)) z
theorem wj_last : ∀ {ws : List (List Nat)}, ws ≠ [] → (∀ w ∈ ws, 32 ∉ w ∧ w ≠ []) → ∃ s d, wj ws = s ++ [d] ∧ d ≠ 32
  | [], h, _ => absurd rfl h
  | [a], _, h => last_of (h a List.mem_cons_self).2 (h a List.mem_cons_self).1
  | a :: b :: l, _, h => by
    obtain ⟨s, d, e, hd⟩ := wj_last (ws := b :: l) (List.cons_ne_nil _ _) fun w hw => h w (List.mem_cons_of_mem _ hw)
    refine ⟨a ++ ([32] ++ s), d, ?_, hd⟩
    show a ++ ([32] ++ wj (b :: l)) = _
    rw [e]
    simp
theorem wj_head : ∀ {ws : List (List Nat)}, ws ≠ [] → (∀ w ∈ ws, 32 ∉ w ∧ w ≠ []) → ∃ c r, wj ws = c :: r ∧ c ≠ 32
  | [], h, _ => absurd rfl h
  | a :: l, _, h => by
    obtain ⟨h1, h2⟩ := h a List.mem_cons_self
    cases a with
    | nil => exact absurd rfl h2
    | cons c a =>
      refine ⟨c, ?_⟩
      cases l with
      | nil => exact ⟨a, rfl, fun z => h1 (z ▸ List.mem_cons_self)⟩
      | cons b l => exact ⟨_, rfl, fun z => h1 (z ▸ List.mem_cons_self)⟩
theorem row_words {ws : List Str} (hn : ws ≠ []) (h : ∀ w ∈ ws, cds w ≠ [] ∧ 32 ∉ cds w ∧ 59 ∉ cds w ∧ 10 ∉ cds w) : bare (wj (ws.map cds)) ≠ [] ∧ Wds (bare (wj (ws.map cds))) ws ∧ 10 ∉ wj (ws.map cds) := by
  have hm : ws.map cds ≠ [] := fun z => hn (List.map_eq_nil_iff.mp z)
  have h2 : ∀ w ∈ ws.map cds, 32 ∉ w ∧ w ≠ [] := fun w hw => by
    obtain ⟨z, hz, rfl⟩ := List.mem_map.mp hw
    exact ⟨(h z hz).2.1, (h z hz).1⟩
  have n59 : 59 ∉ wj (ws.map cds) := wj_mem (by decide) fun w hw => by
    obtain ⟨z, hz, rfl⟩ := List.mem_map.mp hw
    exact (h z hz).2.2.1
  have n10 : 10 ∉ wj (ws.map cds) := wj_mem (by decide) fun w hw => by
    obtain ⟨z, hz, rfl⟩ := List.mem_map.mp hw
    exact (h z hz).2.2.2
  obtain ⟨c, r, e1, hc⟩ := wj_head hm h2
  obtain ⟨s, d, e2, hd⟩ := wj_last hm h2
  have hb : bare (wj (ws.map cds)) = wj (ws.map cds) := (bare_no n59).trans (stp_same e1 e2 hc hd)
  rw [hb]
  refine ⟨by rw [e1]; exact List.cons_ne_nil _ _, ⟨ws, wj_split hm fun w hw => (h2 w hw).1, ?_⟩, n10⟩
  exact List.filter_eq_self.mpr fun z hz => decide_eq_true fun y => (h z hz).1 (by rw [y]; rfl)
theorem spot_ne {s : Str × Int} (h : SpN s) : cds (spS s) ≠ [] := fun z => by
  have := spot_read h
  rw [z] at this
  have e : spotR [] = none := by decide +kernel
  rw [e] at this
  cases this
theorem word_sp {s : Str × Int} (h : SpN s) : cds (spS s) ≠ [] ∧ 32 ∉ cds (spS s) ∧ 59 ∉ cds (spS s) ∧ 10 ∉ cds (spS s) := ⟨spot_ne h, spot_free h (by omega), spot_free h (by omega), spot_free h (by omega)⟩
theorem word_nm {z : Str} (h : NameOk (cds z)) : cds z ≠ [] ∧ 32 ∉ cds z ∧ 59 ∉ cds z ∧ 10 ∉ cds z := ⟨fun e => by have := h.1; rw [e] at this; exact absurd this (by decide), name_no h (by omega), name_no h (by omega), name_no h (by omega)⟩
theorem row_opn {t : LpT} (hn : NameOk (cds t.nm)) (hl : SpN t.lo) (hh : SpN t.hi) {l : List Nat} (e : l = wj ((["for", t.nm, spS t.lo, spS t.hi] : List Str).map cds)) : bare l ≠ [] ∧ RowT (bare l) (.opn t) ∧ 10 ∉ l := by
  subst e
  refine row_words (List.cons_ne_nil _ _) fun w hw => ?_
  simp only [List.mem_cons, List.not_mem_nil, or_false] at hw
  rcases hw with rfl | rfl | rfl | rfl
  · decide +kernel
  · exact word_nm hn
  · exact word_sp hl
  · exact word_sp hh
theorem row_fin : bare (cds "end") ≠ [] ∧ RowT (bare (cds "end")) .fin ∧ 10 ∉ cds "end" := row_words (ws := ["end"]) (List.cons_ne_nil _ _) fun w hw => by
  rw [List.mem_singleton.mp hw]
  decide +kernel
theorem row_sz {n : Int} (h0 : 0 ≤ n) (h1 : n ≤ 999999999999999999) {l : List Nat} (e : l = wj ((["size", nS n] : List Str).map cds)) : bare l ≠ [] ∧ RowT (bare l) (.sz n) ∧ 10 ∉ l := by
  subst e
  obtain ⟨g, _⟩ := nS_good h0 h1
  refine row_words (List.cons_ne_nil _ _) fun w hw => ?_
  simp only [List.mem_cons, List.not_mem_nil, or_false] at hw
  rcases hw with rfl | rfl
  · decide +kernel
  · exact ⟨fun e => by have := g.1; rw [e] at this; exact absurd this (by decide), num_no g (by omega), num_no g (by omega), num_no g (by omega)⟩
theorem tk_free {k : Tk} (ok : k.Ok) {c : Nat} (hc : c = 10 ∨ c = 32 ∨ c = 59) : c ∉ cds k.txt := by
  cases k with
  | s d =>
    intro z
    have z : c ∈ [d] := z
    have ok : d ∈ sg5 := ok
    rw [← List.mem_singleton.mp z] at ok
    unfold sg5 at ok
    simp only [List.mem_cons, List.not_mem_nil, or_false] at ok
    omega
  | t w =>
    cases w with
    | n i => exact num_no (nS_good ok.1 ok.2).1 (by omega)
    | v z => exact name_no ok (by omega)
    | c z sp => exact cel_no ok (by omega)
    | j _ _ _ => exact ok.elim
theorem txts_free {c : Nat} (hc : c = 10 ∨ c = 32 ∨ c = 59) : ∀ {ks : List Tk}, (∀ k ∈ ks, k.Ok) → c ∉ txts ks
  | [], _ => fun z => nomatch z
  | k :: ks, h => fun z => by
    rw [txts_cons] at z
    rcases List.mem_append.mp z with z | z
    · exact tk_free (h k List.mem_cons_self) hc z
    · exact txts_free hc (ks := ks) (fun x hx => h x (List.mem_cons_of_mem _ hx)) z
theorem drow_0 {tb : Str} {sp : List (Str × Int)} {ks : List Tk} (ok : (Tk.t (.c tb sp)).Ok) (h : ∀ k ∈ ks, k.Ok) : DRow tb sp ks (dedT tb sp ks) := by
  have fr : ∀ {c : Nat}, (c = 10 ∨ c = 32 ∨ c = 59) → c ∉ 91 :: (inner (sp.map fun s => cds (spS s)) ++ [93]) ++ 61 :: txts ks := fun {c} hc z => by
    rcases List.mem_append.mp z with z | z
    · have h1 := cel_no ok (c := c) (by omega)
      rw [cel_cds ok.2.1] at h1
      exact h1 (List.mem_append_right _ z)
    · rcases List.mem_cons.mp z with z | z
      · omega
      · exact txts_free hc h z
  refine ⟨91 :: (inner (sp.map fun s => cds (spS s)) ++ [93]) ++ 61 :: txts ks, ?_, fil_id (fr (.inr (.inl rfl))), fr (.inl rfl), fr (.inr (.inr rfl))⟩
  unfold dedT
  rw [cel_cds ok.2.1, List.append_assoc]
theorem drow_blk {tb : Str} {sp : List (Str × Int)} {ks : List Tk} {l l' : List Nat} (h : DRow tb sp ks l) (b : Blk (cds tb).length l l') : DRow tb sp ks l' := by
  rcases b with rfl | ⟨k, h1, h2, rfl⟩
  · exact h
  · obtain ⟨r, rfl, hf, n10, n59⟩ := h
    refine ⟨r.take (k - (cds tb).length) ++ 32 :: r.drop (k - (cds tb).length), ?_, ?_, ?_, ?_⟩
    · rw [List.take_append, List.drop_append, List.take_of_length_le h1, List.drop_of_length_le h1, List.append_assoc]
      rfl
    · rw [List.filter_append, List.filter_cons, if_neg (by decide), ← List.filter_append, List.take_append_drop]
      exact hf
    · intro z
      rcases List.mem_append.mp z with z | z
      · exact n10 (List.mem_of_mem_take z)
      · rcases List.mem_cons.mp z with z | z
        · cases z
        · exact n10 (List.mem_of_mem_drop z)
    · intro z
      rcases List.mem_append.mp z with z | z
      · exact n59 (List.mem_of_mem_take z)
      · rcases List.mem_cons.mp z with z | z
        · cases z
        · exact n59 (List.mem_of_mem_drop z)
noncomputable def lp9 (z : Str) : LpT := ⟨z, ("", 0), ("", 9)⟩
theorem for9 (z : Str) : cds ("for " ++ z ++ " 0 9") = wj ((["for", z, spS ("", 0), spS ("", 9)] : List Str).map cds) := by
  rw [cds_app, cds_app]
  have e1 : cds ("for " : Str) = cds "for" ++ [32] := by decide +kernel
  have e2 : cds (" 0 9" : Str) = [32] ++ (cds (spS ("", 0)) ++ ([32] ++ cds (spS ("", 9)))) := by decide +kernel
  rw [e1, e2, List.append_assoc, List.append_assoc]
  rfl
theorem spn9 : SpN ("", 0) ∧ SpN ("", 9) := ⟨⟨.inl rfl, by decide +kernel, by decide, by decide⟩, ⟨.inl rfl, by decide +kernel, by decide, by decide⟩⟩
noncomputable def rows23 (ns : List Str) (z : Str) : List Str := [("size 7" : Str)] ++ (ns.take 3).map (fun x => ("for " : Str) ++ x ++ " 0 9") ++ [z] ++ [("end" : Str), "end", "end"]
theorem rows_sum {ns : List Str} {z : Str} (nl : ns.length = 8) (h : ∀ x ∈ ns, x.length ≤ 8) : ((rows23 ns z).map (·.length)).sum ≤ z.length + 200 ∧ (rows23 ns z).length = 8 := by
  match ns, nl, h with
  | a :: b :: c :: ns', nl, h =>
    have ha := h a (by simp)
    have hb := h b (by simp)
    have hc := h c (by simp)
    have e : rows23 (a :: b :: c :: ns') z = [("size 7" : Str), "for " ++ a ++ " 0 9", "for " ++ b ++ " 0 9", "for " ++ c ++ " 0 9", z, "end", "end", "end"] := rfl
    have k0 : ("size 7" : Str).length = 6 := by decide +kernel
    have k1 : ("for " : Str).length = 4 := by decide +kernel
    have k2 : (" 0 9" : Str).length = 4 := by decide +kernel
    have k3 : ("end" : Str).length = 3 := by decide +kernel
    rw [e]
    refine ⟨?_, rfl⟩
    simp only [List.map_cons, List.map_nil, List.sum_cons, List.sum_nil, sLen, k0, k1, k2, k3]
    omega
theorem rds23 {ns : List Str} (nl : ns.length = 8) (nd : ns.Nodup) (hn : ∀ z ∈ ns, NameOk (cds z)) {tb : Str} {sp : List (Str × Int)} {e : Ex} (hc : Lk (ns.take 3) ns (.t (.c tb sp))) (he : ExOk (ns.take 3) ns e) (hl : e.lv ≤ 40) {z : Str} (hz : DRow tb sp e.tk (cds z)) :
    ∃ path, Rds (tf ns) (rows23 ns z) D0 ⟨some 7, [⟨(ns.take 3).map lp9, tb, sp, e.sh, path⟩], [], [], 1⟩ ∧ ∀ y ∈ rows23 ns z, 10 ∉ cds y := by
  match ns, nl, nd, hn, hc, he with
  | a :: b :: c :: ns', nl, nd, hn, hc, he =>
    have ha := hn a (by simp)
    have hb := hn b (by simp)
    have hcc := hn c (by simp)
    simp only [List.nodup_cons, List.mem_cons, not_or] at nd
    obtain ⟨⟨ab, ac, _⟩, ⟨bc, _⟩, _⟩ := nd
    have okks : ∀ k ∈ e.tk, k.Ok := fun k hk => (he.lk k hk).ok
    have r1 := row_sz (n := 7) (by decide) (by decide) (l := cds "size 7") (by decide +kernel)
    have r2 := row_opn (t := lp9 a) ha spn9.1 spn9.2 (for9 a)
    have r3 := row_opn (t := lp9 b) hb spn9.1 spn9.2 (for9 b)
    have r4 := row_opn (t := lp9 c) hcc spn9.1 spn9.2 (for9 c)
    have r5 := row_ded hc.ok hz e.sh
    have r6 := row_fin
    refine ⟨[0, 0, 0, 0], ?_, fun y hy => ?_⟩
    · refine .row r1.1 r1.2.1 ⟨rfl, by decide, by decide, rfl⟩ ?_
      refine .row r2.1 r2.2.1 ⟨(fun z => nomatch z), by decide, ha, (fun z => nomatch z), spn9.1, spn9.2, rfl, rfl, rfl⟩ ?_
      refine .row r3.1 r3.2.1 ⟨(fun z => nomatch z), (by show 1 < 3; decide), hb, (fun z => ?_), spn9.1, spn9.2, rfl, rfl, rfl⟩ ?_
      · exact ab (List.mem_singleton.mp z).symm
      refine .row r4.1 r4.2.1 ⟨(fun z => nomatch z), (by show 2 < 3; decide), hcc, (fun z => ?_), spn9.1, spn9.2, rfl, rfl, rfl⟩ ?_
      · have z : c ∈ [a, b] := z
        simp only [List.mem_cons, List.not_mem_nil, or_false] at z
        rcases z with z | z
        · exact ac z.symm
        · exact bc z.symm
      refine .row r5.1 r5.2.1 ⟨(fun z => nomatch z), (by show 0 < 6; decide), hc.ok, okks, Ex.adj e, ?_, run_whole he.ok, ?_, ?_, rfl⟩ ?_
      · have := he.ln; omega
      · intro k hk
        rcases List.mem_cons.mp hk with rfl | hk
        · exact hc.kn
        · exact (he.lk k hk).kn
      · intro k hk
        rcases List.mem_cons.mp hk with rfl | hk
        · exact hc.tb
        · exact (he.lk k hk).tb
      refine .row r6.1 r6.2.1 ⟨(fun z => nomatch z), [lp9 a, lp9 b], lp9 c, [0, 0], 0, rfl, rfl, (by show (0 : Int) + 1 ≠ 0; decide), rfl⟩ ?_
      refine .row r6.1 r6.2.1 ⟨(fun z => nomatch z), [lp9 a], lp9 b, [0], 0, rfl, rfl, (by show (0 : Int) + 1 ≠ 0; decide), rfl⟩ ?_
      exact .row r6.1 r6.2.1 ⟨(fun z => nomatch z), [], lp9 a, [], 0, rfl, rfl, (by show (0 : Int) + 1 ≠ 0; decide), rfl⟩ .nil
    · have hy : y ∈ [("size 7" : Str), "for " ++ a ++ " 0 9", "for " ++ b ++ " 0 9", "for " ++ c ++ " 0 9", z, "end", "end", "end"] := hy
      simp only [List.mem_cons, List.not_mem_nil, or_false] at hy
      rcases hy with rfl | rfl | rfl | rfl | rfl | rfl | rfl | rfl
      · exact r1.2.2
      · exact r2.2.2
      · exact r3.2.2
      · exact r4.2.2
      · exact r5.2.2
      · exact r6.2.2
      · exact r6.2.2
      · exact r6.2.2
end Rd

set_option Elab.async false
set_option linter.all false
set_option maxRecDepth 100000
set_option maxHeartbeats 4000000
namespace L2
open PySem PySem.Spec PyProof.Rows
section
variable {X : Cx} {pins : List (Addr × Obj)} {s : Shared} {σ : St} {H : Hp}
end
end L2

set_option Elab.async false
set_option linter.all false
set_option maxRecDepth 100000
set_option maxHeartbeats 4000000
namespace L2
open PySem PySem.Spec PyProof.Rows
end L2
namespace PySem
open Builtin
open AutoSeq1 (wpAny_loadPart')
end PySem
namespace L2
open PySem PySem.Spec PyProof.Rows
end L2

set_option linter.all false
namespace Fo
variable {W : Type}
end Fo

set_option Elab.async false
set_option linter.all false
set_option maxRecDepth 100000
set_option maxHeartbeats 4000000
namespace PySem
open PySem.Spec PyProof.Rows
open AutoSeq1 (wpAny_loadPart')
end PySem
namespace L2
open PySem PySem.Spec PyProof.Rows
end L2
namespace HU
open PySem PySem.Spec
section
variable {prog : Program} {w : World} {A : Around} {E : Value → Shared → Prop} {s : Shared}
end
end HU
namespace L2
open PySem PySem.Spec PyProof.Rows
end L2

set_option Elab.async false
set_option linter.all false
set_option maxRecDepth 100000
set_option maxHeartbeats 4000000

namespace Fw
open PySem L2


noncomputable def top (i : Nat) : Stmt := PySem.Challenge.pw_furrow_k23_terms_read.main.body.getD i (.Pass ⟨0, 0, 0, 0⟩)
noncomputable abbrev s_Number_init : Stmt := inClass (top 3) 0
noncomputable abbrev s_Value_init : Stmt := inClass (top 4) 0
noncomputable abbrev s_Cell_init : Stmt := inClass (top 5) 0
noncomputable abbrev s_Joined_init : Stmt := inClass (top 6) 0
noncomputable abbrev s_Deed_init : Stmt := inClass (top 8) 0
noncomputable abbrev s_Program_init : Stmt := inClass (top 9) 0
noncomputable abbrev s_made_of : Stmt := top 19
noncomputable abbrev s_number_of : Stmt := top 20
noncomputable abbrev s_is_name : Stmt := top 21
noncomputable abbrev s_risen : Stmt := top 23
noncomputable abbrev s_fallen : Stmt := top 24
noncomputable abbrev s_spot_of : Stmt := top 22
noncomputable abbrev s_bare_row : Stmt := top 25
noncomputable abbrev s_words_of : Stmt := top 26
noncomputable abbrev s_part_end : Stmt := top 45
noncomputable abbrev s_cell_of : Stmt := top 47
noncomputable abbrev s_part_of : Stmt := top 46
noncomputable abbrev s_parts_of : Stmt := top 44
noncomputable abbrev s_join_waiting : Stmt := top 49
noncomputable abbrev s_term_of : Stmt := top 48
noncomputable abbrev s_Draft_init : Stmt := inClass (top 34) 0
noncomputable abbrev s_spots_known : Stmt := top 42
noncomputable abbrev s_names_known : Stmt := top 41
noncomputable abbrev s_tables_kept : Stmt := top 43
noncomputable abbrev s_deed_taken : Stmt := top 40
noncomputable abbrev s_size_taken : Stmt := top 37
noncomputable abbrev s_loop_taken : Stmt := top 38
noncomputable abbrev s_end_taken : Stmt := top 39
noncomputable abbrev s_taken : Stmt := top 36
noncomputable abbrev s_read : Stmt := top 35
noncomputable abbrev s_l_cell_at : Stmt := top 51
noncomputable abbrev s_l_whole : Stmt := top 52
noncomputable abbrev s_l_stream : Stmt := top 53
noncomputable abbrev s_l_names : Stmt := top 54
noncomputable abbrev s_l_number : Stmt := top 55
noncomputable abbrev s_l_spot_text : Stmt := top 56
noncomputable abbrev s_l_spot : Stmt := top 57
noncomputable abbrev s_l_cell : Stmt := top 58
noncomputable abbrev s_l_leaf : Stmt := top 59
noncomputable abbrev s_l_spots : Stmt := top 60
noncomputable abbrev s_l_same : Stmt := top 61
noncomputable abbrev s_l_round : Stmt := top 62
noncomputable abbrev s_l_both : Stmt := top 63
noncomputable abbrev s_l_deep : Stmt := top 64
noncomputable abbrev s_l_tree : Stmt := top 65
noncomputable abbrev s_l_blank : Stmt := top 66
noncomputable abbrev s_law : Stmt := top 67
theorem scM {N P : List Str} {sc : Scope} (a : sc.kind = .function := by rfl) (b : sc.isCoroutine = false := by rfl) (c : sc.isGenerator = false := by rfl) (d : N.Nodup := by decide +kernel) (e : N.take P.length = P := by rfl) (f : ∀ x ∈ P, sc.names.lookup x = some .local ∨ sc.names.lookup x = some .cell := by decide +kernel) (g : ∀ y ∈ sc.names, y.2 ≠ .free := by decide +kernel) : FnScope N P sc := ⟨a, b, c, d, e, f, g⟩
theorem sc_Number_init : FnScope ["self", "n"] ["self", "n"] (defScope s_Number_init) := scM
theorem sc_Value_init : FnScope ["self", "name"] ["self", "name"] (defScope s_Value_init) := scM
theorem sc_Cell_init : FnScope ["self", "table", "spots"] ["self", "table", "spots"] (defScope s_Cell_init) := scM
theorem sc_Joined_init : FnScope ["self", "sign", "left", "right"] ["self", "sign", "left", "right"] (defScope s_Joined_init) := scM
theorem sc_Deed_init : FnScope ["self", "names", "lows", "highs", "table", "spots", "term", "path"] ["self", "names", "lows", "highs", "table", "spots", "term", "path"] (defScope s_Deed_init) := scM
theorem sc_Program_init : FnScope ["self", "size", "deeds"] ["self", "size", "deeds"] (defScope s_Program_init) := scM
theorem sc_made_of : FnScope ["text", "signs"] ["text", "signs"] (defScope s_made_of) := scM
theorem sc_number_of : FnScope ["text"] ["text"] (defScope s_number_of) := scM
theorem sc_is_name : FnScope ["text"] ["text"] (defScope s_is_name) := scM
theorem sc_risen : FnScope ["parts", "number"] ["parts"] (defScope s_risen) := scM
theorem sc_fallen : FnScope ["parts", "number"] ["parts"] (defScope s_fallen) := scM
theorem sc_spot_of : FnScope ["text", "number"] ["text"] (defScope s_spot_of) := scM
theorem sc_bare_row : FnScope ["row"] ["row"] (defScope s_bare_row) := scM
theorem sc_words_of : FnScope ["row"] ["row"] (defScope s_words_of) := scM
theorem sc_part_end : FnScope ["text", "at", "inside"] ["text", "at"] (defScope s_part_end) := scM
theorem sc_cell_of : FnScope ["text", "parts", "spots"] ["text"] (defScope s_cell_of) := scM
theorem sc_part_of : FnScope ["text", "number"] ["text"] (defScope s_part_of) := scM
theorem sc_parts_of : FnScope ["text", "parts", "at", "end", "part"] ["text"] (defScope s_parts_of) := scM
theorem sc_join_waiting : FnScope ["terms", "signs", "least", "right", "left"] ["terms", "signs", "least"] (defScope s_join_waiting) := scM
theorem sc_term_of : FnScope ["parts", "terms", "signs", "due", "part"] ["parts"] (defScope s_term_of) := scM
theorem sc_Draft_init : FnScope ["self"] ["self"] (defScope s_Draft_init) := scM
theorem sc_spots_known : FnScope ["draft", "spots"] ["draft", "spots"] (defScope s_spots_known) := scM
theorem sc_names_known : FnScope ["draft", "parts", "part"] ["draft", "parts"] (defScope s_names_known) := scM
theorem sc_tables_kept : FnScope ["draft", "parts", "part", "many"] ["draft", "parts"] (defScope s_tables_kept) := scM
theorem sc_deed_taken : FnScope ["draft", "row", "halves", "cell", "parts", "term"] ["draft", "row"] (defScope s_deed_taken) := scM
theorem sc_size_taken : FnScope ["draft", "words", "size"] ["draft", "words"] (defScope s_size_taken) := scM
theorem sc_loop_taken : FnScope ["draft", "words", "low", "high"] ["draft", "words"] (defScope s_loop_taken) := scM
theorem sc_end_taken : FnScope ["draft", "words"] ["draft", "words"] (defScope s_end_taken) := scM
theorem sc_taken : FnScope ["draft", "row", "words"] ["draft", "row"] (defScope s_taken) := scM
theorem sc_read : FnScope ["text", "rows", "draft", "line", "row", "bare"] ["text"] (defScope s_read) := scM
theorem sc_l_cell_at : FnScope ["_law_script", "_law_k"] ["_law_script", "_law_k"] (defScope s_l_cell_at) := scM
theorem sc_l_whole : FnScope ["_law_found"] ["_law_found"] (defScope s_l_whole) := scM
theorem sc_l_stream : FnScope ["_law_cell_here", "_law_many", "_law_found", "_law_number_here", "_law_k"] ["_law_cell_here", "_law_many"] (defScope s_l_stream) := scM
theorem sc_l_names : FnScope ["_law_cell_here", "_law_many", "_law_letters", "_law_xs", "_law_word", "_law_long", "_law_at", "_law_found", "_law_k", "_law_sign", "_law_name"] ["_law_cell_here", "_law_many"] (defScope s_l_names) := scM
theorem sc_l_number : FnScope ["_law_cell_here", "_law_far"] ["_law_cell_here", "_law_far"] (defScope s_l_number) := scM
theorem sc_l_spot_text : FnScope ["_law_spot_here"] ["_law_spot_here"] (defScope s_l_spot_text) := scM
theorem sc_l_spot : FnScope ["_law_one", "_law_other", "_law_known", "_law_n"] ["_law_one", "_law_other", "_law_known"] (defScope s_l_spot) := scM
theorem sc_l_cell : FnScope ["_law_xs", "_law_known", "_law_names_here", "_law_many", "_law_table", "_law_spots_here"] ["_law_xs", "_law_known", "_law_names_here"] (defScope s_l_cell) := scM
theorem sc_l_leaf : FnScope ["_law_cell_here", "_law_known", "_law_names_here", "_law_xs", "_law_n", "_law_name", "_law_one"] ["_law_cell_here", "_law_known", "_law_names_here"] (defScope s_l_leaf) := scM
theorem sc_l_spots : FnScope ["_law_found", "_law_due", "_law_spot_here"] ["_law_found", "_law_due"] (defScope s_l_spots) := scM
theorem sc_l_same : FnScope ["_law_term", "_law_shape"] ["_law_term", "_law_shape"] (defScope s_l_same) := scM
theorem sc_l_round : FnScope ["_law_one", "_law_need", "_law_more"] ["_law_one", "_law_need", "_law_more"] (defScope s_l_round) := scM
theorem sc_l_both : FnScope ["_law_sign", "_law_left", "_law_right", "_law_cell_here", "_law_hold", "_law_one", "_law_other"] ["_law_sign", "_law_left", "_law_right", "_law_cell_here"] (defScope s_l_both) := scM
theorem sc_l_deep : FnScope ["_law_cell_here", "_law_known", "_law_names_here", "_law_text", "_law_hold", "_law_shape"] ["_law_cell_here", "_law_known", "_law_names_here"] (defScope s_l_deep) := scM
theorem sc_l_tree : FnScope ["_law_cells", "_law_seed", "_law_names_here", "_law_known", "_law_stack", "_law_cell_here", "_law_right", "_law_left"] ["_law_cells", "_law_seed", "_law_names_here"] (defScope s_l_tree) := scM
theorem sc_l_blank : FnScope ["_law_text", "_law_first", "_law_cell_here", "_law_at"] ["_law_text", "_law_first", "_law_cell_here"] (defScope s_l_blank) := scM
theorem sc_law : FnScope ["_law_script", "_law_names_here", "_law_tree_here", "_law_table", "_law_spots_here", "_law_text", "_law_row", "_law_rows", "_law_found"] ["_law_script"] (defScope s_law) := scM
theorem c_made_of_0 : compB (mkSc [(".0", .local), ("sign", .local), ("signs", .free)]) (defScope s_made_of)  ["text", "signs"] ["sign", "signs"] [none, some 1] = true := by decide +kernel
theorem c_made_of_0n : (["sign", "signs"] : List Str).Nodup := by decide +kernel
theorem c_words_of_0 : compB (mkSc [(".0", .local), ("word", .local)]) (defScope s_words_of)  ["row"] ["word"] [none] = true := by decide +kernel
theorem c_words_of_0n : (["word"] : List Str).Nodup := by decide +kernel
theorem c_cell_of_0 : compB (mkSc [(".0", .local), ("inner", .local), ("spot_of", .globalImplicit)]) (defScope s_cell_of)  ["text", "parts", "spots"] ["inner"] [none] = true := by decide +kernel
theorem c_cell_of_0n : (["inner"] : List Str).Nodup := by decide +kernel
theorem c_cell_of_1 : compB (mkSc [(".0", .local), ("spot", .local)]) (defScope s_cell_of)  ["text", "parts", "spots"] ["spot"] [none] = true := by decide +kernel
theorem c_cell_of_1n : (["spot"] : List Str).Nodup := by decide +kernel
theorem c_spots_known_0 : compB (mkSc [(".0", .local), ("spot", .local), ("draft", .free)]) (defScope s_spots_known)  ["draft", "spots"] ["spot", "draft"] [none, some 0] = true := by decide +kernel
theorem c_spots_known_0n : (["spot", "draft"] : List Str).Nodup := by decide +kernel
theorem c_l_names_0 : compB (mkSc [(".0", .local), ("_law_x", .local), ("_law_letters", .free)]) (defScope s_l_names)  ["_law_cell_here", "_law_many", "_law_letters", "_law_xs", "_law_word", "_law_long", "_law_at", "_law_found", "_law_k", "_law_sign", "_law_name"] ["_law_x", "_law_letters"] [none, some 2] = true := by decide +kernel
theorem c_l_names_0n : (["_law_x", "_law_letters"] : List Str).Nodup := by decide +kernel
theorem c_l_cell_0 : compB (mkSc [(".0", .local), ("_law_k", .local), ("_law_spot", .globalImplicit), ("_law_known", .free), ("_law_xs", .free)]) (defScope s_l_cell)  ["_law_xs", "_law_known", "_law_names_here", "_law_many", "_law_table", "_law_spots_here"] ["_law_k", "_law_known", "_law_xs"] [none, some 1, some 0] = true := by decide +kernel
theorem c_l_cell_0n : (["_law_k", "_law_known", "_law_xs"] : List Str).Nodup := by decide +kernel
theorem c_l_cell_1 : compB (mkSc [(".0", .local), ("_law_spot_here", .local), ("_law_spot_text", .globalImplicit)]) (defScope s_l_cell)  ["_law_xs", "_law_known", "_law_names_here", "_law_many", "_law_table", "_law_spots_here"] ["_law_spot_here"] [none] = true := by decide +kernel
theorem c_l_cell_1n : (["_law_spot_here"] : List Str).Nodup := by decide +kernel
theorem c_law_0 : compB (mkSc [(".0", .local), ("_law_name", .local)]) (defScope s_law)  ["_law_script", "_law_names_here", "_law_tree_here", "_law_table", "_law_spots_here", "_law_text", "_law_row", "_law_rows", "_law_found"] ["_law_name"] [none] = true := by decide +kernel
theorem c_law_0n : (["_law_name"] : List Str).Nodup := by decide +kernel
structure DnA (K : PySem.W.Frag) (x : Str) (st : Stmt) (f : Addr) (d : FuncData) : Prop where
  a : PySem.W.nsIn K mainGlobals x = some (some (.ref f))
  F : Fun K x x st f d
structure DcA (K : PySem.W.Frag) (C : Addr) (x q : Str) (st : Stmt) (f : Addr) (d : FuncData) : Prop where
  a : PySem.W.findIn K (.ref C) x = some (some (.ref f))
  i : PySem.W.isFn K (.ref f) = true
  F : Fun K x q st f d
structure ClA (K : PySem.W.Frag) (C : Addr) (x : Str) : Prop where
  a : PySem.W.nsIn K mainGlobals x = some (some (.ref C))
  pg : PySem.W.plainGet K C Str.empty = true
  hd : PySem.W.hasDictIn K C = true
  po : PySem.W.plainOver K C = true
  sa : PySem.W.findIn K (.ref C) "__setattr__" = some (some (.builtin "object.__setattr__"))
  mi : PySem.W.makesIn K C = true
  kc : PySem.W.keepIn K (.ref C) = true
noncomputable abbrev BdA (x q : Str) (st : Stmt) (ps : List Str) : Prop := ∀ (kV doc pm : Value) (an : Option Addr) (cdv ct : Value) (us : List Value), us.length = ps.length → bindArgs (PySem.W.fnOf x q (defArgs st) (defBody st) (defScope st) .none kV doc pm an cdv ct) ⟨us, []⟩ = pure (ps.zip us)
structure Ad where
  f_Number_init : Addr
  d_Number_init : FuncData
  f_Value_init : Addr
  d_Value_init : FuncData
  f_Cell_init : Addr
  d_Cell_init : FuncData
  f_Joined_init : Addr
  d_Joined_init : FuncData
  f_Deed_init : Addr
  d_Deed_init : FuncData
  f_Program_init : Addr
  d_Program_init : FuncData
  f_made_of : Addr
  d_made_of : FuncData
  f_number_of : Addr
  d_number_of : FuncData
  f_is_name : Addr
  d_is_name : FuncData
  f_risen : Addr
  d_risen : FuncData
  f_fallen : Addr
  d_fallen : FuncData
  f_spot_of : Addr
  d_spot_of : FuncData
  f_bare_row : Addr
  d_bare_row : FuncData
  f_words_of : Addr
  d_words_of : FuncData
  f_part_end : Addr
  d_part_end : FuncData
  f_cell_of : Addr
  d_cell_of : FuncData
  f_part_of : Addr
  d_part_of : FuncData
  f_parts_of : Addr
  d_parts_of : FuncData
  f_join_waiting : Addr
  d_join_waiting : FuncData
  f_term_of : Addr
  d_term_of : FuncData
  f_Draft_init : Addr
  d_Draft_init : FuncData
  f_spots_known : Addr
  d_spots_known : FuncData
  f_names_known : Addr
  d_names_known : FuncData
  f_tables_kept : Addr
  d_tables_kept : FuncData
  f_deed_taken : Addr
  d_deed_taken : FuncData
  f_size_taken : Addr
  d_size_taken : FuncData
  f_loop_taken : Addr
  d_loop_taken : FuncData
  f_end_taken : Addr
  d_end_taken : FuncData
  f_taken : Addr
  d_taken : FuncData
  f_read : Addr
  d_read : FuncData
  f_l_cell_at : Addr
  d_l_cell_at : FuncData
  f_l_whole : Addr
  d_l_whole : FuncData
  f_l_stream : Addr
  d_l_stream : FuncData
  f_l_names : Addr
  d_l_names : FuncData
  f_l_number : Addr
  d_l_number : FuncData
  f_l_spot_text : Addr
  d_l_spot_text : FuncData
  f_l_spot : Addr
  d_l_spot : FuncData
  f_l_cell : Addr
  d_l_cell : FuncData
  f_l_leaf : Addr
  d_l_leaf : FuncData
  f_l_spots : Addr
  d_l_spots : FuncData
  f_l_same : Addr
  d_l_same : FuncData
  f_l_round : Addr
  d_l_round : FuncData
  f_l_both : Addr
  d_l_both : FuncData
  f_l_deep : Addr
  d_l_deep : FuncData
  f_l_tree : Addr
  d_l_tree : FuncData
  f_l_blank : Addr
  d_l_blank : FuncData
  f_law : Addr
  d_law : FuncData
  c_Term : Addr
  c_Number : Addr
  c_Value : Addr
  c_Cell : Addr
  c_Joined : Addr
  c_Deed : Addr
  c_Program : Addr
  c_Draft : Addr
  u_FIGURES : Value
  u_LEAST_SIZE : Value
  u_LETTERS : Value
  u_MOST_DEEDS : Value
  u_MOST_FIGURES : Value
  u_MOST_LETTERS : Value
  u_MOST_LOOPS : Value
  u_MOST_SPOTS : Value
  u_ROW_WORDS : Addr
  u_SIGNS : Value
  u_STRENGTHS : Addr
structure Tx (w : World) (K : PySem.W.Frag) (mg : Str → Option Value) (a : Ad) : Prop where
  F_Number_init : Fun K "__init__" "Number.__init__" s_Number_init a.f_Number_init a.d_Number_init
  b_Number_init : Binds K a.d_Number_init ["self", "n"] []
  F_Value_init : Fun K "__init__" "Value.__init__" s_Value_init a.f_Value_init a.d_Value_init
  b_Value_init : Binds K a.d_Value_init ["self", "name"] []
  F_Cell_init : Fun K "__init__" "Cell.__init__" s_Cell_init a.f_Cell_init a.d_Cell_init
  b_Cell_init : Binds K a.d_Cell_init ["self", "table", "spots"] []
  F_Joined_init : Fun K "__init__" "Joined.__init__" s_Joined_init a.f_Joined_init a.d_Joined_init
  b_Joined_init : Binds K a.d_Joined_init ["self", "sign", "left", "right"] []
  F_Deed_init : Fun K "__init__" "Deed.__init__" s_Deed_init a.f_Deed_init a.d_Deed_init
  b_Deed_init : Binds K a.d_Deed_init ["self", "names", "lows", "highs", "table", "spots", "term", "path"] []
  F_Program_init : Fun K "__init__" "Program.__init__" s_Program_init a.f_Program_init a.d_Program_init
  b_Program_init : Binds K a.d_Program_init ["self", "size", "deeds"] []
  F_made_of : Fun K "made_of" "made_of" s_made_of a.f_made_of a.d_made_of
  b_made_of : Binds K a.d_made_of ["text", "signs"] []
  m_made_of : mg "made_of" = some (.ref a.f_made_of)
  F_number_of : Fun K "number_of" "number_of" s_number_of a.f_number_of a.d_number_of
  b_number_of : Binds K a.d_number_of ["text"] []
  m_number_of : mg "number_of" = some (.ref a.f_number_of)
  F_is_name : Fun K "is_name" "is_name" s_is_name a.f_is_name a.d_is_name
  b_is_name : Binds K a.d_is_name ["text"] []
  m_is_name : mg "is_name" = some (.ref a.f_is_name)
  F_risen : Fun K "risen" "risen" s_risen a.f_risen a.d_risen
  b_risen : Binds K a.d_risen ["parts"] []
  m_risen : mg "risen" = some (.ref a.f_risen)
  F_fallen : Fun K "fallen" "fallen" s_fallen a.f_fallen a.d_fallen
  b_fallen : Binds K a.d_fallen ["parts"] []
  m_fallen : mg "fallen" = some (.ref a.f_fallen)
  F_spot_of : Fun K "spot_of" "spot_of" s_spot_of a.f_spot_of a.d_spot_of
  b_spot_of : Binds K a.d_spot_of ["text"] []
  m_spot_of : mg "spot_of" = some (.ref a.f_spot_of)
  F_bare_row : Fun K "bare_row" "bare_row" s_bare_row a.f_bare_row a.d_bare_row
  b_bare_row : Binds K a.d_bare_row ["row"] []
  m_bare_row : mg "bare_row" = some (.ref a.f_bare_row)
  F_words_of : Fun K "words_of" "words_of" s_words_of a.f_words_of a.d_words_of
  b_words_of : Binds K a.d_words_of ["row"] []
  m_words_of : mg "words_of" = some (.ref a.f_words_of)
  F_part_end : Fun K "part_end" "part_end" s_part_end a.f_part_end a.d_part_end
  b_part_end : Binds K a.d_part_end ["text", "at"] []
  m_part_end : mg "part_end" = some (.ref a.f_part_end)
  F_cell_of : Fun K "cell_of" "cell_of" s_cell_of a.f_cell_of a.d_cell_of
  b_cell_of : Binds K a.d_cell_of ["text"] []
  m_cell_of : mg "cell_of" = some (.ref a.f_cell_of)
  F_part_of : Fun K "part_of" "part_of" s_part_of a.f_part_of a.d_part_of
  b_part_of : Binds K a.d_part_of ["text"] []
  m_part_of : mg "part_of" = some (.ref a.f_part_of)
  F_parts_of : Fun K "parts_of" "parts_of" s_parts_of a.f_parts_of a.d_parts_of
  b_parts_of : Binds K a.d_parts_of ["text"] []
  m_parts_of : mg "parts_of" = some (.ref a.f_parts_of)
  F_join_waiting : Fun K "join_waiting" "join_waiting" s_join_waiting a.f_join_waiting a.d_join_waiting
  b_join_waiting : Binds K a.d_join_waiting ["terms", "signs", "least"] []
  m_join_waiting : mg "join_waiting" = some (.ref a.f_join_waiting)
  F_term_of : Fun K "term_of" "term_of" s_term_of a.f_term_of a.d_term_of
  b_term_of : Binds K a.d_term_of ["parts"] []
  m_term_of : mg "term_of" = some (.ref a.f_term_of)
  F_Draft_init : Fun K "__init__" "Draft.__init__" s_Draft_init a.f_Draft_init a.d_Draft_init
  b_Draft_init : Binds K a.d_Draft_init ["self"] []
  F_spots_known : Fun K "spots_known" "spots_known" s_spots_known a.f_spots_known a.d_spots_known
  b_spots_known : Binds K a.d_spots_known ["draft", "spots"] []
  m_spots_known : mg "spots_known" = some (.ref a.f_spots_known)
  F_names_known : Fun K "names_known" "names_known" s_names_known a.f_names_known a.d_names_known
  b_names_known : Binds K a.d_names_known ["draft", "parts"] []
  m_names_known : mg "names_known" = some (.ref a.f_names_known)
  F_tables_kept : Fun K "tables_kept" "tables_kept" s_tables_kept a.f_tables_kept a.d_tables_kept
  b_tables_kept : Binds K a.d_tables_kept ["draft", "parts"] []
  m_tables_kept : mg "tables_kept" = some (.ref a.f_tables_kept)
  F_deed_taken : Fun K "deed_taken" "deed_taken" s_deed_taken a.f_deed_taken a.d_deed_taken
  b_deed_taken : Binds K a.d_deed_taken ["draft", "row"] []
  m_deed_taken : mg "deed_taken" = some (.ref a.f_deed_taken)
  F_size_taken : Fun K "size_taken" "size_taken" s_size_taken a.f_size_taken a.d_size_taken
  b_size_taken : Binds K a.d_size_taken ["draft", "words"] []
  m_size_taken : mg "size_taken" = some (.ref a.f_size_taken)
  F_loop_taken : Fun K "loop_taken" "loop_taken" s_loop_taken a.f_loop_taken a.d_loop_taken
  b_loop_taken : Binds K a.d_loop_taken ["draft", "words"] []
  m_loop_taken : mg "loop_taken" = some (.ref a.f_loop_taken)
  F_end_taken : Fun K "end_taken" "end_taken" s_end_taken a.f_end_taken a.d_end_taken
  b_end_taken : Binds K a.d_end_taken ["draft", "words"] []
  m_end_taken : mg "end_taken" = some (.ref a.f_end_taken)
  F_taken : Fun K "taken" "taken" s_taken a.f_taken a.d_taken
  b_taken : Binds K a.d_taken ["draft", "row"] []
  m_taken : mg "taken" = some (.ref a.f_taken)
  F_read : Fun K "read" "read" s_read a.f_read a.d_read
  b_read : Binds K a.d_read ["text"] []
  m_read : mg "read" = some (.ref a.f_read)
  F_l_cell_at : Fun K "_law_cell_at" "_law_cell_at" s_l_cell_at a.f_l_cell_at a.d_l_cell_at
  b_l_cell_at : Binds K a.d_l_cell_at ["_law_script", "_law_k"] []
  m_l_cell_at : mg "_law_cell_at" = some (.ref a.f_l_cell_at)
  F_l_whole : Fun K "_law_whole" "_law_whole" s_l_whole a.f_l_whole a.d_l_whole
  b_l_whole : Binds K a.d_l_whole ["_law_found"] []
  m_l_whole : mg "_law_whole" = some (.ref a.f_l_whole)
  F_l_stream : Fun K "_law_stream" "_law_stream" s_l_stream a.f_l_stream a.d_l_stream
  b_l_stream : Binds K a.d_l_stream ["_law_cell_here", "_law_many"] []
  m_l_stream : mg "_law_stream" = some (.ref a.f_l_stream)
  F_l_names : Fun K "_law_names" "_law_names" s_l_names a.f_l_names a.d_l_names
  b_l_names : Binds K a.d_l_names ["_law_cell_here", "_law_many"] []
  m_l_names : mg "_law_names" = some (.ref a.f_l_names)
  F_l_number : Fun K "_law_number" "_law_number" s_l_number a.f_l_number a.d_l_number
  b_l_number : Binds K a.d_l_number ["_law_cell_here", "_law_far"] []
  m_l_number : mg "_law_number" = some (.ref a.f_l_number)
  F_l_spot_text : Fun K "_law_spot_text" "_law_spot_text" s_l_spot_text a.f_l_spot_text a.d_l_spot_text
  b_l_spot_text : Binds K a.d_l_spot_text ["_law_spot_here"] []
  m_l_spot_text : mg "_law_spot_text" = some (.ref a.f_l_spot_text)
  F_l_spot : Fun K "_law_spot" "_law_spot" s_l_spot a.f_l_spot a.d_l_spot
  b_l_spot : Binds K a.d_l_spot ["_law_one", "_law_other", "_law_known"] []
  m_l_spot : mg "_law_spot" = some (.ref a.f_l_spot)
  F_l_cell : Fun K "_law_cell" "_law_cell" s_l_cell a.f_l_cell a.d_l_cell
  b_l_cell : Binds K a.d_l_cell ["_law_xs", "_law_known", "_law_names_here"] []
  m_l_cell : mg "_law_cell" = some (.ref a.f_l_cell)
  F_l_leaf : Fun K "_law_leaf" "_law_leaf" s_l_leaf a.f_l_leaf a.d_l_leaf
  b_l_leaf : Binds K a.d_l_leaf ["_law_cell_here", "_law_known", "_law_names_here"] []
  m_l_leaf : mg "_law_leaf" = some (.ref a.f_l_leaf)
  F_l_spots : Fun K "_law_spots" "_law_spots" s_l_spots a.f_l_spots a.d_l_spots
  b_l_spots : Binds K a.d_l_spots ["_law_found", "_law_due"] []
  m_l_spots : mg "_law_spots" = some (.ref a.f_l_spots)
  F_l_same : Fun K "_law_same" "_law_same" s_l_same a.f_l_same a.d_l_same
  b_l_same : Binds K a.d_l_same ["_law_term", "_law_shape"] []
  m_l_same : mg "_law_same" = some (.ref a.f_l_same)
  F_l_round : Fun K "_law_round" "_law_round" s_l_round a.f_l_round a.d_l_round
  b_l_round : Binds K a.d_l_round ["_law_one", "_law_need", "_law_more"] []
  m_l_round : mg "_law_round" = some (.ref a.f_l_round)
  F_l_both : Fun K "_law_both" "_law_both" s_l_both a.f_l_both a.d_l_both
  b_l_both : Binds K a.d_l_both ["_law_sign", "_law_left", "_law_right", "_law_cell_here"] []
  m_l_both : mg "_law_both" = some (.ref a.f_l_both)
  F_l_deep : Fun K "_law_deep" "_law_deep" s_l_deep a.f_l_deep a.d_l_deep
  b_l_deep : Binds K a.d_l_deep ["_law_cell_here", "_law_known", "_law_names_here"] []
  m_l_deep : mg "_law_deep" = some (.ref a.f_l_deep)
  F_l_tree : Fun K "_law_tree" "_law_tree" s_l_tree a.f_l_tree a.d_l_tree
  b_l_tree : Binds K a.d_l_tree ["_law_cells", "_law_seed", "_law_names_here"] []
  m_l_tree : mg "_law_tree" = some (.ref a.f_l_tree)
  F_l_blank : Fun K "_law_blank" "_law_blank" s_l_blank a.f_l_blank a.d_l_blank
  b_l_blank : Binds K a.d_l_blank ["_law_text", "_law_first", "_law_cell_here"] []
  m_l_blank : mg "_law_blank" = some (.ref a.f_l_blank)
  F_law : Fun K "law" "law" s_law a.f_law a.d_law
  b_law : Binds K a.d_law ["_law_script"] []
  m_law : mg "law" = some (.ref a.f_law)
  cl_Term : Cls K a.c_Term
  mc_Term : mg "Term" = some (.ref a.c_Term)
  cl_Number : Cls K a.c_Number
  mc_Number : mg "Number" = some (.ref a.c_Number)
  mk_Number : Mk K a.c_Number a.f_Number_init
  n_Number_n : NoAttr K a.c_Number "n"
  cl_Value : Cls K a.c_Value
  mc_Value : mg "Value" = some (.ref a.c_Value)
  mk_Value : Mk K a.c_Value a.f_Value_init
  n_Value_name : NoAttr K a.c_Value "name"
  cl_Cell : Cls K a.c_Cell
  mc_Cell : mg "Cell" = some (.ref a.c_Cell)
  mk_Cell : Mk K a.c_Cell a.f_Cell_init
  n_Cell_table : NoAttr K a.c_Cell "table"
  n_Cell_spots : NoAttr K a.c_Cell "spots"
  cl_Joined : Cls K a.c_Joined
  mc_Joined : mg "Joined" = some (.ref a.c_Joined)
  mk_Joined : Mk K a.c_Joined a.f_Joined_init
  n_Joined_sign : NoAttr K a.c_Joined "sign"
  n_Joined_left : NoAttr K a.c_Joined "left"
  n_Joined_right : NoAttr K a.c_Joined "right"
  cl_Deed : Cls K a.c_Deed
  mc_Deed : mg "Deed" = some (.ref a.c_Deed)
  mk_Deed : Mk K a.c_Deed a.f_Deed_init
  n_Deed_names : NoAttr K a.c_Deed "names"
  n_Deed_lows : NoAttr K a.c_Deed "lows"
  n_Deed_highs : NoAttr K a.c_Deed "highs"
  n_Deed_table : NoAttr K a.c_Deed "table"
  n_Deed_spots : NoAttr K a.c_Deed "spots"
  n_Deed_term : NoAttr K a.c_Deed "term"
  n_Deed_path : NoAttr K a.c_Deed "path"
  cl_Program : Cls K a.c_Program
  mc_Program : mg "Program" = some (.ref a.c_Program)
  mk_Program : Mk K a.c_Program a.f_Program_init
  n_Program_size : NoAttr K a.c_Program "size"
  n_Program_deeds : NoAttr K a.c_Program "deeds"
  cl_Draft : Cls K a.c_Draft
  mc_Draft : mg "Draft" = some (.ref a.c_Draft)
  mk_Draft : Mk K a.c_Draft a.f_Draft_init
  n_Draft_size : NoAttr K a.c_Draft "size"
  n_Draft_deeds : NoAttr K a.c_Draft "deeds"
  n_Draft_tables : NoAttr K a.c_Draft "tables"
  n_Draft_names : NoAttr K a.c_Draft "names"
  n_Draft_lows : NoAttr K a.c_Draft "lows"
  n_Draft_highs : NoAttr K a.c_Draft "highs"
  n_Draft_path : NoAttr K a.c_Draft "path"
  ty_Number : ∀ (H : Hp) (x dx : Addr) (fs : List (Str × V)), H x = some (.ins a.c_Number dx fs) → TyOf K H (.ref x) (.ref a.c_Number)
  is_Number_Term : PySem.W.kitOne K (.ref a.c_Number) (.ref a.c_Term) = some true
  is_Number_Number : PySem.W.kitOne K (.ref a.c_Number) (.ref a.c_Number) = some true
  is_Number_Value : PySem.W.kitOne K (.ref a.c_Number) (.ref a.c_Value) = some false
  is_Number_Cell : PySem.W.kitOne K (.ref a.c_Number) (.ref a.c_Cell) = some false
  is_Number_Joined : PySem.W.kitOne K (.ref a.c_Number) (.ref a.c_Joined) = some false
  is_Number_Deed : PySem.W.kitOne K (.ref a.c_Number) (.ref a.c_Deed) = some false
  is_Number_Program : PySem.W.kitOne K (.ref a.c_Number) (.ref a.c_Program) = some false
  is_Number_Draft : PySem.W.kitOne K (.ref a.c_Number) (.ref a.c_Draft) = some false
  ty_Value : ∀ (H : Hp) (x dx : Addr) (fs : List (Str × V)), H x = some (.ins a.c_Value dx fs) → TyOf K H (.ref x) (.ref a.c_Value)
  is_Value_Term : PySem.W.kitOne K (.ref a.c_Value) (.ref a.c_Term) = some true
  is_Value_Number : PySem.W.kitOne K (.ref a.c_Value) (.ref a.c_Number) = some false
  is_Value_Value : PySem.W.kitOne K (.ref a.c_Value) (.ref a.c_Value) = some true
  is_Value_Cell : PySem.W.kitOne K (.ref a.c_Value) (.ref a.c_Cell) = some false
  is_Value_Joined : PySem.W.kitOne K (.ref a.c_Value) (.ref a.c_Joined) = some false
  is_Value_Deed : PySem.W.kitOne K (.ref a.c_Value) (.ref a.c_Deed) = some false
  is_Value_Program : PySem.W.kitOne K (.ref a.c_Value) (.ref a.c_Program) = some false
  is_Value_Draft : PySem.W.kitOne K (.ref a.c_Value) (.ref a.c_Draft) = some false
  ty_Cell : ∀ (H : Hp) (x dx : Addr) (fs : List (Str × V)), H x = some (.ins a.c_Cell dx fs) → TyOf K H (.ref x) (.ref a.c_Cell)
  is_Cell_Term : PySem.W.kitOne K (.ref a.c_Cell) (.ref a.c_Term) = some true
  is_Cell_Number : PySem.W.kitOne K (.ref a.c_Cell) (.ref a.c_Number) = some false
  is_Cell_Value : PySem.W.kitOne K (.ref a.c_Cell) (.ref a.c_Value) = some false
  is_Cell_Cell : PySem.W.kitOne K (.ref a.c_Cell) (.ref a.c_Cell) = some true
  is_Cell_Joined : PySem.W.kitOne K (.ref a.c_Cell) (.ref a.c_Joined) = some false
  is_Cell_Deed : PySem.W.kitOne K (.ref a.c_Cell) (.ref a.c_Deed) = some false
  is_Cell_Program : PySem.W.kitOne K (.ref a.c_Cell) (.ref a.c_Program) = some false
  is_Cell_Draft : PySem.W.kitOne K (.ref a.c_Cell) (.ref a.c_Draft) = some false
  ty_Joined : ∀ (H : Hp) (x dx : Addr) (fs : List (Str × V)), H x = some (.ins a.c_Joined dx fs) → TyOf K H (.ref x) (.ref a.c_Joined)
  is_Joined_Term : PySem.W.kitOne K (.ref a.c_Joined) (.ref a.c_Term) = some true
  is_Joined_Number : PySem.W.kitOne K (.ref a.c_Joined) (.ref a.c_Number) = some false
  is_Joined_Value : PySem.W.kitOne K (.ref a.c_Joined) (.ref a.c_Value) = some false
  is_Joined_Cell : PySem.W.kitOne K (.ref a.c_Joined) (.ref a.c_Cell) = some false
  is_Joined_Joined : PySem.W.kitOne K (.ref a.c_Joined) (.ref a.c_Joined) = some true
  is_Joined_Deed : PySem.W.kitOne K (.ref a.c_Joined) (.ref a.c_Deed) = some false
  is_Joined_Program : PySem.W.kitOne K (.ref a.c_Joined) (.ref a.c_Program) = some false
  is_Joined_Draft : PySem.W.kitOne K (.ref a.c_Joined) (.ref a.c_Draft) = some false
  is_str_Term : PySem.W.kitOne K (.type "str") (.ref a.c_Term) = some false
  is_str_Number : PySem.W.kitOne K (.type "str") (.ref a.c_Number) = some false
  is_str_Value : PySem.W.kitOne K (.type "str") (.ref a.c_Value) = some false
  is_str_Cell : PySem.W.kitOne K (.type "str") (.ref a.c_Cell) = some false
  is_str_Joined : PySem.W.kitOne K (.type "str") (.ref a.c_Joined) = some false
  is_str_Deed : PySem.W.kitOne K (.type "str") (.ref a.c_Deed) = some false
  is_str_Program : PySem.W.kitOne K (.type "str") (.ref a.c_Program) = some false
  is_str_Draft : PySem.W.kitOne K (.type "str") (.ref a.c_Draft) = some false
  ty_Deed : ∀ (H : Hp) (x dx : Addr) (fs : List (Str × V)), H x = some (.ins a.c_Deed dx fs) → TyOf K H (.ref x) (.ref a.c_Deed)
  is_Deed_Term : PySem.W.kitOne K (.ref a.c_Deed) (.ref a.c_Term) = some false
  is_Deed_Number : PySem.W.kitOne K (.ref a.c_Deed) (.ref a.c_Number) = some false
  is_Deed_Value : PySem.W.kitOne K (.ref a.c_Deed) (.ref a.c_Value) = some false
  is_Deed_Cell : PySem.W.kitOne K (.ref a.c_Deed) (.ref a.c_Cell) = some false
  is_Deed_Joined : PySem.W.kitOne K (.ref a.c_Deed) (.ref a.c_Joined) = some false
  is_Deed_Deed : PySem.W.kitOne K (.ref a.c_Deed) (.ref a.c_Deed) = some true
  is_Deed_Program : PySem.W.kitOne K (.ref a.c_Deed) (.ref a.c_Program) = some false
  is_Deed_Draft : PySem.W.kitOne K (.ref a.c_Deed) (.ref a.c_Draft) = some false
  ty_Program : ∀ (H : Hp) (x dx : Addr) (fs : List (Str × V)), H x = some (.ins a.c_Program dx fs) → TyOf K H (.ref x) (.ref a.c_Program)
  is_Program_Term : PySem.W.kitOne K (.ref a.c_Program) (.ref a.c_Term) = some false
  is_Program_Number : PySem.W.kitOne K (.ref a.c_Program) (.ref a.c_Number) = some false
  is_Program_Value : PySem.W.kitOne K (.ref a.c_Program) (.ref a.c_Value) = some false
  is_Program_Cell : PySem.W.kitOne K (.ref a.c_Program) (.ref a.c_Cell) = some false
  is_Program_Joined : PySem.W.kitOne K (.ref a.c_Program) (.ref a.c_Joined) = some false
  is_Program_Deed : PySem.W.kitOne K (.ref a.c_Program) (.ref a.c_Deed) = some false
  is_Program_Program : PySem.W.kitOne K (.ref a.c_Program) (.ref a.c_Program) = some true
  is_Program_Draft : PySem.W.kitOne K (.ref a.c_Program) (.ref a.c_Draft) = some false
  ty_Draft : ∀ (H : Hp) (x dx : Addr) (fs : List (Str × V)), H x = some (.ins a.c_Draft dx fs) → TyOf K H (.ref x) (.ref a.c_Draft)
  is_Draft_Term : PySem.W.kitOne K (.ref a.c_Draft) (.ref a.c_Term) = some false
  is_Draft_Number : PySem.W.kitOne K (.ref a.c_Draft) (.ref a.c_Number) = some false
  is_Draft_Value : PySem.W.kitOne K (.ref a.c_Draft) (.ref a.c_Value) = some false
  is_Draft_Cell : PySem.W.kitOne K (.ref a.c_Draft) (.ref a.c_Cell) = some false
  is_Draft_Joined : PySem.W.kitOne K (.ref a.c_Draft) (.ref a.c_Joined) = some false
  is_Draft_Deed : PySem.W.kitOne K (.ref a.c_Draft) (.ref a.c_Deed) = some false
  is_Draft_Program : PySem.W.kitOne K (.ref a.c_Draft) (.ref a.c_Program) = some false
  is_Draft_Draft : PySem.W.kitOne K (.ref a.c_Draft) (.ref a.c_Draft) = some true
  z_abs : mg "abs" = none
  z_all : mg "all" = none
  z_bool : mg "bool" = none
  z_enumerate : mg "enumerate" = none
  z_int : mg "int" = none
  z_isinstance : mg "isinstance" = none
  z_len : mg "len" = none
  z_list : mg "list" = none
  z_max : mg "max" = none
  z_range : mg "range" = none
  z_str : mg "str" = none
  z_tuple : mg "tuple" = none
  g_FIGURES : mg "FIGURES" = some a.u_FIGURES
  r_FIGURES : RelV (.str "0123456789") a.u_FIGURES
  g_LEAST_SIZE : mg "LEAST_SIZE" = some a.u_LEAST_SIZE
  r_LEAST_SIZE : RelV (.int 2) a.u_LEAST_SIZE
  g_LETTERS : mg "LETTERS" = some a.u_LETTERS
  r_LETTERS : RelV (.str "abcdefghijklmnopqrstuvwxyz") a.u_LETTERS
  g_MOST_DEEDS : mg "MOST_DEEDS" = some a.u_MOST_DEEDS
  r_MOST_DEEDS : RelV (.int 6) a.u_MOST_DEEDS
  g_MOST_FIGURES : mg "MOST_FIGURES" = some a.u_MOST_FIGURES
  r_MOST_FIGURES : RelV (.int 18) a.u_MOST_FIGURES
  g_MOST_LETTERS : mg "MOST_LETTERS" = some a.u_MOST_LETTERS
  r_MOST_LETTERS : RelV (.int 8) a.u_MOST_LETTERS
  g_MOST_LOOPS : mg "MOST_LOOPS" = some a.u_MOST_LOOPS
  r_MOST_LOOPS : RelV (.int 3) a.u_MOST_LOOPS
  g_MOST_SPOTS : mg "MOST_SPOTS" = some a.u_MOST_SPOTS
  r_MOST_SPOTS : RelV (.int 3) a.u_MOST_SPOTS
  g_ROW_WORDS : mg "ROW_WORDS" = some (.ref a.u_ROW_WORDS)
  r_ROW_WORDS : RelV (.ref a.u_ROW_WORDS) (.ref a.u_ROW_WORDS)
  q_ROW_WORDS : ∀ H : Hp, SqT K H a.u_ROW_WORDS [.str "for", .str "end", .str "size"]
  g_SIGNS : mg "SIGNS" = some a.u_SIGNS
  r_SIGNS : RelV (.str "+-*()") a.u_SIGNS
  g_STRENGTHS : mg "STRENGTHS" = some (.ref a.u_STRENGTHS)
  r_STRENGTHS : RelV (.ref a.u_STRENGTHS) (.ref a.u_STRENGTHS)
  d_STRENGTHS : ∀ P : Program, KDict P w K a.u_STRENGTHS [(.inr "(", .int 0), (.inr "+", .int 1), (.inr "-", .int 1), (.inr "*", .int 2)]
noncomputable def csOf (a : Ad) : Cs := ⟨a.c_Number, a.c_Value, a.c_Cell, a.c_Joined⟩
section
variable {P : Program} {w : World} {K : PySem.W.Frag} {mg : Str → Option Value} {base : Heap} {a : Ad}
theorem ok_made_of (T : Tx w K mg a) : FnOk P w K mg base CX0 1 a.f_made_of a.d_made_of ["text", "signs"] spMade := by
  refine T.F_made_of.ok sc_made_of (fun vs H Q E h => ?_) (fun cdv A outer s H vs Q E hr h => ?_)
  · obtain ⟨_, _, rfl, _⟩ := h; rfl
  obtain ⟨z, y, rfl, hz, q⟩ := h
  refine ⟨_, (@pss_one _ _ _ (@ps_ret _ _ _ _ (@pe_callB _ _ _ _ _ _ _ _ _ (@call_allB _ rfl) (by rfl) T.z_all bt_all (@pa_cons _ _ _ _ _ (@pe_compB _ _ _ _ _ _ _ ["sign", "signs"] [none, some 1] _ _ _ _ (by rfl) (@pi_str _ _ _ _ (pv 0)) c_made_of_0 (fun _ _ _ _ _ _ => ⟨(pg_name (i := 0) c_made_of_0n rfl (Or.inl rfl)), @pts_nil _, (@pe_cmpR _ _ _ _ _ _ _ _ op_in_str (pv 0) (pv 1) (by with_unfolding_all rfl))⟩) (by intro _ ; rfl)) pa_nil (by rfl)) (by decide) (by decide) (by rfl) (by rfl)))), ?_⟩
  refine ⟨_, rfl, z, rfl, ?_⟩
  refine comp_str (z := z) (fun i ys H' => H' = H ∧ ys = ((cds z).take i).map fun c => V.bl (decide (c ∈ cds y))) ⟨rfl, rfl⟩ (szl (by have := cds_len z; omega)) (fun i ys H' hi p => ?_) (fun i c ys H' hc p => ?_) (fun ys H' p r hr' => ?_)
  · obtain ⟨_, rfl⟩ := p
    rw [List.length_map, List.length_take]; omega
  · obtain ⟨rfl, rfl⟩ := p
    refine ⟨_, rfl, _, rfl, _, _, rfl, rfl, rfl, ?_⟩
    rw [take_snoc hc, List.map_append, in_one]
    rfl
  · obtain ⟨rfl, rfl⟩ := p
    rw [List.take_length]
    refine ⟨r, (cds z).map fun c => decide (c ∈ cds y), rfl, SqL.of ?_, ?_⟩
    · rw [upd_same, List.map_map]; rfl
    · have e : (((cds z).map fun c => decide (c ∈ cds y)).all id) = decide (∀ c ∈ cds z, c ∈ cds y) := by
        rw [Bool.eq_iff_iff]
        simp only [List.all_map, List.all_eq_true, Function.comp, id, decide_eq_true_eq]
      rw [e]
      exact q _ (same_new hr' _)

theorem ok_number_of (T : Tx w K mg a) : FnOk P w K mg base CX0 2 a.f_number_of a.d_number_of ["text"] spNum := by
  have G_made_of := ok_made_of (P := P) (w := w) (base := base) T
  refine T.F_number_of.ok sc_number_of (fun vs H Q E h => ?_) (fun cdv A outer s H vs Q E hr h => ?_)
  · obtain ⟨_, rfl, _⟩ := h; rfl
  obtain ⟨z, rfl, hz, q⟩ := h
  refine ⟨_, (@pss_cons _ _ _ _ _ (@ps_if _ _ _ _ _ _ _ _ ((@pw_or _ _ _ _ _ _ _ (@pt_cmpR _ _ _ _ _ _ _ _ op_eq (pv 0) pe_str (@nomark _ _ (by decide) (by decide))) (@pw_or _ _ _ _ _ _ _ (@pt_cmpR _ _ _ _ _ _ _ _ op_gt (@pe_callB _ _ _ _ _ _ _ _ _ call_len_str (by rfl) T.z_len bt_len (@pa_cons _ _ _ _ _ (pv 0) pa_nil (by rfl)) (by decide) (by decide) (by rfl) (by rfl)) (@pe_glob _ _ _ _ _ (by rfl) T.g_MOST_FIGURES T.r_MOST_FIGURES (by decide)) (@nomark _ _ (by decide) (by decide))) (@pw_or1 _ _ _ _ (@pt_not _ _ _ _ (@pt_val _ _ _ (@pe_call _ _ _ _ _ _ _ _ _ _ _ _ _ _ _ _ G_made_of (hr.mono (by omega)) (by rfl) T.m_made_of T.F_made_of.kp T.b_made_of .nil pass0 (@pa_cons _ _ _ _ _ (pv 0) (@pa_cons _ _ _ _ _ (@pe_glob _ _ _ _ _ (by rfl) T.g_FIGURES T.r_FIGURES (by decide)) pa_nil (by rfl)) (by rfl)) (by decide) (by rfl) (by rfl)) (by intro _ ; rfl))))))).pt (@pss_one _ _ _ (@ps_ret _ _ _ _ pe_non)) pss_nil) (@pss_cons _ _ _ _ _ (@ps_if _ _ _ _ _ _ _ _ ((@pw_and _ _ _ _ _ _ _ (@pt_cmpR _ _ _ _ _ _ _ _ op_eq (@pe_ix _ _ _ _ _ _ _ ix_str (pv 0) pe_int (fun _ _ => rfl)) pe_str (@nomark _ _ (by decide) (by decide))) (@pw_and1 _ _ _ _ (@pt_cmpR _ _ _ _ _ _ _ _ op_ne (pv 0) pe_str (@nomark _ _ (by decide) (by decide)))))).pt (@pss_one _ _ _ (@ps_ret _ _ _ _ pe_non)) pss_nil) (@pss_one _ _ _ (@ps_ret _ _ _ _ (@pe_callTy _ _ _ _ _ _ _ _ _ call_int_text (by rfl) T.z_int bt_int (@pa_cons _ _ _ _ _ (pv 0) pa_nil (by rfl)) (by decide) (by decide) (by rfl) (by rfl)))))), ?_⟩
  have qn : ¬ GoodN (cds z) → ∀ H', Same H H' → Q .non H' := fun h H' e => by
    have := q H' e
    unfold numV at this
    rwa [if_neg h] at this
  have hl := cds_len z
  refine ⟨_, rfl, rfl, _, rfl, ?_⟩
  refine ite2 (fun c => ?_) (fun c => ?_)
  · have e : z = "" := V.str.inj (dT c)
    refine iteT ?_
    exact qn (fun g => by have := g.1; rw [cds_empty.mp e] at this; simp at this) H (Same.refl H)
  have c1 : ¬ z = "" := fun e => dF c (by rw [e])
  refine ⟨_, rfl, _, rfl, szl (by omega), _, _, rfl, rfl, _, rfl, ?_⟩
  refine ite2 (fun c2 => ?_) (fun c2 => ?_)
  · have := dT c2
    refine iteT ?_
    exact qn (fun g => by have := g.2.1; omega) H (Same.refl H)
  have c3 := dF c2
  refine ⟨_, rfl, z, _, rfl, hz, fun H1 e1 => ?_⟩
  refine ⟨_, rfl, ?_⟩
  by_cases hm : ∀ c ∈ cds z, c ∈ cds "0123456789"
  case neg =>
    rw [decide_eq_false hm]
    refine iteT ?_
    exact qn (fun g => hm fun c hc => (mem_figs c).mpr (g.2.2.2 c hc)) H1 e1
  rw [decide_eq_true hm]
  refine iteF ?_
  have hd : ∀ c ∈ cds z, 48 ≤ c ∧ c ≤ 57 := fun c hc => (mem_figs c).mp (hm c hc)
  have hne : cds z ≠ [] := fun e => c1 (cds_empty.mpr e)
  obtain ⟨d, r, hdr⟩ : ∃ d r, cds z = d :: r := by
    cases e : cds z with
    | nil => exact absurd e hne
    | cons d r => exact ⟨d, r, rfl⟩
  refine ⟨_, rfl, z, 0, d, rfl, rfl, szl (by omega), (by show atI (cds z) ((0 : Nat) : Int) = some d; exact atI_nat (by rw [hdr]; rfl)), rfl, _, rfl, ?_⟩
  have fin : GoodN (cds z) → Q (.int ((NumText.digitsVal (cds z) : Nat) : Int)) H1 := fun g => by
    have := q H1 e1
    unfold numV at this
    rwa [if_pos g] at this
  have last : GoodN (cds z) → _ := fun g => (⟨_, rfl, z, _, rfl, intText_digits (x := z) (fun c hc => hd c hc) hne (by omega), by omega, fin g⟩ : tRet (tCB (fun xs H Q => ∃ z n, xs = [V.str z] ∧ intText? z = some n ∧ z.length ≤ 640 ∧ Q (V.int n) H) (tCons (tVar 0) tNil)) { nx := fun x H' => Q V.non H', rt := Q } (L2.start ["text"] [V.str z]) H1)
  refine ite2 (fun c4 => ?_) (fun c4 => ?_)
  · have h48 : d = 48 := by
      have := V.str.inj (dT c4)
      have h2 := cds_zero.mp this
      rw [cds_one] at h2
      simpa using h2
    refine ⟨_, rfl, rfl, _, rfl, ?_⟩
    by_cases hz0 : z = "0"
    · rw [decide_eq_true (congrArg V.str hz0)]
      refine iteF ?_
      refine last ?_
      rw [cds_zero.mp hz0]
      exact ⟨by decide, by decide, by decide, by decide⟩
    · refine ite2 (fun _ => ?_) (fun c5 => ?_)
      · refine qn (fun g => g.2.2.1 ⟨by rw [hdr, h48]; rfl, ?_⟩) H1 e1
        rw [hdr]
        cases r with
        | nil => exact absurd (cds_zero.mpr (by rw [hdr, h48])) hz0
        | cons _ _ => simp
      · exact absurd (show (!decide (V.str z = V.str "0")) = true by rw [decide_eq_false (fun e => hz0 (V.str.inj e))]; rfl) c5
  · refine iteF ?_
    refine last ⟨by rw [hdr]; simp, by omega, fun ⟨h1, _⟩ => ?_, hd⟩
    rw [hdr] at h1
    have : d = 48 := by simpa using h1
    exact dF c4 (by rw [this]; congr 1)

theorem ok_is_name (T : Tx w K mg a) : FnOk P w K mg base CX0 2 a.f_is_name a.d_is_name ["text"] spIsName := by
  have G_made_of := ok_made_of (P := P) (w := w) (base := base) T
  refine T.F_is_name.ok sc_is_name (fun vs H Q E h => ?_) (fun cdv A outer s H vs Q E hr h => ?_)
  · obtain ⟨_, rfl, _⟩ := h; rfl
  obtain ⟨z, rfl, hz, q⟩ := h
  refine ⟨_, (@pss_cons _ _ _ _ _ (@ps_if _ _ _ _ _ _ _ _ ((@pw_or _ _ _ _ _ _ _ (@pt_cmpR _ _ _ _ _ _ _ _ op_eq (pv 0) pe_str (@nomark _ _ (by decide) (by decide))) (@pw_or1 _ _ _ _ (@pt_cmpR _ _ _ _ _ _ _ _ op_gt (@pe_callB _ _ _ _ _ _ _ _ _ call_len_str (by rfl) T.z_len bt_len (@pa_cons _ _ _ _ _ (pv 0) pa_nil (by rfl)) (by decide) (by decide) (by rfl) (by rfl)) (@pe_glob _ _ _ _ _ (by rfl) T.g_MOST_LETTERS T.r_MOST_LETTERS (by decide)) (@nomark _ _ (by decide) (by decide)))))).pt (@pss_one _ _ _ (@ps_ret _ _ _ _ pe_bl)) pss_nil) (@pss_one _ _ _ (@ps_ret _ _ _ _ (@pe_and _ _ _ _ _ _ _ (@pe_call _ _ _ _ _ _ _ _ _ _ _ _ _ _ _ _ G_made_of (hr.mono (by omega)) (by rfl) T.m_made_of T.F_made_of.kp T.b_made_of .nil pass0 (@pa_cons _ _ _ _ _ (pv 0) (@pa_cons _ _ _ _ _ (@pe_glob _ _ _ _ _ (by rfl) T.g_LETTERS T.r_LETTERS (by decide)) pa_nil (by rfl)) (by rfl)) (by decide) (by rfl) (by rfl)) (@pe_one _ _ _ _ _ (@pe_cmpR _ _ _ _ _ _ _ _ op_notIn_seq (pv 0) (@pe_glob _ _ _ _ _ (by rfl) T.g_ROW_WORDS T.r_ROW_WORDS (by decide)) (by with_unfolding_all rfl))))))), ?_⟩
  have hl := cds_len z
  have qn : ¬ NameOk (cds z) → ∀ H', Same H H' → Q (.bl false) H' := fun h H' e => by
    have := q H' e
    rwa [decide_eq_false h] at this
  refine ⟨_, rfl, rfl, _, rfl, ?_⟩
  refine ite2 (fun c => ?_) (fun c => ?_)
  · have e : z = "" := V.str.inj (dT c)
    refine iteT ?_
    exact qn (fun g => by have := g.1; rw [cds_empty.mp e] at this; simp at this) H (Same.refl H)
  have c1 : ¬ z = "" := fun e => dF c (by rw [e])
  refine ⟨_, rfl, _, rfl, szl (by omega), _, _, rfl, rfl, _, rfl, ?_⟩
  refine ite2 (fun c2 => ?_) (fun c2 => ?_)
  · have := dT c2
    exact qn (fun g => by have := g.2.1; omega) H (Same.refl H)
  have c3 := dF c2
  refine ⟨_, rfl, z, _, rfl, hz, fun H1 e1 => ?_⟩
  refine ⟨_, rfl, ?_⟩
  have hne : 1 ≤ (cds z).length := by
    cases e : cds z with
    | nil => exact absurd (cds_empty.mpr e) c1
    | cons _ _ => simp
  refine ite2 (fun c4 => ?_) (fun c4 => ?_)
  · have h4 := dT c4
    refine ⟨_, rfl, a.u_ROW_WORDS, _, rfl, .inr (T.q_ROW_WORDS _), rfl, rfl, ?_⟩
    have e2 : inV (V.str z) [.str "for", .str "end", .str "size"] = decide (cds z ∈ resv) := by
      have := in_resv (cds z)
      rwa [sOf_cds] at this
    show Q (.bl (!inV (V.str z) [.str "for", .str "end", .str "size"])) H1
    rw [e2]
    have := q H1 e1
    have e3 : decide (NameOk (cds z)) = !decide (cds z ∈ resv) := by
      rw [Bool.eq_iff_iff]
      simp only [decide_eq_true_eq, Bool.not_eq_true', decide_eq_false_iff_not]
      exact ⟨fun g => g.2.2.2, fun g => ⟨hne, by omega, h4, g⟩⟩
    rwa [e3] at this
  · exact qn (fun g => dF c4 g.2.2.1) H1 e1

theorem ok_risen (T : Tx w K mg a) : FnOk P w K mg base CX0 3 a.f_risen a.d_risen ["parts"] (spParts 43 riseR K) := by
  have G_number_of := ok_number_of (P := P) (w := w) (base := base) T
  have G_is_name := ok_is_name (P := P) (w := w) (base := base) T
  refine T.F_risen.ok sc_risen (fun vs H Q E h => ?_) (fun cdv A outer s H vs Q E hr h => ?_)
  · obtain ⟨_, _, rfl, _⟩ := h; rfl
  obtain ⟨p, l, rfl, hp, hl, q⟩ := h
  obtain ⟨b, m, e, hpv, h1, h0, hm0, hb, he⟩ := partV_shape 43 l hl
  rw [hpv] at hp
  refine ⟨_, (@pss_cons _ _ _ _ _ (@ps_set _ _ (1) _ _ _ _ sc_risen.nd rfl (Or.inl rfl) (@pe_call _ _ _ _ _ _ _ _ _ _ _ _ _ _ _ _ G_number_of (hr.mono (by omega)) (by rfl) T.m_number_of T.F_number_of.kp T.b_number_of .nil pass0 (@pa_cons _ _ _ _ _ (@pe_ix _ _ _ _ _ _ _ ix_tup (pv 0) pe_int (fun _ _ => rfl)) pa_nil (by rfl)) (by decide) (by rfl) (by rfl)) (by rfl) (by first | exact .inl rfl | exact .inr rfl | assumption)) (@pss_cons _ _ _ _ _ (@ps_if _ _ _ _ _ _ _ _ ((@pw_or _ _ _ _ _ _ _ (@pt_cmpR _ _ _ _ _ _ _ _ op_isN (pv 1) pe_non (@nomark _ _ (by decide) (by decide))) (@pw_or1 _ _ _ _ (@pt_not _ _ _ _ (@pt_val _ _ _ (@pe_call _ _ _ _ _ _ _ _ _ _ _ _ _ _ _ _ G_is_name (hr.mono (by omega)) (by rfl) T.m_is_name T.F_is_name.kp T.b_is_name .nil pass0 (@pa_cons _ _ _ _ _ (@pe_ix _ _ _ _ _ _ _ ix_tup (pv 0) pe_int (fun _ _ => rfl)) pa_nil (by rfl)) (by decide) (by rfl) (by rfl)) (by intro _ ; rfl)))))).pt (@pss_one _ _ _ (@ps_ret _ _ _ _ pe_non)) pss_nil) (@pss_one _ _ _ (@ps_ret _ _ _ _ (@pe_tup _ _ _ _ _ (@pa_cons _ _ _ _ _ (@pe_ix _ _ _ _ _ _ _ ix_tup (pv 0) pe_int (fun _ _ => rfl)) (@pa_cons _ _ _ _ _ (pv 1) pa_nil (by rfl)) (by rfl))))))), ?_⟩
  have qn : riseR l = none → ∀ H', Same H H' → Q .non H' := fun z => by rw [z] at q; exact q
  refine ⟨_, rfl, p, _, 2, _, rfl, rfl, hp, rfl, _, rfl, he, fun H1 e1 => ?_⟩
  rw [cds_sOf]
  refine ⟨_, rfl, rfl, _, rfl, ?_⟩
  by_cases g : GoodN e
  case neg =>
    rw [decide_eq_true (numV_bad g)]
    refine iteT (iteT ?_)
    refine qn ?_ H1 e1
    unfold riseR
    by_cases hm : 43 ∈ l
    · rw [if_pos hm, if_neg (fun z => g (by rw [(h1 hm).2]; exact z.1))]
    · rw [if_neg hm]
  have hm : 43 ∈ l := Decidable.byContradiction fun z => noGood (by rw [← (h0 z).2]; exact g)
  rw [numV_good g]
  refine iteF ?_
  refine ⟨_, rfl, p, _, 0, _, rfl, rfl, e1.seqT hp, rfl, _, rfl, hb, fun H2 e2 => ?_⟩
  rw [cds_sOf]
  refine ⟨_, rfl, ?_⟩
  unfold riseR at q
  rw [if_pos hm, ← (h1 hm).1, ← (h1 hm).2] at q
  by_cases hn : NameOk b
  · rw [decide_eq_true hn]
    rw [if_pos ⟨g, hn⟩] at q
    refine iteF ?_
    exact ⟨_, rfl, p, _, 0, _, rfl, rfl, (e1.trans e2).seqT hp, rfl, _, rfl, szl (by show 2 ≤ 1000000; decide), fun r hr => q r _ ((e1.trans e2).trans (same_new hr _)) upd_same⟩
  · rw [decide_eq_false hn]
    rw [if_neg (fun z => hn z.2)] at q
    refine iteT ?_
    exact q H2 (e1.trans e2)

theorem ok_fallen (T : Tx w K mg a) : FnOk P w K mg base CX0 3 a.f_fallen a.d_fallen ["parts"] (spParts 45 fallR K) := by
  have G_number_of := ok_number_of (P := P) (w := w) (base := base) T
  have G_is_name := ok_is_name (P := P) (w := w) (base := base) T
  refine T.F_fallen.ok sc_fallen (fun vs H Q E h => ?_) (fun cdv A outer s H vs Q E hr h => ?_)
  · obtain ⟨_, _, rfl, _⟩ := h; rfl
  obtain ⟨p, l, rfl, hp, hl, q⟩ := h
  obtain ⟨b, m, e, hpv, h1, h0, hm0, hb, he⟩ := partV_shape 45 l hl
  rw [hpv] at hp
  refine ⟨_, (@pss_cons _ _ _ _ _ (@ps_set _ _ (1) _ _ _ _ sc_fallen.nd rfl (Or.inl rfl) (@pe_call _ _ _ _ _ _ _ _ _ _ _ _ _ _ _ _ G_number_of (hr.mono (by omega)) (by rfl) T.m_number_of T.F_number_of.kp T.b_number_of .nil pass0 (@pa_cons _ _ _ _ _ (@pe_ix _ _ _ _ _ _ _ ix_tup (pv 0) pe_int (fun _ _ => rfl)) pa_nil (by rfl)) (by decide) (by rfl) (by rfl)) (by rfl) (by first | exact .inl rfl | exact .inr rfl | assumption)) (@pss_cons _ _ _ _ _ (@ps_if _ _ _ _ _ _ _ _ (@pt_cmpR _ _ _ _ _ _ _ _ op_isN (pv 1) pe_non (@nomark _ _ (by decide) (by decide))) (@pss_one _ _ _ (@ps_ret _ _ _ _ pe_non)) pss_nil) (@pss_cons _ _ _ _ _ (@ps_if _ _ _ _ _ _ _ _ ((@pw_or _ _ _ _ _ _ _ (@pt_val _ _ _ (@pe_call _ _ _ _ _ _ _ _ _ _ _ _ _ _ _ _ G_is_name (hr.mono (by omega)) (by rfl) T.m_is_name T.F_is_name.kp T.b_is_name .nil pass0 (@pa_cons _ _ _ _ _ (@pe_ix _ _ _ _ _ _ _ ix_tup (pv 0) pe_int (fun _ _ => rfl)) pa_nil (by rfl)) (by decide) (by rfl) (by rfl)) (by intro _ ; rfl)) (@pw_or1 _ _ _ _ ((@pw_and _ _ _ _ _ _ _ (@pt_cmpR _ _ _ _ _ _ _ _ op_eq (@pe_ix _ _ _ _ _ _ _ ix_tup (pv 0) pe_int (fun _ _ => rfl)) pe_str (@nomark _ _ (by decide) (by decide))) (@pw_and1 _ _ _ _ (@pt_cmpR _ _ _ _ _ _ _ _ op_gt (pv 1) pe_int (@nomark _ _ (by decide) (by decide)))))).pt))).pt (@pss_one _ _ _ (@ps_ret _ _ _ _ (@pe_tup _ _ _ _ _ (@pa_cons _ _ _ _ _ (@pe_ix _ _ _ _ _ _ _ ix_tup (pv 0) pe_int (fun _ _ => rfl)) (@pa_cons _ _ _ _ _ (@pe_un _ _ _ _ _ _ un_neg (pv 1)) pa_nil (by rfl)) (by rfl))))) pss_nil) (@pss_one _ _ _ (@ps_ret _ _ _ _ pe_non))))), ?_⟩
  have qn : fallR l = none → ∀ H', Same H H' → Q .non H' := fun z => by rw [z] at q; exact q
  refine ⟨_, rfl, p, _, 2, _, rfl, rfl, hp, rfl, _, rfl, he, fun H1 e1 => ?_⟩
  rw [cds_sOf]
  refine ⟨_, rfl, rfl, _, rfl, ?_⟩
  by_cases g : GoodN e
  case neg =>
    rw [decide_eq_true (numV_bad g)]
    refine iteT ?_
    refine qn ?_ H1 e1
    unfold fallR
    by_cases hm : 45 ∈ l
    · rw [if_pos hm, if_neg (fun z => g (by rw [(h1 hm).2]; exact z))]
    · rw [if_neg hm]
  have hm : 45 ∈ l := Decidable.byContradiction fun z => noGood (by rw [← (h0 z).2]; exact g)
  rw [numV_good g]
  refine iteF ?_
  refine ⟨_, rfl, p, _, 0, _, rfl, rfl, e1.seqT hp, rfl, _, rfl, hb, fun H2 e2 => ?_⟩
  rw [cds_sOf]
  unfold fallR at q
  rw [if_pos hm, ← (h1 hm).1, ← (h1 hm).2, if_pos g] at q
  refine ⟨_, rfl, ?_⟩
  by_cases hn : NameOk b
  · rw [decide_eq_true hn]
    rw [if_pos (.inl hn)] at q
    refine iteT (iteT ?_)
    exact ⟨_, rfl, p, _, 0, _, rfl, rfl, (e1.trans e2).seqT hp, rfl, _, rfl, _, rfl, szl (by show 2 ≤ 1000000; decide), fun r hr => q r _ ((e1.trans e2).trans (same_new hr _)) upd_same⟩
  rw [decide_eq_false hn]
  refine iteF ?_
  refine ⟨_, rfl, p, _, 0, _, rfl, rfl, (e1.trans e2).seqT hp, rfl, rfl, _, rfl, ?_⟩
  by_cases hb0 : b = []
  · subst hb0
    refine iteT ?_
    refine ⟨_, rfl, _, _, rfl, rfl, _, rfl, ?_⟩
    refine ite2 (fun c => ?_) (fun c => ?_)
    · rw [if_pos (.inr ⟨rfl, dT c⟩)] at q
      exact ⟨_, rfl, p, _, 0, _, rfl, rfl, (e1.trans e2).seqT hp, rfl, _, rfl, _, rfl, szl (by show 2 ≤ 1000000; decide), fun r hr => q r _ ((e1.trans e2).trans (same_new hr _)) upd_same⟩
    · rw [if_neg (fun z => z.elim hn fun w => dF c w.2)] at q
      exact q _ (e1.trans e2)
  · have e5 : ¬ V.str (sOf b) = V.str (Str.ofString "") := fun z => hb0 (by have := cds_empty.mp (V.str.inj z); rwa [cds_sOf] at this)
    rw [decide_eq_false e5]
    refine iteF (iteF ?_)
    rw [if_neg (fun z => z.elim hn fun w => hb0 w.1)] at q
    exact q _ (e1.trans e2)

theorem ok_spot_of (T : Tx w K mg a) : FnOk P w K mg base CX0 4 a.f_spot_of a.d_spot_of ["text"] (spSpot spotR) := by
  have G_number_of := ok_number_of (P := P) (w := w) (base := base) T
  have G_is_name := ok_is_name (P := P) (w := w) (base := base) T
  have G_risen := ok_risen (P := P) (w := w) (base := base) T
  have G_fallen := ok_fallen (P := P) (w := w) (base := base) T
  refine T.F_spot_of.ok sc_spot_of (fun vs H Q E h => ?_) (fun cdv A outer s H vs Q E hr h => ?_)
  · obtain ⟨_, rfl, _⟩ := h; rfl
  obtain ⟨z, rfl, hz, q⟩ := h
  refine ⟨_, (@pss_cons _ _ _ _ _ (@ps_if _ _ _ _ _ _ _ _ (@pt_val _ _ _ (@pe_call _ _ _ _ _ _ _ _ _ _ _ _ _ _ _ _ G_is_name (hr.mono (by omega)) (by rfl) T.m_is_name T.F_is_name.kp T.b_is_name .nil pass0 (@pa_cons _ _ _ _ _ (pv 0) pa_nil (by rfl)) (by decide) (by rfl) (by rfl)) (by intro _ ; rfl)) (@pss_one _ _ _ (@ps_ret _ _ _ _ (@pe_tup _ _ _ _ _ (@pa_cons _ _ _ _ _ (pv 0) (@pa_cons _ _ _ _ _ pe_int pa_nil (by rfl)) (by rfl))))) pss_nil) (@pss_cons _ _ _ _ _ (@ps_set _ _ (1) _ _ _ _ sc_spot_of.nd rfl (Or.inl rfl) (@pe_call _ _ _ _ _ _ _ _ _ _ _ _ _ _ _ _ G_number_of (hr.mono (by omega)) (by rfl) T.m_number_of T.F_number_of.kp T.b_number_of .nil pass0 (@pa_cons _ _ _ _ _ (pv 0) pa_nil (by rfl)) (by decide) (by rfl) (by rfl)) (by rfl) (by first | exact .inl rfl | exact .inr rfl | assumption)) (@pss_cons _ _ _ _ _ (@ps_if _ _ _ _ _ _ _ _ (@pt_cmpR _ _ _ _ _ _ _ _ op_notN (pv 1) pe_non (@nomark _ _ (by decide) (by decide))) (@pss_one _ _ _ (@ps_ret _ _ _ _ (@pe_tup _ _ _ _ _ (@pa_cons _ _ _ _ _ pe_str (@pa_cons _ _ _ _ _ (pv 1) pa_nil (by rfl)) (by rfl))))) pss_nil) (@pss_cons _ _ _ _ _ (@ps_if _ _ _ _ _ _ _ _ (@pt_cmpR _ _ _ _ _ _ _ _ op_in_str pe_str (pv 0) (by with_unfolding_all rfl)) (@pss_one _ _ _ (@ps_ret _ _ _ _ (@pe_call _ _ _ _ _ _ _ _ _ _ _ _ _ _ _ _ G_risen (hr.mono (by omega)) (by rfl) T.m_risen T.F_risen.kp T.b_risen .nil pass0 (@pa_cons _ _ _ _ _ (@pe_bm _ _ _ _ _ _ _ _ _ _ _ _ PySem.F.plainAttrs_str PySem.F.slot_str_partition PySem.F.type_str_partition mt_partition (pv 0) (@pa_cons _ _ _ _ _ pe_str pa_nil (by rfl)) (by rfl) (by rfl) (by rfl) (by rfl) (by rfl)) pa_nil (by rfl)) (by decide) (by rfl) (by rfl)))) pss_nil) (@pss_one _ _ _ (@ps_ret _ _ _ _ (@pe_call _ _ _ _ _ _ _ _ _ _ _ _ _ _ _ _ G_fallen (hr.mono (by omega)) (by rfl) T.m_fallen T.F_fallen.kp T.b_fallen .nil pass0 (@pa_cons _ _ _ _ _ (@pe_bm _ _ _ _ _ _ _ _ _ _ _ _ PySem.F.plainAttrs_str PySem.F.slot_str_partition PySem.F.type_str_partition mt_partition (pv 0) (@pa_cons _ _ _ _ _ pe_str pa_nil (by rfl)) (by rfl) (by rfl) (by rfl) (by rfl) (by rfl)) pa_nil (by rfl)) (by decide) (by rfl) (by rfl)))))))), ?_⟩
  refine ⟨_, rfl, z, rfl, hz, fun H1 e1 => ?_⟩
  refine ⟨_, rfl, ?_⟩
  by_cases hn : NameOk (cds z)
  · rw [decide_eq_true hn]
    unfold spotR at q
    rw [if_pos hn, ] at q
    refine iteT ?_
    refine ⟨_, rfl, szl (by show 2 ≤ 1000000; decide), fun r hr => q r _ (e1.trans (same_new hr _)) (by rw [sOf_cds]; exact upd_same)⟩
  rw [decide_eq_false hn]
  refine iteF ?_
  refine ⟨_, rfl, z, rfl, hz, fun H2 e2 => ?_⟩
  have e12 := e1.trans e2
  refine ⟨_, rfl, rfl, _, rfl, ?_⟩
  unfold spotR at q
  rw [if_neg hn] at q
  by_cases g : GoodN (cds z)
  · rw [numV_good g]
    rw [if_pos g] at q
    refine iteT ?_
    refine ⟨_, rfl, szl (by show 2 ≤ 1000000; decide), fun r hr => q r _ (e12.trans (same_new hr _)) upd_same⟩
  rw [numV_bad g]
  rw [if_neg g] at q
  refine iteF ?_
  refine ⟨_, rfl, _, _, rfl, rfl, _, rfl, ?_⟩
  have ep : (!(Builtin.Str.occurrences z (Str.ofString "+") 0 z.length 1).isEmpty) = decide (43 ∈ cds z) := in_one z 43
  have hl := cds_len z
  rw [ep]
  by_cases hp : 43 ∈ cds z
  · rw [decide_eq_true hp]
    rw [if_pos hp] at q
    refine iteT ?_
    refine ⟨_, rfl, rfl, z, 43, rfl, rfl, szl (by omega), fun r hr => ?_⟩
    refine ⟨r, cds z, rfl, SqT.of upd_same, by omega, ?_⟩
    unfold riseR
    rw [if_pos hp]
    exact q.over (e12.trans (same_new hr _))
  · rw [decide_eq_false hp]
    rw [if_neg hp] at q
    refine iteF ?_
    refine ⟨_, rfl, rfl, z, 45, rfl, rfl, szl (by omega), fun r hr => ?_⟩
    refine ⟨r, cds z, rfl, SqT.of upd_same, by omega, ?_⟩
    exact SpotQ.over q (e12.trans (same_new hr _))

theorem ok_inin (T : Tx w K mg a) : FnOk P w K mg base CX0 1 a.f_Number_init a.d_Number_init ["self", "n"] (spIni a.c_Number ["n"]) := by
  refine T.F_Number_init.ok sc_Number_init (fun vs H Q E h => ?_) (fun cdv A outer s H vs Q E hr h => ?_)
  · obtain ⟨_, _, vs, rfl, hl, _⟩ := h; rw [List.length_cons, hl]; rfl
  obtain ⟨x, dx, vs, rfl, hl, hx, q⟩ := h
  obtain ⟨n, rfl⟩ : ∃ n, vs = [n] := by match vs, hl with | [n], _ => exact ⟨n, rfl⟩
  refine ⟨_, (@pss_one _ _ _ (@ps_fld _ _ _ _ _ _ _ _ (pv 0) (pv 1) rfl)), ?_⟩
  exact ⟨_, rfl, _, rfl, x, _, dx, _, rfl, hx, T.cl_Number, T.n_Number_n, (by show 0 < 1000; decide), q _ (fun b o e hb => by rw [upd_ne hb]; exact e) ⟨dx, upd_same⟩⟩
theorem ok_iniv (T : Tx w K mg a) : FnOk P w K mg base CX0 1 a.f_Value_init a.d_Value_init ["self", "name"] (spIni a.c_Value ["name"]) := by
  refine T.F_Value_init.ok sc_Value_init (fun vs H Q E h => ?_) (fun cdv A outer s H vs Q E hr h => ?_)
  · obtain ⟨_, _, vs, rfl, hl, _⟩ := h; rw [List.length_cons, hl]; rfl
  obtain ⟨x, dx, vs, rfl, hl, hx, q⟩ := h
  obtain ⟨n, rfl⟩ : ∃ n, vs = [n] := by match vs, hl with | [n], _ => exact ⟨n, rfl⟩
  refine ⟨_, (@pss_one _ _ _ (@ps_fld _ _ _ _ _ _ _ _ (pv 0) (pv 1) rfl)), ?_⟩
  exact ⟨_, rfl, _, rfl, x, _, dx, _, rfl, hx, T.cl_Value, T.n_Value_name, (by show 0 < 1000; decide), q _ (fun b o e hb => by rw [upd_ne hb]; exact e) ⟨dx, upd_same⟩⟩
theorem ok_inic (T : Tx w K mg a) : FnOk P w K mg base CX0 1 a.f_Cell_init a.d_Cell_init ["self", "table", "spots"] (spIni a.c_Cell ["table", "spots"]) := by
  refine T.F_Cell_init.ok sc_Cell_init (fun vs H Q E h => ?_) (fun cdv A outer s H vs Q E hr h => ?_)
  · obtain ⟨_, _, vs, rfl, hl, _⟩ := h; rw [List.length_cons, hl]; rfl
  obtain ⟨x, dx, vs, rfl, hl, hx, q⟩ := h
  obtain ⟨n, m, rfl⟩ : ∃ n m, vs = [n, m] := by match vs, hl with | [n, m], _ => exact ⟨n, m, rfl⟩
  refine ⟨_, (@pss_cons _ _ _ _ _ (@ps_fld _ _ _ _ _ _ _ _ (pv 0) (pv 1) rfl) (@pss_one _ _ _ (@ps_fld _ _ _ _ _ _ _ _ (pv 0) (pv 2) rfl))), ?_⟩
  refine ⟨_, rfl, _, rfl, x, _, dx, _, rfl, hx, T.cl_Cell, T.n_Cell_table, (by show 0 < 1000; decide), ?_⟩
  refine ⟨_, rfl, _, rfl, x, _, dx, _, rfl, upd_same, T.cl_Cell, T.n_Cell_spots, (by show 1 < 1000; decide), ?_⟩
  exact q _ (fun b o e hb => by repeat rw [upd_ne hb]
                                exact e) ⟨dx, upd_same⟩
theorem ok_inij (T : Tx w K mg a) : FnOk P w K mg base CX0 1 a.f_Joined_init a.d_Joined_init ["self", "sign", "left", "right"] (spIni a.c_Joined ["sign", "left", "right"]) := by
  refine T.F_Joined_init.ok sc_Joined_init (fun vs H Q E h => ?_) (fun cdv A outer s H vs Q E hr h => ?_)
  · obtain ⟨_, _, vs, rfl, hl, _⟩ := h; rw [List.length_cons, hl]; rfl
  obtain ⟨x, dx, vs, rfl, hl, hx, q⟩ := h
  obtain ⟨n, m, o, rfl⟩ : ∃ n m o, vs = [n, m, o] := by match vs, hl with | [n, m, o], _ => exact ⟨n, m, o, rfl⟩
  refine ⟨_, (@pss_cons _ _ _ _ _ (@ps_fld _ _ _ _ _ _ _ _ (pv 0) (pv 1) rfl) (@pss_cons _ _ _ _ _ (@ps_fld _ _ _ _ _ _ _ _ (pv 0) (pv 2) rfl) (@pss_one _ _ _ (@ps_fld _ _ _ _ _ _ _ _ (pv 0) (pv 3) rfl)))), ?_⟩
  refine ⟨_, rfl, _, rfl, x, _, dx, _, rfl, hx, T.cl_Joined, T.n_Joined_sign, (by show 0 < 1000; decide), ?_⟩
  refine ⟨_, rfl, _, rfl, x, _, dx, _, rfl, upd_same, T.cl_Joined, T.n_Joined_left, (by show 1 < 1000; decide), ?_⟩
  refine ⟨_, rfl, _, rfl, x, _, dx, _, rfl, upd_same, T.cl_Joined, T.n_Joined_right, (by show 2 < 1000; decide), ?_⟩
  exact q _ (fun b o e hb => by repeat rw [upd_ne hb]
                                exact e) ⟨dx, upd_same⟩

theorem ok_dinit (T : Tx w K mg a) : FnOk P w K mg base CX0 1 a.f_Deed_init a.d_Deed_init ["self", "names", "lows", "highs", "table", "spots", "term", "path"] (spDInit a.c_Deed) := by
  refine T.F_Deed_init.ok sc_Deed_init (fun vs H Q E h => ?_) (fun cdv A outer s H vs Q E hr h => ?_)
  · obtain ⟨_, _, _, _, _, _, _, _, _, rfl, _⟩ := h; rfl
  obtain ⟨x, dx, v1, v2, v3, v4, v5, v6, v7, rfl, hx, q⟩ := h
  refine ⟨_, (@pss_cons _ _ _ _ _ (@ps_fld _ _ _ _ _ _ _ _ (pv 0) (pv 1) rfl) (@pss_cons _ _ _ _ _ (@ps_fld _ _ _ _ _ _ _ _ (pv 0) (pv 2) rfl) (@pss_cons _ _ _ _ _ (@ps_fld _ _ _ _ _ _ _ _ (pv 0) (pv 3) rfl) (@pss_cons _ _ _ _ _ (@ps_fld _ _ _ _ _ _ _ _ (pv 0) (pv 4) rfl) (@pss_cons _ _ _ _ _ (@ps_fld _ _ _ _ _ _ _ _ (pv 0) (pv 5) rfl) (@pss_cons _ _ _ _ _ (@ps_fld _ _ _ _ _ _ _ _ (pv 0) (pv 6) rfl) (@pss_one _ _ _ (@ps_fld _ _ _ _ _ _ _ _ (pv 0) (pv 7) rfl)))))))), ?_⟩
  refine ⟨_, rfl, _, rfl, x, _, dx, _, rfl, hx, T.cl_Deed, T.n_Deed_names, (by show 0 < 1000; decide), ?_⟩
  refine ⟨_, rfl, _, rfl, x, _, dx, _, rfl, upd_same, T.cl_Deed, T.n_Deed_lows, (by show 1 < 1000; decide), ?_⟩
  refine ⟨_, rfl, _, rfl, x, _, dx, _, rfl, upd_same, T.cl_Deed, T.n_Deed_highs, (by show 2 < 1000; decide), ?_⟩
  refine ⟨_, rfl, _, rfl, x, _, dx, _, rfl, upd_same, T.cl_Deed, T.n_Deed_table, (by show 3 < 1000; decide), ?_⟩
  refine ⟨_, rfl, _, rfl, x, _, dx, _, rfl, upd_same, T.cl_Deed, T.n_Deed_spots, (by show 4 < 1000; decide), ?_⟩
  refine ⟨_, rfl, _, rfl, x, _, dx, _, rfl, upd_same, T.cl_Deed, T.n_Deed_term, (by show 5 < 1000; decide), ?_⟩
  refine ⟨_, rfl, _, rfl, x, _, dx, _, rfl, upd_same, T.cl_Deed, T.n_Deed_path, (by show 6 < 1000; decide), ?_⟩
  exact q _ (fun b o e hb => by repeat rw [upd_ne hb]
                                exact e) ⟨dx, upd_same⟩

theorem ok_pinit (T : Tx w K mg a) : FnOk P w K mg base CX0 1 a.f_Program_init a.d_Program_init ["self", "size", "deeds"] (spPInit a.c_Program) := by
  refine T.F_Program_init.ok sc_Program_init (fun vs H Q E h => ?_) (fun cdv A outer s H vs Q E hr h => ?_)
  · obtain ⟨_, _, _, _, _, rfl, _⟩ := h; rfl
  obtain ⟨x, dx, p, v1, ys, rfl, hx, hp, yl, q⟩ := h
  refine ⟨_, (@pss_cons _ _ _ _ _ (@ps_fld _ _ _ _ _ _ _ _ (pv 0) (pv 1) rfl) (@pss_one _ _ _ (@ps_fld _ _ _ _ _ _ _ _ (pv 0) (@pe_callTy _ _ _ _ _ _ _ _ _ call_list_of (by rfl) T.z_list bt_list (@pa_cons _ _ _ _ _ (pv 2) pa_nil (by rfl)) (by decide) (by decide) (by rfl) (by rfl)) rfl))), ?_⟩
  refine ⟨_, rfl, _, rfl, x, _, dx, _, rfl, hx, T.cl_Program, T.n_Program_size, (by show 0 < 1000; decide), ?_⟩
  have npx : p ≠ x := ne_of hp hx (by intro z; cases z)
  refine ⟨_, rfl, p, ys, rfl, .inl (SqL.of (by rw [upd_ne npx]; exact hp)), fun l hl => ?_⟩
  have nxl : x ≠ l := fun e => by rw [e, upd_same] at hl; cases hl
  have hlH : H l = none := by rw [upd_ne (Ne.symm nxl)] at hl; exact hl
  refine ⟨_, rfl, x, _, dx, _, rfl, (by rw [upd_ne nxl]; exact upd_same), T.cl_Program, T.n_Program_deeds, (by show 1 < 1000; decide), ?_⟩
  refine q _ l (fun b o e hb => ?_) ⟨dx, upd_same⟩ (by rw [upd_ne (Ne.symm nxl)]; exact upd_same)
  rw [upd_ne hb, upd_ne (ne_of_none e hlH), upd_ne hb]
  exact e

theorem ok_bare_row (T : Tx w K mg a) : FnOk P w K mg base CX0 1 a.f_bare_row a.d_bare_row ["row"] Rd.spBare := by
  refine T.F_bare_row.ok sc_bare_row (fun vs H Q E h => ?_) (fun cdv A outer s H vs Q E hr h => ?_)
  · obtain ⟨_, rfl, _⟩ := h; rfl
  obtain ⟨z, rfl, hz, q⟩ := h
  have hlen := cds_len z
  refine ⟨_, (@pss_one _ _ _ (@ps_ret _ _ _ _ (@pe_bm _ _ _ _ _ _ _ _ _ _ _ _ PySem.F.plainAttrs_str PySem.F.slot_str_strip PySem.F.type_str_strip mt_strip (@pe_ix _ _ _ _ _ _ _ ix_tup (@pe_bm _ _ _ _ _ _ _ _ _ _ _ _ PySem.F.plainAttrs_str PySem.F.slot_str_partition PySem.F.type_str_partition mt_partition (pv 0) (@pa_cons _ _ _ _ _ pe_str pa_nil (by rfl)) (by rfl) (by rfl) (by rfl) (by rfl) (by rfl)) pe_int (fun _ _ => rfl)) (@pa_cons _ _ _ _ _ pe_str pa_nil (by rfl)) (by rfl) (by rfl) (by rfl) (by rfl) (by rfl)))), ?_⟩
  refine ⟨_, rfl, rfl, z, 59, rfl, rfl, szl (by omega), fun r hr' => ?_⟩
  have q2 := q _ (same_new hr' (.tup (partV 59 (cds z))))
  unfold Rd.bare at q2
  by_cases h59 : 59 ∈ cds z
  · rw [if_pos h59] at q2
    have e : partV 59 (cds z) = [.str (sOf (bef 59 (cds z))), .str ⟨#[59]⟩, .str (sOf (aft 59 (cds z)))] := if_pos h59
    refine ⟨r, _, 0, .str (sOf (bef 59 (cds z))), rfl, rfl, SqT.of upd_same, (by rw [e]; rfl), rfl, _, 32, rfl, rfl, ?_, ?_⟩
    · rw [len_sOf]
      unfold bef
      exact szl (by rw [List.length_take]; omega)
    · rw [cds_sOf]
      exact q2
  · rw [if_neg h59] at q2
    have e : partV 59 (cds z) = [.str (sOf (cds z)), .str "", .str ""] := if_neg h59
    refine ⟨r, _, 0, .str (sOf (cds z)), rfl, rfl, SqT.of upd_same, (by rw [e]; rfl), rfl, _, 32, rfl, rfl, ?_, ?_⟩
    · rw [len_sOf]; exact szl (by omega)
    · rw [cds_sOf]
      exact q2

theorem ok_words_of (T : Tx w K mg a) : FnOk P w K mg base CX0 1 a.f_words_of a.d_words_of ["row"] Rd.spWords := by
  refine T.F_words_of.ok sc_words_of (fun vs H Q E h => ?_) (fun cdv A outer s H vs Q E hr h => ?_)
  · obtain ⟨_, rfl, _⟩ := h; rfl
  obtain ⟨z, rfl, hz, q⟩ := h
  have hlen := cds_len z
  refine ⟨_, (@pss_one _ _ _ (@ps_ret _ _ _ _ (@pe_compB _ _ _ _ _ _ _ ["word"] [none] _ _ _ _ (by rfl) (@pi_list _ _ _ _ (@pe_bm _ _ _ _ _ _ _ _ _ _ _ _ PySem.F.plainAttrs_str PySem.F.slot_str_split PySem.F.type_str_split mt_split (pv 0) (@pa_cons _ _ _ _ _ pe_str pa_nil (by rfl)) (by rfl) (by rfl) (by rfl) (by rfl) (by rfl))) c_words_of_0 (fun _ _ _ _ _ _ => ⟨(pg_name (i := 0) c_words_of_0n rfl (Or.inl rfl)), (@pts_one _ _ _ (@pt_cmpR _ _ _ _ _ _ _ _ op_ne (pv 0) pe_str (@nomark _ _ (by decide) (by decide)))), (pv 0)⟩) (by intro _ ; rfl)))), ?_⟩
  refine ⟨_, rfl, rfl, z, _, rfl, rfl, by decide +kernel, ?_, by omega, fun l ps hl hs => ?_⟩
  · have e : cds (Str.ofString " ") = [32] := by decide +kernel
    rw [e]
    intro c hc
    rw [List.mem_singleton.mp hc]
    decide
  have e : cds (Str.ofString " ") = [32] := by decide +kernel
  rw [e] at hs
  refine ⟨l, rfl, ⟨_, SqL.of upd_same⟩, ?_⟩
  have pl : ps.length ≤ 100001 := by
    have := Rd.split_many (Nat.le_refl _) hs
    rw [List.length_map] at this
    omega
  refine comp_list (xs := ps.map V.str) (fun i ys H' => H' = upd H l (.lst (ps.map V.str)) ∧ ys = ((ps.take i).filter fun y : Str => decide (y ≠ Str.ofString "")).map V.str) ⟨rfl, rfl⟩ (szl (by rw [List.length_map]; omega)) (fun i ys H' hi p => ?_) (fun i x ys H' hc p => ?_) (fun ys H' p t ht => ?_)
  · obtain ⟨rfl, rfl⟩ := p
    refine ⟨SqL.of upd_same, ?_⟩
    rw [List.length_map]
    have h1 := List.length_filter_le (fun y : Str => decide (y ≠ Str.ofString "")) (ps.take i)
    rw [List.length_take] at h1
    omega
  · obtain ⟨rfl, rfl⟩ := p
    rw [List.getElem?_map] at hc
    cases hy : ps[i]? with
    | none => rw [hy] at hc; cases hc
    | some y =>
      rw [hy] at hc
      cases hc
      refine ⟨_, rfl, rfl, _, rfl, ?_⟩
      have k1 : (V.str y = V.str (Str.ofString "")) ↔ y = Str.ofString "" := ⟨fun e => V.str.inj e, fun e => by rw [e]⟩
      rw [take_snoc hy, List.filter_append]
      refine ite2 (fun c => ?_) (fun c => ?_)
      · have n : y ≠ Str.ofString "" := fun e => by rw [decide_eq_true (k1.mpr e)] at c; cases c
        refine ⟨_, rfl, rfl, ?_⟩
        rw [List.filter_cons, if_pos (decide_eq_true n), List.map_append]
        rfl
      · have n : y = Str.ofString "" := Classical.byContradiction fun n => c (by rw [decide_eq_false fun e => n (k1.mp e)]; rfl)
        refine ⟨rfl, ?_⟩
        rw [List.filter_cons, if_neg (by rw [decide_eq_true_eq]; exact fun z => z n), List.filter_nil, List.append_nil]
  · obtain ⟨rfl, rfl⟩ := p
    rw [List.length_map, List.take_length]
    exact q t _ ps ((same_new hl _).trans (same_new ht _)) hs upd_same

theorem ok_part_end (T : Tx w K mg a) : FnOk P w K mg base CX0 1 a.f_part_end a.d_part_end ["text", "at"] Rd.spPend := by
  refine T.F_part_end.ok sc_part_end (fun vs H Q E h => ?_) (fun cdv A outer s H vs Q E hr h => ?_)
  · obtain ⟨_, _, rfl, _⟩ := h; rfl
  obtain ⟨z, i, rfl, hi, hz, q⟩ := h
  have hlen := cds_len z
  have at' : ∀ k : Nat, k < (cds z).length → ∃ c, (cds z).drop k = c :: (cds z).drop (k + 1) ∧ atI z.cps.toList ((k : Nat) : Int) = some c := fun k hk => ⟨(cds z)[k], List.drop_eq_getElem_cons hk, atI_nat (List.getElem?_eq_getElem hk)⟩
  have zl : z.length ≤ sizeLine := szl (by omega)
  refine ⟨_, (@pss_cons _ _ _ _ _ (@ps_if _ _ _ _ _ _ _ _ (@pt_cmpR _ _ _ _ _ _ _ _ op_in_str (@pe_ix _ _ _ _ _ _ _ ix_str (pv 0) (pv 1) (fun _ _ => rfl)) (@pe_glob _ _ _ _ _ (by rfl) T.g_SIGNS T.r_SIGNS (by decide)) (by with_unfolding_all rfl)) (@pss_one _ _ _ (@ps_ret _ _ _ _ (@pe_op _ _ _ _ _ _ _ _ op_add (pv 1) pe_int))) pss_nil) (@pss_cons _ _ _ _ _ (@ps_set _ _ (2) _ _ _ _ sc_part_end.nd rfl (Or.inl rfl) pe_bl (by rfl) (by first | exact .inl rfl | exact .inr rfl | assumption)) (@pss_cons _ _ _ _ _ (@ps_while _ _ _ _ _ _ PassesOwn.never ((@pw_and _ _ _ _ _ _ _ (@pt_cmpR _ _ _ _ _ _ _ _ op_lt (pv 1) (@pe_callB _ _ _ _ _ _ _ _ _ call_len_str (by rfl) T.z_len bt_len (@pa_cons _ _ _ _ _ (pv 0) pa_nil (by rfl)) (by decide) (by decide) (by rfl) (by rfl)) (@nomark _ _ (by decide) (by decide))) (@pw_and1 _ _ _ _ ((@pw_or _ _ _ _ _ _ _ (@pt_val _ _ _ (pv 2) (by intro _ ; rfl)) (@pw_or1 _ _ _ _ (@pt_cmpR _ _ _ _ _ _ _ _ op_notIn_str (@pe_ix _ _ _ _ _ _ _ ix_str (pv 0) (pv 1) (fun _ _ => rfl)) (@pe_glob _ _ _ _ _ (by rfl) T.g_SIGNS T.r_SIGNS (by decide)) (by with_unfolding_all rfl))))).pt))).pt (@pss_cons _ _ _ _ _ (@ps_set _ _ (2) _ _ _ _ sc_part_end.nd rfl (Or.inl rfl) (@pe_or _ _ _ _ _ _ _ (@pe_cmpR _ _ _ _ _ _ _ _ op_eq (@pe_ix _ _ _ _ _ _ _ ix_str (pv 0) (pv 1) (fun _ _ => rfl)) pe_str (@nomark _ _ (by decide) (by decide))) (@pe_one _ _ _ _ _ (@pe_and _ _ _ _ _ _ _ (pv 2) (@pe_one _ _ _ _ _ (@pe_cmpR _ _ _ _ _ _ _ _ op_ne (@pe_ix _ _ _ _ _ _ _ ix_str (pv 0) (pv 1) (fun _ _ => rfl)) pe_str (@nomark _ _ (by decide) (by decide))))))) (by rfl) (by first | exact .inl rfl | exact .inr rfl | assumption)) (@pss_one _ _ _ (@ps_aug _ _ (1) _ _ _ _ _ _ sc_part_end.nd rfl (Or.inl rfl) pe_int ip_add (by first | exact .inl rfl | exact .inr rfl | assumption))))) (@pss_one _ _ _ (@ps_ret _ _ _ _ (pv 1)))))), ?_⟩
  obtain ⟨c, hd, hc⟩ := at' i hi
  refine ⟨_, rfl, _, rfl, _, _, c, rfl, rfl, zl, hc, _, _, rfl, rfl, _, rfl, ?_⟩
  refine ite2 (fun cc => ?_) (fun cc => ?_)
  · have h5 : c ∈ Rd.sg5 := Classical.byContradiction fun n => Bool.false_ne_true ((Rd.not_sign (z := ⟨#[c]⟩) (c := c) (r := []) rfl n).symm.trans cc)
    refine ⟨_, rfl, _, _, rfl, rfl, ?_⟩
    rw [hd, Rd.pend, if_pos h5] at q
    exact q
  have h5 : c ∉ Rd.sg5 := fun n => cc (Rd.is_sign n)
  have ep : Rd.pend ((cds z).drop i) = Rd.scan false ((cds z).drop i) := by rw [hd, Rd.pend, if_neg h5]
  rw [ep] at q
  dsimp only [gName]
  refine ⟨fun m σ' H' => H' = H ∧ ∃ (j : Nat) (b : Bool), σ' = [some (.str z), some (.int ((i + j : Nat) : Int)), some (.bl b)] ∧ i + j ≤ (cds z).length ∧ m = (cds z).length - (i + j) ∧ Rd.scan false ((cds z).drop i) = j + Rd.scan b ((cds z).drop (i + j)), ⟨_, rfl, 0, false, rfl, by omega, rfl, by rw [Nat.zero_add, Nat.add_zero]⟩, ?_⟩
  rintro m σ' H' ⟨rfl, j, b, rfl, hj, rfl, hs⟩
  refine ⟨_, rfl, _, rfl, _, rfl, zl, _, _, rfl, rfl, _, rfl, ?_⟩
  refine ite2 (fun lt => ?_) (fun ge => ?_)
  · have lt : ((i + j : Nat) : Int) < ((z.length : Nat) : Int) := dT lt
    obtain ⟨d, hd2, hd3⟩ := at' (i + j) (by omega)
    rw [hd2] at hs
    have stp : (b = true ∨ d ∉ Rd.sg5) → Rd.scan false ((cds z).drop i) = (j + 1) + Rd.scan (Rd.ins b d) ((cds z).drop (i + (j + 1))) := fun hc2 => by
      rw [Rd.scan, if_pos hc2] at hs
      rw [hs, show i + (j + 1) = i + j + 1 by omega]
      omega
    have body : ∀ (D : Ends), (b = true ∨ d ∉ Rd.sg5) → ∃ N : St → Hp → Prop, (∀ σ' H'', N σ' H'' → ∃ m', m' < (cds z).length - (i + j) ∧ (H'' = H' ∧ ∃ (j : Nat) (b : Bool), σ' = [some (.str z), some (.int ((i + j : Nat) : Int)), some (.bl b)] ∧ i + j ≤ (cds z).length ∧ m' = (cds z).length - (i + j) ∧ Rd.scan false ((cds z).drop i) = j + Rd.scan b ((cds z).drop (i + j)))) ∧
        tSeq (tAsg (tOrV (tOp rEq (tOp rIxS (tVar 0) (tVar 1)) (tC (V.str (Str.ofString "[")))) (tAndV (tVar 2) (tOp rNe (tOp rIxS (tVar 0) (tVar 1)) (tC (V.str (Str.ofString "]")))))) (gName 2)) (tAug 1 (tC (V.int 1)) (ipI fun i j => i + j)) { D with nx := N, ct := N } [some (V.str z), some (V.int ((i + j : Nat) : Int)), some (V.bl b)] H' := fun D hc2 => by
      refine ⟨fun σ'' H'' => H'' = H' ∧ σ'' = [some (.str z), some (.int (((i + j : Nat) : Int) + 1)), some (.bl (Rd.ins b d))], fun σ'' H'' hN => ?_, ?_⟩
      · obtain ⟨rfl, rfl⟩ := hN
        exact ⟨_, (by omega : (cds z).length - (i + (j + 1)) < (cds z).length - (i + j)), rfl, j + 1, Rd.ins b d, rfl, by omega, rfl, stp hc2⟩
      · refine ⟨_, rfl, _, rfl, _, _, d, rfl, rfl, zl, hd3, rfl, _, rfl, ?_⟩
        have k1 : ∀ e : Nat, (V.str ⟨#[d]⟩ = V.str ⟨#[e]⟩) ↔ d = e := fun e => ⟨fun x => by injection x with x; injection x with x; simpa using x, fun x => by rw [x]⟩
        have fin : ∀ b', b' = Rd.ins b d → gName 2 (V.bl b') [some (V.str z), some (V.int ((i + j : Nat) : Int)), some (V.bl b)] H' fun σ2 H2 => tAug 1 (tC (V.int 1)) (ipI fun i j => i + j) { D with nx := fun σ'' H'' => H'' = H' ∧ σ'' = [some (.str z), some (.int (((i + j : Nat) : Int) + 1)), some (.bl (Rd.ins b d))], ct := fun σ'' H'' => H'' = H' ∧ σ'' = [some (.str z), some (.int (((i + j : Nat) : Int) + 1)), some (.bl (Rd.ins b d))] } σ2 H2 := fun b' eb => by
          subst eb
          dsimp only [gName]
          exact ⟨_, rfl, _, _, rfl, rfl, rfl, rfl⟩
        refine ite2 (fun c1 => ?_) (fun c1 => ?_)
        · refine fin true ?_
          have e : d = 91 := (k1 91).mp (dT c1)
          unfold Rd.ins
          rw [decide_eq_true e, Bool.true_or]
        · have e : d ≠ 91 := fun x => dF c1 ((k1 91).mpr x)
          refine ⟨_, rfl, b, rfl, ?_⟩
          refine ite2 (fun c2 => ?_) (fun c2 => ?_)
          · refine ⟨_, rfl, _, rfl, _, _, d, rfl, rfl, zl, hd3, rfl, fin _ ?_⟩
            unfold Rd.ins
            rw [decide_eq_false e, c2, Bool.false_or, Bool.true_and]
            show (!decide (V.str ⟨#[d]⟩ = V.str ⟨#[93]⟩)) = decide (d ≠ 93)
            rw [← decide_not]
            exact decide_eq_decide.mpr (not_congr (k1 93))
          · refine fin false ?_
            unfold Rd.ins
            rw [decide_eq_false e, Bool.eq_false_iff.mpr c2]
            rfl
    refine ⟨_, rfl, b, rfl, ?_⟩
    refine ite2 (fun hb => ?_) (fun hb => ?_)
    · exact body { nx := fun _ _ => True, rt := Q, bk := tRet (tVar 1) { nx := fun _ H' => Q V.non H', rt := Q } } (.inl hb)
    · refine ⟨_, rfl, _, rfl, _, _, d, rfl, rfl, zl, hd3, _, _, rfl, rfl, _, rfl, ?_⟩
      refine ite2 (fun c3 => ?_) (fun c3 => ?_)
      · exact body { nx := fun _ _ => True, rt := Q, bk := tRet (tVar 1) { nx := fun _ H' => Q V.non H', rt := Q } } (.inr fun n => by rw [Rd.is_sign n] at c3; cases c3)
      · have h6 : d ∈ Rd.sg5 := Classical.byContradiction fun n => c3 (by rw [Rd.not_sign (z := ⟨#[d]⟩) (c := d) (r := []) rfl n]; rfl)
        rw [Rd.scan, if_neg (fun x => x.elim hb fun y => y h6), Nat.add_zero] at hs
        rw [hs] at q
        exact ⟨_, rfl, q⟩
  · have ge : ¬ ((i + j : Nat) : Int) < ((z.length : Nat) : Int) := dF ge
    have nl : (cds z).drop (i + j) = [] := List.drop_eq_nil_of_le (by omega)
    rw [nl] at hs
    have hs : Rd.scan false ((cds z).drop i) = j := hs
    rw [hs] at q
    exact ⟨_, rfl, q⟩

theorem ok_cell_of (T : Tx w K mg a) : FnOk P w K mg base CX0 5 a.f_cell_of a.d_cell_of ["text"] (Rd.spCellOf (csOf a)) := by
  have G_is_name := ok_is_name (P := P) (w := w) (base := base) T
  have G_spot_of := ok_spot_of (P := P) (w := w) (base := base) T
  have G_Cell_init := ok_inic (P := P) (w := w) (base := base) T
  refine T.F_cell_of.ok sc_cell_of (fun vs H Q E h => ?_) (fun cdv A outer s H vs Q E hr h => ?_)
  · obtain ⟨_, _, rfl, _⟩ := h; rfl
  obtain ⟨z, sp, rfl, ok, q⟩ := h
  obtain ⟨hz, hne, hl3, hsp⟩ := ok
  have hcel := Rd.cel_cds (z := z) hne
  have hcl : (celS z sp).length ≤ 146 := celS_len (by have := hz.2.1; rw [cds_len] at this; omega) hl3 fun s hs => (hsp s hs).2
  have nz : 91 ∉ cds z := Rd.name_no hz (by omega)
  generalize hI : Rd.inner (sp.map fun s => cds (spS s)) = I at hcel
  have hp : partV 91 (cds (celS z sp)) = [.str z, .str ⟨#[91]⟩, .str (sOf (I ++ [93]))] := by
    unfold partV
    rw [hcel, if_pos (List.mem_append_right _ List.mem_cons_self), (Rd.bef_app nz).1, (Rd.bef_app nz).2, sOf_cds]
  have zl : z.length ≤ 1000 := by have := hz.2.1; rw [cds_len] at this; omega
  refine ⟨_, (@pss_cons _ _ _ _ _ (@ps_set _ _ (1) _ _ _ _ sc_cell_of.nd rfl (Or.inl rfl) (@pe_bm _ _ _ _ _ _ _ _ _ _ _ _ PySem.F.plainAttrs_str PySem.F.slot_str_partition PySem.F.type_str_partition mt_partition (pv 0) (@pa_cons _ _ _ _ _ pe_str pa_nil (by rfl)) (by rfl) (by rfl) (by rfl) (by rfl) (by rfl)) (by rfl) (by first | exact .inl rfl | exact .inr rfl | assumption)) (@pss_cons _ _ _ _ _ (@ps_if _ _ _ _ _ _ _ _ ((@pw_or _ _ _ _ _ _ _ (@pt_not _ _ _ _ (@pt_val _ _ _ (@pe_call _ _ _ _ _ _ _ _ _ _ _ _ _ _ _ _ G_is_name (hr.mono (by omega)) (by rfl) T.m_is_name T.F_is_name.kp T.b_is_name .nil pass0 (@pa_cons _ _ _ _ _ (@pe_ix _ _ _ _ _ _ _ ix_tup (pv 1) pe_int (fun _ _ => rfl)) pa_nil (by rfl)) (by decide) (by rfl) (by rfl)) (by intro _ ; rfl))) (@pw_or1 _ _ _ _ (@pt_not _ _ _ _ (@pt_val _ _ _ (@pe_bm _ _ _ _ _ _ _ _ _ _ _ _ PySem.F.plainAttrs_str PySem.F.slot_str_endswith PySem.F.type_str_endswith mt_endswith (@pe_ix _ _ _ _ _ _ _ ix_tup (pv 1) pe_int (fun _ _ => rfl)) (@pa_cons _ _ _ _ _ pe_str pa_nil (by rfl)) (by rfl) (by rfl) (by rfl) (by rfl) (by rfl)) (by intro _ ; rfl)))))).pt (@pss_one _ _ _ (@ps_ret _ _ _ _ pe_non)) pss_nil) (@pss_cons _ _ _ _ _ (@ps_set _ _ (2) _ _ _ _ sc_cell_of.nd rfl (Or.inl rfl) (@pe_callTy _ _ _ _ _ _ _ _ _ call_tuple_of (by rfl) T.z_tuple bt_tuple (@pa_cons _ _ _ _ _ (@pe_compB _ _ _ _ _ _ _ ["inner"] [none] _ _ _ _ (by rfl) (@pi_list _ _ _ _ (@pe_bm _ _ _ _ _ _ _ _ _ _ _ _ PySem.F.plainAttrs_str PySem.F.slot_str_split PySem.F.type_str_split mt_split (@pe_slice _ _ _ _ _ _ _ _ _ _ sl_str (@pe_ix _ _ _ _ _ _ _ ix_tup (pv 1) pe_int (fun _ _ => rfl)) po_none (@po_some _ _ _ (@pe_un _ _ _ _ _ _ un_neg pe_int))) (@pa_cons _ _ _ _ _ pe_str pa_nil (by rfl)) (by rfl) (by rfl) (by rfl) (by rfl) (by rfl))) c_cell_of_0 (fun _ _ _ _ _ _ => ⟨(pg_name (i := 0) c_cell_of_0n rfl (Or.inl rfl)), @pts_nil _, (@pe_call _ _ _ _ _ _ _ _ _ _ _ _ _ _ _ _ G_spot_of (hr.mono (by omega)) (by rfl) T.m_spot_of T.F_spot_of.kp T.b_spot_of .nil pass0 (@pa_cons _ _ _ _ _ (pv 0) pa_nil (by rfl)) (by decide) (by rfl) (by rfl))⟩) (by intro _ ; rfl)) pa_nil (by rfl)) (by decide) (by decide) (by rfl) (by rfl)) (by rfl) (by first | exact .inl rfl | exact .inr rfl | assumption)) (@pss_cons _ _ _ _ _ (@ps_if _ _ _ _ _ _ _ _ ((@pw_or _ _ _ _ _ _ _ (@pt_cmpR _ _ _ _ _ _ _ _ op_gt (@pe_callB _ _ _ _ _ _ _ _ _ call_len_seq (by rfl) T.z_len bt_len (@pa_cons _ _ _ _ _ (pv 2) pa_nil (by rfl)) (by decide) (by decide) (by rfl) (by rfl)) (@pe_glob _ _ _ _ _ (by rfl) T.g_MOST_SPOTS T.r_MOST_SPOTS (by decide)) (@nomark _ _ (by decide) (by decide))) (@pw_or1 _ _ _ _ (@pt_not _ _ _ _ (@pt_val _ _ _ (@pe_callB _ _ _ _ _ _ _ _ _ (@call_allB _ rfl) (by rfl) T.z_all bt_all (@pa_cons _ _ _ _ _ (@pe_compB _ _ _ _ _ _ _ ["spot"] [none] _ _ _ _ (by rfl) (@pi_tup _ _ _ _ (pv 2)) c_cell_of_1 (fun _ _ _ _ _ _ => ⟨(pg_name (i := 0) c_cell_of_1n rfl (Or.inl rfl)), @pts_nil _, (@pe_cmpR _ _ _ _ _ _ _ _ op_notN (pv 0) pe_non (@nomark _ _ (by decide) (by decide)))⟩) (by intro _ ; rfl)) pa_nil (by rfl)) (by decide) (by decide) (by rfl) (by rfl)) (by intro _ ; rfl)))))).pt (@pss_one _ _ _ (@ps_ret _ _ _ _ pe_non)) pss_nil) (@pss_one _ _ _ (@ps_ret _ _ _ _ (@pe_make _ _ _ _ _ _ _ _ _ _ _ _ _ _ _ _ _ T.mk_Cell G_Cell_init (hr.mono (by omega)) (by rfl) T.mc_Cell T.b_Cell_init .nil pass0 (@pa_cons _ _ _ _ _ (@pe_ix _ _ _ _ _ _ _ ix_tup (pv 1) pe_int (fun _ _ => rfl)) (@pa_cons _ _ _ _ _ (pv 2) pa_nil (by rfl)) (by rfl)) (by decide) (by rfl) (by rfl)))))))), ?_⟩
  refine ⟨_, rfl, rfl, _, 91, rfl, rfl, szl (by omega), fun r hr' => ?_⟩
  rw [hp]
  dsimp only [gName]
  refine ⟨_, rfl, r, _, _, _, rfl, rfl, SqT.of upd_same, rfl, z, rfl, zl, fun H2 e2 => ⟨_, rfl, ?_⟩⟩
  rw [decide_eq_true hz]
  refine iteF ?_
  have hr2 := e2 _ _ (upd_same (H := H))
  refine ⟨_, rfl, r, _, _, _, rfl, rfl, SqT.of hr2, rfl, rfl, _, 93, rfl, rfl, _, rfl, ?_⟩
  have lst : (cds (sOf (I ++ [93]))).getLast? = some 93 := by rw [cds_sOf, List.getLast?_concat]
  rw [decide_eq_true lst]
  refine iteF ?_
  have hIl : (sOf (I ++ [93])).length ≤ 146 := by
    have e := congrArg List.length hcel
    rw [cds_len, List.length_append, List.length_cons] at e
    rw [len_sOf]
    omega
  refine ⟨_, rfl, r, _, _, _, rfl, rfl, SqT.of hr2, rfl, _, rfl, _, rfl, _, rfl, szl (by omega), rfl, _, _, rfl, rfl, by decide +kernel, ?_, ?_, fun lp ps hlp hs => ?_⟩
  · have e : cds (Str.ofString "][") = [93, 91] := by decide +kernel
    rw [e]
    intro c hc
    simp only [List.mem_cons, List.not_mem_nil, or_false] at hc
    omega
  · rw [cds_sOf, Rd.cut_last, len_sOf]
    rw [len_sOf, List.length_append] at hIl
    omega
  have hps : ps.map cds = sp.map fun s => cds (spS s) := by
    have e : cds (Str.ofString "][") = [93, 91] := by decide +kernel
    rw [e, cds_sOf, cds_sOf, Rd.cut_last, ← hI] at hs
    refine hs.fn (Rd.inner_split (by simpa using hne) fun x hx => ?_)
    obtain ⟨s, hs', rfl⟩ := List.mem_map.mp hx
    exact Rd.spot_free (hsp s hs') (by omega)
  have psl : ps.length = sp.length := by have := congrArg List.length hps; simpa using this
  have H3s := same_new hlp (.lst (ps.map V.str))
  refine ⟨lp, rfl, ⟨_, SqL.of upd_same⟩, ?_⟩
  refine comp_list (xs := ps.map V.str) (fun i ys H' => Same (upd H2 lp (.lst (ps.map V.str))) H' ∧ All2 (SpoAt H') ys (sp.take i) ∧ i ≤ sp.length) ⟨Same.refl _, ⟨rfl, fun _ _ _ x => by cases x⟩, Nat.zero_le _⟩ (szl (by rw [List.length_map]; omega)) (fun i ys H' hi p => ?_) (fun i x ys H' hc p => ?_) (fun ys H' p t ht => ?_)
  · exact ⟨SqL.of (p.1 _ _ upd_same), by rw [p.2.1.1, List.length_take]; omega⟩
  · obtain ⟨pe, pa, pi⟩ := p
    rw [List.getElem?_map] at hc
    cases hy : ps[i]? with
    | none => rw [hy] at hc; cases hc
    | some y =>
      rw [hy] at hc
      cases hc
      have hil : i < sp.length := by rw [← psl]; exact (List.getElem?_eq_some_iff.mp hy).1
      have ey : cds y = cds (spS sp[i]) := by
        have e := congrArg (fun l : List (List Nat) => l[i]?) hps
        simp only [List.getElem?_map, hy, List.getElem?_eq_getElem hil, Option.map_some] at e
        exact Option.some.inj e
      have hn := hsp sp[i] (List.getElem_mem hil)
      refine ⟨_, rfl, y, rfl, ?_, ?_⟩
      · have := spS_len hn.2
        rw [← cds_len] at this ⊢
        rw [ey]
        omega
      rw [ey, Rd.spot_read hn]
      intro r5 H5 e5 h5
      rw [sOf_cds] at h5
      refine ⟨pe.trans e5, ?_, hil⟩
      rw [take_snoc (List.getElem?_eq_getElem hil)]
      exact (pa.mono fun _ _ x => x.tk (Same.tk e5)).snoc ⟨r5, rfl, h5⟩
  obtain ⟨pe, pa, -⟩ := p
  rw [List.length_map, psl, List.take_length] at pa
  refine ⟨t, ys, rfl, .inl ⟨SqL.of upd_same, fun tp htp => ?_⟩⟩
  dsimp only [gName]
  have s4 : Same H (upd (upd H' t (.lst ys)) tp (.tup ys)) := (same_new hr' _).trans (e2.trans (H3s.trans (pe.trans ((same_new ht _).trans (same_new htp _)))))
  have pa4 : All2 (SpoAt (upd (upd H' t (.lst ys)) tp (.tup ys))) ys sp := pa.mono fun _ _ x => x.tk (Same.tk ((same_new ht _).trans (same_new htp _)))
  have htp4 : (upd (upd H' t (.lst ys)) tp (.tup ys)) tp = some (.tup ys) := upd_same
  have hr4 : (upd (upd H' t (.lst ys)) tp (.tup ys)) r = some (.tup [.str z, .str ⟨#[91]⟩, .str (sOf (I ++ [93]))]) := ((same_new ht _).trans (same_new htp _)) _ _ (pe _ _ (H3s _ _ hr2))
  generalize upd (upd H' t (.lst ys)) tp (.tup ys) = H4 at s4 pa4 htp4 hr4
  have yl : ys.length = sp.length := pa.1
  refine ⟨_, rfl, tp, ys, rfl, .inr (SqT.of htp4), _, _, rfl, rfl, _, rfl, ?_⟩
  have nl : decide ((3 : Int) < ((ys.length : Nat) : Int)) = false := decide_eq_false (by omega)
  rw [nl]
  refine iteF ?_
  refine ⟨_, rfl, tp, rfl, ⟨_, SqT.of htp4⟩, ?_⟩
  refine comp_tup (xs := ys) (fun i bs H' => H' = H4 ∧ bs = (List.replicate i true).map V.bl) ⟨rfl, rfl⟩ (szl (by omega)) (fun i bs H' hi p => ?_) (fun i x bs H' hc p => ?_) (fun bs H' p t5 ht5 => ?_)
  · obtain ⟨rfl, rfl⟩ := p
    exact ⟨SqT.of htp4, by simp⟩
  · obtain ⟨rfl, rfl⟩ := p
    have hil : i < sp.length := by rw [← yl]; exact (List.getElem?_eq_some_iff.mp hc).1
    obtain ⟨t6, rfl, _⟩ := pa4.2 i x sp[i] hc (List.getElem?_eq_getElem hil)
    refine ⟨_, rfl, rfl, rfl, ?_⟩
    rw [List.replicate_succ', List.map_append]
    rfl
  obtain ⟨rfl, rfl⟩ := p
  refine ⟨t5, _, rfl, SqL.of upd_same, _, rfl, ?_⟩
  have al : (List.replicate ys.length true).all id = true := by simp
  rw [al]
  refine iteF ?_
  have s5 := same_new ht5 (.lst ((List.replicate ys.length true).map V.bl))
  refine ⟨_, rfl, r, _, 0, _, rfl, rfl, SqT.of (s5 _ _ hr4), rfl, _, rfl, fun x dx nx ndx ne => ⟨x, dx, [_, _], rfl, rfl, upd_same, fun H6 k6 hx6 => ⟨rfl, ?_⟩⟩⟩
  obtain ⟨dx6, hx6⟩ := hx6
  have e6 := made_same nx ndx k6
  exact q _ _ (s4.trans (s5.trans e6)) ⟨x, dx6, tp, rfl, hx6, ys, (s5.trans e6) _ _ htp4, pa4.mono fun _ _ x => x.tk (Same.tk (s5.trans e6))⟩

theorem ok_part_of (T : Tx w K mg a) : FnOk P w K mg base CX0 6 a.f_part_of a.d_part_of ["text"] (Rd.spPartOf (csOf a)) := by
  have G_is_name := ok_is_name (P := P) (w := w) (base := base) T
  have G_number_of := ok_number_of (P := P) (w := w) (base := base) T
  have G_cell_of := ok_cell_of (P := P) (w := w) (base := base) T
  have G_Value_init := ok_iniv (P := P) (w := w) (base := base) T
  have G_Number_init := ok_inin (P := P) (w := w) (base := base) T
  refine T.F_part_of.ok sc_part_of (fun vs H Q E h => ?_) (fun cdv A outer s H vs Q E hr h => ?_)
  · obtain ⟨_, rfl, _⟩ := h; rfl
  obtain ⟨k, rfl, ok, q⟩ := h
  refine ⟨_, (@pss_cons _ _ _ _ _ (@ps_if _ _ _ _ _ _ _ _ (@pt_cmpR _ _ _ _ _ _ _ _ op_in_str (pv 0) (@pe_glob _ _ _ _ _ (by rfl) T.g_SIGNS T.r_SIGNS (by decide)) (by with_unfolding_all rfl)) (@pss_one _ _ _ (@ps_ret _ _ _ _ (pv 0))) pss_nil) (@pss_cons _ _ _ _ _ (@ps_if _ _ _ _ _ _ _ _ (@pt_val _ _ _ (@pe_call _ _ _ _ _ _ _ _ _ _ _ _ _ _ _ _ G_is_name (hr.mono (by omega)) (by rfl) T.m_is_name T.F_is_name.kp T.b_is_name .nil pass0 (@pa_cons _ _ _ _ _ (pv 0) pa_nil (by rfl)) (by decide) (by rfl) (by rfl)) (by intro _ ; rfl)) (@pss_one _ _ _ (@ps_ret _ _ _ _ (@pe_make _ _ _ _ _ _ _ _ _ _ _ _ _ _ _ _ _ T.mk_Value G_Value_init (hr.mono (by omega)) (by rfl) T.mc_Value T.b_Value_init .nil pass0 (@pa_cons _ _ _ _ _ (pv 0) pa_nil (by rfl)) (by decide) (by rfl) (by rfl)))) pss_nil) (@pss_cons _ _ _ _ _ (@ps_set _ _ (1) _ _ _ _ sc_part_of.nd rfl (Or.inl rfl) (@pe_call _ _ _ _ _ _ _ _ _ _ _ _ _ _ _ _ G_number_of (hr.mono (by omega)) (by rfl) T.m_number_of T.F_number_of.kp T.b_number_of .nil pass0 (@pa_cons _ _ _ _ _ (pv 0) pa_nil (by rfl)) (by decide) (by rfl) (by rfl)) (by rfl) (by first | exact .inl rfl | exact .inr rfl | assumption)) (@pss_cons _ _ _ _ _ (@ps_if _ _ _ _ _ _ _ _ (@pt_cmpR _ _ _ _ _ _ _ _ op_notN (pv 1) pe_non (@nomark _ _ (by decide) (by decide))) (@pss_one _ _ _ (@ps_ret _ _ _ _ (@pe_make _ _ _ _ _ _ _ _ _ _ _ _ _ _ _ _ _ T.mk_Number G_Number_init (hr.mono (by omega)) (by rfl) T.mc_Number T.b_Number_init .nil pass0 (@pa_cons _ _ _ _ _ (pv 1) pa_nil (by rfl)) (by decide) (by rfl) (by rfl)))) pss_nil) (@pss_one _ _ _ (@ps_ret _ _ _ _ (@pe_call _ _ _ _ _ _ _ _ _ _ _ _ _ _ _ _ G_cell_of (hr.mono (by omega)) (by rfl) T.m_cell_of T.F_cell_of.kp T.b_cell_of .nil pass0 (@pa_cons _ _ _ _ _ (pv 0) pa_nil (by rfl)) (by decide) (by rfl) (by rfl)))))))), ?_⟩
  refine ⟨_, rfl, _, _, rfl, rfl, _, rfl, ?_⟩
  cases k with
  | s c =>
    have e := Rd.is_sign ok
    refine ite2 (fun _ => ⟨_, rfl, q _ _ (Same.refl _) rfl⟩) (fun n => absurd e n)
  | t w =>
    obtain ⟨c, r, ec, hc⟩ := (Rd.Tk.whole ok).head
    have e := Rd.not_sign ec hc
    refine ite2 (fun y => absurd (e.symm.trans y) Bool.false_ne_true) (fun _ => ?_)
    cases w with
    | j _ _ _ => exact ok.elim
    | v z =>
      have hn : NameOk (cds z) := ok
      refine ⟨_, rfl, z, rfl, ?_, fun H1 e1 => ⟨_, rfl, ?_⟩⟩
      · have := hn.2.1; rw [cds_len] at this; omega
      refine ite2 (fun _ => ?_) (fun n => absurd (decide_eq_true hn) n)
      refine ⟨_, rfl, fun x dx nx ndx ne => ⟨x, dx, [_], rfl, rfl, upd_same, fun H2 k2 hx2 => ⟨rfl, ?_⟩⟩⟩
      obtain ⟨dx2, hx2⟩ := hx2
      exact q _ _ (e1.trans (made_same nx ndx k2)) ⟨x, dx2, rfl, hx2⟩
    | n i =>
      obtain ⟨g, d⟩ := Rd.nS_good ok.1 ok.2
      have l18 : (nS i).length ≤ 1000 := by have := g.2.1; rw [cds_len] at this; omega
      refine ⟨_, rfl, nS i, rfl, l18, fun H1 e1 => ⟨_, rfl, ?_⟩⟩
      refine ite2 (fun y => absurd (dT y) (Rd.num_name g)) (fun _ => ?_)
      refine ⟨_, rfl, nS i, rfl, l18, fun H2 e2 => ?_⟩
      rw [numV_good g, d]
      dsimp only [gName]
      refine ⟨_, rfl, rfl, _, rfl, ?_⟩
      refine ite2 (fun _ => ?_) (fun n => absurd rfl n)
      refine ⟨_, rfl, fun x dx nx ndx ne => ⟨x, dx, [_], rfl, rfl, upd_same, fun H3 k3 hx3 => ⟨rfl, ?_⟩⟩⟩
      obtain ⟨dx3, hx3⟩ := hx3
      exact q _ _ (e1.trans (e2.trans (made_same nx ndx k3))) ⟨x, dx3, rfl, hx3⟩
    | c z sp =>
      have ok' := ok
      obtain ⟨hz, hne, hl3, hsp⟩ := ok
      have hcel := Rd.cel_cds (z := z) hne
      have hcl : (celS z sp).length ≤ 146 := celS_len (by have := hz.2.1; rw [cds_len] at this; omega) hl3 fun s hs => (hsp s hs).2
      have m91 : (91 : Nat) ∈ cds (celS z sp) := by rw [hcel]; exact List.mem_append_right _ List.mem_cons_self
      refine ⟨_, rfl, celS z sp, rfl, by omega, fun H1 e1 => ⟨_, rfl, ?_⟩⟩
      refine ite2 (fun y => absurd (dT y) (noName m91 (by omega))) (fun _ => ?_)
      refine ⟨_, rfl, celS z sp, rfl, by omega, fun H2 e2 => ?_⟩
      rw [numV_bad (noNum m91 (by omega))]
      dsimp only [gName]
      refine ⟨_, rfl, rfl, _, rfl, ?_⟩
      refine ite2 (fun y => absurd y (by decide)) (fun _ => ?_)
      exact ⟨_, rfl, z, sp, rfl, ok', fun x H3 e3 hx => q _ _ (e1.trans (e2.trans e3)) hx⟩

theorem ok_parts_of (T : Tx w K mg a) : FnOk P w K mg base CX0 7 a.f_parts_of a.d_parts_of ["text"] (Rd.spPartsOf (csOf a)) := by
  have G_part_end := ok_part_end (P := P) (w := w) (base := base) T
  have G_part_of := ok_part_of (P := P) (w := w) (base := base) T
  refine T.F_parts_of.ok sc_parts_of (fun vs H Q E h => ?_) (fun cdv A outer s H vs Q E hr h => ?_)
  · obtain ⟨_, _, rfl, _⟩ := h; rfl
  obtain ⟨z, ks, rfl, hz, zl, ok, ad, q⟩ := h
  have hlen := cds_len z
  refine ⟨_, (@pss_cons _ _ _ _ _ (@ps_set _ _ (1) _ _ _ _ sc_parts_of.nd rfl (Or.inl rfl) (@pe_lst _ _ _ _ pa_nil) (by rfl) (by first | exact .inl rfl | exact .inr rfl | assumption)) (@pss_cons _ _ _ _ _ (@ps_set _ _ (2) _ _ _ _ sc_parts_of.nd rfl (Or.inl rfl) pe_int (by rfl) (by first | exact .inl rfl | exact .inr rfl | assumption)) (@pss_cons _ _ _ _ _ (@ps_while _ _ _ _ _ _ PassesOwn.never (@pt_cmpR _ _ _ _ _ _ _ _ op_lt (pv 2) (@pe_callB _ _ _ _ _ _ _ _ _ call_len_str (by rfl) T.z_len bt_len (@pa_cons _ _ _ _ _ (pv 0) pa_nil (by rfl)) (by decide) (by decide) (by rfl) (by rfl)) (@nomark _ _ (by decide) (by decide))) (@pss_cons _ _ _ _ _ (@ps_set _ _ (3) _ _ _ _ sc_parts_of.nd rfl (Or.inl rfl) (@pe_call _ _ _ _ _ _ _ _ _ _ _ _ _ _ _ _ G_part_end (hr.mono (by omega)) (by rfl) T.m_part_end T.F_part_end.kp T.b_part_end .nil pass0 (@pa_cons _ _ _ _ _ (pv 0) (@pa_cons _ _ _ _ _ (pv 2) pa_nil (by rfl)) (by rfl)) (by decide) (by rfl) (by rfl)) (by rfl) (by first | exact .inl rfl | exact .inr rfl | assumption)) (@pss_cons _ _ _ _ _ (@ps_set _ _ (4) _ _ _ _ sc_parts_of.nd rfl (Or.inl rfl) (@pe_call _ _ _ _ _ _ _ _ _ _ _ _ _ _ _ _ G_part_of (hr.mono (by omega)) (by rfl) T.m_part_of T.F_part_of.kp T.b_part_of .nil pass0 (@pa_cons _ _ _ _ _ (@pe_slice _ _ _ _ _ _ _ _ _ _ sl_str (pv 0) (@po_some _ _ _ (pv 2)) (@po_some _ _ _ (pv 3))) pa_nil (by rfl)) (by decide) (by rfl) (by rfl)) (by rfl) (by first | exact .inl rfl | exact .inr rfl | assumption)) (@pss_cons _ _ _ _ _ (@ps_if _ _ _ _ _ _ _ _ (@pt_cmpR _ _ _ _ _ _ _ _ op_isN (pv 4) pe_non (@nomark _ _ (by decide) (by decide))) (@pss_one _ _ _ (@ps_ret _ _ _ _ pe_non)) pss_nil) (@pss_cons _ _ _ _ _ (@ps_expr _ _ _ _ (@pe_bm _ _ _ _ _ _ _ _ _ _ _ _ PySem.F.plainAttrs_list PySem.F.slot_list_append PySem.F.type_list_append mt_append (pv 1) (@pa_cons _ _ _ _ _ (pv 4) pa_nil (by rfl)) (by rfl) (by rfl) (by rfl) (by rfl) (by rfl)) (by rfl)) (@pss_one _ _ _ (@ps_set _ _ (2) _ _ _ _ sc_parts_of.nd rfl (Or.inl rfl) (pv 3) (by rfl) (by first | exact .inl rfl | exact .inr rfl | assumption)))))))) (@pss_one _ _ _ (@ps_ret _ _ _ _ (pv 1)))))), ?_⟩
  refine ⟨szl (by show 0 ≤ 1000000; decide), fun l hl => ?_⟩
  dsimp only [gName]
  refine ⟨fun m σ' H' => ∃ (j i : Nat) (xs : List V) (o3 o4 : Option V), σ' = [some (.str z), some (.ref l), some (.int (i : Int)), o3, o4] ∧ j ≤ ks.length ∧ m = ks.length - j ∧ (cds z).drop i = Rd.txts (ks.drop j) ∧ i ≤ (cds z).length ∧ xs.length ≤ i ∧ Same H H' ∧ H' l = some (.lst xs) ∧ All2 (Rd.PtAt (csOf a) H') xs (ks.take j), ⟨_, 0, 0, [], none, none, rfl, Nat.zero_le _, rfl, hz, Nat.zero_le _, Nat.zero_le _, same_new hl _, upd_same, rfl, fun _ _ _ x => by cases x⟩, ?_⟩
  rintro m σ' H1 ⟨j, i, xs, o3, o4, rfl, hj, rfl, hd, hi, hxl, e1, hl1, pa⟩
  refine ⟨_, rfl, _, rfl, _, rfl, szl (by omega), _, _, rfl, rfl, _, rfl, ?_⟩
  refine ite2 (fun lt => ?_) (fun ge => ?_)
  · have lt : ((i : Nat) : Int) < ((z.length : Nat) : Int) := dT lt
    have jl : j < ks.length := Classical.byContradiction fun n => by
      have nk : ks.drop j = [] := List.drop_eq_nil_of_le (by omega)
      rw [nk] at hd
      have := congrArg List.length hd
      rw [List.length_drop] at this
      have : (cds z).length - i = 0 := this
      omega
    have ed := List.drop_eq_getElem_cons jl
    rw [ed, Rd.txts_cons] at hd
    have okj := ok ks[j] (List.getElem_mem jl)
    obtain ⟨hp, hp1⟩ := Rd.pend_cons okj (l := ks.drop (j + 1)) (fun x hx => ok x (List.mem_of_mem_drop hx)) (by rw [← ed]; exact Rd.adj_drop j ad)
    have hle : i + (cds (ks[j]).txt).length ≤ (cds z).length := by
      have := congrArg List.length hd
      rw [List.length_drop, List.length_append] at this
      omega
    refine ⟨fun σ' H' => ∃ m', m' < ks.length - j ∧ ∃ (j i : Nat) (xs : List V) (o3 o4 : Option V), σ' = [some (.str z), some (.ref l), some (.int (i : Int)), o3, o4] ∧ j ≤ ks.length ∧ m' = ks.length - j ∧ (cds z).drop i = Rd.txts (ks.drop j) ∧ i ≤ (cds z).length ∧ xs.length ≤ i ∧ Same H H' ∧ H' l = some (.lst xs) ∧ All2 (Rd.PtAt (csOf a) H') xs (ks.take j), fun σ' H' x => x, ?_⟩
    refine ⟨_, rfl, _, rfl, z, i, rfl, by omega, zl, ?_⟩
    rw [hd, hp]
    dsimp only [gName]
    have ecut : sOf (cutC (cds z) (some ((i : Nat) : Int)) (some ((i + (cds (ks[j]).txt).length : Nat) : Int))) = (ks[j]).txt := by
      rw [cut_mid _ (by omega) (by omega) (by omega) (by omega)]
      rw [show (((i : Nat) : Int)).toNat = i by omega, show (((i + (cds (ks[j]).txt).length : Nat) : Int)).toNat - i = (cds (ks[j]).txt).length by omega, hd, List.take_left, sOf_cds]
    refine ⟨_, rfl, _, rfl, _, rfl, _, rfl, _, rfl, _, rfl, szl (by omega), ?_⟩
    rw [ecut]
    refine ⟨ks[j], rfl, okj, fun x H2 e2 hx => ?_⟩
    dsimp only [gName]
    refine ⟨_, rfl, rfl, _, rfl, ?_⟩
    refine ite2 (fun y => absurd (dT y) (hx.some okj)) (fun _ => ?_)
    have hl2 := e2 _ _ hl1
    have nl := Rd.NL.upd (ys := xs ++ [x]) hl2
    refine ⟨_, rfl, .inl ⟨rfl, _, SqL.of hl2⟩, _, rfl, l, _, _, rfl, rfl, hl2, szlt (by omega), _, rfl, ?_⟩
    refine ⟨ks.length - (j + 1), by omega, j + 1, i + (cds (ks[j]).txt).length, xs ++ [x], _, _, rfl, jl, rfl, ?_, hle, by rw [List.length_append, List.length_singleton]; omega, ?_, upd_same, ?_⟩
    · rw [← List.drop_drop, hd, List.drop_left]
    · exact fun b o e => by rw [upd_ne (ne_of_none e hl)]; exact e2 _ _ (e1 b o e)
    · rw [take_snoc (List.getElem?_eq_getElem jl)]
      exact (pa.mono fun _ _ y => (y.over e2).nl nl).snoc (hx.nl nl)
  · have ge : ¬ ((i : Nat) : Int) < ((z.length : Nat) : Int) := dF ge
    have nl : (cds z).drop i = [] := List.drop_eq_nil_of_le (by omega)
    rw [nl] at hd
    have jl : j = ks.length := Classical.byContradiction fun n => by
      have jl : j < ks.length := by omega
      have ed := List.drop_eq_getElem_cons jl
      rw [ed, Rd.txts_cons] at hd
      have hp1 := (Rd.pend_cons (ok ks[j] (List.getElem_mem jl)) (l := ks.drop (j + 1)) (fun x hx => ok x (List.mem_of_mem_drop hx)) (by rw [← ed]; exact Rd.adj_drop j ad)).2
      have := congrArg List.length hd
      rw [List.length_append] at this
      have : 0 = (cds (ks[j]).txt).length + (Rd.txts (ks.drop (j + 1))).length := this
      omega
    subst jl
    rw [List.take_length] at pa
    exact ⟨_, rfl, q l xs H1 e1 hl hl1 pa⟩

theorem ok_join_waiting (T : Tx w K mg a) : FnOk P w K mg base CX0 3 a.f_join_waiting a.d_join_waiting ["terms", "signs", "least"] (Rd.spJoinW (csOf a)) := by
  have G_Joined_init := ok_inij (P := P) (w := w) (base := base) T
  refine T.F_join_waiting.ok sc_join_waiting (fun vs H Q E h => ?_) (fun cdv A outer s H vs Q E hr h => ?_)
  · obtain ⟨_, _, _, _, _, _, _, rfl, _⟩ := h; rfl
  obtain ⟨l, r, ts, ss, Tt, S, k, rfl, lr, k1, hl, hr', pa, es, hS, hn, h1000, q⟩ := h
  subst es
  refine ⟨_, (@pss_one _ _ _ (@ps_while _ _ _ _ _ _ PassesOwn.never ((@pw_and _ _ _ _ _ _ _ (@pt_cmpR _ _ _ _ _ _ _ _ (@op_neE _ (@hu64 _ _ hr)) (pv 1) (@pe_lst _ _ _ _ pa_nil) (@nomark _ _ (by decide) (by decide))) (@pw_and1 _ _ _ _ (@pt_cmpR _ _ _ _ _ _ _ _ op_ge (@pe_kget _ _ _ _ _ _ (@pe_glob _ _ _ _ _ (by rfl) T.g_STRENGTHS T.r_STRENGTHS (by decide)) (@pe_ix _ _ _ _ _ _ _ ix_list (pv 1) (@pe_un _ _ _ _ _ _ un_neg pe_int) (fun _ _ => rfl)) (fun _ _ => rfl)) (pv 2) (@nomark _ _ (by decide) (by decide)))))).pt (@pss_cons _ _ _ _ _ (@ps_set _ _ (3) _ _ _ _ sc_join_waiting.nd rfl (Or.inl rfl) (@pe_bm0 _ _ _ _ _ _ _ _ _ PySem.F.plainAttrs_list PySem.F.slot_list_pop PySem.F.type_list_pop mt_pop (pv 0) (by rfl) (by rfl)) (by rfl) (by first | exact .inl rfl | exact .inr rfl | assumption)) (@pss_cons _ _ _ _ _ (@ps_set _ _ (4) _ _ _ _ sc_join_waiting.nd rfl (Or.inl rfl) (@pe_bm0 _ _ _ _ _ _ _ _ _ PySem.F.plainAttrs_list PySem.F.slot_list_pop PySem.F.type_list_pop mt_pop (pv 0) (by rfl) (by rfl)) (by rfl) (by first | exact .inl rfl | exact .inr rfl | assumption)) (@pss_one _ _ _ (@ps_expr _ _ _ _ (@pe_bm _ _ _ _ _ _ _ _ _ _ _ _ PySem.F.plainAttrs_list PySem.F.slot_list_append PySem.F.type_list_append mt_append (pv 0) (@pa_cons _ _ _ _ _ (@pe_make _ _ _ _ _ _ _ _ _ _ _ _ _ _ _ _ _ T.mk_Joined G_Joined_init (hr.mono (by omega)) (by rfl) T.mc_Joined T.b_Joined_init .nil pass0 (@pa_cons _ _ _ _ _ (@pe_bm0 _ _ _ _ _ _ _ _ _ PySem.F.plainAttrs_list PySem.F.slot_list_pop PySem.F.type_list_pop mt_pop (pv 1) (by rfl) (by rfl)) (@pa_cons _ _ _ _ _ (pv 4) (@pa_cons _ _ _ _ _ (pv 3) pa_nil (by rfl)) (by rfl)) (by rfl)) (by decide) (by rfl) (by rfl)) pa_nil (by rfl)) (by rfl) (by rfl) (by rfl) (by rfl) (by rfl)) (by rfl))))))), ?_⟩
  refine ⟨fun m σ' H' => ∃ (ts : List V) (T' : List Tw) (S' : List Nat) (o3 o4 : Option V), σ' = [some (.ref l), some (.ref r), some (.int (k : Int)), o3, o4] ∧ m = S'.length ∧ Rd.B2 l r H H' ∧ H' l = some (.lst ts) ∧ H' r = some (.lst (S'.reverse.map fun a => V.str (Rd.sg a))) ∧ All2 (fun v t => TbAt (csOf a) H' t v) ts T'.reverse ∧ (∀ a ∈ S', a ∈ Rd.sg5 ∧ a ≠ 41) ∧ Rd.nb S' < T'.length ∧ T'.length ≤ 1000 ∧ Rd.jw k S' T' = Rd.jw k S Tt, ⟨_, ts, Tt, S, none, none, rfl, rfl, fun b o e _ _ => e, hl, hr', pa, hS, hn, h1000, rfl⟩, ?_⟩
  rintro m σ' H1 ⟨ts1, T1, S1, o3, o4, rfl, rfl, b1, hl1, hr1, pa1, hS1, hn1, l1, ej⟩
  refine ⟨_, rfl, szl (by show 0 ≤ 1000000; decide), fun e0 he0 => ?_⟩
  have r1 : (upd H1 e0 (.lst [])) r = some (.lst (S1.reverse.map fun a => V.str (Rd.sg a))) := by rw [upd_ne (ne_of_none hr1 he0)]; exact hr1
  have l1' : (upd H1 e0 (.lst [])) l = some (.lst ts1) := by rw [upd_ne (ne_of_none hl1 he0)]; exact hl1
  have b2 : Rd.B2 l r H (upd H1 e0 (.lst [])) := fun b o e n1 n2 => same_new he0 _ _ _ (b1 b o e n1 n2)
  have pa2 : All2 (fun v t => TbAt (csOf a) (upd H1 e0 (.lst [])) t v) ts1 T1.reverse := pa1.mono fun _ _ x => TbAt.over (same_new he0 _) x
  have he2 : (upd H1 e0 (.lst [])) e0 = some (.lst []) := upd_same
  generalize upd H1 e0 (.lst []) = H2 at r1 l1' b2 pa2 he2
  refine ⟨r, e0, _, rfl, rfl, SqL.of r1, SqL.of he2, _, rfl, ?_⟩
  have fin : Rd.jw k S1 T1 = (T1, S1) → Q .non H2 := fun hj => q ts1 _ H2 b2 l1' r1 (by rw [← ej, hj]; exact pa2) (by rw [← ej, hj])
  cases S1 with
  | nil =>
    refine ite2 (fun y => absurd y (by decide)) (fun _ => ?_)
    exact ite2 (fun y => absurd y Bool.false_ne_true) (fun _ => fin (by cases T1 <;> rfl))
  | cons c S2 =>
    refine ite2 (fun _ => ?_) (fun y => absurd (by simp) y)
    have hc := hS1 c List.mem_cons_self
    have er : (c :: S2).reverse.map (fun a => V.str (Rd.sg a)) = S2.reverse.map (fun a => V.str (Rd.sg a)) ++ [.str (Rd.sg c)] := by rw [List.reverse_cons, List.map_append]; rfl
    rw [er] at r1
    refine ⟨_, rfl, _, rfl, r, _, _, _, rfl, rfl, SqL.of r1, atI_last _ _, a.u_STRENGTHS, Rd.strV, .inr (Rd.sg c), _, rfl, T.d_STRENGTHS P, rfl, Rd.st_val hc, _, rfl, _, _, rfl, rfl, _, rfl, ?_⟩
    refine ite2 (fun ge => ?_) (fun lt => fin (Rd.jw_no (by have := dF lt; omega)))
    have ge : (k : Int) ≤ ((Rd.st c : Nat) : Int) := dT ge
    have n40 : c ≠ 40 := fun z => by subst z; exact absurd ge (by show ¬ (k : Int) ≤ 0; omega)
    rw [Rd.nb_cons n40] at hn1
    match T1, hn1, l1, ej, pa2, fin with
    | [], hn1, _, _, _, _ => exact absurd hn1 (by show ¬ _ < 0; omega)
    | [_], hn1, _, _, _, _ => exact absurd hn1 (by show ¬ _ < 1; omega)
    | t2 :: t1 :: T2, hn1, l1, ej, pa2, _ =>
      rw [Rd.jw_yes (by omega)] at ej
      rw [List.reverse_cons, List.reverse_cons] at pa2
      obtain ⟨u1, x2, rfl, pa3, hx2⟩ := Rd.all2_pop pa2
      obtain ⟨u2, x1, rfl, pa4, hx1⟩ := Rd.all2_pop pa3
      refine ⟨fun σ' H' => ∃ m', m' < (c :: S2).length ∧ ∃ (ts : List V) (T' : List Tw) (S' : List Nat) (o3 o4 : Option V), σ' = [some (.ref l), some (.ref r), some (.int (k : Int)), o3, o4] ∧ m' = S'.length ∧ Rd.B2 l r H H' ∧ H' l = some (.lst ts) ∧ H' r = some (.lst (S'.reverse.map fun a => V.str (Rd.sg a))) ∧ All2 (fun v t => TbAt (csOf a) H' t v) ts T'.reverse ∧ (∀ a ∈ S', a ∈ Rd.sg5 ∧ a ≠ 41) ∧ Rd.nb S' < T'.length ∧ T'.length ≤ 1000 ∧ Rd.jw k S' T' = Rd.jw k S Tt, fun σ' H' x => x, ?_⟩
      refine ⟨_, rfl, .inl ⟨rfl, _, SqL.of l1'⟩, l, _, x2, rfl, rfl, l1', pop_last.1, ?_⟩
      rw [pop_last.2]
      dsimp only [gName]
      refine ⟨_, rfl, .inl ⟨rfl, _, SqL.of upd_same⟩, l, _, x1, rfl, rfl, upd_same, pop_last.1, ?_⟩
      rw [pop_last.2, upd_upd]
      dsimp only [gName]
      have n3 : Rd.NL H2 (upd H2 l (.lst u2)) := Rd.NL.upd l1'
      have r3 : (upd H2 l (.lst u2)) r = some (.lst (S2.reverse.map (fun a => V.str (Rd.sg a)) ++ [.str (Rd.sg c)])) := by rw [upd_ne (Ne.symm lr)]; exact r1
      have l3 : (upd H2 l (.lst u2)) l = some (.lst u2) := upd_same
      have b3 : Rd.B2 l r H (upd H2 l (.lst u2)) := fun b o e m1 m2 => by rw [upd_ne m1]; exact b2 b o e m1 m2
      generalize upd H2 l (.lst u2) = H3 at n3 r3 l3 b3
      refine ⟨_, rfl, .inl ⟨rfl, _, SqL.of l3⟩, _, rfl, .inl ⟨rfl, _, SqL.of r3⟩, r, _, .str (Rd.sg c), rfl, rfl, r3, pop_last.1, ?_⟩
      rw [pop_last.2]
      have n4 : Rd.NL H3 (upd H3 r (.lst (S2.reverse.map fun a => V.str (Rd.sg a)))) := Rd.NL.upd r3
      have r4 : (upd H3 r (.lst (S2.reverse.map fun a => V.str (Rd.sg a)))) r = some (.lst (S2.reverse.map fun a => V.str (Rd.sg a))) := upd_same
      have l4 : (upd H3 r (.lst (S2.reverse.map fun a => V.str (Rd.sg a)))) l = some (.lst u2) := by rw [upd_ne lr]; exact l3
      have b4 : Rd.B2 l r H (upd H3 r (.lst (S2.reverse.map fun a => V.str (Rd.sg a)))) := fun b o e m1 m2 => by rw [upd_ne m2]; exact b3 b o e m1 m2
      generalize upd H3 r (.lst (S2.reverse.map fun a => V.str (Rd.sg a))) = H4 at n4 r4 l4 b4
      refine ⟨_, rfl, _, rfl, fun x dx nx ndx ne => ⟨x, dx, [_, _, _], rfl, rfl, upd_same, fun H5 k5 hx5 => ⟨rfl, ?_⟩⟩⟩
      obtain ⟨dx5, hx5⟩ := hx5
      have e5 := made_same nx ndx k5
      have l5 := e5 _ _ l4
      have n6 : Rd.NL H5 (upd H5 l (.lst (u2 ++ [.ref x]))) := Rd.NL.upd l5
      have u2l : u2.length ≤ 1000 := by
        rw [pa4.1, List.length_reverse]
        rw [List.length_cons, List.length_cons] at l1
        omega
      have n26 : Rd.NL H2 (upd H5 l (.lst (u2 ++ [.ref x]))) := n3.trans (n4.trans ((Rd.NL.of e5).trans n6))
      refine ⟨l, _, _, rfl, rfl, l5, szlt (by omega), S2.length, Nat.lt_succ_self _, u2 ++ [.ref x], .j (Rd.sg c) t1 t2 :: T2, S2, _, _, rfl, rfl, fun b o e m1 m2 => ?_, upd_same, ?_, ?_, fun d hd => hS1 d (List.mem_cons_of_mem _ hd), ?_, ?_, ej⟩
      · rw [upd_ne m1]; exact e5 _ _ (b4 b o e m1 m2)
      · rw [upd_ne (Ne.symm lr)]; exact e5 _ _ r4
      · rw [List.reverse_cons]
        exact (pa4.mono fun _ _ y => Rd.tb_nl n26 y).snoc ⟨x, dx5, x1, x2, rfl, n6 _ _ hx5 (fun _ z => nomatch z), Rd.tb_nl n26 hx1, Rd.tb_nl n26 hx2⟩
      · rw [List.length_cons] at hn1 ⊢
        rw [List.length_cons] at hn1
        omega
      · rw [List.length_cons] at l1 ⊢
        rw [List.length_cons] at l1
        omega

theorem ok_term_of (T : Tx w K mg a) : FnOk P w K mg base CX0 4 a.f_term_of a.d_term_of ["parts"] (Rd.spTermOf (csOf a)) := by
  have G_join_waiting := ok_join_waiting (P := P) (w := w) (base := base) T
  refine T.F_term_of.ok sc_term_of (fun vs H Q E h => ?_) (fun cdv A outer s H vs Q E hr h => ?_)
  · obtain ⟨_, _, _, _, _, _, rfl, _⟩ := h; rfl
  obtain ⟨l, xs, ks, Tt, S, t, rfl, hl, pa, xl, ok, hrun, hj, q⟩ := h
  have isT : ∀ {H' : Hp} {x : V} {w' : Tw}, TbAt (csOf a) H' w' x → ∃ ty, TyOf K H' x ty ∧ PySem.W.kitOne K ty (.ref a.c_Term) = some true := fun {H' x w'} hx => by
    cases w' with
    | n i => obtain ⟨_, _, rfl, hx⟩ := hx; exact ⟨_, T.ty_Number _ _ _ _ hx, T.is_Number_Term⟩
    | v z => obtain ⟨_, _, rfl, hx⟩ := hx; exact ⟨_, T.ty_Value _ _ _ _ hx, T.is_Value_Term⟩
    | c z sp => obtain ⟨_, _, _, rfl, hx, _⟩ := hx; exact ⟨_, T.ty_Cell _ _ _ _ hx, T.is_Cell_Term⟩
    | j z l r => obtain ⟨_, _, _, _, rfl, hx, _⟩ := hx; exact ⟨_, T.ty_Joined _ _ _ _ hx, T.is_Joined_Term⟩
  refine ⟨_, (@pss_cons _ _ _ _ _ (@ps_set _ _ (1) _ _ _ _ sc_term_of.nd rfl (Or.inl rfl) (@pe_lst _ _ _ _ pa_nil) (by rfl) (by first | exact .inl rfl | exact .inr rfl | assumption)) (@pss_cons _ _ _ _ _ (@ps_set _ _ (2) _ _ _ _ sc_term_of.nd rfl (Or.inl rfl) (@pe_lst _ _ _ _ pa_nil) (by rfl) (by first | exact .inl rfl | exact .inr rfl | assumption)) (@pss_cons _ _ _ _ _ (@ps_set _ _ (3) _ _ _ _ sc_term_of.nd rfl (Or.inl rfl) pe_bl (by rfl) (by first | exact .inl rfl | exact .inr rfl | assumption)) (@pss_cons _ _ _ _ _ (@ps_for _ _ _ _ _ _ _ _ PassesOwn.never rfl (@pi_list _ _ _ _ (pv 0)) (pg_name (i := 4) sc_term_of.nd rfl (Or.inl rfl)) (@pss_cons _ _ _ _ _ (@ps_if _ _ _ _ _ _ _ _ (@pt_cmpR _ _ _ _ _ _ _ _ op_ne (pv 3) (@pe_or _ _ _ _ _ _ _ (@pe_callB _ _ _ _ _ _ _ _ _ call_isi (by rfl) T.z_isinstance bt_isinstance (@pa_cons _ _ _ _ _ (pv 4) (@pa_cons _ _ _ _ _ (@pe_glob _ _ (.ref a.c_Term) _ _ (by rfl) T.mc_Term rfl (by decide)) pa_nil (by rfl)) (by rfl)) (by decide) (by decide) (by rfl) (by rfl)) (@pe_one _ _ _ _ _ (@pe_cmpR _ _ _ _ _ _ _ _ op_eq (pv 4) pe_str (@nomark _ _ (by decide) (by decide))))) (@nomark _ _ (by decide) (by decide))) (@pss_one _ _ _ (@ps_ret _ _ _ _ pe_non)) pss_nil) (@pss_one _ _ _ (@ps_if _ _ _ _ _ _ _ _ (@pt_val _ _ _ (@pe_callB _ _ _ _ _ _ _ _ _ call_isi (by rfl) T.z_isinstance bt_isinstance (@pa_cons _ _ _ _ _ (pv 4) (@pa_cons _ _ _ _ _ (@pe_glob _ _ (.ref a.c_Term) _ _ (by rfl) T.mc_Term rfl (by decide)) pa_nil (by rfl)) (by rfl)) (by decide) (by decide) (by rfl) (by rfl)) (by intro _ ; rfl)) (@pss_cons _ _ _ _ _ (@ps_expr _ _ _ _ (@pe_bm _ _ _ _ _ _ _ _ _ _ _ _ PySem.F.plainAttrs_list PySem.F.slot_list_append PySem.F.type_list_append mt_append (pv 1) (@pa_cons _ _ _ _ _ (pv 4) pa_nil (by rfl)) (by rfl) (by rfl) (by rfl) (by rfl) (by rfl)) (by rfl)) (@pss_one _ _ _ (@ps_set _ _ (3) _ _ _ _ sc_term_of.nd rfl (Or.inl rfl) pe_bl (by rfl) (by first | exact .inl rfl | exact .inr rfl | assumption)))) (@pss_one _ _ _ (@ps_if _ _ _ _ _ _ _ _ (@pt_cmpR _ _ _ _ _ _ _ _ op_eq (pv 4) pe_str (@nomark _ _ (by decide) (by decide))) (@pss_cons _ _ _ _ _ (@ps_expr _ _ _ _ (@pe_call _ _ _ _ _ _ _ _ _ _ _ _ _ _ _ _ G_join_waiting (hr.mono (by omega)) (by rfl) T.m_join_waiting T.F_join_waiting.kp T.b_join_waiting .nil pass0 (@pa_cons _ _ _ _ _ (pv 1) (@pa_cons _ _ _ _ _ (pv 2) (@pa_cons _ _ _ _ _ (@pe_kget _ _ _ _ _ _ (@pe_glob _ _ _ _ _ (by rfl) T.g_STRENGTHS T.r_STRENGTHS (by decide)) pe_str (fun _ _ => rfl)) pa_nil (by rfl)) (by rfl)) (by rfl)) (by decide) (by rfl) (by rfl)) (by rfl)) (@pss_cons _ _ _ _ _ (@ps_if _ _ _ _ _ _ _ _ (@pt_cmpR _ _ _ _ _ _ _ _ (@op_eqE _ (@hu64 _ _ hr)) (pv 2) (@pe_lst _ _ _ _ pa_nil) (@nomark _ _ (by decide) (by decide))) (@pss_one _ _ _ (@ps_ret _ _ _ _ pe_non)) pss_nil) (@pss_one _ _ _ (@ps_expr _ _ _ _ (@pe_bm0 _ _ _ _ _ _ _ _ _ PySem.F.plainAttrs_list PySem.F.slot_list_pop PySem.F.type_list_pop mt_pop (pv 2) (by rfl) (by rfl)) (by rfl))))) (@pss_cons _ _ _ _ _ (@ps_if _ _ _ _ _ _ _ _ (@pt_cmpR _ _ _ _ _ _ _ _ op_ne (pv 4) pe_str (@nomark _ _ (by decide) (by decide))) (@pss_one _ _ _ (@ps_expr _ _ _ _ (@pe_call _ _ _ _ _ _ _ _ _ _ _ _ _ _ _ _ G_join_waiting (hr.mono (by omega)) (by rfl) T.m_join_waiting T.F_join_waiting.kp T.b_join_waiting .nil pass0 (@pa_cons _ _ _ _ _ (pv 1) (@pa_cons _ _ _ _ _ (pv 2) (@pa_cons _ _ _ _ _ (@pe_kget _ _ _ _ _ _ (@pe_glob _ _ _ _ _ (by rfl) T.g_STRENGTHS T.r_STRENGTHS (by decide)) (pv 4) (fun _ _ => rfl)) pa_nil (by rfl)) (by rfl)) (by rfl)) (by decide) (by rfl) (by rfl)) (by rfl))) pss_nil) (@pss_cons _ _ _ _ _ (@ps_expr _ _ _ _ (@pe_bm _ _ _ _ _ _ _ _ _ _ _ _ PySem.F.plainAttrs_list PySem.F.slot_list_append PySem.F.type_list_append mt_append (pv 2) (@pa_cons _ _ _ _ _ (pv 4) pa_nil (by rfl)) (by rfl) (by rfl) (by rfl) (by rfl) (by rfl)) (by rfl)) (@pss_one _ _ _ (@ps_set _ _ (3) _ _ _ _ sc_term_of.nd rfl (Or.inl rfl) pe_bl (by rfl) (by first | exact .inl rfl | exact .inr rfl | assumption)))))))))) (by intro _ ; rfl)) (@pss_cons _ _ _ _ _ (@ps_if _ _ _ _ _ _ _ _ (@pt_val _ _ _ (pv 3) (by intro _ ; rfl)) (@pss_one _ _ _ (@ps_ret _ _ _ _ pe_non)) pss_nil) (@pss_cons _ _ _ _ _ (@ps_expr _ _ _ _ (@pe_call _ _ _ _ _ _ _ _ _ _ _ _ _ _ _ _ G_join_waiting (hr.mono (by omega)) (by rfl) T.m_join_waiting T.F_join_waiting.kp T.b_join_waiting .nil pass0 (@pa_cons _ _ _ _ _ (pv 1) (@pa_cons _ _ _ _ _ (pv 2) (@pa_cons _ _ _ _ _ (@pe_kget _ _ _ _ _ _ (@pe_glob _ _ _ _ _ (by rfl) T.g_STRENGTHS T.r_STRENGTHS (by decide)) pe_str (fun _ _ => rfl)) pa_nil (by rfl)) (by rfl)) (by rfl)) (by decide) (by rfl) (by rfl)) (by rfl)) (@pss_cons _ _ _ _ _ (@ps_if _ _ _ _ _ _ _ _ (@pt_cmpR _ _ _ _ _ _ _ _ (@op_neE _ (@hu64 _ _ hr)) (pv 2) (@pe_lst _ _ _ _ pa_nil) (@nomark _ _ (by decide) (by decide))) (@pss_one _ _ _ (@ps_ret _ _ _ _ pe_non)) pss_nil) (@pss_one _ _ _ (@ps_ret _ _ _ _ (@pe_ix _ _ _ _ _ _ _ ix_list (pv 1) pe_int (fun _ _ => rfl))))))))))), ?_⟩
  refine ⟨szl (by show 0 ≤ 1000000; decide), fun tl htl => ?_⟩
  dsimp only [gName]
  refine ⟨szl (by show 0 ≤ 1000000; decide), fun sl hsl => ?_⟩
  dsimp only [gName]
  have ts : tl ≠ sl := ne_of_none (upd_same (H := H)) hsl
  have H0t : (upd (upd H tl (.lst [])) sl (.lst [])) tl = some (.lst []) := by rw [upd_ne ts]; exact upd_same
  have H0s : (upd (upd H tl (.lst [])) sl (.lst [])) sl = some (.lst []) := upd_same
  have e0 : Same H (upd (upd H tl (.lst [])) sl (.lst [])) := (same_new htl _).trans (same_new hsl _)
  have tl0 : H tl = none := htl
  have sl0 : H sl = none := (same_new htl _).free hsl
  generalize upd (upd H tl (.lst [])) sl (.lst []) = H0 at H0t H0s e0
  refine ⟨_, rfl, l, rfl, ⟨_, SqL.of (e0 _ _ hl)⟩, ?_⟩
  refine for_list (xs := xs) (fun i σ' H' => ∃ (z : Rd.Sta) (tv : List V) (o4 : Option V), σ' = [some (.ref l), some (.ref tl), some (.ref sl), some (.bl z.due), o4] ∧ Same H H' ∧ Rd.run (ks.take i) ⟨[], [], true⟩ = some z ∧ Rd.Wt z ∧ z.T.length ≤ i ∧ z.S.length ≤ i ∧ H' tl = some (.lst tv) ∧ H' sl = some (.lst (z.S.reverse.map fun a => V.str (Rd.sg a))) ∧ All2 (fun v t => TbAt (csOf a) H' t v) tv z.T.reverse) ?_ (fun i σ' H' hi p => ?_) (fun i x σ' H' hx p => ?_) (fun σ' H' p => ?_)
  · exact ⟨⟨[], [], true⟩, [], none, rfl, e0, rfl, ⟨(fun c hc => nomatch hc), rfl⟩, Nat.le_refl _, Nat.le_refl _, H0t, H0s, rfl, fun _ _ _ x => by cases x⟩
  · obtain ⟨z, tv, o4, rfl, e1, _⟩ := p
    exact SqL.of (e1 _ _ hl)
  · obtain ⟨z, tv, o4, rfl, e1, hz, wt, zt, zs, ht, hs, pz⟩ := p
    dsimp only [gName]
    have il : i < xs.length := (List.getElem?_eq_some_iff.mp hx).1
    obtain ⟨k, hk⟩ : ∃ k, ks[i]? = some k := ⟨ks[i]'(by rw [← pa.1]; exact il), List.getElem?_eq_getElem _⟩
    have hpk := (pa.2 i x k hx hk).over e1
    have okk := ok k (List.mem_of_getElem? hk)
    obtain ⟨z', u, r1, st1, r2⟩ := Rd.run_at hrun hk
    obtain rfl : z' = z := Option.some.inj (r1.symm.trans hz)
    have wu := wt.step okk st1
    have zl2 : z'.T.length ≤ 1000 := by omega
    obtain ⟨zT, zS, zd⟩ := z'
    have b12 : ∀ {H2 : Hp}, Rd.B2 tl sl H' H2 → Same H H2 := fun {H2} b2 b o e => b2 b o (e1 b o e) (ne_of_none e tl0) (ne_of_none e sl0)
    cases k with
    | t w' =>
      cases zd with
      | false => cases st1
      | true =>
        have st1 : some (⟨w' :: zT, zS, false⟩ : Rd.Sta) = some u := st1
        cases st1
        obtain ⟨ty, h1, h2⟩ := isT hpk
        refine ⟨_, rfl, _, rfl, x, _, ty, _, true, rfl, rfl, h1, h2, _, rfl, ?_⟩
        refine iteT ⟨rfl, _, rfl, ?_⟩
        refine ite2 (fun y => absurd (show (!decide (V.bl true = V.bl true)) = true from y) (by decide)) (fun _ => ?_)
        refine ⟨_, rfl, x, _, ty, _, true, rfl, rfl, h1, h2, _, rfl, ?_⟩
        refine iteT ?_
        have nl := Rd.NL.upd (ys := tv ++ [x]) ht
        have tvl : tv.length ≤ 1000 := by rw [pz.1, List.length_reverse]; exact zl2
        refine ⟨_, rfl, .inl ⟨rfl, _, SqL.of ht⟩, _, rfl, tl, _, _, rfl, rfl, ht, szlt (by omega), ?_⟩
        dsimp only [gName]
        refine ⟨⟨w' :: zT, zS, false⟩, tv ++ [x], _, rfl, fun b o e => ?_, r2, wu, ?_, Nat.le_succ_of_le zs, upd_same, ?_, ?_⟩
        · rw [upd_ne (ne_of_none e tl0)]; exact e1 b o e
        · show zT.length + 1 ≤ i + 1
          have : zT.length ≤ i := zt
          omega
        · rw [upd_ne (Ne.symm ts)]; exact hs
        · show All2 _ _ (w' :: zT).reverse
          rw [List.reverse_cons]
          exact (pz.mono fun _ _ y => Rd.tb_nl nl y).snoc (Rd.tb_nl nl hpk)
    | s c =>
      have hpk : x = .str ⟨#[c]⟩ := hpk
      subst hpk
      have okc : c ∈ Rd.sg5 := okk
      have k1 : ∀ e : Nat, (V.str ⟨#[c]⟩ = V.str ⟨#[e]⟩) ↔ c = e := fun e => ⟨fun x => by injection x with x; injection x with x; simpa using x, fun x => by rw [x]⟩
      have hd : zd = decide (V.str ⟨#[c]⟩ = V.str (Str.ofString "(")) := by
        rw [Rd.step] at st1
        by_cases c40 : c = 40
        · rw [if_pos c40] at st1
          cases zd with
          | false => cases st1
          | true => exact (decide_eq_true ((k1 40).mpr c40)).symm
        · rw [if_neg c40] at st1
          cases zd with
          | true => cases st1
          | false => exact (decide_eq_false fun z => c40 ((k1 40).mp z)).symm
      refine ⟨_, rfl, _, rfl, _, _, _, _, false, rfl, rfl, .str _, T.is_str_Term, _, rfl, ?_⟩
      refine iteF ⟨_, rfl, rfl, rfl, _, rfl, ?_⟩
      refine ite2 (fun y => ?_) (fun _ => ?_)
      · rw [← hd] at y
        exact absurd (show (!decide (V.bl zd = V.bl zd)) = true from y) (by simp)
      refine ⟨_, rfl, _, _, _, _, false, rfl, rfl, .str _, T.is_str_Term, _, rfl, ?_⟩
      refine iteF ?_
      refine ⟨_, rfl, rfl, _, rfl, ?_⟩
      refine ite2 (fun y => ?_) (fun y => ?_)
      · have c41 : c = 41 := (k1 41).mp (dT y)
        subst c41
        obtain rfl : zd = false := by rw [hd]; exact decide_eq_false fun z => absurd ((k1 40).mp z) (by decide)
        have wn : Rd.nb zS + 1 = zT.length := wt.nb
        rw [Rd.step, if_neg (by decide), if_neg (show ¬ (Rd.Sta.due ⟨zT, zS, false⟩ = true) from Bool.false_ne_true), if_pos rfl] at st1
        refine ⟨_, rfl, _, rfl, a.u_STRENGTHS, Rd.strV, .inr (Rd.sg 43), _, rfl, T.d_STRENGTHS P, rfl, Rd.st_val ⟨by decide, by decide⟩, tl, sl, tv, _, zT, zS, 1, rfl, ts, Nat.le_refl _, ht, hs, pz, rfl, wt.sg, by omega, zl2, fun ts' ss' H2 b2 ht2 hs2 pz2 es2 => ?_⟩
        subst es2
        cases hS : (Rd.jw 1 zS zT).2 with
        | nil => simp only [hS] at st1; cases st1
        | cons d S' =>
          simp only [hS] at st1
          cases st1
          have er : (d :: S').reverse.map (fun a => V.str (Rd.sg a)) = S'.reverse.map (fun a => V.str (Rd.sg a)) ++ [.str (Rd.sg d)] := by rw [List.reverse_cons, List.map_append]; rfl
          rw [hS, er] at hs2
          refine ⟨_, rfl, szl (by show 0 ≤ 1000000; decide), fun en hen => ?_⟩
          have e3 := same_new hen (.lst [])
          have hs3 := e3 _ _ hs2
          have ht3 := e3 _ _ ht2
          refine ⟨sl, en, _, rfl, rfl, SqL.of hs3, SqL.of upd_same, _, rfl, ?_⟩
          refine ite2 (fun y => absurd y (by simp)) (fun _ => ?_)
          refine ⟨_, rfl, .inl ⟨rfl, _, SqL.of hs3⟩, sl, _, _, rfl, rfl, hs3, pop_last.1, ?_⟩
          rw [pop_last.2]
          refine ⟨⟨(Rd.jw 1 zS zT).1, S', false⟩, ts', _, rfl, fun b o e => ?_, r2, wu, ?_, ?_, ?_, upd_same, ?_⟩
          · rw [upd_ne (ne_of_none e sl0)]; exact e3 _ _ (b12 b2 b o e)
          · have := Rd.jw_len 1 (S := zS) (T := zT)
            have : zT.length ≤ i := zt
            show (Rd.jw 1 zS zT).1.length ≤ i + 1
            omega
          · have h2 := Rd.jw_len2 1 (S := zS) (T := zT)
            rw [hS, List.length_cons] at h2
            have : zS.length ≤ i := zs
            show S'.length ≤ i + 1
            omega
          · rw [upd_ne ts]; exact ht3
          · exact pz2.mono fun _ _ y => Rd.tb_nl ((Rd.NL.of e3).trans (Rd.NL.upd hs3)) y
      · have c41 : c ≠ 41 := fun z => dF y ((k1 41).mpr z)
        refine ⟨_, rfl, rfl, _, rfl, ?_⟩
        have last : ∀ (T2 : List Tw) (S2 : List Nat) (tv2 : List V) (H2 : Hp), Rd.B2 tl sl H' H2 → H2 tl = some (.lst tv2) → H2 sl = some (.lst (S2.reverse.map fun a => V.str (Rd.sg a))) → All2 (fun v t => TbAt (csOf a) H2 t v) tv2 T2.reverse → some (⟨T2, c :: S2, true⟩ : Rd.Sta) = some u → T2.length ≤ i → S2.length ≤ i →
            rAppend (.ref sl) [.str ⟨#[c]⟩] H2 fun v H3 => ∃ (z : Rd.Sta) (tv : List V) (o4 : Option V), [some (.ref l), some (.ref tl), some (.ref sl), some (.bl true), some (V.str ⟨#[c]⟩)] = [some (.ref l), some (.ref tl), some (.ref sl), some (.bl z.due), o4] ∧ Same H H3 ∧ Rd.run (ks.take (i + 1)) ⟨[], [], true⟩ = some z ∧ Rd.Wt z ∧ z.T.length ≤ i + 1 ∧ z.S.length ≤ i + 1 ∧ H3 tl = some (.lst tv) ∧ H3 sl = some (.lst (z.S.reverse.map fun a => V.str (Rd.sg a))) ∧ All2 (fun v t => TbAt (csOf a) H3 t v) tv z.T.reverse := fun T2 S2 tv2 H2 b2 ht2 hs2 pz2 hu t2 s2 => by
          cases hu
          refine ⟨sl, _, _, rfl, rfl, hs2, szlt (by rw [List.length_map, List.length_reverse]; omega), ⟨T2, c :: S2, true⟩, tv2, _, rfl, fun b o e => ?_, r2, wu, Nat.le_succ_of_le t2, Nat.succ_le_succ s2, ?_, ?_, ?_⟩
          · rw [upd_ne (ne_of_none e sl0)]; exact b12 b2 b o e
          · rw [upd_ne ts]; exact ht2
          · rw [upd_same]
            show _ = some (HO.lst ((c :: S2).reverse.map fun a => V.str (Rd.sg a)))
            rw [List.reverse_cons, List.map_append]
            rfl
          · exact pz2.mono fun _ _ y => Rd.tb_nl (Rd.NL.upd hs2) y
        have c40d : ∀ c40 : c ≠ 40, zd = false := fun c40 => by rw [hd]; exact decide_eq_false fun z => c40 ((k1 40).mp z)
        have zT' : zT.length ≤ i := zt
        have zS' : zS.length ≤ i := zs
        refine ite2 (fun ne => ?_) (fun eq => ?_)
        · have c40 : c ≠ 40 := fun z => by
            have e : decide (V.str ⟨#[c]⟩ = V.str (Str.ofString "(")) = true := decide_eq_true ((k1 40).mpr z)
            rw [e] at ne
            cases ne
          obtain rfl := c40d c40
          have wn : Rd.nb zS + 1 = zT.length := wt.nb
          rw [Rd.step, if_neg c40, if_neg (show ¬ (Rd.Sta.due ⟨zT, zS, false⟩ = true) from Bool.false_ne_true), if_neg c41] at st1
          refine ⟨_, rfl, _, rfl, _, rfl, a.u_STRENGTHS, Rd.strV, .inr (Rd.sg c), _, rfl, T.d_STRENGTHS P, rfl, Rd.st_val ⟨okc, c41⟩, tl, sl, tv, _, zT, zS, Rd.st c, rfl, ts, (by unfold Rd.st; rw [if_neg c40]; split <;> decide), ht, hs, pz, rfl, wt.sg, by omega, zl2, fun ts' ss' H2 b2 ht2 hs2 pz2 es2 => ?_⟩
          subst es2
          have j1 := Rd.jw_len (Rd.st c) (S := zS) (T := zT)
          have j2 := Rd.jw_len2 (Rd.st c) (S := zS) (T := zT)
          exact ⟨_, rfl, .inl ⟨rfl, _, SqL.of hs2⟩, _, rfl, last _ _ ts' H2 b2 ht2 hs2 pz2 st1 (by omega) (by omega)⟩
        · have c40 : c = 40 := Classical.byContradiction fun n => eq (by rw [show decide (V.str ⟨#[c]⟩ = V.str (Str.ofString "(")) = false from decide_eq_false fun z => n ((k1 40).mp z)]; rfl)
          subst c40
          obtain rfl : zd = true := by rw [hd]; exact decide_eq_true rfl
          have st1 : some (⟨zT, 40 :: zS, true⟩ : Rd.Sta) = some u := st1
          exact ⟨_, rfl, .inl ⟨rfl, _, SqL.of hs⟩, _, rfl, last zT zS tv H' (fun b o e _ _ => e) ht hs pz st1 zT' zS'⟩
  · obtain ⟨z, tv, o4, rfl, e1, hz, wt, zt, zs, ht, hs, pz⟩ := p
    rw [pa.1, List.take_length] at hz
    obtain rfl := Option.some.inj (hz.symm.trans hrun)
    have wn : Rd.nb S + 1 = Tt.length := wt.nb
    refine ⟨_, rfl, _, rfl, ?_⟩
    refine ite2 (fun y => absurd y Bool.false_ne_true) (fun _ => ?_)
    refine ⟨_, rfl, _, rfl, a.u_STRENGTHS, Rd.strV, .inr (Rd.sg 43), _, rfl, T.d_STRENGTHS P, rfl, Rd.st_val ⟨by decide, by decide⟩, tl, sl, tv, _, Tt, S, 1, rfl, ts, Nat.le_refl _, ht, hs, pz, rfl, wt.sg, by omega, by have : Tt.length ≤ xs.length := zt; omega, fun ts' ss' H2 b2 ht2 hs2 pz2 es2 => ?_⟩
    rw [hj] at pz2 es2
    have e2 : Same H H2 := fun b o e => b2 b o (e1 b o e) (ne_of_none e tl0) (ne_of_none e sl0)
    refine ⟨_, rfl, szl (by show 0 ≤ 1000000; decide), fun en hen => ?_⟩
    subst es2
    refine ⟨sl, en, _, rfl, rfl, SqL.of (by rw [upd_ne (ne_of_none hs2 hen)]; exact hs2), SqL.of upd_same, _, rfl, ?_⟩
    refine ite2 (fun y => absurd (show false = true from y) Bool.false_ne_true) (fun _ => ?_)
    obtain ⟨u0, x0, rfl, p0, hx0⟩ := Rd.all2_pop (ys := []) pz2
    obtain rfl : u0 = [] := List.eq_nil_of_length_eq_zero p0.1
    exact ⟨_, rfl, tl, _, 0, x0, rfl, rfl, SqL.of (by rw [upd_ne (ne_of_none ht2 hen)]; exact ht2), rfl, q x0 _ (e2.trans (same_new hen _)) (TbAt.over (same_new hen _) hx0)⟩

theorem ok_drinit (T : Tx w K mg a) : FnOk P w K mg base CX0 1 a.f_Draft_init a.d_Draft_init ["self"] (Rd.spDrI a.c_Draft a.c_Deed (csOf a)) := by
  refine T.F_Draft_init.ok sc_Draft_init (fun vs H Q E h => ?_) (fun cdv A outer s H vs Q E hr h => ?_)
  · obtain ⟨_, _, rfl, _⟩ := h; rfl
  obtain ⟨x, dx, rfl, hx, q⟩ := h
  refine ⟨_, (@pss_cons _ _ _ _ _ (@ps_fld _ _ _ _ _ _ _ _ (pv 0) pe_non rfl) (@pss_cons _ _ _ _ _ (@ps_fld _ _ _ _ _ _ _ _ (pv 0) (@pe_lst _ _ _ _ pa_nil) rfl) (@pss_cons _ _ _ _ _ (@ps_fld _ _ _ _ _ _ _ _ (pv 0) pe_dnewK rfl) (@pss_cons _ _ _ _ _ (@ps_fld _ _ _ _ _ _ _ _ (pv 0) (@pe_lst _ _ _ _ pa_nil) rfl) (@pss_cons _ _ _ _ _ (@ps_fld _ _ _ _ _ _ _ _ (pv 0) (@pe_lst _ _ _ _ pa_nil) rfl) (@pss_cons _ _ _ _ _ (@ps_fld _ _ _ _ _ _ _ _ (pv 0) (@pe_lst _ _ _ _ pa_nil) rfl) (@pss_one _ _ _ (@ps_fld _ _ _ _ _ _ _ _ (pv 0) (@pe_lst _ _ _ _ (@pa_cons _ _ _ _ _ pe_int pa_nil (by rfl))) rfl)))))))), ?_⟩
  refine ⟨_, rfl, x, _, dx, _, rfl, hx, T.cl_Draft, T.n_Draft_size, (by show 0 < 1000; decide), ?_⟩
  have k1 : ∀ b o, H b = some o → b ≠ x → (upd H x (.ins a.c_Draft dx (putF "size" V.non []))) b = some o := fun b o e n => by rw [upd_ne n]; exact e
  have x1 : (upd H x (.ins a.c_Draft dx (putF "size" V.non []))) x = some (.ins a.c_Draft dx (putF "size" V.non [])) := upd_same
  change tSeq _ _ _ [some (.ref x)] (upd H x (.ins a.c_Draft dx (putF "size" V.non [])))
  generalize upd H x (.ins a.c_Draft dx (putF "size" V.non [])) = H1 at k1 x1
  refine ⟨szl (by show 0 ≤ 1000000; decide), fun dl hdl => ⟨_, rfl, x, _, dx, _, rfl, (by rw [upd_ne (ne_of_none x1 hdl)]; exact x1), T.cl_Draft, T.n_Draft_deeds, (by show 1 < 1000; decide), ?_⟩⟩
  obtain ⟨fdl, gdl, k'⟩ := Rd.put2 (v := .lst []) (w := .ins a.c_Draft dx (putF "deeds" (.ref dl) (putF "size" V.non []))) hdl x1
  have ndl : H dl = none := (by cases z : H dl with | none => rfl | some u => rw [k1 dl u z fdl] at hdl; cases hdl)
  have k2 : ∀ b o, H b = some o → b ≠ x → _ := fun b o e n => k' b o (k1 b o e n) n
  have x2 : (upd (upd H1 dl (.lst [])) x (.ins a.c_Draft dx (putF "deeds" (.ref dl) (putF "size" V.non [])))) x = some (.ins a.c_Draft dx (putF "deeds" (.ref dl) (putF "size" V.non []))) := upd_same
  change tSeq _ _ _ [some (.ref x)] (upd (upd H1 dl (.lst [])) x (.ins a.c_Draft dx (putF "deeds" (.ref dl) (putF "size" V.non []))))
  clear k'
  generalize upd (upd H1 dl (.lst [])) x (.ins a.c_Draft dx (putF "deeds" (.ref dl) (putF "size" V.non []))) = H2 at k2 x2 gdl
  have odl := gdl
  refine fun tl htl => ⟨_, rfl, x, _, dx, _, rfl, (by rw [upd_ne (ne_of_none x2 htl)]; exact x2), T.cl_Draft, T.n_Draft_tables, (by show 2 < 1000; decide), ?_⟩
  obtain ⟨ftl, gtl, k'⟩ := Rd.put2 (v := .dK []) (w := .ins a.c_Draft dx (putF "tables" (.ref tl) (putF "deeds" (.ref dl) (putF "size" V.non [])))) htl x2
  have ntl : H tl = none := (by cases z : H tl with | none => rfl | some u => rw [k2 tl u z ftl] at htl; cases htl)
  have gdl := k' _ _ gdl fdl
  have k3 : ∀ b o, H b = some o → b ≠ x → _ := fun b o e n => k' b o (k2 b o e n) n
  have x3 : (upd (upd H2 tl (.dK [])) x (.ins a.c_Draft dx (putF "tables" (.ref tl) (putF "deeds" (.ref dl) (putF "size" V.non []))))) x = some (.ins a.c_Draft dx (putF "tables" (.ref tl) (putF "deeds" (.ref dl) (putF "size" V.non [])))) := upd_same
  change tSeq _ _ _ [some (.ref x)] (upd (upd H2 tl (.dK [])) x (.ins a.c_Draft dx (putF "tables" (.ref tl) (putF "deeds" (.ref dl) (putF "size" V.non [])))))
  clear k'
  generalize upd (upd H2 tl (.dK [])) x (.ins a.c_Draft dx (putF "tables" (.ref tl) (putF "deeds" (.ref dl) (putF "size" V.non [])))) = H3 at k3 x3 gdl gtl
  have odl := gdl
  refine ⟨szl (by show 0 ≤ 1000000; decide), fun nl hnl => ⟨_, rfl, x, _, dx, _, rfl, (by rw [upd_ne (ne_of_none x3 hnl)]; exact x3), T.cl_Draft, T.n_Draft_names, (by show 3 < 1000; decide), ?_⟩⟩
  obtain ⟨fnl, gnl, k'⟩ := Rd.put2 (v := .lst []) (w := .ins a.c_Draft dx (putF "names" (.ref nl) (putF "tables" (.ref tl) (putF "deeds" (.ref dl) (putF "size" V.non []))))) hnl x3
  have nnl : H nl = none := (by cases z : H nl with | none => rfl | some u => rw [k3 nl u z fnl] at hnl; cases hnl)
  have gdl := k' _ _ gdl fdl
  have ddlnl : dl ≠ nl := fun z => by rw [z] at odl; rw [odl] at hnl; cases hnl
  have gtl := k' _ _ gtl ftl
  have k4 : ∀ b o, H b = some o → b ≠ x → _ := fun b o e n => k' b o (k3 b o e n) n
  have x4 : (upd (upd H3 nl (.lst [])) x (.ins a.c_Draft dx (putF "names" (.ref nl) (putF "tables" (.ref tl) (putF "deeds" (.ref dl) (putF "size" V.non [])))))) x = some (.ins a.c_Draft dx (putF "names" (.ref nl) (putF "tables" (.ref tl) (putF "deeds" (.ref dl) (putF "size" V.non []))))) := upd_same
  change tSeq _ _ _ [some (.ref x)] (upd (upd H3 nl (.lst [])) x (.ins a.c_Draft dx (putF "names" (.ref nl) (putF "tables" (.ref tl) (putF "deeds" (.ref dl) (putF "size" V.non []))))))
  clear k'
  generalize upd (upd H3 nl (.lst [])) x (.ins a.c_Draft dx (putF "names" (.ref nl) (putF "tables" (.ref tl) (putF "deeds" (.ref dl) (putF "size" V.non []))))) = H4 at k4 x4 gdl gtl gnl
  have odl := gdl
  have onl := gnl
  refine ⟨szl (by show 0 ≤ 1000000; decide), fun ll hll => ⟨_, rfl, x, _, dx, _, rfl, (by rw [upd_ne (ne_of_none x4 hll)]; exact x4), T.cl_Draft, T.n_Draft_lows, (by show 4 < 1000; decide), ?_⟩⟩
  obtain ⟨fll, gll, k'⟩ := Rd.put2 (v := .lst []) (w := .ins a.c_Draft dx (putF "lows" (.ref ll) (putF "names" (.ref nl) (putF "tables" (.ref tl) (putF "deeds" (.ref dl) (putF "size" V.non [])))))) hll x4
  have nll : H ll = none := (by cases z : H ll with | none => rfl | some u => rw [k4 ll u z fll] at hll; cases hll)
  have gdl := k' _ _ gdl fdl
  have ddlll : dl ≠ ll := fun z => by rw [z] at odl; rw [odl] at hll; cases hll
  have gtl := k' _ _ gtl ftl
  have gnl := k' _ _ gnl fnl
  have dnlll : nl ≠ ll := fun z => by rw [z] at onl; rw [onl] at hll; cases hll
  have k5 : ∀ b o, H b = some o → b ≠ x → _ := fun b o e n => k' b o (k4 b o e n) n
  have x5 : (upd (upd H4 ll (.lst [])) x (.ins a.c_Draft dx (putF "lows" (.ref ll) (putF "names" (.ref nl) (putF "tables" (.ref tl) (putF "deeds" (.ref dl) (putF "size" V.non []))))))) x = some (.ins a.c_Draft dx (putF "lows" (.ref ll) (putF "names" (.ref nl) (putF "tables" (.ref tl) (putF "deeds" (.ref dl) (putF "size" V.non [])))))) := upd_same
  change tSeq _ _ _ [some (.ref x)] (upd (upd H4 ll (.lst [])) x (.ins a.c_Draft dx (putF "lows" (.ref ll) (putF "names" (.ref nl) (putF "tables" (.ref tl) (putF "deeds" (.ref dl) (putF "size" V.non [])))))))
  clear k'
  generalize upd (upd H4 ll (.lst [])) x (.ins a.c_Draft dx (putF "lows" (.ref ll) (putF "names" (.ref nl) (putF "tables" (.ref tl) (putF "deeds" (.ref dl) (putF "size" V.non [])))))) = H5 at k5 x5 gdl gtl gnl gll
  have odl := gdl
  have onl := gnl
  have oll := gll
  refine ⟨szl (by show 0 ≤ 1000000; decide), fun hl hhl => ⟨_, rfl, x, _, dx, _, rfl, (by rw [upd_ne (ne_of_none x5 hhl)]; exact x5), T.cl_Draft, T.n_Draft_highs, (by show 5 < 1000; decide), ?_⟩⟩
  obtain ⟨fhl, ghl, k'⟩ := Rd.put2 (v := .lst []) (w := .ins a.c_Draft dx (putF "highs" (.ref hl) (putF "lows" (.ref ll) (putF "names" (.ref nl) (putF "tables" (.ref tl) (putF "deeds" (.ref dl) (putF "size" V.non []))))))) hhl x5
  have nhl : H hl = none := (by cases z : H hl with | none => rfl | some u => rw [k5 hl u z fhl] at hhl; cases hhl)
  have gdl := k' _ _ gdl fdl
  have ddlhl : dl ≠ hl := fun z => by rw [z] at odl; rw [odl] at hhl; cases hhl
  have gtl := k' _ _ gtl ftl
  have gnl := k' _ _ gnl fnl
  have dnlhl : nl ≠ hl := fun z => by rw [z] at onl; rw [onl] at hhl; cases hhl
  have gll := k' _ _ gll fll
  have dllhl : ll ≠ hl := fun z => by rw [z] at oll; rw [oll] at hhl; cases hhl
  have k6 : ∀ b o, H b = some o → b ≠ x → _ := fun b o e n => k' b o (k5 b o e n) n
  have x6 : (upd (upd H5 hl (.lst [])) x (.ins a.c_Draft dx (putF "highs" (.ref hl) (putF "lows" (.ref ll) (putF "names" (.ref nl) (putF "tables" (.ref tl) (putF "deeds" (.ref dl) (putF "size" V.non [])))))))) x = some (.ins a.c_Draft dx (putF "highs" (.ref hl) (putF "lows" (.ref ll) (putF "names" (.ref nl) (putF "tables" (.ref tl) (putF "deeds" (.ref dl) (putF "size" V.non []))))))) := upd_same
  dsimp only
  clear k'
  generalize upd (upd H5 hl (.lst [])) x (.ins a.c_Draft dx (putF "highs" (.ref hl) (putF "lows" (.ref ll) (putF "names" (.ref nl) (putF "tables" (.ref tl) (putF "deeds" (.ref dl) (putF "size" V.non []))))))) = H6 at k6 x6 gdl gtl gnl gll ghl
  have odl := gdl
  have onl := gnl
  have oll := gll
  have ohl := ghl
  refine ⟨szl (by show 1 ≤ 1000000; decide), fun pl hpl => ⟨_, rfl, x, _, dx, _, rfl, (by rw [upd_ne (ne_of_none x6 hpl)]; exact x6), T.cl_Draft, T.n_Draft_path, (by show 6 < 1000; decide), ?_⟩⟩
  obtain ⟨fpl, gpl, k'⟩ := Rd.put2 (v := .lst [.int 0]) (w := .ins a.c_Draft dx (putF "path" (.ref pl) (putF "highs" (.ref hl) (putF "lows" (.ref ll) (putF "names" (.ref nl) (putF "tables" (.ref tl) (putF "deeds" (.ref dl) (putF "size" V.non [])))))))) hpl x6
  have npl : H pl = none := (by cases z : H pl with | none => rfl | some u => rw [k6 pl u z fpl] at hpl; cases hpl)
  have gdl := k' _ _ gdl fdl
  have ddlpl : dl ≠ pl := fun z => by rw [z] at odl; rw [odl] at hpl; cases hpl
  have gtl := k' _ _ gtl ftl
  have gnl := k' _ _ gnl fnl
  have dnlpl : nl ≠ pl := fun z => by rw [z] at onl; rw [onl] at hpl; cases hpl
  have gll := k' _ _ gll fll
  have dllpl : ll ≠ pl := fun z => by rw [z] at oll; rw [oll] at hpl; cases hpl
  have ghl := k' _ _ ghl fhl
  have dhlpl : hl ≠ pl := fun z => by rw [z] at ohl; rw [ohl] at hpl; cases hpl
  have k7 : ∀ b o, H b = some o → b ≠ x → _ := fun b o e n => k' b o (k6 b o e n) n
  have x7 : (upd (upd H6 pl (.lst [.int 0])) x (.ins a.c_Draft dx (putF "path" (.ref pl) (putF "highs" (.ref hl) (putF "lows" (.ref ll) (putF "names" (.ref nl) (putF "tables" (.ref tl) (putF "deeds" (.ref dl) (putF "size" V.non []))))))))) x = some (.ins a.c_Draft dx (putF "path" (.ref pl) (putF "highs" (.ref hl) (putF "lows" (.ref ll) (putF "names" (.ref nl) (putF "tables" (.ref tl) (putF "deeds" (.ref dl) (putF "size" V.non [])))))))) := upd_same
  refine q _ ⟨x, dx, dl, tl, nl, ll, hl, pl⟩ rfl k7 ?_ fun f => ⟨x7, ⟨_, gdl, rfl, fun _ _ _ z => by cases z⟩, ⟨[], gtl, (fun p hp => nomatch hp), Nat.zero_le _⟩, gnl, ⟨_, gll, rfl, fun _ _ _ z => by cases z⟩, ⟨_, ghl, rfl, fun _ _ _ z => by cases z⟩, gpl, ?_, rfl⟩
  · rintro b (z | z | z | z | z | z | z) n
    · exact absurd z n
    · rw [z]; exact ndl
    · rw [z]; exact ntl
    · rw [z]; exact nnl
    · rw [z]; exact nll
    · rw [z]; exact nhl
    · rw [z]; exact npl
  · simp only [List.nodup_cons, List.mem_cons, List.not_mem_nil, or_false, not_or, List.nodup_nil, not_false_eq_true, and_true]
    exact ⟨⟨ddlnl, ddlll, ddlhl, ddlpl⟩, ⟨dnlll, dnlhl, dnlpl⟩, ⟨dllhl, dllpl⟩, dhlpl⟩

theorem ok_spots_known (T : Tx w K mg a) : FnOk P w K mg base CX0 1 a.f_spots_known a.d_spots_known ["draft", "spots"] (Rd.spKnown a.c_Draft) := by
  refine T.F_spots_known.ok sc_spots_known (fun vs H Q E h => ?_) (fun cdv A outer s H vs Q E hr h => ?_)
  · obtain ⟨_, _, _, _, rfl, _⟩ := h; rfl
  obtain ⟨d, p, nm, sp, rfl, ⟨dx, fs, n, hd, hf, hn⟩, ⟨ys, hp, pa⟩, sl, q⟩ := h
  refine ⟨_, (@pss_one _ _ _ (@ps_ret _ _ _ _ (@pe_callB _ _ _ _ _ _ _ _ _ (@call_allB _ rfl) (by rfl) T.z_all bt_all (@pa_cons _ _ _ _ _ (@pe_compB _ _ _ _ _ _ _ ["spot", "draft"] [none, some 0] _ _ _ _ (by rfl) (@pi_tup _ _ _ _ (pv 1)) c_spots_known_0 (fun _ _ _ _ _ _ => ⟨(pg_name (i := 0) c_spots_known_0n rfl (Or.inl rfl)), @pts_nil _, (@pe_or _ _ _ _ _ _ _ (@pe_cmpR _ _ _ _ _ _ _ _ op_eq (@pe_ix _ _ _ _ _ _ _ (show IxR _ (rIxT K) from ix_tup) (pv 0) pe_int (fun _ _ => rfl)) pe_str (@nomark _ _ (by decide) (by decide))) (@pe_one _ _ _ _ _ (@pe_cmpR _ _ _ _ _ _ _ _ (show OpR _ _ (rIn K false) from op_in_seq) (@pe_ix _ _ _ _ _ _ _ (show IxR _ (rIxT K) from ix_tup) (pv 0) pe_int (fun _ _ => rfl)) (show PE _ _ (tFld K _ "names") from pe_fld (pv 1) rfl) (by with_unfolding_all rfl))))⟩) (by intro _ ; rfl)) pa_nil (by rfl)) (by decide) (by decide) (by rfl) (by rfl)))), ?_⟩
  refine ⟨_, rfl, p, rfl, ⟨_, SqT.of hp⟩, ?_⟩
  have yl : ys.length = sp.length := pa.1
  refine comp_tup (xs := ys) (fun i bs H' => H' = H ∧ bs = ((sp.take i).map (Rd.knw nm)).map V.bl) ⟨rfl, rfl⟩ (szl (by omega)) (fun i bs H' hi p => ?_) (fun i x bs H' hc p => ?_) (fun bs H' p t5 ht5 => ?_)
  · obtain ⟨rfl, rfl⟩ := p
    exact ⟨SqT.of hp, by simp; omega⟩
  · obtain ⟨rfl, rfl⟩ := p
    have hil : i < sp.length := by rw [← yl]; exact (List.getElem?_eq_some_iff.mp hc).1
    obtain ⟨t6, rfl, h6⟩ := pa.2 i x sp[i] hc (List.getElem?_eq_getElem hil)
    refine ⟨_, rfl, t6, _, 0, _, rfl, rfl, SqT.of h6, rfl, rfl, _, rfl, ?_⟩
    have k1 : (V.str (sp[i]).1 = V.str (Str.ofString "")) ↔ (sp[i]).1 = Str.ofString "" := ⟨fun e => V.str.inj e, fun e => by rw [e]⟩
    rw [take_snoc (List.getElem?_eq_getElem hil), List.map_append, List.map_append]
    refine ite2 (fun y => ⟨rfl, ?_⟩) (fun y => ?_)
    · have e : Rd.knw nm sp[i] = true := by unfold Rd.knw; rw [decide_eq_true (k1.mp (dT y))]; rfl
      show _ = _ ++ [V.bl (Rd.knw nm sp[i])]
      rw [e]
    · have e : Rd.knw nm sp[i] = decide ((sp[i]).1 ∈ nm) := by unfold Rd.knw; rw [decide_eq_false fun z => dF y (k1.mpr z)]; rfl
      refine ⟨_, rfl, t6, _, 0, _, rfl, rfl, SqT.of h6, rfl, _, rfl, d, _, dx, fs, _, rfl, hd, T.cl_Draft, T.n_Draft_names, hf, n, _, rfl, .inl (SqL.of hn), rfl, Rd.flat_strs nm, ?_⟩
      refine ⟨rfl, ?_⟩
      show _ = _ ++ [V.bl (Rd.knw nm sp[i])]
      rw [e, Rd.in_strs]
      rfl
  obtain ⟨rfl, rfl⟩ := p
  refine ⟨t5, _, rfl, SqL.of upd_same, ?_⟩
  have q2 := q _ (same_new ht5 (.lst (((sp.take ys.length).map (Rd.knw nm)).map V.bl)))
  rw [yl, List.take_length] at q2 ⊢
  have e : (sp.map (Rd.knw nm)).all id = sp.all (Rd.knw nm) := by rw [List.all_map]; rfl
  rw [e]
  exact q2

theorem ok_names_known (T : Tx w K mg a) : FnOk P w K mg base CX0 2 a.f_names_known a.d_names_known ["draft", "parts"] (Rd.spNamesK a.c_Draft (csOf a)) := by
  have G_spots_known := ok_spots_known (P := P) (w := w) (base := base) T
  refine T.F_names_known.ok sc_names_known (fun vs H Q E h => ?_) (fun cdv A outer s H vs Q E hr h => ?_)
  · obtain ⟨_, _, _, _, _, rfl, _⟩ := h; rfl
  obtain ⟨d, l, nm, xs, ks, rfl, hd, hl, pa, ok, kn, q⟩ := h
  refine ⟨_, (@pss_cons _ _ _ _ _ (@ps_for _ _ _ _ _ _ _ _ PassesOwn.never rfl (@pi_list _ _ _ _ (pv 1)) (pg_name (i := 2) sc_names_known.nd rfl (Or.inl rfl)) (@pss_cons _ _ _ _ _ (@ps_if _ _ _ _ _ _ _ _ ((@pw_and _ _ _ _ _ _ _ (@pt_val _ _ _ (@pe_callB _ _ _ _ _ _ _ _ _ call_isi (by rfl) T.z_isinstance bt_isinstance (@pa_cons _ _ _ _ _ (pv 2) (@pa_cons _ _ _ _ _ (@pe_glob _ _ (.ref a.c_Value) _ _ (by rfl) T.mc_Value rfl (by decide)) pa_nil (by rfl)) (by rfl)) (by decide) (by decide) (by rfl) (by rfl)) (by intro _ ; rfl)) (@pw_and1 _ _ _ _ (@pt_cmpR _ _ _ _ _ _ _ _ op_notIn_seq (@pe_fld _ _ _ _ _ (pv 2) rfl) (@pe_fld _ _ _ _ _ (pv 0) rfl) (by with_unfolding_all rfl))))).pt (@pss_one _ _ _ (@ps_ret _ _ _ _ pe_bl)) pss_nil) (@pss_one _ _ _ (@ps_if _ _ _ _ _ _ _ _ ((@pw_and _ _ _ _ _ _ _ (@pt_val _ _ _ (@pe_callB _ _ _ _ _ _ _ _ _ call_isi (by rfl) T.z_isinstance bt_isinstance (@pa_cons _ _ _ _ _ (pv 2) (@pa_cons _ _ _ _ _ (@pe_glob _ _ (.ref a.c_Cell) _ _ (by rfl) T.mc_Cell rfl (by decide)) pa_nil (by rfl)) (by rfl)) (by decide) (by decide) (by rfl) (by rfl)) (by intro _ ; rfl)) (@pw_and1 _ _ _ _ (@pt_not _ _ _ _ (@pt_val _ _ _ (@pe_call _ _ _ _ _ _ _ _ _ _ _ _ _ _ _ _ G_spots_known (hr.mono (by omega)) (by rfl) T.m_spots_known T.F_spots_known.kp T.b_spots_known .nil pass0 (@pa_cons _ _ _ _ _ (pv 0) (@pa_cons _ _ _ _ _ (@pe_fld _ _ _ _ _ (pv 2) rfl) pa_nil (by rfl)) (by rfl)) (by decide) (by rfl) (by rfl)) (by intro _ ; rfl)))))).pt (@pss_one _ _ _ (@ps_ret _ _ _ _ pe_bl)) pss_nil))) (by intro _ ; rfl)) (@pss_one _ _ _ (@ps_ret _ _ _ _ pe_bl))), ?_⟩
  refine ⟨_, rfl, l, rfl, ⟨_, SqL.of hl⟩, ?_⟩
  refine for_list (xs := xs) (fun i σ' H' => Same H H' ∧ ∃ o2 : Option V, σ' = [some (.ref d), some (.ref l), o2]) ⟨Same.refl _, _, rfl⟩ (fun i σ' H' _ p => p.1.seq (SqL.of hl)) (fun i x σ' H' hx p => ?_) (fun σ' H' p => ?_)
  · obtain ⟨e, o2, rfl⟩ := p
    dsimp only [gName]
    have il : i < xs.length := (List.getElem?_eq_some_iff.mp hx).1
    obtain ⟨k, hk⟩ : ∃ k, ks[i]? = some k := ⟨ks[i]'(by rw [← pa.1]; exact il), List.getElem?_eq_getElem _⟩
    have hpk := (pa.2 i x k hx hk).over e
    have okk := ok k (List.mem_of_getElem? hk)
    have knk := kn k (List.mem_of_getElem? hk)
    obtain ⟨ddx, fs, n, hd0, hf, hn0⟩ := hd
    have hd := e _ _ hd0
    have hn := e _ _ hn0
    cases k with
    | s c =>
      have hpk : x = .str ⟨#[c]⟩ := hpk
      subst hpk
      refine ⟨_, rfl, _, _, _, _, false, rfl, rfl, .str _, T.is_str_Value, _, rfl, iteF ?_⟩
      exact ⟨_, rfl, _, _, _, _, false, rfl, rfl, .str _, T.is_str_Cell, _, rfl, iteF ⟨e, _, rfl⟩⟩
    | t w' =>
      cases w' with
      | n i =>
        obtain ⟨t0, dx, rfl, hx0⟩ := hpk
        refine ⟨_, rfl, _, _, _, _, false, rfl, rfl, T.ty_Number _ _ _ _ hx0, T.is_Number_Value, _, rfl, iteF ?_⟩
        exact ⟨_, rfl, _, _, _, _, false, rfl, rfl, T.ty_Number _ _ _ _ hx0, T.is_Number_Cell, _, rfl, iteF ⟨e, _, rfl⟩⟩
      | v z =>
        obtain ⟨t0, dx, rfl, hx0⟩ := hpk
        refine ⟨_, rfl, _, _, _, _, true, rfl, rfl, T.ty_Value _ _ _ _ hx0, T.is_Value_Value, _, rfl, iteT ?_⟩
        refine ⟨_, rfl, t0, _, dx, _, _, rfl, hx0, T.cl_Value, T.n_Value_name, rfl, _, rfl, d, _, ddx, fs, _, rfl, hd, T.cl_Draft, T.n_Draft_names, hf, n, _, rfl, .inl (SqL.of hn), rfl, Rd.flat_strs nm, _, rfl, ?_⟩
        have e1 : inV (V.str z) (nm.map V.str) = true := by rw [Rd.in_strs]; exact decide_eq_true knk
        rw [e1]
        refine iteF ?_
        exact ⟨_, rfl, _, _, _, _, false, rfl, rfl, T.ty_Value _ _ _ _ hx0, T.is_Value_Cell, _, rfl, iteF ⟨e, _, rfl⟩⟩
      | c z sp =>
        obtain ⟨t0, dx, p0, rfl, hx0, hp0⟩ := hpk
        refine ⟨_, rfl, _, _, _, _, false, rfl, rfl, T.ty_Cell _ _ _ _ hx0, T.is_Cell_Value, _, rfl, iteF ?_⟩
        refine ⟨_, rfl, _, _, _, _, true, rfl, rfl, T.ty_Cell _ _ _ _ hx0, T.is_Cell_Cell, _, rfl, iteT ?_⟩
        refine ⟨_, rfl, _, rfl, t0, _, dx, _, _, rfl, hx0, T.cl_Cell, T.n_Cell_spots, rfl, d, p0, nm, sp, rfl, ⟨ddx, fs, n, hd, hf, hn⟩, hp0, (by have := okk.2.2.1; omega), fun H2 e2 => ⟨_, rfl, ?_⟩⟩
        rw [show sp.all (Rd.knw nm) = true from knk]
        exact iteF ⟨e.trans e2, _, rfl⟩
      | j _ _ _ => exact okk.elim
  · obtain ⟨e, o2, rfl⟩ := p
    exact q _ e

theorem ok_tables_kept (T : Tx w K mg a) : FnOk P w K mg base CX0 1 a.f_tables_kept a.d_tables_kept ["draft", "parts"] (Rd.spTabs a.c_Draft (csOf a)) := by
  refine T.F_tables_kept.ok sc_tables_kept (fun vs H Q E h => ?_) (fun cdv A outer s H vs Q E hr h => ?_)
  · obtain ⟨_, _, _, _, _, _, _, _, _, rfl, _⟩ := h; rfl
  obtain ⟨d, l, dx, t, fs, xs, ks, f, tb, rfl, hd, hf, ht, hfb, tl, hl, pa, ok, kf, q⟩ := h
  refine ⟨_, (@pss_cons _ _ _ _ _ (@ps_for _ _ _ _ _ _ _ _ PassesOwn.never rfl (@pi_list _ _ _ _ (pv 1)) (pg_name (i := 2) sc_tables_kept.nd rfl (Or.inl rfl)) (@pss_one _ _ _ (@ps_if _ _ _ _ _ _ _ _ (@pt_val _ _ _ (@pe_callB _ _ _ _ _ _ _ _ _ call_isi (by rfl) T.z_isinstance bt_isinstance (@pa_cons _ _ _ _ _ (pv 2) (@pa_cons _ _ _ _ _ (@pe_glob _ _ (.ref a.c_Cell) _ _ (by rfl) T.mc_Cell rfl (by decide)) pa_nil (by rfl)) (by rfl)) (by decide) (by decide) (by rfl) (by rfl)) (by intro _ ; rfl)) (@pss_cons _ _ _ _ _ (@ps_set _ _ (3) _ _ _ _ sc_tables_kept.nd rfl (Or.inl rfl) (@pe_callB _ _ _ _ _ _ _ _ _ call_len_seq (by rfl) T.z_len bt_len (@pa_cons _ _ _ _ _ (@pe_fld _ _ _ _ _ (pv 2) rfl) pa_nil (by rfl)) (by decide) (by decide) (by rfl) (by rfl)) (by rfl) (by first | exact .inl rfl | exact .inr rfl | assumption)) (@pss_one _ _ _ (@ps_if _ _ _ _ _ _ _ _ (@pt_cmpR _ _ _ _ _ _ _ _ op_ne (@pe_dsetd _ _ _ _ _ _ _ _ _ (@pe_fld _ _ _ _ _ (pv 0) rfl) (@pe_fld _ _ _ _ _ (pv 2) rfl) (pv 3) ⟨rfl, rfl, rfl, rfl⟩) (pv 3) (@nomark _ _ (by decide) (by decide))) (@pss_one _ _ _ (@ps_ret _ _ _ _ pe_bl)) pss_nil))) pss_nil)) (by intro _ ; rfl)) (@pss_one _ _ _ (@ps_ret _ _ _ _ pe_bl))), ?_⟩
  have ntl : ∀ {b : Addr} {o : HO}, H b = some o → (∀ kv, o ≠ .dK kv) → b ≠ t := fun {b o} e n z => by rw [z, ht] at e; exact n _ (Option.some.inj e).symm
  refine ⟨_, rfl, l, rfl, ⟨_, SqL.of hl⟩, ?_⟩
  refine for_list (xs := xs) (fun i σ' H' => (∀ b o, H b = some o → b ≠ t → H' b = some o) ∧ (∃ o2 o3 : Option V, σ' = [some (.ref d), some (.ref l), o2, o3]) ∧ ∃ tb', H' t = some (.dK (Rd.tbK tb')) ∧ (∀ p ∈ tb', p.2 = f p.1) ∧ tb'.length ≤ tb.length + i) ⟨fun _ _ e _ => e, ⟨_, _, rfl⟩, tb, ht, hfb, Nat.le_refl _⟩ (fun i σ' H' _ p => SqL.of (p.1 _ _ hl (ntl hl (fun _ z => nomatch z)))) (fun i x σ' H' hx p => ?_) (fun σ' H' p => ?_)
  · obtain ⟨e, ⟨o2, o3, rfl⟩, tb', ht', hf', tl'⟩ := p
    dsimp only [gName]
    have il : i < xs.length := (List.getElem?_eq_some_iff.mp hx).1
    obtain ⟨k, hk⟩ : ∃ k, ks[i]? = some k := ⟨ks[i]'(by rw [← pa.1]; exact il), List.getElem?_eq_getElem _⟩
    have kp : Rd.Kp H H' := fun b o e' ob => e b o e' (ntl e' (fun _ z => by rw [z] at ob; exact ob))
    have hpk := (pa.2 i x k hx hk).kp kp
    have okk := ok k (List.mem_of_getElem? hk)
    have kfk := kf k (List.mem_of_getElem? hk)
    have hd' := e _ _ hd (ntl hd (fun _ z => nomatch z))
    cases k with
    | s c =>
      have hpk : x = .str ⟨#[c]⟩ := hpk
      subst hpk
      exact ⟨_, rfl, _, _, _, _, false, rfl, rfl, .str _, T.is_str_Cell, _, rfl, iteF ⟨e, ⟨_, _, rfl⟩, tb', ht', hf', by omega⟩⟩
    | t w' =>
      cases w' with
      | n i =>
        obtain ⟨t0, dx, rfl, hx0⟩ := hpk
        exact ⟨_, rfl, _, _, _, _, false, rfl, rfl, T.ty_Number _ _ _ _ hx0, T.is_Number_Cell, _, rfl, iteF ⟨e, ⟨_, _, rfl⟩, tb', ht', hf', by omega⟩⟩
      | v z =>
        obtain ⟨t0, dx, rfl, hx0⟩ := hpk
        exact ⟨_, rfl, _, _, _, _, false, rfl, rfl, T.ty_Value _ _ _ _ hx0, T.is_Value_Cell, _, rfl, iteF ⟨e, ⟨_, _, rfl⟩, tb', ht', hf', by omega⟩⟩
      | c z sp =>
        obtain ⟨t0, dx0, p0, rfl, hx0, ys, hp0, pa0⟩ := hpk
        have yl : ((ys.length : Nat) : Int) = ((f z : Nat) : Int) := by rw [show f z = sp.length from kfk, pa0.1]
        refine ⟨_, rfl, _, _, _, _, true, rfl, rfl, T.ty_Cell _ _ _ _ hx0, T.is_Cell_Cell, _, rfl, iteT ?_⟩
        refine ⟨_, rfl, t0, _, dx0, _, _, rfl, hx0, T.cl_Cell, T.n_Cell_spots, rfl, p0, ys, rfl, .inr (SqT.of hp0), ?_⟩
        rw [yl]
        dsimp only [gName]
        refine ⟨_, rfl, d, _, dx, fs, _, rfl, hd', T.cl_Draft, T.n_Draft_tables, hf, t, rfl, .inl ⟨_, .inl ht'⟩, ?_⟩
        refine ⟨_, rfl, t0, _, dx0, _, _, rfl, hx0, T.cl_Cell, T.n_Cell_table, rfl, _, rfl, _, .inr z, ht', rfl, ?_, fun v hv => ?_, fun hn => ?_⟩
        · have := pa.1; unfold Rd.tbK; rw [List.length_map]; omega
        · rw [Rd.tb_val hf' hv]
          refine ⟨_, rfl, rfl, _, rfl, ?_⟩
          rw [decide_eq_true rfl]
          exact iteF ⟨e, ⟨_, _, rfl⟩, tb', ht', hf', by omega⟩
        · obtain ⟨tb2, e2, h2, l2⟩ := Rd.tb_put hf' hn
          rw [e2]
          refine ⟨_, rfl, rfl, _, rfl, ?_⟩
          rw [decide_eq_true rfl]
          exact iteF ⟨fun b o e' nb => by rw [upd_ne nb]; exact e b o e' nb, ⟨_, _, rfl⟩, tb2, upd_same, h2, by omega⟩
      | j _ _ _ => exact okk.elim
  · obtain ⟨e, ⟨o2, o3, rfl⟩, tb', ht', hf', tl'⟩ := p
    rw [pa.1] at tl'
    exact q _ tb' e ht' hf' tl'

theorem ok_deed_taken (T : Tx w K mg a) : FnOk P w K mg base CX0 8 a.f_deed_taken a.d_deed_taken ["draft", "row"] (Rd.spDeedT a.c_Draft a.c_Deed (csOf a)) := by
  have G_cell_of := ok_cell_of (P := P) (w := w) (base := base) T
  have G_parts_of := ok_parts_of (P := P) (w := w) (base := base) T
  have G_term_of := ok_term_of (P := P) (w := w) (base := base) T
  have G_names_known := ok_names_known (P := P) (w := w) (base := base) T
  have G_tables_kept := ok_tables_kept (P := P) (w := w) (base := base) T
  have G_Deed_init := ok_dinit (P := P) (w := w) (base := base) T
  refine T.F_deed_taken.ok sc_deed_taken (fun vs H Q E h => ?_) (fun cdv A outer s H vs Q E hr h => ?_)
  · obtain ⟨_, _, _, _, _, _, _, _, _, rfl, _⟩ := h; rfl
  obtain ⟨f, B, D, D', z, tb, sp, ks, t, rfl, hD, hz, zl, hs, q⟩ := h
  refine ⟨_, (@pss_cons _ _ _ _ _ (@ps_set _ _ (2) _ _ _ _ sc_deed_taken.nd rfl (Or.inl rfl) (@pe_bm _ _ _ _ _ _ _ _ _ _ _ _ PySem.F.plainAttrs_str PySem.F.slot_str_partition PySem.F.type_str_partition mt_partition (pv 1) (@pa_cons _ _ _ _ _ pe_str pa_nil (by rfl)) (by rfl) (by rfl) (by rfl) (by rfl) (by rfl)) (by rfl) (by first | exact .inl rfl | exact .inr rfl | assumption)) (@pss_cons _ _ _ _ _ (@ps_set _ _ (3) _ _ _ _ sc_deed_taken.nd rfl (Or.inl rfl) (@pe_call _ _ _ _ _ _ _ _ _ _ _ _ _ _ _ _ G_cell_of (hr.mono (by omega)) (by rfl) T.m_cell_of T.F_cell_of.kp T.b_cell_of .nil pass0 (@pa_cons _ _ _ _ _ (@pe_ix _ _ _ _ _ _ _ ix_tup (pv 2) pe_int (fun _ _ => rfl)) pa_nil (by rfl)) (by decide) (by rfl) (by rfl)) (by rfl) (by first | exact .inl rfl | exact .inr rfl | assumption)) (@pss_cons _ _ _ _ _ (@ps_set _ _ (4) _ _ _ _ sc_deed_taken.nd rfl (Or.inl rfl) (@pe_call _ _ _ _ _ _ _ _ _ _ _ _ _ _ _ _ G_parts_of (hr.mono (by omega)) (by rfl) T.m_parts_of T.F_parts_of.kp T.b_parts_of .nil pass0 (@pa_cons _ _ _ _ _ (@pe_ix _ _ _ _ _ _ _ ix_tup (pv 2) pe_int (fun _ _ => rfl)) pa_nil (by rfl)) (by decide) (by rfl) (by rfl)) (by rfl) (by first | exact .inl rfl | exact .inr rfl | assumption)) (@pss_cons _ _ _ _ _ (@ps_if _ _ _ _ _ _ _ _ ((@pw_or _ _ _ _ _ _ _ (@pt_cmpR _ _ _ _ _ _ _ _ op_eq (@pe_callB _ _ _ _ _ _ _ _ _ call_len_seq (by rfl) T.z_len bt_len (@pa_cons _ _ _ _ _ (@pe_fld _ _ _ _ _ (pv 0) rfl) pa_nil (by rfl)) (by decide) (by decide) (by rfl) (by rfl)) (@pe_glob _ _ _ _ _ (by rfl) T.g_MOST_DEEDS T.r_MOST_DEEDS (by decide)) (@nomark _ _ (by decide) (by decide))) (@pw_or _ _ _ _ _ _ _ (@pt_cmpR _ _ _ _ _ _ _ _ op_isN (pv 3) pe_non (@nomark _ _ (by decide) (by decide))) (@pw_or1 _ _ _ _ (@pt_cmpR _ _ _ _ _ _ _ _ op_isN (pv 4) pe_non (@nomark _ _ (by decide) (by decide))))))).pt (@pss_one _ _ _ (@ps_ret _ _ _ _ pe_bl)) pss_nil) (@pss_cons _ _ _ _ _ (@ps_set _ _ (5) _ _ _ _ sc_deed_taken.nd rfl (Or.inl rfl) (@pe_call _ _ _ _ _ _ _ _ _ _ _ _ _ _ _ _ G_term_of (hr.mono (by omega)) (by rfl) T.m_term_of T.F_term_of.kp T.b_term_of .nil pass0 (@pa_cons _ _ _ _ _ (pv 4) pa_nil (by rfl)) (by decide) (by rfl) (by rfl)) (by rfl) (by first | exact .inl rfl | exact .inr rfl | assumption)) (@pss_cons _ _ _ _ _ (@ps_if _ _ _ _ _ _ _ _ ((@pw_or _ _ _ _ _ _ _ (@pt_cmpR _ _ _ _ _ _ _ _ op_isN (pv 5) pe_non (@nomark _ _ (by decide) (by decide))) (@pw_or _ _ _ _ _ _ _ (@pt_not _ _ _ _ (@pt_val _ _ _ (@pe_call _ _ _ _ _ _ _ _ _ _ _ _ _ _ _ _ G_names_known (hr.mono (by omega)) (by rfl) T.m_names_known T.F_names_known.kp T.b_names_known .nil pass0 (@pa_cons _ _ _ _ _ (pv 0) (@pa_cons _ _ _ _ _ (@pe_op _ _ _ _ _ _ _ _ op_cat (@pe_lst _ _ _ _ (@pa_cons _ _ _ _ _ (pv 3) pa_nil (by rfl))) (pv 4)) pa_nil (by rfl)) (by rfl)) (by decide) (by rfl) (by rfl)) (by intro _ ; rfl))) (@pw_or1 _ _ _ _ (@pt_not _ _ _ _ (@pt_val _ _ _ (@pe_call _ _ _ _ _ _ _ _ _ _ _ _ _ _ _ _ G_tables_kept (hr.mono (by omega)) (by rfl) T.m_tables_kept T.F_tables_kept.kp T.b_tables_kept .nil pass0 (@pa_cons _ _ _ _ _ (pv 0) (@pa_cons _ _ _ _ _ (@pe_op _ _ _ _ _ _ _ _ op_cat (@pe_lst _ _ _ _ (@pa_cons _ _ _ _ _ (pv 3) pa_nil (by rfl))) (pv 4)) pa_nil (by rfl)) (by rfl)) (by decide) (by rfl) (by rfl)) (by intro _ ; rfl))))))).pt (@pss_one _ _ _ (@ps_ret _ _ _ _ pe_bl)) pss_nil) (@pss_cons _ _ _ _ _ (@ps_expr _ _ _ _ (@pe_bm _ _ _ _ _ _ _ _ _ _ _ _ PySem.F.plainAttrs_list PySem.F.slot_list_append PySem.F.type_list_append mt_append (@pe_fld _ _ _ _ _ (pv 0) rfl) (@pa_cons _ _ _ _ _ (@pe_make _ _ _ _ _ _ _ _ _ _ _ _ _ _ _ _ _ T.mk_Deed G_Deed_init (hr.mono (by omega)) (by rfl) T.mc_Deed T.b_Deed_init .nil pass0 (@pa_cons _ _ _ _ _ (@pe_callTy _ _ _ _ _ _ _ _ _ call_tuple_of (by rfl) T.z_tuple bt_tuple (@pa_cons _ _ _ _ _ (@pe_fld _ _ _ _ _ (pv 0) rfl) pa_nil (by rfl)) (by decide) (by decide) (by rfl) (by rfl)) (@pa_cons _ _ _ _ _ (@pe_callTy _ _ _ _ _ _ _ _ _ call_tuple_of (by rfl) T.z_tuple bt_tuple (@pa_cons _ _ _ _ _ (@pe_fld _ _ _ _ _ (pv 0) rfl) pa_nil (by rfl)) (by decide) (by decide) (by rfl) (by rfl)) (@pa_cons _ _ _ _ _ (@pe_callTy _ _ _ _ _ _ _ _ _ call_tuple_of (by rfl) T.z_tuple bt_tuple (@pa_cons _ _ _ _ _ (@pe_fld _ _ _ _ _ (pv 0) rfl) pa_nil (by rfl)) (by decide) (by decide) (by rfl) (by rfl)) (@pa_cons _ _ _ _ _ (@pe_fld _ _ _ _ _ (pv 3) rfl) (@pa_cons _ _ _ _ _ (@pe_fld _ _ _ _ _ (pv 3) rfl) (@pa_cons _ _ _ _ _ (pv 5) (@pa_cons _ _ _ _ _ (@pe_callTy _ _ _ _ _ _ _ _ _ call_tuple_of (by rfl) T.z_tuple bt_tuple (@pa_cons _ _ _ _ _ (@pe_fld _ _ _ _ _ (pv 0) rfl) pa_nil (by rfl)) (by decide) (by decide) (by rfl) (by rfl)) pa_nil (by rfl)) (by rfl)) (by rfl)) (by rfl)) (by rfl)) (by rfl)) (by rfl)) (by decide) (by rfl) (by rfl)) pa_nil (by rfl)) (by rfl) (by rfl) (by rfl) (by rfl) (by rfl)) (by rfl)) (@pss_cons _ _ _ _ _ (@ps_augS _ _ _ _ _ _ _ _ _ _ _ _ _ (@pe_fld _ _ _ _ _ (pv 0) rfl) (@pe_un _ _ _ _ _ _ un_neg pe_int) get_neg pe_int ip_add set_list (by intros ; rfl)) (@pss_one _ _ _ (@ps_ret _ _ _ _ pe_bl)))))))))), ?_⟩
  obtain ⟨s0, d6, okc, okk, adj, kl, ⟨Tt, S, hrun, hjw⟩, kn, kf, rfl⟩ := hs
  have n61 : 61 ∉ cds (celS tb sp) := Rd.cel_no okc
  have hp : partV 61 (cds z) = [.str (celS tb sp), .str ⟨#[61]⟩, .str (sOf (Rd.txts ks))] := by
    unfold partV
    rw [hz]
    unfold Rd.dedT
    rw [if_pos (List.mem_append_right _ List.mem_cons_self), (Rd.bef_app n61).1, (Rd.bef_app n61).2, sOf_cds]
  have hlen := cds_len z
  have tl2 : (sOf (Rd.txts ks)).length ≤ 100000 := by
    rw [len_sOf]
    have e := congrArg List.length hz
    unfold Rd.dedT at e
    rw [List.length_append, List.length_cons] at e
    omega
  refine ⟨_, rfl, rfl, _, 61, rfl, rfl, szl (by omega), fun r hr' => ?_⟩
  rw [hp]
  have e1 := same_new hr' (.tup [.str (celS tb sp), .str ⟨#[61]⟩, .str (sOf (Rd.txts ks))])
  have hr1 : (upd H r (.tup [.str (celS tb sp), .str ⟨#[61]⟩, .str (sOf (Rd.txts ks))])) r = _ := upd_same
  generalize upd H r (.tup [.str (celS tb sp), .str ⟨#[61]⟩, .str (sOf (Rd.txts ks))]) = H1 at e1 hr1
  dsimp only [gName]
  refine ⟨_, rfl, r, _, _, _, rfl, rfl, SqT.of hr1, rfl, tb, sp, rfl, okc, fun cx H2 e2 hc2 => ?_⟩
  dsimp only [gName]
  have hr2 := e2 _ _ hr1
  refine ⟨_, rfl, r, _, _, _, rfl, rfl, SqT.of hr2, rfl, _, ks, rfl, cds_sOf _, tl2, okk, adj, fun pl xs H3 e3 hpl hxs pa3 => ?_⟩
  dsimp only [gName]
  have e13 := e1.trans (e2.trans e3)
  have hD3 := hD.over e13
  have hc3 := TbAt.over e3 hc2
  obtain ⟨c0, cdx, cp, rfl, hc0, hcp⟩ := hc3
  obtain ⟨ds, hds, pds⟩ := hD3.dd
  refine ⟨_, rfl, B.d, _, B.dx, _, _, rfl, hD3.o, T.cl_Draft, T.n_Draft_deeds, rfl, B.dl, _, rfl, .inl (SqL.of hds), rfl, _, rfl, ?_⟩
  refine ite2 (fun y => absurd (V.int.inj (dT y)) (by rw [pds.1]; omega)) (fun _ => ?_)
  refine ⟨_, rfl, rfl, _, rfl, iteF ?_⟩
  refine ⟨_, rfl, rfl, _, rfl, iteF ?_⟩
  refine ⟨_, rfl, pl, xs, ks, Tt, S, t, rfl, hxs, pa3, (by rw [pa3.1]; omega), okk, hrun, hjw, fun tv H4 e4 htv => ?_⟩
  dsimp only [gName]
  have tn : tv ≠ .non := by
    cases t with
    | n i => obtain ⟨_, _, rfl, _⟩ := htv; exact fun z => nomatch z
    | v z => obtain ⟨_, _, rfl, _⟩ := htv; exact fun z => nomatch z
    | c z sp => obtain ⟨_, _, _, rfl, _⟩ := htv; exact fun z => nomatch z
    | j z l r => obtain ⟨_, _, _, _, rfl, _⟩ := htv; exact fun z => nomatch z
  refine ⟨_, rfl, rfl, _, rfl, ?_⟩
  refine ite2 (fun y => absurd (dT y) tn) (fun _ => ?_)
  have e14 := e13.trans e4
  have xl : xs.length ≤ 999 := by rw [pa3.1]; exact kl
  -- the names
  refine ⟨_, rfl, _, rfl, szl (by show 1 ≤ 1000000; decide), fun l1 hl1 => ⟨_, rfl, l1, pl, [.ref c0], xs, rfl, rfl, upd_same, (same_new hl1 _) _ _ (e4 _ _ hxs), szl (by show 1 + _ ≤ _; omega), fun l2 hl2 => ?_⟩⟩
  have e5 := e4.trans ((same_new hl1 (.lst [.ref c0])).trans (same_new hl2 (.lst ([.ref c0] ++ xs))))
  have hl25 : (upd (upd H4 l1 (.lst [.ref c0])) l2 (.lst ([.ref c0] ++ xs))) l2 = some (.lst ([.ref c0] ++ xs)) := upd_same
  have htv5 := TbAt.over ((same_new hl1 (.lst [.ref c0])).trans (same_new hl2 (.lst ([.ref c0] ++ xs)))) htv
  generalize upd (upd H4 l1 (.lst [.ref c0])) l2 (.lst ([.ref c0] ++ xs)) = H5 at e5 hl25 htv5
  have hcel : TbAt (csOf a) H3 (.c tb sp) (.ref c0) := ⟨c0, cdx, cp, rfl, hc0, hcp⟩
  have pall : All2 (Rd.PtAt (csOf a) H3) ([.ref c0] ++ xs) (.t (.c tb sp) :: ks) := All2.cons hcel pa3
  have oall : ∀ k ∈ Rd.Tk.t (.c tb sp) :: ks, k.Ok := fun k hk => by
    rcases List.mem_cons.mp hk with rfl | hk
    · exact okc
    · exact okk k hk
  refine ⟨B.d, l2, _, _, .t (.c tb sp) :: ks, rfl, (hD3.over e5).drn, hl25, pall.mono fun _ _ x => x.over e5, oall, kn, fun H6 e6 => ⟨_, rfl, iteF ?_⟩⟩
  have e36 := e5.trans e6
  have hD6 := hD3.over e36
  -- the tables
  refine ⟨_, rfl, _, rfl, szl (by show 1 ≤ 1000000; decide), fun l1 hl1 => ⟨_, rfl, l1, pl, [.ref c0], xs, rfl, rfl, upd_same, (same_new hl1 _) _ _ (e36 _ _ hxs), szl (by show 1 + _ ≤ _; omega), fun l2 hl2 => ?_⟩⟩
  have e7 := e36.trans ((same_new hl1 (.lst [.ref c0])).trans (same_new hl2 (.lst ([.ref c0] ++ xs))))
  have hl27 : (upd (upd H6 l1 (.lst [.ref c0])) l2 (.lst ([.ref c0] ++ xs))) l2 = some (.lst ([.ref c0] ++ xs)) := upd_same
  have htv7 := TbAt.over (e6.trans ((same_new hl1 (.lst [.ref c0])).trans (same_new hl2 (.lst ([.ref c0] ++ xs))))) htv5
  generalize upd (upd H6 l1 (.lst [.ref c0])) l2 (.lst ([.ref c0] ++ xs)) = H7 at e7 hl27 htv7
  have hD7 := hD3.over e7
  obtain ⟨tbs, ht7, hf7, tl7⟩ := hD7.tb
  refine ⟨B.d, l2, B.dx, B.tl, _, _, .t (.c tb sp) :: ks, f, tbs, rfl, hD7.o, rfl, ht7, hf7, (by rw [List.length_cons]; omega), hl27, pall.mono fun _ _ x => x.over e7, oall, kf, fun H8 tb8 e8 ht8 hf8 tl8 => ⟨_, rfl, iteF ?_⟩⟩
  obtain ⟨kp8, out8, o8, ⟨ds8, hds8, pds8⟩, nm8, ⟨ls8, hls8, pls8⟩, ⟨hs8, hhs8, phs8⟩, pa8⟩ := hD7.tabs e8
  have hD8 : Rd.DrAt a.c_Draft a.c_Deed (csOf a) f H7 B D := hD7
  have htv8 := Rd.tb_kp kp8 htv7
  have hc8 := Rd.tb_kp kp8 (TbAt.over e7 hcel)
  obtain ⟨c0', cdx', cp', ec0, hc0, hcp⟩ := hc8
  cases ec0
  clear hc2 hcel pall
  -- the deed
  refine ⟨_, rfl, B.d, _, B.dx, _, _, rfl, o8, T.cl_Draft, T.n_Draft_deeds, rfl, .inl ⟨rfl, _, SqL.of hds8⟩, ?_⟩
  refine ⟨_, rfl, B.d, _, B.dx, _, _, rfl, o8, T.cl_Draft, T.n_Draft_names, rfl, B.nl, _, rfl, .inl ⟨SqL.of nm8, fun t1 ht1 => ?_⟩⟩
  have s1 := same_new ht1 (.tup (D.lp.map fun t => V.str t.nm))
  have g1 : (upd H8 t1 (.tup (D.lp.map fun t => V.str t.nm))) t1 = _ := upd_same
  generalize upd H8 t1 (.tup (D.lp.map fun t => V.str t.nm)) = H9 at s1 g1
  refine ⟨_, rfl, B.d, _, B.dx, _, _, rfl, s1 _ _ o8, T.cl_Draft, T.n_Draft_lows, rfl, B.ll, _, rfl, .inl ⟨SqL.of (s1 _ _ hls8), fun t2 ht2 => ?_⟩⟩
  have s2 := s1.trans (same_new ht2 (.tup ls8))
  have g1 := (same_new ht2 (.tup ls8)) _ _ g1
  have g2 : (upd H9 t2 (.tup ls8)) t2 = _ := upd_same
  generalize upd H9 t2 (.tup ls8) = H10 at s2 g1 g2
  refine ⟨_, rfl, B.d, _, B.dx, _, _, rfl, s2 _ _ o8, T.cl_Draft, T.n_Draft_highs, rfl, B.hl, _, rfl, .inl ⟨SqL.of (s2 _ _ hhs8), fun t3 ht3 => ?_⟩⟩
  have s3 := s2.trans (same_new ht3 (.tup hs8))
  have g1 := (same_new ht3 (.tup hs8)) _ _ g1
  have g2 := (same_new ht3 (.tup hs8)) _ _ g2
  have g3 : (upd H10 t3 (.tup hs8)) t3 = _ := upd_same
  generalize upd H10 t3 (.tup hs8) = H11 at s3 g1 g2 g3
  refine ⟨_, rfl, c0, _, cdx', _, _, rfl, s3 _ _ hc0, T.cl_Cell, T.n_Cell_table, rfl, _, rfl, c0, _, cdx', _, _, rfl, s3 _ _ hc0, T.cl_Cell, T.n_Cell_spots, rfl, _, rfl, ?_⟩
  refine ⟨_, rfl, B.d, _, B.dx, _, _, rfl, s3 _ _ o8, T.cl_Draft, T.n_Draft_path, rfl, B.pl, _, rfl, .inl ⟨SqL.of (s3 _ _ pa8), fun t4 ht4 => ?_⟩⟩
  have s4 := s3.trans (same_new ht4 (.tup ((D.pa ++ [D.la]).map V.int)))
  have g1 := (same_new ht4 (.tup ((D.pa ++ [D.la]).map V.int))) _ _ g1
  have g2 := (same_new ht4 (.tup ((D.pa ++ [D.la]).map V.int))) _ _ g2
  have g3 := (same_new ht4 (.tup ((D.pa ++ [D.la]).map V.int))) _ _ g3
  have g4 : (upd H11 t4 (.tup ((D.pa ++ [D.la]).map V.int))) t4 = _ := upd_same
  generalize upd H11 t4 (.tup ((D.pa ++ [D.la]).map V.int)) = H12 at s4 g1 g2 g3 g4
  intro x dx nx ndx ne
  refine ⟨x, dx, _, _, _, _, _, _, _, rfl, upd_same, fun H13 k13 hx13 => ⟨rfl, ?_⟩⟩
  obtain ⟨dx2, hx13⟩ := hx13
  have m13 := made_same nx ndx k13
  have s5 := s4.trans m13
  have hds13 := s5 _ _ hds8
  have hDo : DoAt a.c_Deed (csOf a) H13 (.ref x) ⟨D.lp, tb, sp, t, D.pa ++ [D.la]⟩ := ⟨x, dx2, t1, t2, t3, cp', t4, tv, ls8, hs8, rfl, hx13, m13 _ _ g1, m13 _ _ g2, pls8.mono fun _ _ z => z.tk (Same.tk s5), m13 _ _ g3, phs8.mono fun _ _ z => z.tk (Same.tk s5), hcp.tk (Same.tk s5), TbAt.over s5 htv8, m13 _ _ g4⟩
  have pa13 : H13 B.pl = some (.lst (D.pa.map V.int ++ [.int D.la])) := by rw [s5 _ _ pa8, List.map_append]; rfl
  have k13 := hD7.deed (s5 _ _ o8) (s5 _ _ nm8) (s5 _ _ hls8) (pls8.mono fun _ _ z => z.tk (Same.tk s5)) (s5 _ _ hhs8) (phs8.mono fun _ _ z => z.tk (Same.tk s5)) pa13 hds13 (pds8.mono fun _ _ z => z.over s5) hDo (s5 _ _ ht8) hf8 (by rw [List.length_cons] at tl8; omega)
  obtain ⟨⟨a1, a2, a3, a4⟩, _⟩ := hD7.nds
  have n4 := hD7.ne.2.2.2.2.1
  have o14 : (upd H13 B.dl (.lst (ds8 ++ [.ref x]))) B.d = _ := (upd_ne (Ne.symm n4)).trans (s5 _ _ o8)
  have p14 : (upd H13 B.dl (.lst (ds8 ++ [.ref x]))) B.pl = _ := (upd_ne (Ne.symm a4)).trans pa13
  refine ⟨B.dl, _, _, rfl, rfl, hds13, szlt (by rw [pds8.1]; omega), ?_⟩
  refine ⟨_, rfl, B.d, _, B.dx, _, _, rfl, o14, T.cl_Draft, T.n_Draft_path, rfl, _, rfl, B.pl, _, _, rfl, rfl, p14, _, _, rfl, rfl, B.pl, _, _, _, rfl, rfl, p14, Rd.ix_end _ _, ?_⟩
  rw [Rd.set_last]
  exact q _ ((Rd.Out.of (e13.trans e7)).trans (out8.trans ((Rd.Out.of s5).trans k13.1))) k13.2

theorem ok_size_taken (T : Tx w K mg a) : FnOk P w K mg base CX0 3 a.f_size_taken a.d_size_taken ["draft", "words"] (Rd.spSizeT a.c_Draft a.c_Deed (csOf a)) := by
  have G_number_of := ok_number_of (P := P) (w := w) (base := base) T
  refine T.F_size_taken.ok sc_size_taken (fun vs H Q E h => ?_) (fun cdv A outer s H vs Q E hr h => ?_)
  · obtain ⟨_, _, _, _, _, _, rfl, _⟩ := h; rfl
  obtain ⟨f, B, D, D', wl, n, rfl, hD, hw, hs, q⟩ := h
  refine ⟨_, (@pss_cons _ _ _ _ _ (@ps_if _ _ _ _ _ _ _ _ ((@pw_or _ _ _ _ _ _ _ (@pt_cmpR _ _ _ _ _ _ _ _ op_ne (@pe_callB _ _ _ _ _ _ _ _ _ call_len_seq (by rfl) T.z_len bt_len (@pa_cons _ _ _ _ _ (pv 1) pa_nil (by rfl)) (by decide) (by decide) (by rfl) (by rfl)) pe_int (@nomark _ _ (by decide) (by decide))) (@pw_or1 _ _ _ _ (@pt_cmpR _ _ _ _ _ _ _ _ op_ne (@pe_ix _ _ _ _ _ _ _ ix_list (pv 1) pe_int (fun _ _ => rfl)) pe_str (@nomark _ _ (by decide) (by decide)))))).pt (@pss_one _ _ _ (@ps_ret _ _ _ _ pe_bl)) pss_nil) (@pss_cons _ _ _ _ _ (@ps_set _ _ (2) _ _ _ _ sc_size_taken.nd rfl (Or.inl rfl) (@pe_call _ _ _ _ _ _ _ _ _ _ _ _ _ _ _ _ G_number_of (hr.mono (by omega)) (by rfl) T.m_number_of T.F_number_of.kp T.b_number_of .nil pass0 (@pa_cons _ _ _ _ _ (@pe_ix _ _ _ _ _ _ _ ix_list (pv 1) pe_int (fun _ _ => rfl)) pa_nil (by rfl)) (by decide) (by rfl) (by rfl)) (by rfl) (by first | exact .inl rfl | exact .inr rfl | assumption)) (@pss_cons _ _ _ _ _ (@ps_if _ _ _ _ _ _ _ _ ((@pw_or _ _ _ _ _ _ _ (@pt_cmpR _ _ _ _ _ _ _ _ op_isN (pv 2) pe_non (@nomark _ _ (by decide) (by decide))) (@pw_or1 _ _ _ _ (@pt_cmpR _ _ _ _ _ _ _ _ op_lt (pv 2) (@pe_glob _ _ _ _ _ (by rfl) T.g_LEAST_SIZE T.r_LEAST_SIZE (by decide)) (@nomark _ _ (by decide) (by decide)))))).pt (@pss_one _ _ _ (@ps_ret _ _ _ _ pe_bl)) pss_nil) (@pss_cons _ _ _ _ _ (@ps_fld _ _ _ _ _ _ _ _ (pv 0) (pv 2) rfl) (@pss_one _ _ _ (@ps_ret _ _ _ _ pe_bl)))))), ?_⟩
  obtain ⟨s0, s1, s2, rfl⟩ := hs
  obtain ⟨gd, dg⟩ := Rd.nS_good (i := n) (by omega) s2
  have nv : numV (cds (nS n)) = .int n := by unfold numV; rw [if_pos gd]; exact congrArg V.int dg
  have nl : (nS n).length ≤ 1000 := by rw [← cds_len]; have := gd.2.1; omega
  refine ⟨_, rfl, wl, _, rfl, .inl (SqL.of hw), rfl, _, rfl, iteF ?_⟩
  refine ⟨_, rfl, wl, _, _, _, rfl, rfl, SqL.of hw, rfl, rfl, _, rfl, iteF ?_⟩
  refine ⟨_, rfl, wl, _, _, _, rfl, rfl, SqL.of hw, rfl, _, rfl, nl, fun H1 e1 => ?_⟩
  rw [nv]
  dsimp only [gName]
  refine ⟨_, rfl, rfl, _, rfl, iteF ?_⟩
  refine ⟨_, rfl, _, _, rfl, rfl, _, rfl, ?_⟩
  rw [decide_eq_false (show ¬ n < 2 by omega)]
  refine iteF ?_
  have hD1 := hD.over e1
  obtain ⟨o2, d2⟩ := hD1.size n
  exact ⟨_, rfl, _, rfl, B.d, _, B.dx, _, rfl, hD1.o, T.cl_Draft, T.n_Draft_size, (by show 7 < 1000; decide), q _ ((Rd.Out.of e1).trans o2) d2⟩

theorem ok_loop_taken (T : Tx w K mg a) : FnOk P w K mg base CX0 5 a.f_loop_taken a.d_loop_taken ["draft", "words"] (Rd.spLoopT a.c_Draft a.c_Deed (csOf a)) := by
  have G_is_name := ok_is_name (P := P) (w := w) (base := base) T
  have G_spot_of := ok_spot_of (P := P) (w := w) (base := base) T
  have G_spots_known := ok_spots_known (P := P) (w := w) (base := base) T
  refine T.F_loop_taken.ok sc_loop_taken (fun vs H Q E h => ?_) (fun cdv A outer s H vs Q E hr h => ?_)
  · obtain ⟨_, _, _, _, _, _, rfl, _⟩ := h; rfl
  obtain ⟨f, B, D, D', wl, t, rfl, hD, hw, hs, q⟩ := h
  refine ⟨_, (@pss_cons _ _ _ _ _ (@ps_if _ _ _ _ _ _ _ _ ((@pw_or _ _ _ _ _ _ _ (@pt_cmpR _ _ _ _ _ _ _ _ op_ne (@pe_callB _ _ _ _ _ _ _ _ _ call_len_seq (by rfl) T.z_len bt_len (@pa_cons _ _ _ _ _ (pv 1) pa_nil (by rfl)) (by decide) (by decide) (by rfl) (by rfl)) pe_int (@nomark _ _ (by decide) (by decide))) (@pw_or1 _ _ _ _ (@pt_cmpR _ _ _ _ _ _ _ _ op_eq (@pe_callB _ _ _ _ _ _ _ _ _ call_len_seq (by rfl) T.z_len bt_len (@pa_cons _ _ _ _ _ (@pe_fld _ _ _ _ _ (pv 0) rfl) pa_nil (by rfl)) (by decide) (by decide) (by rfl) (by rfl)) (@pe_glob _ _ _ _ _ (by rfl) T.g_MOST_LOOPS T.r_MOST_LOOPS (by decide)) (@nomark _ _ (by decide) (by decide)))))).pt (@pss_one _ _ _ (@ps_ret _ _ _ _ pe_bl)) pss_nil) (@pss_cons _ _ _ _ _ (@ps_if _ _ _ _ _ _ _ _ ((@pw_or _ _ _ _ _ _ _ (@pt_not _ _ _ _ (@pt_val _ _ _ (@pe_call _ _ _ _ _ _ _ _ _ _ _ _ _ _ _ _ G_is_name (hr.mono (by omega)) (by rfl) T.m_is_name T.F_is_name.kp T.b_is_name .nil pass0 (@pa_cons _ _ _ _ _ (@pe_ix _ _ _ _ _ _ _ ix_list (pv 1) pe_int (fun _ _ => rfl)) pa_nil (by rfl)) (by decide) (by rfl) (by rfl)) (by intro _ ; rfl))) (@pw_or1 _ _ _ _ (@pt_cmpR _ _ _ _ _ _ _ _ op_in_seq (@pe_ix _ _ _ _ _ _ _ ix_list (pv 1) pe_int (fun _ _ => rfl)) (@pe_fld _ _ _ _ _ (pv 0) rfl) (by with_unfolding_all rfl))))).pt (@pss_one _ _ _ (@ps_ret _ _ _ _ pe_bl)) pss_nil) (@pss_cons _ _ _ _ _ (@ps_set _ _ (2) _ _ _ _ sc_loop_taken.nd rfl (Or.inl rfl) (@pe_call _ _ _ _ _ _ _ _ _ _ _ _ _ _ _ _ G_spot_of (hr.mono (by omega)) (by rfl) T.m_spot_of T.F_spot_of.kp T.b_spot_of .nil pass0 (@pa_cons _ _ _ _ _ (@pe_ix _ _ _ _ _ _ _ ix_list (pv 1) pe_int (fun _ _ => rfl)) pa_nil (by rfl)) (by decide) (by rfl) (by rfl)) (by rfl) (by first | exact .inl rfl | exact .inr rfl | assumption)) (@pss_cons _ _ _ _ _ (@ps_set _ _ (3) _ _ _ _ sc_loop_taken.nd rfl (Or.inl rfl) (@pe_call _ _ _ _ _ _ _ _ _ _ _ _ _ _ _ _ G_spot_of (hr.mono (by omega)) (by rfl) T.m_spot_of T.F_spot_of.kp T.b_spot_of .nil pass0 (@pa_cons _ _ _ _ _ (@pe_ix _ _ _ _ _ _ _ ix_list (pv 1) pe_int (fun _ _ => rfl)) pa_nil (by rfl)) (by decide) (by rfl) (by rfl)) (by rfl) (by first | exact .inl rfl | exact .inr rfl | assumption)) (@pss_cons _ _ _ _ _ (@ps_if _ _ _ _ _ _ _ _ ((@pw_or _ _ _ _ _ _ _ (@pt_cmpR _ _ _ _ _ _ _ _ op_isN (pv 2) pe_non (@nomark _ _ (by decide) (by decide))) (@pw_or _ _ _ _ _ _ _ (@pt_cmpR _ _ _ _ _ _ _ _ op_isN (pv 3) pe_non (@nomark _ _ (by decide) (by decide))) (@pw_or1 _ _ _ _ (@pt_not _ _ _ _ (@pt_val _ _ _ (@pe_call _ _ _ _ _ _ _ _ _ _ _ _ _ _ _ _ G_spots_known (hr.mono (by omega)) (by rfl) T.m_spots_known T.F_spots_known.kp T.b_spots_known .nil pass0 (@pa_cons _ _ _ _ _ (pv 0) (@pa_cons _ _ _ _ _ (@pe_tup _ _ _ _ _ (@pa_cons _ _ _ _ _ (pv 2) (@pa_cons _ _ _ _ _ (pv 3) pa_nil (by rfl)) (by rfl))) pa_nil (by rfl)) (by rfl)) (by decide) (by rfl) (by rfl)) (by intro _ ; rfl))))))).pt (@pss_one _ _ _ (@ps_ret _ _ _ _ pe_bl)) pss_nil) (@pss_cons _ _ _ _ _ (@ps_expr _ _ _ _ (@pe_bm _ _ _ _ _ _ _ _ _ _ _ _ PySem.F.plainAttrs_list PySem.F.slot_list_append PySem.F.type_list_append mt_append (@pe_fld _ _ _ _ _ (pv 0) rfl) (@pa_cons _ _ _ _ _ (@pe_ix _ _ _ _ _ _ _ ix_list (pv 1) pe_int (fun _ _ => rfl)) pa_nil (by rfl)) (by rfl) (by rfl) (by rfl) (by rfl) (by rfl)) (by rfl)) (@pss_cons _ _ _ _ _ (@ps_expr _ _ _ _ (@pe_bm _ _ _ _ _ _ _ _ _ _ _ _ PySem.F.plainAttrs_list PySem.F.slot_list_append PySem.F.type_list_append mt_append (@pe_fld _ _ _ _ _ (pv 0) rfl) (@pa_cons _ _ _ _ _ (pv 2) pa_nil (by rfl)) (by rfl) (by rfl) (by rfl) (by rfl) (by rfl)) (by rfl)) (@pss_cons _ _ _ _ _ (@ps_expr _ _ _ _ (@pe_bm _ _ _ _ _ _ _ _ _ _ _ _ PySem.F.plainAttrs_list PySem.F.slot_list_append PySem.F.type_list_append mt_append (@pe_fld _ _ _ _ _ (pv 0) rfl) (@pa_cons _ _ _ _ _ (pv 3) pa_nil (by rfl)) (by rfl) (by rfl) (by rfl) (by rfl) (by rfl)) (by rfl)) (@pss_cons _ _ _ _ _ (@ps_expr _ _ _ _ (@pe_bm _ _ _ _ _ _ _ _ _ _ _ _ PySem.F.plainAttrs_list PySem.F.slot_list_append PySem.F.type_list_append mt_append (@pe_fld _ _ _ _ _ (pv 0) rfl) (@pa_cons _ _ _ _ _ pe_int pa_nil (by rfl)) (by rfl) (by rfl) (by rfl) (by rfl) (by rfl)) (by rfl)) (@pss_one _ _ _ (@ps_ret _ _ _ _ pe_bl))))))))))), ?_⟩
  obtain ⟨s0, l3, hnm, hnin, slo, shi, klo, khi, rfl⟩ := hs
  have zl : t.nm.length ≤ 1000 := by have := hnm.2.1; rw [cds_len] at this; omega
  refine ⟨_, rfl, wl, _, rfl, .inl (SqL.of hw), rfl, _, rfl, iteF ?_⟩
  refine ⟨_, rfl, B.d, _, B.dx, _, _, rfl, hD.o, T.cl_Draft, T.n_Draft_names, rfl, B.nl, _, rfl, .inl (SqL.of hD.nm), rfl, _, rfl, ?_⟩
  refine ite2 (fun y => absurd (V.int.inj (dT y)) (by rw [List.length_map]; omega)) (fun _ => ?_)
  refine ⟨_, rfl, wl, _, _, _, rfl, rfl, SqL.of hw, rfl, _, rfl, zl, fun H1 e1 => ⟨_, rfl, ?_⟩⟩
  rw [decide_eq_true hnm]
  refine iteF ?_
  have hD1 := hD.over e1
  have hw1 := e1 _ _ hw
  have hn1 : H1 B.nl = some (.lst ((D.lp.map (·.nm)).map V.str)) := by rw [List.map_map]; exact hD1.nm
  refine ⟨_, rfl, wl, _, _, _, rfl, rfl, SqL.of hw1, rfl, _, rfl, B.d, _, B.dx, _, _, rfl, hD1.o, T.cl_Draft, T.n_Draft_names, rfl, B.nl, _, rfl, .inl (SqL.of hn1), rfl, Rd.flat_strs _, _, rfl, ?_⟩
  rw [show inV (V.str t.nm) ((D.lp.map (·.nm)).map V.str) = false from (Rd.in_strs _ _).trans (decide_eq_false hnin)]
  refine iteF ?_
  refine ⟨_, rfl, wl, _, _, _, rfl, rfl, SqL.of hw1, rfl, _, rfl, (by have := spS_len slo.2; omega), ?_⟩
  rw [Rd.spot_read slo]
  intro r2 H2 e2 h2
  rw [sOf_cds] at h2
  dsimp only [gName]
  have hw2 := e2 _ _ hw1
  refine ⟨_, rfl, wl, _, _, _, rfl, rfl, SqL.of hw2, rfl, _, rfl, (by have := spS_len shi.2; omega), ?_⟩
  rw [Rd.spot_read shi]
  intro r3 H3 e3 h3
  rw [sOf_cds] at h3
  dsimp only [gName]
  refine ⟨_, rfl, rfl, _, rfl, iteF ?_⟩
  refine ⟨_, rfl, rfl, _, rfl, iteF ?_⟩
  refine ⟨_, rfl, _, rfl, _, rfl, szl (by show 2 ≤ 1000000; decide), fun tp htp => ?_⟩
  have e4 := e1.trans (e2.trans (e3.trans (same_new htp (.tup [.ref r2, .ref r3]))))
  have h24 := (e3.trans (same_new htp (.tup [.ref r2, .ref r3]))) _ _ h2
  have h34 := (same_new htp (.tup [.ref r2, .ref r3])) _ _ h3
  have htp4 : (upd H3 tp (.tup [.ref r2, .ref r3])) tp = some (.tup [.ref r2, .ref r3]) := upd_same
  generalize upd H3 tp (.tup [.ref r2, .ref r3]) = H4 at e4 h24 h34 htp4
  refine ⟨B.d, tp, _, [t.lo, t.hi], rfl, (hD.over e4).drn, ⟨_, htp4, rfl, fun i x s hx hs => ?_⟩, (by show 2 ≤ 1000; decide), fun H5 e5 => ⟨_, rfl, ?_⟩⟩
  · match i, hx, hs with
    | 0, hx, hs => cases hx; cases hs; exact ⟨r2, rfl, h24⟩
    | 1, hx, hs => cases hx; cases hs; exact ⟨r3, rfl, h34⟩
    | _ + 2, hx, hs => cases hx
  rw [show ([t.lo, t.hi].all (Rd.knw (D.lp.map (·.nm)))) = true from by rw [List.all_cons, List.all_cons, klo, khi]; rfl]
  refine iteF ?_
  have e05 := e4.trans e5
  have hD5 := hD.over e05
  have hw5 := e05 _ _ hw
  have s2 : SpoAt H5 (.ref r2) t.lo := ⟨r2, rfl, e5 _ _ h24⟩
  have s3 : SpoAt H5 (.ref r3) t.hi := ⟨r3, rfl, e5 _ _ h34⟩
  obtain ⟨y1, y2, y3, y4, y5, y6, m1, m2, m3, m4, m5⟩ := hD5.ne
  obtain ⟨⟨a1, a2, a3, a4⟩, ⟨b1, b2, b3⟩, ⟨c1, c2⟩, d1⟩ := hD5.nds
  obtain ⟨ls, hls, pls⟩ := hD5.lo
  obtain ⟨hs, hhs, phs⟩ := hD5.hi
  have k4 := hD5.four (lp := D.lp ++ [t]) (pa := D.pa ++ [D.la]) (la := 0) (pls.snoc s2) (phs.snoc s3) (by rw [List.length_append, List.length_append, hD5.pl]; rfl)
  have hnm5 := hD5.nm
  refine ⟨_, rfl, B.d, _, B.dx, _, _, rfl, hD5.o, T.cl_Draft, T.n_Draft_names, rfl, .inl ⟨rfl, _, SqL.of hnm5⟩, _, rfl, wl, _, _, _, rfl, rfl, SqL.of hw5, rfl, B.nl, _, _, rfl, rfl, hnm5, szlt (by rw [List.length_map]; omega), ?_⟩
  rw [show D.lp.map (fun t => V.str t.nm) ++ [.str t.nm] = (D.lp ++ [t]).map (fun t => V.str t.nm) from by rw [List.map_append]; rfl]
  have o1 : (upd H5 B.nl (.lst ((D.lp ++ [t]).map fun t => V.str t.nm))) B.d = _ := ((upd_ne (Ne.symm y1)).trans hD5.o)
  have l1 : (upd H5 B.nl (.lst ((D.lp ++ [t]).map fun t => V.str t.nm))) B.ll = _ := ((upd_ne (Ne.symm b1)).trans hls)
  refine ⟨_, rfl, B.d, _, B.dx, _, _, rfl, o1, T.cl_Draft, T.n_Draft_lows, rfl, .inl ⟨rfl, _, SqL.of l1⟩, _, rfl, B.ll, _, _, rfl, rfl, l1, szlt (by rw [pls.1]; omega), ?_⟩
  have o2 : (upd (upd H5 B.nl (.lst ((D.lp ++ [t]).map fun t => V.str t.nm))) B.ll (.lst (ls ++ [.ref r2]))) B.d = _ := ((upd_ne (Ne.symm y2)).trans o1)
  have l2 : (upd (upd H5 B.nl (.lst ((D.lp ++ [t]).map fun t => V.str t.nm))) B.ll (.lst (ls ++ [.ref r2]))) B.hl = _ := ((upd_ne (Ne.symm c1)).trans ((upd_ne (Ne.symm b2)).trans hhs))
  refine ⟨_, rfl, B.d, _, B.dx, _, _, rfl, o2, T.cl_Draft, T.n_Draft_highs, rfl, .inl ⟨rfl, _, SqL.of l2⟩, _, rfl, B.hl, _, _, rfl, rfl, l2, szlt (by rw [phs.1]; omega), ?_⟩
  have o3 : (upd (upd (upd H5 B.nl (.lst ((D.lp ++ [t]).map fun t => V.str t.nm))) B.ll (.lst (ls ++ [.ref r2]))) B.hl (.lst (hs ++ [.ref r3]))) B.d = _ := ((upd_ne (Ne.symm y3)).trans o2)
  have l3' : (upd (upd (upd H5 B.nl (.lst ((D.lp ++ [t]).map fun t => V.str t.nm))) B.ll (.lst (ls ++ [.ref r2]))) B.hl (.lst (hs ++ [.ref r3]))) B.pl = _ := ((upd_ne (Ne.symm d1)).trans ((upd_ne (Ne.symm c2)).trans ((upd_ne (Ne.symm b3)).trans hD5.pa)))
  refine ⟨_, rfl, B.d, _, B.dx, _, _, rfl, o3, T.cl_Draft, T.n_Draft_path, rfl, .inl ⟨rfl, _, SqL.of l3'⟩, B.pl, _, _, rfl, rfl, l3', szlt (by rw [List.length_map, List.length_append, hD5.pl, List.length_singleton]; omega), ?_⟩
  rw [List.map_append (f := V.int) (l₁ := D.pa ++ [D.la]) (l₂ := [0])] at k4
  exact q _ ((Rd.Out.of e05).trans k4.1) k4.2

theorem ok_end_taken (T : Tx w K mg a) : FnOk P w K mg base CX0 1 a.f_end_taken a.d_end_taken ["draft", "words"] (Rd.spEndT a.c_Draft a.c_Deed (csOf a)) := by
  refine T.F_end_taken.ok sc_end_taken (fun vs H Q E h => ?_) (fun cdv A outer s H vs Q E hr h => ?_)
  · obtain ⟨_, _, _, _, _, rfl, _⟩ := h; rfl
  obtain ⟨f, B, D, D', wl, rfl, hD, hw, hs, q⟩ := h
  refine ⟨_, (@pss_cons _ _ _ _ _ (@ps_if _ _ _ _ _ _ _ _ ((@pw_or _ _ _ _ _ _ _ (@pt_cmpR _ _ _ _ _ _ _ _ op_ne (@pe_callB _ _ _ _ _ _ _ _ _ call_len_seq (by rfl) T.z_len bt_len (@pa_cons _ _ _ _ _ (pv 1) pa_nil (by rfl)) (by decide) (by decide) (by rfl) (by rfl)) pe_int (@nomark _ _ (by decide) (by decide))) (@pw_or _ _ _ _ _ _ _ (@pt_cmpR _ _ _ _ _ _ _ _ (@op_eqE _ (@hu64 _ _ hr)) (@pe_fld _ _ _ _ _ (pv 0) rfl) (@pe_lst _ _ _ _ pa_nil) (@nomark _ _ (by decide) (by decide))) (@pw_or1 _ _ _ _ (@pt_cmpR _ _ _ _ _ _ _ _ op_eq (@pe_ix _ _ _ _ _ _ _ ix_list (@pe_fld _ _ _ _ _ (pv 0) rfl) (@pe_un _ _ _ _ _ _ un_neg pe_int) (fun _ _ => rfl)) pe_int (@nomark _ _ (by decide) (by decide))))))).pt (@pss_one _ _ _ (@ps_ret _ _ _ _ pe_bl)) pss_nil) (@pss_cons _ _ _ _ _ (@ps_expr _ _ _ _ (@pe_bm0 _ _ _ _ _ _ _ _ _ PySem.F.plainAttrs_list PySem.F.slot_list_pop PySem.F.type_list_pop mt_pop (@pe_fld _ _ _ _ _ (pv 0) rfl) (by rfl) (by rfl)) (by rfl)) (@pss_cons _ _ _ _ _ (@ps_expr _ _ _ _ (@pe_bm0 _ _ _ _ _ _ _ _ _ PySem.F.plainAttrs_list PySem.F.slot_list_pop PySem.F.type_list_pop mt_pop (@pe_fld _ _ _ _ _ (pv 0) rfl) (by rfl) (by rfl)) (by rfl)) (@pss_cons _ _ _ _ _ (@ps_expr _ _ _ _ (@pe_bm0 _ _ _ _ _ _ _ _ _ PySem.F.plainAttrs_list PySem.F.slot_list_pop PySem.F.type_list_pop mt_pop (@pe_fld _ _ _ _ _ (pv 0) rfl) (by rfl) (by rfl)) (by rfl)) (@pss_cons _ _ _ _ _ (@ps_expr _ _ _ _ (@pe_bm0 _ _ _ _ _ _ _ _ _ PySem.F.plainAttrs_list PySem.F.slot_list_pop PySem.F.type_list_pop mt_pop (@pe_fld _ _ _ _ _ (pv 0) rfl) (by rfl) (by rfl)) (by rfl)) (@pss_cons _ _ _ _ _ (@ps_augS _ _ _ _ _ _ _ _ _ _ _ _ _ (@pe_fld _ _ _ _ _ (pv 0) rfl) (@pe_un _ _ _ _ _ _ un_neg pe_int) get_neg pe_int ip_add set_list (by intros ; rfl)) (@pss_one _ _ _ (@ps_ret _ _ _ _ pe_bl)))))))), ?_⟩
  obtain ⟨s0, lp, t0, pa, m, e1, e2, la0, rfl⟩ := hs
  refine ⟨_, rfl, wl, _, rfl, .inl (SqL.of hw), rfl, _, rfl, iteF ?_⟩
  refine ⟨_, rfl, B.d, _, B.dx, _, _, rfl, hD.o, T.cl_Draft, T.n_Draft_names, rfl, szl (by show 0 ≤ 1000000; decide), fun en hen => ?_⟩
  have es := same_new hen (.lst [])
  have hD1 := hD.over es
  have hen1 : (upd H en (.lst [])) en = some (.lst []) := upd_same
  generalize upd H en (.lst []) = H1 at es hD1 hen1
  obtain ⟨n1, n2, n3, n4, n5, n6, m1, m2, m3, m4, m5⟩ := hD1.ne
  obtain ⟨⟨a1, a2, a3, a4⟩, ⟨b1, b2, b3⟩, ⟨c1, c2⟩, d1⟩ := hD1.nds
  have hnm : H1 B.nl = some (.lst (lp.map (fun t => V.str t.nm) ++ [.str t0.nm])) := by rw [hD1.nm, e1, List.map_append]; rfl
  obtain ⟨ls, hls, pls⟩ := hD1.lo
  obtain ⟨hs, hhs, phs⟩ := hD1.hi
  rw [e1] at pls phs
  obtain ⟨ls, lx, rfl, pls, -⟩ := Rd.all2_pop pls
  obtain ⟨hs, hx, rfl, phs, -⟩ := Rd.all2_pop phs
  have hpa : H1 B.pl = some (.lst ((pa.map V.int ++ [.int m]) ++ [.int D.la])) := by rw [hD1.pa, e2, List.map_append, List.map_append]; rfl
  refine ⟨B.nl, en, _, rfl, rfl, SqL.of hnm, SqL.of hen1, _, rfl, ?_⟩
  refine ite2 (fun y => absurd y (by simp)) (fun _ => ?_)
  refine ⟨_, rfl, B.d, _, B.dx, _, _, rfl, hD1.o, T.cl_Draft, T.n_Draft_path, rfl, _, rfl, B.pl, _, _, _, rfl, rfl, SqL.of hpa, atI_last _ _, rfl, _, rfl, ?_⟩
  refine ite2 (fun y => absurd (V.int.inj (dT y)) la0) (fun _ => ?_)
  refine ⟨_, rfl, B.d, _, B.dx, _, _, rfl, hD1.o, T.cl_Draft, T.n_Draft_names, rfl, .inl ⟨rfl, _, SqL.of hnm⟩, B.nl, _, _, rfl, rfl, hnm, pop_last.1, ?_⟩
  rw [pop_last.2]
  have o1 : (upd H1 B.nl (.lst (lp.map fun t => V.str t.nm))) B.d = _ := ((upd_ne (Ne.symm n1)).trans hD1.o)
  have l1 : (upd H1 B.nl (.lst (lp.map fun t => V.str t.nm))) B.ll = _ := ((upd_ne (Ne.symm b1)).trans hls)
  refine ⟨_, rfl, B.d, _, B.dx, _, _, rfl, o1, T.cl_Draft, T.n_Draft_lows, rfl, .inl ⟨rfl, _, SqL.of l1⟩, B.ll, _, _, rfl, rfl, l1, pop_last.1, ?_⟩
  rw [pop_last.2]
  have o2 : (upd (upd H1 B.nl (.lst (lp.map fun t => V.str t.nm))) B.ll (.lst ls)) B.d = _ := ((upd_ne (Ne.symm n2)).trans o1)
  have l2 : (upd (upd H1 B.nl (.lst (lp.map fun t => V.str t.nm))) B.ll (.lst ls)) B.hl = _ := ((upd_ne (Ne.symm c1)).trans ((upd_ne (Ne.symm b2)).trans hhs))
  refine ⟨_, rfl, B.d, _, B.dx, _, _, rfl, o2, T.cl_Draft, T.n_Draft_highs, rfl, .inl ⟨rfl, _, SqL.of l2⟩, B.hl, _, _, rfl, rfl, l2, pop_last.1, ?_⟩
  rw [pop_last.2]
  have o3 : (upd (upd (upd H1 B.nl (.lst (lp.map fun t => V.str t.nm))) B.ll (.lst ls)) B.hl (.lst hs)) B.d = _ := ((upd_ne (Ne.symm n3)).trans o2)
  have l3 : (upd (upd (upd H1 B.nl (.lst (lp.map fun t => V.str t.nm))) B.ll (.lst ls)) B.hl (.lst hs)) B.pl = _ := ((upd_ne (Ne.symm d1)).trans ((upd_ne (Ne.symm c2)).trans ((upd_ne (Ne.symm b3)).trans hpa)))
  refine ⟨_, rfl, B.d, _, B.dx, _, _, rfl, o3, T.cl_Draft, T.n_Draft_path, rfl, .inl ⟨rfl, _, SqL.of l3⟩, B.pl, _, _, rfl, rfl, l3, pop_last.1, ?_⟩
  rw [pop_last.2]
  have o4 : (upd (upd (upd (upd H1 B.nl (.lst (lp.map fun t => V.str t.nm))) B.ll (.lst ls)) B.hl (.lst hs)) B.pl (.lst (pa.map V.int ++ [.int m]))) B.d = _ := ((upd_ne (Ne.symm n4)).trans o3)
  refine ⟨_, rfl, B.d, _, B.dx, _, _, rfl, o4, T.cl_Draft, T.n_Draft_path, rfl, _, rfl, B.pl, _, _, rfl, rfl, upd_same, _, _, rfl, rfl, B.pl, _, _, _, rfl, rfl, upd_same, Rd.ix_end _ _, ?_⟩
  rw [Rd.set_last, upd_upd]
  have k4 := hD1.four (lp := lp) (pa := pa) (la := m + 1) pls phs (by have := hD1.pl; rw [e1, e2, List.length_append, List.length_append] at this; exact Nat.add_right_cancel this)
  rw [List.map_append] at k4
  exact q _ ((Rd.Out.of es).trans k4.1) k4.2

theorem ok_taken (T : Tx w K mg a) : FnOk P w K mg base CX0 9 a.f_taken a.d_taken ["draft", "row"] (Rd.spTaken a.c_Draft a.c_Deed (csOf a)) := by
  have G_words_of := ok_words_of (P := P) (w := w) (base := base) T
  have G_size_taken := ok_size_taken (P := P) (w := w) (base := base) T
  have G_loop_taken := ok_loop_taken (P := P) (w := w) (base := base) T
  have G_end_taken := ok_end_taken (P := P) (w := w) (base := base) T
  have G_deed_taken := ok_deed_taken (P := P) (w := w) (base := base) T
  refine T.F_taken.ok sc_taken (fun vs H Q E h => ?_) (fun cdv A outer s H vs Q E hr h => ?_)
  · obtain ⟨_, _, _, _, _, _, rfl, _⟩ := h; rfl
  obtain ⟨f, B, D, D', z, r, rfl, hD, zl, hr', hs, q⟩ := h
  refine ⟨_, (@pss_cons _ _ _ _ _ (@ps_set _ _ (2) _ _ _ _ sc_taken.nd rfl (Or.inl rfl) (@pe_call _ _ _ _ _ _ _ _ _ _ _ _ _ _ _ _ G_words_of (hr.mono (by omega)) (by rfl) T.m_words_of T.F_words_of.kp T.b_words_of .nil pass0 (@pa_cons _ _ _ _ _ (pv 1) pa_nil (by rfl)) (by decide) (by rfl) (by rfl)) (by rfl) (by first | exact .inl rfl | exact .inr rfl | assumption)) (@pss_cons _ _ _ _ _ (@ps_if _ _ _ _ _ _ _ _ (@pt_cmpR _ _ _ _ _ _ _ _ op_isN (@pe_fld _ _ _ _ _ (pv 0) rfl) pe_non (@nomark _ _ (by decide) (by decide))) (@pss_one _ _ _ (@ps_ret _ _ _ _ (@pe_call _ _ _ _ _ _ _ _ _ _ _ _ _ _ _ _ G_size_taken (hr.mono (by omega)) (by rfl) T.m_size_taken T.F_size_taken.kp T.b_size_taken .nil pass0 (@pa_cons _ _ _ _ _ (pv 0) (@pa_cons _ _ _ _ _ (pv 2) pa_nil (by rfl)) (by rfl)) (by decide) (by rfl) (by rfl)))) pss_nil) (@pss_cons _ _ _ _ _ (@ps_if _ _ _ _ _ _ _ _ (@pt_cmpR _ _ _ _ _ _ _ _ op_eq (@pe_ix _ _ _ _ _ _ _ ix_list (pv 2) pe_int (fun _ _ => rfl)) pe_str (@nomark _ _ (by decide) (by decide))) (@pss_one _ _ _ (@ps_ret _ _ _ _ (@pe_call _ _ _ _ _ _ _ _ _ _ _ _ _ _ _ _ G_loop_taken (hr.mono (by omega)) (by rfl) T.m_loop_taken T.F_loop_taken.kp T.b_loop_taken .nil pass0 (@pa_cons _ _ _ _ _ (pv 0) (@pa_cons _ _ _ _ _ (pv 2) pa_nil (by rfl)) (by rfl)) (by decide) (by rfl) (by rfl)))) pss_nil) (@pss_cons _ _ _ _ _ (@ps_if _ _ _ _ _ _ _ _ (@pt_cmpR _ _ _ _ _ _ _ _ op_eq (@pe_ix _ _ _ _ _ _ _ ix_list (pv 2) pe_int (fun _ _ => rfl)) pe_str (@nomark _ _ (by decide) (by decide))) (@pss_one _ _ _ (@ps_ret _ _ _ _ (@pe_call _ _ _ _ _ _ _ _ _ _ _ _ _ _ _ _ G_end_taken (hr.mono (by omega)) (by rfl) T.m_end_taken T.F_end_taken.kp T.b_end_taken .nil pass0 (@pa_cons _ _ _ _ _ (pv 0) (@pa_cons _ _ _ _ _ (pv 2) pa_nil (by rfl)) (by rfl)) (by decide) (by rfl) (by rfl)))) pss_nil) (@pss_one _ _ _ (@ps_ret _ _ _ _ (@pep_and _ _ _ _ _ _ _ _ _ _ _ _ op_ne (@pe_ix _ _ _ _ _ _ _ ix_list (pv 2) pe_int (fun _ _ => rfl)) (by rfl) (@pep_call _ _ _ _ _ _ _ _ _ _ _ _ _ _ _ _ G_deed_taken (hr.mono (by omega)) (by rfl) T.m_deed_taken T.F_deed_taken.kp T.b_deed_taken .nil pass0 (@pap_cons _ _ _ _ _ (pv 0) (@pap_one _ _ _ (@pep_repl _ _ _ _ (32) _ _ _ _ _ _ _ (by rfl) (by rfl) (by decide) (pv 1) (by rfl) (by rfl) (by rfl)) (by rfl)) (by rfl)) (by decide) (by rfl) (by rfl))))))))), ?_⟩
  refine ⟨_, rfl, z, rfl, zl, fun wl H1 ps e1 hsp hwl => ?_⟩
  dsimp only [gName]
  have hD1 := hD.over e1
  have hlen := cds_len z
  have key : ∀ {ws : List Str}, Rd.Wds (cds z) ws → H1 wl = some (.lst (ws.map V.str)) := fun {ws} hw => by rw [hwl, hw.at hsp]
  have q1 : ∀ H', Rd.Out B H1 H' → Rd.DrAt a.c_Draft a.c_Deed (csOf a) f H' B D' → Q (.bl true) H' := fun H' o d => q H' ((Rd.Out.of e1).trans o) d
  have notnone : D.sz ≠ none → ∃ m, Rd.szV D.sz = .int m := fun h => by
    cases hz : D.sz with
    | none => exact absurd hz h
    | some m => exact ⟨m, rfl⟩
  cases r with
  | sz n =>
    have hw := key hr'
    refine ⟨_, rfl, B.d, _, B.dx, _, _, rfl, hD1.o, T.cl_Draft, T.n_Draft_size, rfl, rfl, _, rfl, ?_⟩
    rw [hs.1]
    refine iteT ?_
    exact ⟨_, rfl, _, rfl, f, B, D, D', wl, n, rfl, hD1, hw, hs, q1⟩
  | opn t =>
    have hw := key hr'
    obtain ⟨m, em⟩ := notnone hs.1
    refine ⟨_, rfl, B.d, _, B.dx, _, _, rfl, hD1.o, T.cl_Draft, T.n_Draft_size, rfl, rfl, _, rfl, ?_⟩
    rw [em]
    refine iteF ?_
    refine ⟨_, rfl, wl, _, _, _, rfl, rfl, SqL.of hw, rfl, rfl, _, rfl, iteT ?_⟩
    exact ⟨_, rfl, _, rfl, f, B, D, D', wl, t, rfl, hD1, hw, hs, q1⟩
  | fin =>
    have hw := key hr'
    obtain ⟨m, em⟩ := notnone hs.1
    refine ⟨_, rfl, B.d, _, B.dx, _, _, rfl, hD1.o, T.cl_Draft, T.n_Draft_size, rfl, rfl, _, rfl, ?_⟩
    rw [em]
    refine iteF ?_
    refine ⟨_, rfl, wl, _, _, _, rfl, rfl, SqL.of hw, rfl, rfl, _, rfl, iteF ?_⟩
    refine ⟨_, rfl, wl, _, _, _, rfl, rfl, SqL.of hw, rfl, rfl, _, rfl, iteT ?_⟩
    exact ⟨_, rfl, _, rfl, f, B, D, D', wl, rfl, hD1, hw, hs, q1⟩
  | ded tb sp ks t =>
    obtain ⟨⟨w0, ws, hw0, n1, n2, n3⟩, hrow⟩ := hr'
    have hw := key hw0
    obtain ⟨m, em⟩ := notnone hs.1
    have at0 : atI ((w0 :: ws).map V.str) 0 = some (.str w0) := atI_nat (j := 0) rfl
    have ne : ∀ {u : Str}, w0 ≠ u → decide (V.str w0 = V.str u) = false := fun h => decide_eq_false fun e => h (V.str.inj e)
    refine ⟨_, rfl, B.d, _, B.dx, _, _, rfl, hD1.o, T.cl_Draft, T.n_Draft_size, rfl, rfl, _, rfl, ?_⟩
    rw [em]
    refine iteF ?_
    refine ⟨_, rfl, wl, _, _, _, rfl, rfl, SqL.of hw, at0, rfl, _, rfl, ?_⟩
    rw [ne n1]
    refine iteF ?_
    refine ⟨_, rfl, wl, _, _, _, rfl, rfl, SqL.of hw, at0, rfl, _, rfl, ?_⟩
    rw [ne n2]
    refine iteF ?_
    refine ⟨_, rfl, wl, _, _, _, rfl, rfl, SqL.of hw, at0, rfl, _, rfl, ?_⟩
    rw [ne n3]
    refine iteT ?_
    refine ⟨_, rfl, _, rfl, rfl, z, rfl, by omega, f, B, D, D', _, tb, sp, ks, t, rfl, hD1, ?_, ?_, hs, q1⟩
    · rw [cds_sOf, ← hrow]
      congr 1
      funext c
      by_cases h : c = 32
      · rw [h]; rfl
      · rw [decide_eq_true h]
        exact bne_iff_ne.mpr h
    · rw [len_sOf]
      have := List.length_filter_le (· != 32) (cds z)
      omega

theorem ok_read (T : Tx w K mg a) : FnOk P w K mg base CX0 10 a.f_read a.d_read ["text"] (Rd.spRead a.c_Program a.c_Deed (csOf a)) := by
  have G_bare_row := ok_bare_row (P := P) (w := w) (base := base) T
  have G_taken := ok_taken (P := P) (w := w) (base := base) T
  have G_Draft_init := ok_drinit (P := P) (w := w) (base := base) T
  have G_Program_init := ok_pinit (P := P) (w := w) (base := base) T
  refine T.F_read.ok sc_read (fun vs H Q E h => ?_) (fun cdv A outer s H vs Q E hr h => ?_)
  · obtain ⟨_, _, _, _, _, rfl, _⟩ := h; rfl
  obtain ⟨f, z, rows, E, n, rfl, zl, hsp, rl, hR, hE, dne, lpn, q⟩ := h
  refine ⟨_, (@pss_cons _ _ _ _ _ (@ps_set _ _ (1) _ _ _ _ sc_read.nd rfl (Or.inl rfl) (@pe_bm _ _ _ _ _ _ _ _ _ _ _ _ PySem.F.plainAttrs_str PySem.F.slot_str_split PySem.F.type_str_split mt_split (pv 0) (@pa_cons _ _ _ _ _ pe_str pa_nil (by rfl)) (by rfl) (by rfl) (by rfl) (by rfl) (by rfl)) (by rfl) (by first | exact .inl rfl | exact .inr rfl | assumption)) (@pss_cons _ _ _ _ _ (@ps_set _ _ (2) _ _ _ _ sc_read.nd rfl (Or.inl rfl) (@pe_make0 _ _ _ _ _ _ _ _ _ _ _ _ _ _ T.mk_Draft G_Draft_init (hr.mono (by omega)) (by rfl) T.mc_Draft T.b_Draft_init .nil pass0 (by decide)) (by rfl) (by first | exact .inl rfl | exact .inr rfl | assumption)) (@pss_cons _ _ _ _ _ (@ps_for _ _ _ _ _ _ _ _ PassesOwn.never rfl (@pi_enum1 _ _ _ _ _ _ _ _ _ _ _ (by rfl) T.z_enumerate (@pa_cons _ _ _ _ _ (pv 1) pa_nil (by rfl)) (by rfl)) (pg_tup rfl (pgs_cons (pg_name (i := 3) sc_read.nd rfl (Or.inl rfl)) (pgs_cons (pg_name (i := 4) sc_read.nd rfl (Or.inl rfl)) pgs_nil))) (@pss_cons _ _ _ _ _ (@ps_set _ _ (5) _ _ _ _ sc_read.nd rfl (Or.inl rfl) (@pe_call _ _ _ _ _ _ _ _ _ _ _ _ _ _ _ _ G_bare_row (hr.mono (by omega)) (by rfl) T.m_bare_row T.F_bare_row.kp T.b_bare_row .nil pass0 (@pa_cons _ _ _ _ _ (pv 4) pa_nil (by rfl)) (by decide) (by rfl) (by rfl)) (by rfl) (by first | exact .inl rfl | exact .inr rfl | assumption)) (@pss_one _ _ _ (@ps_if _ _ _ _ _ _ _ _ ((@pw_and _ _ _ _ _ _ _ (@pt_cmpR _ _ _ _ _ _ _ _ op_ne (pv 5) pe_str (@nomark _ _ (by decide) (by decide))) (@pw_and1 _ _ _ _ (@pt_not _ _ _ _ (@pt_val _ _ _ (@pe_call _ _ _ _ _ _ _ _ _ _ _ _ _ _ _ _ G_taken (hr.mono (by omega)) (by rfl) T.m_taken T.F_taken.kp T.b_taken .nil pass0 (@pa_cons _ _ _ _ _ (pv 2) (@pa_cons _ _ _ _ _ (pv 5) pa_nil (by rfl)) (by rfl)) (by decide) (by rfl) (by rfl)) (by intro _ ; rfl)))))).pt (@pss_one _ _ _ ps_never) pss_nil))) (by intro _ ; rfl)) (@pss_cons _ _ _ _ _ (@ps_if _ _ _ _ _ _ _ _ ((@pw_or _ _ _ _ _ _ _ (@pt_cmpR _ _ _ _ _ _ _ _ op_isN (@pe_fld _ _ _ _ _ (pv 2) rfl) pe_non (@nomark _ _ (by decide) (by decide))) (@pw_or _ _ _ _ _ _ _ (@pt_cmpR _ _ _ _ _ _ _ _ (@op_eqE _ (@hu64 _ _ hr)) (@pe_fld _ _ _ _ _ (pv 2) rfl) (@pe_lst _ _ _ _ pa_nil) (@nomark _ _ (by decide) (by decide))) (@pw_or1 _ _ _ _ (@pt_cmpR _ _ _ _ _ _ _ _ (@op_neE _ (@hu64 _ _ hr)) (@pe_fld _ _ _ _ _ (pv 2) rfl) (@pe_lst _ _ _ _ pa_nil) (@nomark _ _ (by decide) (by decide))))))).pt (@pss_one _ _ _ ps_never) pss_nil) (@pss_one _ _ _ (@ps_ret _ _ _ _ (@pe_make _ _ _ _ _ _ _ _ _ _ _ _ _ _ _ _ _ T.mk_Program G_Program_init (hr.mono (by omega)) (by rfl) T.mc_Program T.b_Program_init .nil pass0 (@pa_cons _ _ _ _ _ (@pe_fld _ _ _ _ _ (pv 2) rfl) (@pa_cons _ _ _ _ _ (@pe_fld _ _ _ _ _ (pv 2) rfl) pa_nil (by rfl)) (by rfl)) (by decide) (by rfl) (by rfl)))))))), ?_⟩
  have ec : cds (Str.ofString "\n") = [10] := by decide +kernel
  refine ⟨_, rfl, rfl, z, _, rfl, rfl, by decide +kernel, ?_, by omega, fun l ps hl hs => ?_⟩
  · rw [ec]
    intro c hc
    rw [List.mem_singleton.mp hc]
    decide
  rw [ec] at hs
  obtain rfl : ps = rows := Rd.map_cds_inj (hs.fn hsp)
  have e1 := same_new hl (.lst (ps.map V.str))
  have hl1 : (upd H l (.lst (ps.map V.str))) l = _ := upd_same
  generalize upd H l (.lst (ps.map V.str)) = H1 at e1 hl1
  dsimp only [gName]
  refine fun x dx nx ndx ne => ⟨x, dx, rfl, upd_same, fun H2 B hBd k2 fr hD0 => ⟨rfl, ?_⟩⟩
  subst hBd
  have e2 : Same H1 H2 := made_same nx ndx k2
  have fr1 : ∀ b, B.own b → H1 b = none := fun b hb => by
    by_cases hbx : b = B.d
    · rw [hbx]; exact nx
    · cases hz : H1 b with
      | none => rfl
      | some u =>
        have := fr b hb hbx
        rw [upd_ne hbx, upd_ne (ne_of_none hz ndx), hz] at this
        cases this
  have onto : ∀ {H' H'' : Hp}, Same H1 H' → Rd.Out B H' H'' → Same H1 H'' := fun {H' H''} s o b u hb => o b u (s b u hb) fun hown => by rw [fr1 b hown] at hb; cases hb
  dsimp only [gName]
  refine ⟨_, rfl, l, rfl, ⟨_, SqL.of (e2 _ _ hl1)⟩, ?_⟩
  refine for_enum1 (xs := ps.map V.str) (fun i σ' H' => (∃ o3 o4 o5 : Option V, σ' = [some (.str z), some (.ref l), some (.ref B.d), o3, o4, o5]) ∧ Same H1 H' ∧ ∃ D, Rd.DrAt a.c_Draft a.c_Deed (csOf a) f H' B D ∧ Rd.Rds f (ps.drop i) D E) ⟨⟨_, _, _, rfl⟩, e2, Rd.D0, hD0 f, hR⟩ (fun i σ' H' _ pp => SqL.of (pp.2.1 _ _ hl1)) (fun i y Tt σ' H' hy pp hT => ?_) (fun σ' H' pp => ?_)
  · obtain ⟨⟨o3, o4, o5, rfl⟩, e3, D, hD, hRi⟩ := pp
    rw [List.getElem?_map] at hy
    cases hyi : ps[i]? with
    | none => rw [hyi] at hy; cases hy
    | some u =>
      rw [hyi] at hy
      cases hy
      have ul : u.length ≤ 100000 := by
        have := Rd.split_part hsp (cds u) (List.mem_map_of_mem (List.mem_of_getElem? hyi))
        rw [cds_len, cds_len] at this
        omega
      have hil := (List.getElem?_eq_some_iff.mp hyi).1
      have ed : ps.drop i = u :: ps.drop (i + 1) := by
        rw [List.drop_eq_getElem_cons hil]
        rw [List.getElem?_eq_getElem hil] at hyi
        rw [Option.some.inj hyi]
      rw [ed] at hRi
      have sT := same_new hT (.tup [V.int ((i : Int) + 1), .str u])
      have hD4 := hD.over sT
      have e4 := e3.trans sT
      refine ⟨Tt, _, rfl, SqT.of upd_same, rfl, _, _, rfl, _, _, rfl, rfl, ?_⟩
      generalize upd H' Tt (.tup [V.int ((i : Int) + 1), .str u]) = H4 at hD4 e4
      refine ⟨_, rfl, u, rfl, ul, fun H5 e5 => ?_⟩
      dsimp only [gName]
      have hD5 := hD4.over e5
      have e15 := e4.trans e5
      refine ⟨_, rfl, rfl, _, rfl, ?_⟩
      have kb : (V.str (sOf (Rd.bare (cds u))) = V.str (Str.ofString "")) ↔ Rd.bare (cds u) = [] := ⟨fun e => by have e := congrArg cds (V.str.inj e); rw [cds_sOf] at e; exact e, fun e => by rw [e]; rfl⟩
      cases hRi with
      | no hb hRn =>
        refine ite2 (fun y => ?_) (fun _ => ?_)
        · rw [decide_eq_true (kb.mpr hb)] at y
          cases y
        · exact iteF ⟨⟨_, _, _, rfl⟩, e15, D, hD5, hRn⟩
      | @row _ _ _ D' _ r hb hrt hst hRn =>
        refine ite2 (fun _ => ?_) (fun y => ?_)
        · refine ⟨_, rfl, _, rfl, f, B, D, D', _, r, rfl, hD5, ?_, ?_, hst, fun H6 out hD6 => ⟨_, rfl, iteF ?_⟩⟩
          · rw [len_sOf]
            have := Rd.bare_len (cds u)
            have := cds_len u
            omega
          · rw [cds_sOf]; exact hrt
          · exact ⟨⟨_, _, _, rfl⟩, onto e15 out, D', hD6, hRn⟩
        · exact absurd (show (!decide (V.str (sOf (Rd.bare (cds u))) = V.str (Str.ofString ""))) = true from by rw [decide_eq_false fun e => hb (kb.mp e)]; rfl) y
  · obtain ⟨⟨o3, o4, o5, rfl⟩, e3, D, hD, hRi⟩ := pp
    rw [List.length_map, List.drop_length] at hRi
    cases hRi
    obtain ⟨ds, hds, pds⟩ := hD.dd
    have d6 := hR.six (Nat.zero_le _)
    refine ⟨_, rfl, B.d, _, B.dx, _, _, rfl, hD.o, T.cl_Draft, T.n_Draft_size, rfl, rfl, _, rfl, ?_⟩
    rw [hE]
    refine iteF ?_
    refine ⟨_, rfl, B.d, _, B.dx, _, _, rfl, hD.o, T.cl_Draft, T.n_Draft_deeds, rfl, szl (by show 0 ≤ 1000000; decide), fun en hen => ?_⟩
    have s4 := same_new hen (.lst [])
    have he4 : (upd H' en (.lst [])) en = _ := upd_same
    generalize upd H' en (.lst []) = H4 at s4 he4
    refine ⟨B.dl, en, _, rfl, rfl, SqL.of (s4 _ _ hds), SqL.of he4, _, rfl, ?_⟩
    have dsn : ds ≠ [] := fun z => dne (List.eq_nil_of_length_eq_zero (by rw [← pds.1, z]; rfl))
    refine ite2 (fun y => absurd (List.isEmpty_iff.mp y) dsn) (fun _ => ?_)
    have hD4 := hD.over s4
    refine ⟨_, rfl, B.d, _, B.dx, _, _, rfl, hD4.o, T.cl_Draft, T.n_Draft_names, rfl, szl (by show 0 ≤ 1000000; decide), fun en2 hen2 => ?_⟩
    have s5 := same_new hen2 (.lst [])
    have he5 : (upd H4 en2 (.lst [])) en2 = _ := upd_same
    generalize upd H4 en2 (.lst []) = H5 at s5 he5
    have hD5 := hD4.over s5
    refine ⟨B.nl, en2, _, rfl, rfl, SqL.of hD5.nm, SqL.of he5, _, rfl, ?_⟩
    rw [lpn]
    refine iteF ?_
    have hds5 := (s4.trans s5) _ _ hds
    refine ⟨_, rfl, B.d, _, B.dx, _, _, rfl, hD5.o, T.cl_Draft, T.n_Draft_size, rfl, _, rfl, B.d, _, B.dx, _, _, rfl, hD5.o, T.cl_Draft, T.n_Draft_deeds, rfl, ?_⟩
    intro x dx nx ndx ne
    refine ⟨x, dx, B.dl, _, ds, rfl, upd_same, (by rw [upd_ne (ne_of_none hds5 nx), upd_ne (ne_of_none hds5 ndx)]; exact hds5), by rw [pds.1]; omega, fun H6 dl k6 hx6 hdl6 => ⟨rfl, ?_⟩⟩
    obtain ⟨dx6, hx6⟩ := hx6
    have e56 := made_same nx ndx k6
    rw [hE] at hx6
    exact q _ _ (e1.trans (e3.trans (s4.trans (s5.trans e56)))) ⟨x, dx6, dl, rfl, hx6, ds, hdl6, pds.mono fun _ _ w => w.over (s4.trans (s5.trans e56))⟩

theorem ok_cell_at (T : Tx w K mg a) : FnOk P w K mg base CX0 1 a.f_l_cell_at a.d_l_cell_at ["_law_script", "_law_k"] (spCell K) := by
  refine T.F_l_cell_at.ok sc_l_cell_at (fun vs H Q E h => ?_) (fun cdv A outer s H vs Q E hr h => ?_)
  · obtain ⟨_, _, _, rfl, _⟩ := h; rfl
  obtain ⟨p, ns, k, rfl, hS, h0, q⟩ := h
  refine ⟨_, (@pss_cons _ _ _ _ _ (@ps_if _ _ _ _ _ _ _ _ (@pt_cmpR _ _ _ _ _ _ _ _ op_lt (pv 1) (@pe_callB _ _ _ _ _ _ _ _ _ call_len_seq (by rfl) T.z_len bt_len (@pa_cons _ _ _ _ _ (pv 0) pa_nil (by rfl)) (by decide) (by decide) (by rfl) (by rfl)) (@nomark _ _ (by decide) (by decide))) (@pss_one _ _ _ (@ps_ret _ _ _ _ (@pe_ix _ _ _ _ _ _ _ ix_list (pv 0) (pv 1) (fun _ _ => rfl)))) pss_nil) (@pss_one _ _ _ (@ps_ret _ _ _ _ pe_int))), ?_⟩
  have hl : (ns.map V.int).length = ns.length := List.length_map _
  refine ⟨_, rfl, _, rfl, p, _, rfl, .inl hS, _, _, rfl, rfl, _, rfl, ?_⟩
  refine ite2 (fun c => ?_) (fun c => ?_)
  · have c' := dT c
    rw [hl] at c'
    exact ⟨_, rfl, _, rfl, p, _, _, _, rfl, rfl, hS, cell_in h0 c', q⟩
  · have c' := dF c
    rw [hl] at c'
    rw [cell_out c'] at q
    exact q

theorem ok_whole (T : Tx w K mg a) : FnOk P w K mg base CX0 1 a.f_l_whole a.d_l_whole ["_law_found"] spWhole := by
  refine T.F_l_whole.ok sc_l_whole (fun vs H Q E h => ?_) (fun cdv A outer s H vs Q E hr h => ?_)
  · obtain ⟨_, rfl, _⟩ := h; rfl
  obtain ⟨x, rfl, hx, q⟩ := h
  refine ⟨_, (@pss_one _ _ _ (@ps_ret _ _ _ _ (@pe_and _ _ _ _ _ _ _ (@pe_callB _ _ _ _ _ _ _ _ _ call_isi (by rfl) T.z_isinstance bt_isinstance (@pa_cons _ _ _ _ _ (pv 0) (@pa_cons _ _ _ _ _ (@pe_bltn _ _ (.ty "int") _ _ (by rfl) T.z_int bt_int rfl (by decide) (by decide)) pa_nil (by rfl)) (by rfl)) (by decide) (by decide) (by rfl) (by rfl)) (@pe_one _ _ _ _ _ (@pe_not _ _ _ _ (@pe_callB _ _ _ _ _ _ _ _ _ call_isi (by rfl) T.z_isinstance bt_isinstance (@pa_cons _ _ _ _ _ (pv 0) (@pa_cons _ _ _ _ _ (@pe_bltn _ _ (.ty "bool") _ _ (by rfl) T.z_bool bt_bool rfl (by decide) (by decide)) pa_nil (by rfl)) (by rfl)) (by decide) (by decide) (by rfl) (by rfl))))))), ?_⟩
  cases x with
  | int i => exact ⟨_, rfl, _, _, _, _, _, rfl, rfl, .int i, rfl, _, rfl, _, rfl, _, _, _, _, _, rfl, rfl, .int i, rfl, _, rfl, q⟩
  | bl b => exact ⟨_, rfl, _, _, _, _, _, rfl, rfl, .bl b, rfl, _, rfl, _, rfl, _, _, _, _, _, rfl, rfl, .bl b, rfl, _, rfl, q⟩
  | non => exact ⟨_, rfl, _, _, _, _, _, rfl, rfl, .non, rfl, _, rfl, q⟩
  | str z => exact ⟨_, rfl, _, _, _, _, _, rfl, rfl, .str z, rfl, _, rfl, q⟩
  | _ => cases hx

theorem ok_stream (T : Tx w K mg a) : FnOk P w K mg base CX0 1 a.f_l_stream a.d_l_stream ["_law_cell_here", "_law_many"] spStream := by
  refine T.F_l_stream.ok sc_l_stream (fun vs H Q E h => ?_) (fun cdv A outer s H vs Q E hr h => ?_)
  · obtain ⟨_, _, rfl, _⟩ := h; rfl
  obtain ⟨c, n, rfl, h0, h1, q⟩ := h
  refine ⟨_, (@pss_cons _ _ _ _ _ (@ps_set _ _ (2) _ _ _ _ sc_l_stream.nd rfl (Or.inl rfl) (@pe_lst _ _ _ _ pa_nil) (by rfl) (by first | exact .inl rfl | exact .inr rfl | assumption)) (@pss_cons _ _ _ _ _ (@ps_set _ _ (3) _ _ _ _ sc_l_stream.nd rfl (Or.inl rfl) (@pe_op _ _ _ _ _ _ _ _ op_add (@pe_op _ _ _ _ _ _ _ _ op_mod (pv 0) pe_int) pe_int) (by rfl) (by first | exact .inl rfl | exact .inr rfl | assumption)) (@pss_cons _ _ _ _ _ (@ps_for _ _ _ _ _ _ _ _ PassesOwn.never rfl (@pi_range1 _ _ _ _ _ _ (by rfl) T.z_range (@pa_cons _ _ _ _ _ (@pe_op _ _ _ _ _ _ _ _ op_add (pv 1) pe_int) pa_nil (by rfl)) (by rfl)) (pg_name (i := 4) sc_l_stream.nd rfl (Or.inl rfl)) (@pss_cons _ _ _ _ _ (@ps_set _ _ (3) _ _ _ _ sc_l_stream.nd rfl (Or.inl rfl) (@pe_op _ _ _ _ _ _ _ _ op_mod (@pe_op _ _ _ _ _ _ _ _ op_add (@pe_op _ _ _ _ _ _ _ _ op_add (@pe_op _ _ _ _ _ _ _ _ op_mul (pv 3) (pv 3)) (@pe_op _ _ _ _ _ _ _ _ op_mul pe_int (pv 3))) (pv 4)) pe_int) (by rfl) (by first | exact .inl rfl | exact .inr rfl | assumption)) (@pss_one _ _ _ (@ps_expr _ _ _ _ (@pe_bm _ _ _ _ _ _ _ _ _ _ _ _ PySem.F.plainAttrs_list PySem.F.slot_list_append PySem.F.type_list_append mt_append (pv 2) (@pa_cons _ _ _ _ _ (pv 3) pa_nil (by rfl)) (by rfl) (by rfl) (by rfl) (by rfl) (by rfl)) (by rfl)))) (by intro _ ; rfl)) (@pss_one _ _ _ (@ps_ret _ _ _ _ (@pe_slice _ _ _ _ _ _ _ _ _ _ sl_list (pv 2) (@po_some _ _ _ pe_int) po_none)))))), ?_⟩
  refine ⟨szl (by show 0 ≤ 1000000; decide), fun l hl => ?_⟩
  refine ⟨_, rfl, _, _, rfl, rfl, (by show (0 : Int) < 2147483647; decide), _, _, rfl, rfl, ?_⟩
  refine ⟨_, rfl, _, _, rfl, rfl, n + 1, rfl, by omega, by omega, ?_⟩
  refine for_range (lo := 0) (n := (n + 1).toNat) (fun i σ' H' => (∃ o1, σ' = [some (.int c), some (.int n), some (.ref l), some (.int (lastS (seedS c) 0 i)), o1]) ∧ Same H H' ∧ H' l = some (.lst ((seqS (seedS c) 0 i).map V.int))) ?_ (fun i σ' H' hi p => ?_) (fun σ' H' p => ?_)
  · exact ⟨⟨_, rfl⟩, same_new hl _, upd_same⟩
  · obtain ⟨⟨o1, rfl⟩, hs, hH⟩ := p
    obtain ⟨b0, b1⟩ := last_bound c i
    have bb := step_bound b0 b1
    have e1 : (lastS (seedS c) 0 i * lastS (seedS c) 0 i + 48271 * lastS (seedS c) 0 i + (0 + (i : Int))) % 2147483647 = lastS (seedS c) 0 (i + 1) := by rw [lastS_succ]; rfl
    have hz : ((seqS (seedS c) 0 i).map V.int).length < sizeLine := by rw [List.length_map, seqS_len]; exact szlt (by omega)
    refine ⟨_, rfl, _, rfl, _, _, rfl, rfl, .inl bb, _, rfl, _, _, rfl, rfl, .inl ⟨by decide, by decide⟩, _, _, rfl, rfl, _, rfl, _, _, rfl, rfl, _, _, rfl, rfl, (by show (0 : Int) < 2147483647; decide), ?_⟩
    refine ⟨_, rfl, .inl ⟨rfl, _, SqL.of hH⟩, _, rfl, l, _, _, rfl, rfl, hH, hz, ⟨_, congrArg (fun v => [some (V.int c), some (V.int n), some (V.ref l), some (V.int v), some (V.int (0 + (i : Int)))]) e1⟩, ?_, ?_⟩
    · exact fun b o e => by rw [upd_ne (ne_of_none e hl)]; exact hs b o e
    · rw [upd_same, seqS_snoc, List.map_append]
      show some (HO.lst (_ ++ [V.int _])) = _
      rw [e1]; rfl
  · obtain ⟨⟨o1, rfl⟩, hs, hH⟩ := p
    refine ⟨_, rfl, _, rfl, l, _, rfl, SqL.of hH, fun r hr' => ?_⟩
    rw [cutV_1]
    refine q r _ (hs.trans (same_new hr' _)) ?_
    rw [upd_same]
    unfold strm
    rw [show (n + 1).toNat = n.toNat + 1 by omega]

theorem ok_names (T : Tx w K mg a) : FnOk P w K mg base CX0 2 a.f_l_names a.d_l_names ["_law_cell_here", "_law_many"] Rd.spNames23 := by
  have G_l_stream := ok_stream (P := P) (w := w) (base := base) T
  refine T.F_l_names.ok sc_l_names (fun vs H Q E h => ?_) (fun cdv A outer s H vs Q E hr h => ?_)
  · obtain ⟨_, rfl, _⟩ := h; rfl
  obtain ⟨c, rfl, q⟩ := h
  refine ⟨_, (@pss_cons _ _ _ _ _ (@ps_set _ _ (2) _ _ _ _ sc_l_names.nd rfl (Or.inr rfl) pe_str (by rfl) (by first | exact .inl rfl | exact .inr rfl | assumption)) (@pss_cons _ _ _ _ _ (@ps_set _ _ (3) _ _ _ _ sc_l_names.nd rfl (Or.inl rfl) (@pe_call _ _ _ _ _ _ _ _ _ _ _ _ _ _ _ _ G_l_stream (hr.mono (by omega)) (by rfl) T.m_l_stream T.F_l_stream.kp T.b_l_stream .nil pass0 (@pa_cons _ _ _ _ _ (pv 0) (@pa_cons _ _ _ _ _ pe_int pa_nil (by rfl)) (by rfl)) (by decide) (by rfl) (by rfl)) (by rfl) (by first | exact .inl rfl | exact .inr rfl | assumption)) (@pss_cons _ _ _ _ _ (@ps_set _ _ (4) _ _ _ _ sc_l_names.nd rfl (Or.inl rfl) (@pe_bm _ _ _ _ _ _ _ _ _ _ _ _ PySem.F.plainAttrs_str PySem.F.slot_str_join PySem.F.type_str_join mt_join pe_str (@pa_cons _ _ _ _ _ (@pe_compB _ _ _ _ _ _ _ ["_law_x", "_law_letters"] [none, some 2] _ _ _ _ (by rfl) (@pi_list _ _ _ _ (@pe_slice _ _ _ _ _ _ _ _ _ _ sl_list (pv 3) (@po_some _ _ _ pe_int) po_none)) c_l_names_0 (fun _ _ _ _ _ _ => ⟨(pg_name (i := 0) c_l_names_0n rfl (Or.inl rfl)), @pts_nil _, (@pe_ix _ _ _ _ _ _ _ ix_str (pv 1) (@pe_op _ _ _ _ _ _ _ _ op_mod (pv 0) pe_int) (fun _ _ => rfl))⟩) (by intro _ ; rfl)) pa_nil (by rfl)) (by rfl) (by rfl) (by rfl) (by rfl) (by rfl)) (by rfl) (by first | exact .inl rfl | exact .inr rfl | assumption)) (@pss_cons _ _ _ _ _ (@ps_if _ _ _ _ _ _ _ _ (@pt_cmpR _ _ _ _ _ _ _ _ op_eq (@pe_op _ _ _ _ _ _ _ _ op_mod (@pe_op _ _ _ _ _ _ _ _ op_fdiv (@pe_ix _ _ _ _ _ _ _ ix_list (pv 3) pe_int (fun _ _ => rfl)) pe_int) pe_int) pe_int (@nomark _ _ (by decide) (by decide))) (@pss_one _ _ _ (@ps_set _ _ (4) _ _ _ _ sc_l_names.nd rfl (Or.inl rfl) (@pe_slice _ _ _ _ _ _ _ _ _ _ sl_str (@pe_op _ _ _ _ _ _ _ _ op_add_str (@pe_ix _ _ _ _ _ _ _ ix_list (@pe_lstq _ _ _ _ (@paq_cons _ _ _ _ _ pe_str (@paq_cons _ _ _ _ _ pe_str (@paq_cons _ _ _ _ _ pe_str paq_nil star_C) star_C) star_C)) (@pe_op _ _ _ _ _ _ _ _ op_mod (@pe_op _ _ _ _ _ _ _ _ op_fdiv (@pe_ix _ _ _ _ _ _ _ ix_list (pv 3) pe_int (fun _ _ => rfl)) pe_int) pe_int) (fun _ _ => rfl)) (pv 4)) po_none (@po_some _ _ _ pe_int)) (by rfl) (by first | exact .inl rfl | exact .inr rfl | assumption))) pss_nil) (@pss_cons _ _ _ _ _ (@ps_set _ _ (5) _ _ _ _ sc_l_names.nd rfl (Or.inl rfl) (@pe_op _ _ _ _ _ _ _ _ op_add pe_int (@pe_op _ _ _ _ _ _ _ _ op_mod (@pe_ix _ _ _ _ _ _ _ ix_list (pv 3) pe_int (fun _ _ => rfl)) pe_int)) (by rfl) (by first | exact .inl rfl | exact .inr rfl | assumption)) (@pss_cons _ _ _ _ _ (@ps_set _ _ (6) _ _ _ _ sc_l_names.nd rfl (Or.inl rfl) (@pe_op _ _ _ _ _ _ _ _ op_mod (@pe_op _ _ _ _ _ _ _ _ op_fdiv (@pe_ix _ _ _ _ _ _ _ ix_list (pv 3) pe_int (fun _ _ => rfl)) pe_int) (pv 5)) (by rfl) (by first | exact .inl rfl | exact .inr rfl | assumption)) (@pss_cons _ _ _ _ _ (@ps_set _ _ (7) _ _ _ _ sc_l_names.nd rfl (Or.inl rfl) (@pe_lst _ _ _ _ pa_nil) (by rfl) (by first | exact .inl rfl | exact .inr rfl | assumption)) (@pss_cons _ _ _ _ _ (@ps_for _ _ _ _ _ _ _ _ PassesOwn.never rfl (@pi_range1 _ _ _ _ _ _ (by rfl) T.z_range (@pa_cons _ _ _ _ _ (pv 1) pa_nil (by rfl)) (by rfl)) (pg_name (i := 8) sc_l_names.nd rfl (Or.inl rfl)) (@pss_cons _ _ _ _ _ (@ps_set _ _ (9) _ _ _ _ sc_l_names.nd rfl (Or.inl rfl) (@pe_ix _ _ _ _ _ _ _ ix_str (pv 2) (@pe_op _ _ _ _ _ _ _ _ op_mod (@pe_op _ _ _ _ _ _ _ _ op_add (@pe_ix _ _ _ _ _ _ _ ix_list (pv 3) (@pe_op _ _ _ _ _ _ _ _ op_add pe_int (pv 6)) (fun _ _ => rfl)) (pv 8)) pe_int) (fun _ _ => rfl)) (by rfl) (by first | exact .inl rfl | exact .inr rfl | assumption)) (@pss_cons _ _ _ _ _ (@ps_set _ _ (10) _ _ _ _ sc_l_names.nd rfl (Or.inl rfl) (@pe_op _ _ _ _ _ _ _ _ op_add_str (@pe_op _ _ _ _ _ _ _ _ op_add_str (@pe_slice _ _ _ _ _ _ _ _ _ _ sl_str (pv 4) po_none (@po_some _ _ _ (pv 6))) (pv 9)) (@pe_slice _ _ _ _ _ _ _ _ _ _ sl_str (pv 4) (@po_some _ _ _ (@pe_op _ _ _ _ _ _ _ _ op_add (pv 6) pe_int)) (@po_some _ _ _ (pv 5)))) (by rfl) (by first | exact .inl rfl | exact .inr rfl | assumption)) (@pss_cons _ _ _ _ _ (@ps_if _ _ _ _ _ _ _ _ (@pt_cmpR _ _ _ _ _ _ _ _ op_eq (@pe_op _ _ _ _ _ _ _ _ op_mod (@pe_ix _ _ _ _ _ _ _ ix_list (pv 3) pe_int (fun _ _ => rfl)) pe_int) pe_int (@nomark _ _ (by decide) (by decide))) (@pss_one _ _ _ (@ps_set _ _ (10) _ _ _ _ sc_l_names.nd rfl (Or.inl rfl) (@pe_slice _ _ _ _ _ _ _ _ _ _ sl_str (pv 4) po_none (@po_some _ _ _ (@pe_op _ _ _ _ _ _ _ _ op_add pe_int (@pe_op _ _ _ _ _ _ _ _ op_mod (@pe_op _ _ _ _ _ _ _ _ op_add (pv 5) (@pe_op _ _ _ _ _ _ _ _ op_mul pe_int (pv 8))) pe_int)))) (by rfl) (by first | exact .inl rfl | exact .inr rfl | assumption))) pss_nil) (@pss_cons _ _ _ _ _ (@ps_if _ _ _ _ _ _ _ _ (@pt_cmpR _ _ _ _ _ _ _ _ op_in_seq (pv 10) (@pe_tupq _ _ _ _ _ (@paq_cons _ _ _ _ _ pe_str (@paq_cons _ _ _ _ _ pe_str (@paq_cons _ _ _ _ _ pe_str paq_nil star_C) star_C) star_C)) (by with_unfolding_all rfl)) (@pss_one _ _ _ (@ps_set _ _ (10) _ _ _ _ sc_l_names.nd rfl (Or.inl rfl) (@pe_op _ _ _ _ _ _ _ _ op_add_str pe_str (pv 10)) (by rfl) (by first | exact .inl rfl | exact .inr rfl | assumption))) pss_nil) (@pss_one _ _ _ (@ps_expr _ _ _ _ (@pe_bm _ _ _ _ _ _ _ _ _ _ _ _ PySem.F.plainAttrs_list PySem.F.slot_list_append PySem.F.type_list_append mt_append (pv 7) (@pa_cons _ _ _ _ _ (pv 10) pa_nil (by rfl)) (by rfl) (by rfl) (by rfl) (by rfl) (by rfl)) (by rfl))))))) (by intro _ ; rfl)) (@pss_one _ _ _ (@ps_ret _ _ _ _ (pv 7))))))))))), ?_⟩
  refine ⟨_, rfl, c, 10, rfl, by decide, by decide, fun rx H1 s1 hx => ?_⟩
  rw [show (10 : Int).toNat = 10 from rfl] at hx
  generalize hxs : strm c 10 = xs at hx
  have xl : xs.length = 10 := by rw [← hxs, strm_len]
  have xl' : (xs.map V.int).length = 10 := by rw [List.length_map, xl]
  have xm : ∀ y ∈ xs, 0 ≤ y ∧ y < 2147483647 := fun y hy => strm_mem (hxs ▸ hy)
  have atx : ∀ k : Nat, k < 10 → atI (xs.map V.int) ((k : Nat) : Int) = some (.int (xs.getD k 0)) := fun k hk => by
    have := cell_in (ns := xs) (k := ((k : Nat) : Int)) (by omega) (by omega)
    exact this
  -- the word
  refine ⟨rfl, _, rfl, _, rfl, rx, _, rfl, SqL.of hx, fun p2 hp2 => ?_⟩
  have hx2 : (upd H1 p2 (.lst (cutV (xs.map V.int) (some 2) none))) rx = some (.lst (xs.map V.int)) := by rw [upd_ne (ne_of_none hx hp2)]; exact hx
  have cut2 : cutV (xs.map V.int) (some 2) none = (xs.drop 2).map V.int := by
    have := cut_from (xs.map V.int) (i := 2) (by decide)
    rw [List.map_drop]
    exact this
  rw [cut2] at hx2 ⊢
  refine ⟨p2, rfl, ⟨_, SqL.of upd_same⟩, ?_⟩
  refine comp_list (xs := (xs.drop 2).map V.int) (fun i ys H' => H' = upd H1 p2 (.lst ((xs.drop 2).map V.int)) ∧ ys = ((xs.drop 2).take i).map fun x => V.str ⟨#[letC x]⟩) ⟨rfl, by simp⟩ (szl (by rw [List.length_map, List.length_drop]; omega)) (fun i ys H' hi p => ?_) (fun i x ys H' hc p => ?_) (fun ys H' p r hr' => ?_)
  · obtain ⟨rfl, rfl⟩ := p
    exact ⟨SqL.of upd_same, by rw [List.length_map, List.length_take]; omega⟩
  · obtain ⟨rfl, rfl⟩ := p
    rw [List.getElem?_map] at hc
    cases hy : (xs.drop 2)[i]? with
    | none => rw [hy] at hc; cases hc
    | some y =>
      rw [hy] at hc
      cases hc
      refine ⟨_, rfl, _, rfl, _, _, rfl, rfl, (by show (0 : Int) < 26; decide), _, _, _, rfl, rfl, abc_len, abc_at y, rfl, ?_⟩
      rw [take_snoc hy, List.map_append]
      rfl
  obtain ⟨rfl, rfl⟩ := p
  have full : ((xs.drop 2).take ((xs.drop 2).map V.int).length) = xs.drop 2 := by rw [List.length_map, List.take_length]
  rw [full]
  have e3 : Same H1 (upd (upd H1 p2 (.lst ((xs.drop 2).map V.int))) r (.lst ((xs.drop 2).map fun x => V.str ⟨#[letC x]⟩))) := (same_new hp2 _).trans (same_new hr' _)
  generalize hH3 : upd (upd H1 p2 (.lst ((xs.drop 2).map V.int))) r (.lst ((xs.drop 2).map fun x => V.str ⟨#[letC x]⟩)) = H3 at e3
  have hr3 : H3 r = some (.lst (((xs.drop 2).map fun x => (⟨#[letC x]⟩ : Str)).map V.str)) := by rw [← hH3, upd_same, List.map_map]; rfl
  have ew : Txt.join "" ((xs.drop 2).map fun x => (⟨#[letC x]⟩ : Str)) = sOf (nameW xs) := cds_ext (by
    rw [cds_join0, cds_sOf]
    unfold nameW
    generalize xs.drop 2 = l
    induction l with
    | nil => rfl
    | cons y l ih =>
      rw [List.map_cons, List.map_cons, List.flatten_cons, ih]
      rfl)
  refine ⟨_, r, _, rfl, rfl, .inl (SqL.of hr3), ?_, ?_⟩
  · have : ∀ l : List Int, ((l.map fun x => (⟨#[letC x]⟩ : Str)).map (·.length)).sum = l.length := fun l => by
      induction l with
      | nil => rfl
      | cons y l ih => rw [List.map_cons, List.map_cons, List.sum_cons, ih]; show 1 + l.length = l.length + 1; omega
    rw [this, List.length_map, List.length_drop, xl]
    show 10 - 2 + (10 - 2) * (Str.ofString "").length ≤ 16777216
    decide +kernel
  rw [ew]
  have hx3 := e3 _ _ hx
  have wl : (nameW xs).length = 8 := nameW_len xl
  have wb : ∀ c ∈ nameW xs, 97 ≤ c ∧ c ≤ 122 := Rd.nameW_abc xs
  generalize nameW xs = wd at wl wb
  obtain ⟨lb0, lb1⟩ := long_b xs
  obtain ⟨ab0, ab1⟩ := at_b xs
  dsimp only [gName]
  refine seq_any (fun σ' H' => Same H1 H' ∧ ∃ wd : List Nat, wd.length = 8 ∧ (∀ c ∈ wd, 97 ≤ c ∧ c ≤ 122) ∧ σ' = [some (.int c), some (.int 8), some (.str abc), some (.ref rx), some (.str (sOf wd)), none, none, none, none, none, none]) (fun σ' H4 pp => ?_) (fun nx => ?_)
  rotate_left
  · refine ⟨_, rfl, rx, _, _, _, rfl, rfl, SqL.of hx3, atx 0 (by decide), _, _, rfl, rfl, ⟨by decide, by decide⟩, _, _, rfl, rfl, (by show (0 : Int) < 8; decide), rfl, _, rfl, ?_⟩
    refine ite2 (fun _ => ?_) (fun _ => nx _ _ ⟨e3, wd, wl, wb, rfl⟩)
    refine ⟨szl (by show 3 ≤ 1000000; decide), fun l3 hl3 => ?_⟩
    have s4 := same_new hl3 (.lst [V.str "for", V.str "end", V.str "size"])
    have m0 := Int.emod_nonneg (xs.getD 0 0 / 16) (show (3 : Int) ≠ 0 by decide)
    have m1 := Int.emod_lt_of_pos (xs.getD 0 0 / 16) (show (0 : Int) < 3 by decide)
    obtain ⟨rz, hrz, rl, rb⟩ : ∃ rz : Str, atI [V.str "for", V.str "end", V.str "size"] (xs.getD 0 0 / 16 % 3) = some (.str rz) ∧ rz.length ≤ 4 ∧ ∀ c ∈ cds rz, 97 ≤ c ∧ c ≤ 122 := by
      generalize xs.getD 0 0 / 16 % 3 = j at m0 m1
      have : j = 0 ∨ j = 1 ∨ j = 2 := by omega
      rcases this with rfl | rfl | rfl
      · exact ⟨"for", rfl, by decide +kernel, by decide +kernel⟩
      · exact ⟨"end", rfl, by decide +kernel, by decide +kernel⟩
      · exact ⟨"size", rfl, by decide +kernel, by decide +kernel⟩
    refine ⟨_, rfl, rx, _, _, _, rfl, rfl, SqL.of (s4 _ _ hx3), atx 0 (by decide), _, _, rfl, rfl, ⟨by decide, by decide⟩, _, _, rfl, rfl, (by show (0 : Int) < 3; decide), l3, _, _, _, rfl, rfl, SqL.of upd_same, hrz, _, rfl, _, _, rfl, rfl, szl (by rw [len_sOf]; omega), _, rfl, _, rfl, szl (by rw [len_app, len_sOf]; omega), ?_⟩
    refine nx _ _ ⟨e3.trans s4, _, ?_, ?_, rfl⟩
    · rw [cut_to _ (by decide), List.length_take, cds_app, List.length_append, cds_sOf, wl]
      show min 8 _ = 8
      omega
    · rw [cut_to _ (by decide)]
      intro c hc
      have hc := List.mem_of_mem_take hc
      rw [cds_app, cds_sOf] at hc
      exact (List.mem_append.mp hc).elim (rb c) (wb c)
  obtain ⟨e4, wd, wl, wb, rfl⟩ := pp
  have hx4 := e4 _ _ hx
  refine ⟨_, rfl, rx, _, _, _, rfl, rfl, SqL.of hx4, atx 1 (by decide), _, _, rfl, rfl, (by show (0 : Int) < 8; decide), _, _, rfl, rfl, ?_⟩
  refine ⟨_, rfl, rx, _, _, _, rfl, rfl, SqL.of hx4, atx 1 (by decide), _, _, rfl, rfl, ⟨by decide, by decide⟩, _, rfl, _, _, rfl, rfl, (by show (0 : Int) < 1 + xs.getD 1 0 % 8; exact lb0), ?_⟩
  refine ⟨szl (by show 0 ≤ 1000000; decide), fun l hl => ?_⟩
  have hl1 : H1 l = none := e4.free hl
  dsimp only [gName]
  refine ⟨_, rfl, 8, rfl, by decide, by decide, ?_⟩
  have wz : (sOf wd).length = 8 := by rw [len_sOf, wl]
  refine for_range (lo := 0) (n := 8) (fun i σ' H' => ∃ (o1 o2 o3 : Option V), σ' = [some (.int c), some (.int 8), some (.str abc), some (.ref rx), some (.str (sOf wd)), some (.int (nameLong xs)), some (.int (nameAt xs)), some (.ref l), o1, o2, o3] ∧ Same H1 H' ∧ H' l = some (.lst (((List.range i).map fun k : Nat => sOf (nameC xs wd (k : Int))).map V.str))) ?_ (fun i σ' H' hi p => ?_) (fun σ' H' p => ?_)
  · exact ⟨_, _, _, rfl, e4.trans (same_new hl _), upd_same⟩
  · obtain ⟨o1, o2, o3, rfl, hs, hH⟩ := p
    have hxx := hs _ _ hx
    refine ⟨_, rfl, _, rfl, _, rfl, _, _, rfl, rfl, rx, _, _, (.int (xs.getD (2 + nameAt xs).toNat 0)), rfl, rfl, SqL.of hxx, cell_in (by omega) (by omega), _, rfl, _, _, rfl, rfl, _, _, rfl, rfl, (by show (0 : Int) < 26; decide), _, _, _, rfl, rfl, abc_len, abc_at _, ?_⟩
    refine ⟨_, rfl, _, rfl, _, rfl, _, rfl, szl (by omega), _, rfl, _, _, rfl, rfl, ?_, ?_⟩
    · rw [len_sOf, cds_sOf, cut_to _ ab0]
      exact szl (by rw [List.length_take]; show _ + 1 ≤ 1000000; omega)
    refine ⟨_, rfl, _, rfl, _, _, rfl, rfl, _, rfl, _, rfl, _, rfl, _, rfl, szl (by omega), ?_⟩
    have e0 : (0 : Int) + (i : Int) = (i : Int) := by omega
    rw [cds_sOf, cut_to _ ab0, cut_mid _ (by omega) (by omega) (by omega) (by omega), e0]
    have eA : sOf (wd.take (nameAt xs).toNat) ++ (⟨#[letC (xs.getD (2 + nameAt xs).toNat 0 + (i : Int))]⟩ : Str) ++ sOf ((wd.drop (nameAt xs + 1).toNat).take ((nameLong xs).toNat - (nameAt xs + 1).toNat)) = sOf (nameA xs wd (i : Int)) :=
      cds_ext (by rw [cds_app, cds_app, cds_sOf, cds_sOf, cds_sOf]; rfl)
    refine ⟨_, _, rfl, rfl, ?_, ?_⟩
    · rw [len_app, len_sOf, len_sOf, List.length_take, List.length_take, List.length_drop]
      exact szl (by show _ + 1 + _ ≤ 1000000; omega)
    rw [eA]
    dsimp only [gName]
    refine seq_any (fun σ2 H2 => H2 = H' ∧ ∃ (o1 o2 : Option V), σ2 = [some (.int c), some (.int 8), some (.str abc), some (.ref rx), some (.str (sOf wd)), some (.int (nameLong xs)), some (.int (nameAt xs)), some (.ref l), o1, o2, some (.str (sOf (nameRaw xs wd (i : Int))))]) (fun σ2 H2 m => ?_) (fun rest => ?_)
    · obtain ⟨rfl, o4, o5, rfl⟩ := m
      refine seq_any (fun σ3 H3' => Same H2 H3' ∧ ∃ (o1 o2 : Option V), σ3 = [some (.int c), some (.int 8), some (.str abc), some (.ref rx), some (.str (sOf wd)), some (.int (nameLong xs)), some (.int (nameAt xs)), some (.ref l), o1, o2, some (.str (sOf (nameC xs wd (i : Int))))]) (fun σ3 H3' m => ?_) (fun rest => ?_)
      · obtain ⟨hs3, o6, o7, rfl⟩ := m
        have hl3 := hs3 _ _ hH
        refine ⟨_, rfl, .inl ⟨rfl, _, SqL.of hl3⟩, _, rfl, l, _, _, rfl, rfl, hl3, szlt (by rw [List.length_map, List.length_map, List.length_range]; omega), _, _, _, rfl, ?_, ?_⟩
        · exact fun b o e => by rw [upd_ne (ne_of_none e hl1)]; exact hs3 _ _ (hs b o e)
        · rw [upd_same, List.range_succ, List.map_append, List.map_append]
          rfl
      · refine ⟨_, rfl, szl (by show 3 ≤ 1000000; decide), fun tp htp => ?_⟩
        refine ⟨tp, [.str "for", .str "end", .str "size"], rfl, .inr (SqT.of upd_same), rfl, rfl, _, rfl, ?_⟩
        show if inV (V.str (sOf (nameRaw xs wd (i : Int)))) [.str "for", .str "end", .str "size"] = true then _ else _
        rw [in_resv]
        have hlr : (nameRaw xs wd (i : Int)).length ≤ 10 := by
          have := len_nameC wl (xs := xs) (i : Int)
          unfold nameC at this
          split at this
          · rw [List.length_append] at this; omega
          · exact this
        have hz2 : (Str.ofString "zz").length = 2 := by decide +kernel
        refine ite2 (fun cc => ?_) (fun cc => ?_)
        · have e : (Str.ofString "zz" ++ sOf (nameRaw xs wd (i : Int))) = sOf (nameC xs wd (i : Int)) := cds_ext (by
            rw [cds_app, cds_sOf, cds_sOf]
            unfold nameC
            rw [if_pos (dT cc)]
            congr 1)
          refine ⟨_, rfl, _, _, rfl, rfl, szl (by rw [len_sOf, hz2]; omega), ?_⟩
          rw [e]
          exact rest _ _ ⟨same_new htp _, _, _, rfl⟩
        · have e : sOf (nameRaw xs wd (i : Int)) = sOf (nameC xs wd (i : Int)) := by
            unfold nameC
            rw [if_neg (dF cc)]
          rw [e]
          exact rest _ _ ⟨same_new htp _, _, _, rfl⟩
    · refine ⟨_, rfl, rx, _, _, _, rfl, rfl, SqL.of hxx, atx 0 (by decide), _, _, rfl, rfl, (by show (0 : Int) < 2; decide), rfl, _, rfl, ?_⟩
      have key : (V.int (xs.getD 0 0 % 2) = V.int 0) ↔ xs.getD 0 0 % 2 = 0 := ⟨fun e => V.int.inj e, fun e => by rw [e]⟩
      refine ite2 (fun cc => ?_) (fun cc => ?_)
      · have c2 := key.mp (dT cc)
        refine ⟨_, rfl, _, rfl, _, rfl, _, _, rfl, rfl, .inl ⟨by decide, by decide⟩, _, _, rfl, rfl, _, _, rfl, rfl, (by show (0 : Int) < 8; decide), _, _, rfl, rfl, _, rfl, _, rfl, szl (by omega), ?_⟩
        have b0 := Int.emod_nonneg (nameLong xs + 3 * (i : Int)) (show (8 : Int) ≠ 0 by decide)
        have e : sOf (cutC (cds (sOf wd)) none (some (1 + (nameLong xs + 3 * (i : Int)) % 8))) = sOf (nameRaw xs wd (i : Int)) := by
          rw [cds_sOf, cut_to _ (by omega)]
          unfold nameRaw
          rw [if_pos c2]
          unfold nameB
          rfl
        exact rest _ _ ⟨rfl, _, _, congrArg (fun z => [some (V.int c), some (V.int 8), some (V.str abc), some (V.ref rx), some (V.str (sOf wd)), some (V.int (nameLong xs)), some (V.int (nameAt xs)), some (V.ref l), _, _, some (V.str z)]) e⟩
      · have c2 := fun z => dF cc (key.mpr z)
        have e : sOf (nameA xs wd (i : Int)) = sOf (nameRaw xs wd (i : Int)) := by
          unfold nameRaw
          rw [if_neg c2]
        exact rest _ _ ⟨rfl, _, _, congrArg (fun z => [some (V.int c), some (V.int 8), some (V.str abc), some (V.ref rx), some (V.str (sOf wd)), some (V.int (nameLong xs)), some (V.int (nameAt xs)), some (V.ref l), _, _, some (V.str z)]) e⟩
  · obtain ⟨o1, o2, o3, rfl, hs, hH⟩ := p
    refine ⟨_, rfl, q l H' _ (s1.trans hs) ⟨hH, by rw [List.length_map, List.length_range], namesZ_nd wl, fun z hz => ?_⟩⟩
    obtain ⟨k, _, rfl⟩ := List.mem_map.mp hz
    rw [cds_sOf]
    exact Rd.nameC_ok wl wb (k : Int)

theorem ok_number (T : Tx w K mg a) : FnOk P w K mg base CX0 1 a.f_l_number a.d_l_number ["_law_cell_here", "_law_far"] spNumber := by
  refine T.F_l_number.ok sc_l_number (fun vs H Q E h => ?_) (fun cdv A outer s H vs Q E hr h => ?_)
  · obtain ⟨_, _, rfl, _⟩ := h; rfl
  obtain ⟨c, far, rfl, h0, h1, q⟩ := h
  refine ⟨_, (@pss_cons _ _ _ _ _ (@ps_if _ _ _ _ _ _ _ _ (@pt_cmpR _ _ _ _ _ _ _ _ op_eq (@pe_op _ _ _ _ _ _ _ _ op_mod (pv 0) pe_int) pe_int (@nomark _ _ (by decide) (by decide))) (@pss_one _ _ _ (@ps_ret _ _ _ _ (@pe_op _ _ _ _ _ _ _ _ op_sub (@pe_op _ _ _ _ _ _ _ _ op_mod (@pe_op _ _ _ _ _ _ _ _ op_fdiv (pv 0) pe_int) pe_int) pe_int))) pss_nil) (@pss_one _ _ _ (@ps_ret _ _ _ _ (@pe_op _ _ _ _ _ _ _ _ op_sub (@pe_op _ _ _ _ _ _ _ _ op_mod (@pe_op _ _ _ _ _ _ _ _ op_fdiv (pv 0) pe_int) (@pe_op _ _ _ _ _ _ _ _ op_add (@pe_op _ _ _ _ _ _ _ _ op_mul pe_int (pv 1)) pe_int)) (pv 1))))), ?_⟩
  have key : (V.int (c % 3) = V.int 0) ↔ c % 3 = 0 := ⟨fun e => V.int.inj e, fun e => by rw [e]⟩
  refine ⟨_, rfl, _, _, rfl, rfl, (by show (0 : Int) < 3; decide), rfl, _, rfl, ?_⟩
  refine ite2 (fun cc => ?_) (fun cc => ?_)
  · refine ⟨_, rfl, _, _, rfl, rfl, ⟨by decide, by decide⟩, _, _, rfl, rfl, (by show (0 : Int) < 7; decide), _, _, rfl, rfl, ?_⟩
    unfold numZ at q
    rw [if_pos (key.mp (dT cc))] at q
    exact q
  · refine ⟨_, rfl, _, _, rfl, rfl, ⟨by decide, by decide⟩, _, rfl, _, _, rfl, rfl, .inl ⟨by decide, by decide⟩, _, _, rfl, rfl, _, _, rfl, rfl, (by show (0 : Int) < 2 * far + 1; omega), _, rfl, _, _, rfl, rfl, ?_⟩
    unfold numZ at q
    rw [if_neg (fun z => dF cc (key.mpr z))] at q
    exact q

theorem ok_stext (T : Tx w K mg a) : FnOk P w K mg base CX0 1 a.f_l_spot_text a.d_l_spot_text ["_law_spot_here"] spSpotT := by
  refine T.F_l_spot_text.ok sc_l_spot_text (fun vs H Q E h => ?_) (fun cdv A outer s H vs Q E hr h => ?_)
  · obtain ⟨_, _, rfl, _⟩ := h; rfl
  obtain ⟨x, s, rfl, ⟨t, rfl, ht⟩, ⟨b0, b1, b2⟩, q⟩ := h
  refine ⟨_, (@pss_cons _ _ _ _ _ (@ps_if _ _ _ _ _ _ _ _ (@pt_cmpR _ _ _ _ _ _ _ _ op_eq (@pe_ix _ _ _ _ _ _ _ ix_tup (pv 0) pe_int (fun _ _ => rfl)) pe_str (@nomark _ _ (by decide) (by decide))) (@pss_one _ _ _ (@ps_ret _ _ _ _ (@pe_callTy _ _ _ _ _ _ _ _ _ call_str_int (by rfl) T.z_str bt_str (@pa_cons _ _ _ _ _ (@pe_ix _ _ _ _ _ _ _ ix_tup (pv 0) pe_int (fun _ _ => rfl)) pa_nil (by rfl)) (by decide) (by decide) (by rfl) (by rfl)))) pss_nil) (@pss_cons _ _ _ _ _ (@ps_if _ _ _ _ _ _ _ _ (@pt_cmpR _ _ _ _ _ _ _ _ op_eq (@pe_ix _ _ _ _ _ _ _ ix_tup (pv 0) pe_int (fun _ _ => rfl)) pe_int (@nomark _ _ (by decide) (by decide))) (@pss_one _ _ _ (@ps_ret _ _ _ _ (@pe_ix _ _ _ _ _ _ _ ix_tup (pv 0) pe_int (fun _ _ => rfl)))) pss_nil) (@pss_one _ _ _ (@ps_ret _ _ _ _ (@pe_op _ _ _ _ _ _ _ _ op_add_str (@pe_op _ _ _ _ _ _ _ _ op_add_str (@pe_ix _ _ _ _ _ _ _ ix_tup (pv 0) pe_int (fun _ _ => rfl)) (@pe_ix _ _ _ _ _ _ _ ix_str pe_str (@pe_callTy _ _ _ _ _ _ _ _ _ call_int1 (by rfl) T.z_int bt_int (@pa_cons _ _ _ _ _ (@pe_cmpR _ _ _ _ _ _ _ _ op_lt (@pe_ix _ _ _ _ _ _ _ ix_tup (pv 0) pe_int (fun _ _ => rfl)) pe_int (@nomark _ _ (by decide) (by decide))) pa_nil (by rfl)) (by decide) (by decide) (by rfl) (by rfl)) (fun _ _ => rfl))) (@pe_callTy _ _ _ _ _ _ _ _ _ call_str_int (by rfl) T.z_str bt_str (@pa_cons _ _ _ _ _ (@pe_callB _ _ _ _ _ _ _ _ _ call_abs (by rfl) T.z_abs bt_abs (@pa_cons _ _ _ _ _ (@pe_ix _ _ _ _ _ _ _ ix_tup (pv 0) pe_int (fun _ _ => rfl)) pa_nil (by rfl)) (by decide) (by decide) (by rfl) (by rfl)) pa_nil (by rfl)) (by decide) (by decide) (by rfl) (by rfl))))))), ?_⟩
  refine ⟨_, rfl, t, _, 0, _, rfl, rfl, SqT.of ht, rfl, rfl, _, rfl, ?_⟩
  by_cases c1 : s.1 = ""
  · unfold spS at q
    rw [if_pos c1] at q
    refine iteE (v := true) (decide_eq_true (congrArg V.str c1)) (iteT ?_)
    exact ⟨_, rfl, t, _, 1, _, rfl, rfl, SqT.of ht, rfl, _, rfl, log_small b1 b2, q⟩
  refine iteE (v := false) (dS c1) (iteF ?_)
  refine ⟨_, rfl, t, _, 1, _, rfl, rfl, SqT.of ht, rfl, rfl, _, rfl, ?_⟩
  by_cases c2 : s.2 = 0
  · unfold spS at q
    rw [if_neg c1, if_pos c2] at q
    refine iteE (v := true) (decide_eq_true (congrArg V.int c2)) (iteT ?_)
    exact ⟨_, rfl, t, _, 0, _, rfl, rfl, SqT.of ht, rfl, q⟩
  refine iteE (v := false) (decide_eq_false fun z => c2 (V.int.inj z)) (iteF ?_)
  rw [spS_law c1 c2] at q
  have nl := nS_len (i := if s.2 < 0 then -s.2 else s.2) (by split <;> omega) (by split <;> omega)
  unfold nS at nl q
  have lg := log_small (i := if s.2 < 0 then -s.2 else s.2) (by split <;> omega) (by split <;> omega)
  have a1 : atI (cds (Str.ofString "+-")) (if decide (s.2 < 0) = true then 1 else 0) = some (if s.2 < 0 then 45 else 43) := by
    by_cases c : s.2 < 0
    · rw [if_pos c, if_pos (decide_eq_true c)]; decide +kernel
    · rw [if_neg c, if_neg (fun z => c (of_decide_eq_true z))]; decide +kernel
  have a2 : (⟨#[if s.2 < 0 then 45 else 43]⟩ : Str) = if s.2 < 0 then ("-" : Str) else "+" := by
    by_cases c : s.2 < 0
    · rw [if_pos c, if_pos c]; decide +kernel
    · rw [if_neg c, if_neg c]; decide +kernel
  have a3 : (⟨#[if s.2 < 0 then 45 else 43]⟩ : Str).length = 1 := rfl
  rw [← a2] at q
  refine ⟨_, rfl, t, _, 0, _, rfl, rfl, SqT.of ht, rfl, _, rfl, t, _, 1, _, rfl, rfl, SqT.of ht, rfl, _, _, rfl, rfl, .inr ⟨_, rfl, _, _, _, rfl, rfl, (by decide +kernel), a1, _, _, rfl, rfl, szl (by omega), ?_⟩⟩
  exact ⟨_, rfl, t, _, 1, _, rfl, rfl, SqT.of ht, rfl, _, rfl, _, rfl, lg, _, _, rfl, rfl, szl (by rw [sLen]; omega), q⟩

theorem ok_spot23 (T : Tx w K mg a) : FnOk P w K mg base CX0 2 a.f_l_spot a.d_l_spot ["_law_one", "_law_other", "_law_known"] Rd.spSpot23 := by
  have G_l_number := ok_number (P := P) (w := w) (base := base) T
  refine T.F_l_spot.ok sc_l_spot (fun vs H Q E h => ?_) (fun cdv A outer s H vs Q E hr h => ?_)
  · obtain ⟨_, _, _, _, rfl, _⟩ := h; rfl
  obtain ⟨x, y, kl, nms, rfl, x0, x1, y0, y1, hk, q⟩ := h
  refine ⟨_, (@pss_cons _ _ _ _ _ (@ps_set _ _ (3) _ _ _ _ sc_l_spot.nd rfl (Or.inl rfl) (@pe_call _ _ _ _ _ _ _ _ _ _ _ _ _ _ _ _ G_l_number (hr.mono (by omega)) (by rfl) T.m_l_number T.F_l_number.kp T.b_l_number .nil pass0 (@pa_cons _ _ _ _ _ (@pe_op _ _ _ _ _ _ _ _ op_mul (@pe_op _ _ _ _ _ _ _ _ op_mul (pv 0) (pv 1)) pe_int) (@pa_cons _ _ _ _ _ (@pe_op _ _ _ _ _ _ _ _ op_sub (@pe_op _ _ _ _ _ _ _ _ op_pow pe_int pe_int) pe_int) pa_nil (by rfl)) (by rfl)) (by decide) (by rfl) (by rfl)) (by rfl) (by first | exact .inl rfl | exact .inr rfl | assumption)) (@pss_cons _ _ _ _ _ (@ps_if _ _ _ _ _ _ _ _ (@pt_cmpR _ _ _ _ _ _ _ _ op_eq (@pe_op _ _ _ _ _ _ _ _ op_mod (pv 1) pe_int) pe_int (@nomark _ _ (by decide) (by decide))) (@pss_one _ _ _ (@ps_set _ _ (3) _ _ _ _ sc_l_spot.nd rfl (Or.inl rfl) pe_int (by rfl) (by first | exact .inl rfl | exact .inr rfl | assumption))) pss_nil) (@pss_one _ _ _ (@ps_ret _ _ _ _ (@pe_tup _ _ _ _ _ (@pa_cons _ _ _ _ _ (@pe_ix _ _ _ _ _ _ _ ix_list (pv 2) (@pe_op _ _ _ _ _ _ _ _ op_mod (pv 0) (@pe_callB _ _ _ _ _ _ _ _ _ call_len_seq (by rfl) T.z_len bt_len (@pa_cons _ _ _ _ _ (pv 2) pa_nil (by rfl)) (by decide) (by decide) (by rfl) (by rfl))) (fun _ _ => rfl)) (@pa_cons _ _ _ _ _ (pv 3) pa_nil (by rfl)) (by rfl))))))), ?_⟩
  have bx : -(2 ^ 64 : Int) < x ∧ x < 2 ^ 64 := ⟨by omega, by omega⟩
  have bxy : -(2 ^ 64 : Int) < x * y ∧ x * y < 2 ^ 64 := by
    have h1 : x * y ≤ 2147483647 * 2147483647 := Int.mul_le_mul (by omega) (by omega) y0 (by decide)
    have h2 := Int.mul_nonneg x0 y0
    exact ⟨by omega, by omega⟩
  refine ⟨_, rfl, _, rfl, _, _, rfl, rfl, .inl bx, _, _, rfl, rfl, .inl bxy, _, _, rfl, rfl, ⟨by decide, by decide, by decide⟩, _, _, rfl, rfl, _, _, rfl, (by decide), (by decide), ?_⟩
  have nb := numZ_b (x * y * 7) (far := 10 ^ (18 : Int).toNat - 1) (by decide)
  dsimp only [gName]
  generalize numZ _ _ = nn at nb ⊢
  refine seq_any (fun σ' H' => H' = H ∧ ∃ n : Int, -999999999999999999 ≤ n ∧ n ≤ 999999999999999999 ∧ σ' = [some (.int x), some (.int y), some (.ref kl), some (.int n)]) (fun σ' H' pp => ?_) (fun nx => ?_)
  · obtain ⟨rfl, n, n0, n1, rfl⟩ := pp
    have lm : (((((("" : Str) :: nms).map V.str).length : Nat) : Int)) = ((("" : Str) :: nms).length : Int) := by rw [List.length_map]
    have lp : (0 : Int) < ((("" : Str) :: nms).length : Int) := by rw [List.length_cons]; omega
    have f0 := Int.emod_nonneg x (show (((("" : Str) :: nms).map V.str).length : Int) ≠ 0 by omega)
    have f1 := Int.emod_lt_of_pos x (show (0 : Int) < (((("" : Str) :: nms).map V.str).length : Int) by omega)
    obtain ⟨z, hz, hzi⟩ := Rd.strs_at (zs := ("" : Str) :: nms) f0 (by omega)
    have hzm := List.mem_of_getElem? hzi
    refine ⟨_, rfl, _, rfl, _, rfl, kl, _, rfl, .inl (SqL.of hk.1), _, _, rfl, rfl, (by show (0 : Int) < (((("" : Str) :: nms).map V.str).length : Int); omega), kl, _, _, _, rfl, rfl, SqL.of hk.1, hz, _, rfl, szl (by show 2 ≤ 1000000; decide), fun r hr' => ?_⟩
    exact q _ _ (z, n) (same_new hr' _) ⟨r, rfl, upd_same⟩ (Rd.spn_of hk.2.2 hzm n0 n1).1 (Rd.spn_of hk.2.2 hzm n0 n1).2
  · refine ⟨_, rfl, _, _, rfl, rfl, (by show (0 : Int) < 4; decide), rfl, _, rfl, ?_⟩
    refine ite2 (fun _ => nx _ _ ⟨rfl, 0, by decide, by decide, rfl⟩) (fun _ => nx _ _ ⟨rfl, nn, nb.1, nb.2, rfl⟩)

theorem ok_cell23 (T : Tx w K mg a) : FnOk P w K mg base CX0 3 a.f_l_cell a.d_l_cell ["_law_xs", "_law_known", "_law_names_here"] Rd.spCell23 := by
  have G_l_spot := ok_spot23 (P := P) (w := w) (base := base) T
  have G_l_spot_text := ok_stext (P := P) (w := w) (base := base) T
  refine T.F_l_cell.ok sc_l_cell (fun vs H Q E h => ?_) (fun cdv A outer s H vs Q E hr h => ?_)
  · obtain ⟨_, _, _, _, _, _, rfl, _⟩ := h; rfl
  obtain ⟨rx, kl, nl, xs, nms, ns, rfl, hx, xl, xm, hk, hn, q⟩ := h
  refine ⟨_, (@pss_cons _ _ _ _ _ (@ps_set _ _ (3) _ _ _ _ sc_l_cell.nd rfl (Or.inl rfl) (@pe_op _ _ _ _ _ _ _ _ op_add pe_int (@pe_op _ _ _ _ _ _ _ _ op_mod (@pe_ix _ _ _ _ _ _ _ ix_list (pv 0) pe_int (fun _ _ => rfl)) pe_int)) (by rfl) (by first | exact .inl rfl | exact .inr rfl | assumption)) (@pss_cons _ _ _ _ _ (@ps_set _ _ (4) _ _ _ _ sc_l_cell.nd rfl (Or.inl rfl) (@pe_ix _ _ _ _ _ _ _ ix_list (pv 2) (@pe_op _ _ _ _ _ _ _ _ op_add (@pe_op _ _ _ _ _ _ _ _ op_sub (@pe_op _ _ _ _ _ _ _ _ op_mul pe_int (pv 3)) pe_int) (@pe_op _ _ _ _ _ _ _ _ op_mod (@pe_op _ _ _ _ _ _ _ _ op_fdiv (@pe_ix _ _ _ _ _ _ _ ix_list (pv 0) pe_int (fun _ _ => rfl)) pe_int) pe_int)) (fun _ _ => rfl)) (by rfl) (by first | exact .inl rfl | exact .inr rfl | assumption)) (@pss_cons _ _ _ _ _ (@ps_set _ _ (5) _ _ _ _ sc_l_cell.nd rfl (Or.inl rfl) (@pe_callTy _ _ _ _ _ _ _ _ _ call_tuple_of (by rfl) T.z_tuple bt_tuple (@pa_cons _ _ _ _ _ (@pe_compB _ _ _ _ _ _ _ ["_law_k", "_law_known", "_law_xs"] [none, some 1, some 0] _ _ _ _ (by rfl) (@pi_range1 _ _ _ _ _ _ (by rfl) T.z_range (@pa_cons _ _ _ _ _ (pv 3) pa_nil (by rfl)) (by rfl)) c_l_cell_0 (fun _ _ _ _ _ _ => ⟨(pg_name (i := 0) c_l_cell_0n rfl (Or.inl rfl)), @pts_nil _, (@pe_call _ _ _ _ _ _ _ _ _ _ _ _ _ _ _ _ G_l_spot (hr.mono (by omega)) (by rfl) T.m_l_spot T.F_l_spot.kp T.b_l_spot .nil pass0 (@pa_cons _ _ _ _ _ (@pe_ix _ _ _ _ _ _ _ (show IxR _ (rIxL K) from ix_list) (pv 2) (@pe_op _ _ _ _ _ _ _ _ op_add pe_int (pv 0)) (fun _ _ => rfl)) (@pa_cons _ _ _ _ _ (@pe_ix _ _ _ _ _ _ _ (show IxR _ (rIxL K) from ix_list) (pv 2) (@pe_op _ _ _ _ _ _ _ _ op_add pe_int (pv 0)) (fun _ _ => rfl)) (@pa_cons _ _ _ _ _ (pv 1) pa_nil (by rfl)) (by rfl)) (by rfl)) (by decide) (by rfl) (by rfl))⟩) (by intro _ ; rfl)) pa_nil (by rfl)) (by decide) (by decide) (by rfl) (by rfl)) (by rfl) (by first | exact .inl rfl | exact .inr rfl | assumption)) (@pss_one _ _ _ (@ps_ret _ _ _ _ (@pe_tupq _ _ _ _ _ (@paq_cons _ _ _ _ _ (pv 4) (@paq_cons _ _ _ _ _ (pv 5) (@paq_cons _ _ _ _ _ (@pe_op _ _ _ _ _ _ _ _ op_add_str (pv 4) (@pe_bm _ _ _ _ _ _ _ _ _ _ _ _ PySem.F.plainAttrs_str PySem.F.slot_str_join PySem.F.type_str_join mt_join pe_str (@pa_cons _ _ _ _ _ (@pe_compB _ _ _ _ _ _ _ ["_law_spot_here"] [none] _ _ _ _ (by rfl) (@pi_tup _ _ _ _ (pv 5)) c_l_cell_1 (fun _ _ _ _ _ _ => ⟨(pg_name (i := 0) c_l_cell_1n rfl (Or.inl rfl)), @pts_nil _, (@pe_op _ _ _ _ _ _ _ _ op_add_str (@pe_op _ _ _ _ _ _ _ _ op_add_str pe_str (@pe_call _ _ _ _ _ _ _ _ _ _ _ _ _ _ _ _ G_l_spot_text (hr.mono (by omega)) (by rfl) T.m_l_spot_text T.F_l_spot_text.kp T.b_l_spot_text .nil pass0 (@pa_cons _ _ _ _ _ (pv 0) pa_nil (by rfl)) (by decide) (by rfl) (by rfl))) pe_str)⟩) (by intro _ ; rfl)) pa_nil (by rfl)) (by rfl) (by rfl) (by rfl) (by rfl) (by rfl))) paq_nil star_B) star_N) star_N))))))), ?_⟩
  have atx : ∀ k : Nat, k < 5 → atI (xs.map V.int) ((k : Nat) : Int) = some (.int (xs.getD k 0)) := fun k hk => cell_in (ns := xs) (k := ((k : Nat) : Int)) (by omega) (by omega)
  have xb : ∀ k : Nat, k < 5 → 0 ≤ xs.getD k 0 ∧ xs.getD k 0 < 2147483647 := fun k hk => by
    have hm : xs.getD k 0 ∈ xs := by rw [List.getD_eq_getElem?_getD, List.getElem?_eq_getElem (by omega)]; exact List.getElem_mem _
    exact xm _ hm
  refine ⟨_, rfl, rx, _, _, _, rfl, rfl, SqL.of hx, atx 0 (by decide), _, _, rfl, rfl, (by show (0 : Int) < 3; decide), _, _, rfl, rfl, ?_⟩
  dsimp only [gName]
  have m0 := Int.emod_nonneg (xs.getD 0 0) (show (3 : Int) ≠ 0 by decide)
  have m1 := Int.emod_lt_of_pos (xs.getD 0 0) (show (0 : Int) < 3 by decide)
  obtain ⟨m, em⟩ : ∃ m : Nat, 1 + xs.getD 0 0 % 3 = (m : Int) := ⟨(1 + xs.getD 0 0 % 3).toNat, by omega⟩
  rw [em]
  have mb : 1 ≤ m ∧ m ≤ 3 := by omega
  have f0 := Int.emod_nonneg (xs.getD 0 0 / 3) (show (2 : Int) ≠ 0 by decide)
  have f1 := Int.emod_lt_of_pos (xs.getD 0 0 / 3) (show (0 : Int) < 2 by decide)
  obtain ⟨tz, htz, tzi⟩ := Rd.strs_at (zs := ns) (i := 2 * (m : Int) - 1 + xs.getD 0 0 / 3 % 2) (by omega) (by have := hn.2.1; omega)
  have tok := hn.2.2.2 tz (List.mem_of_getElem? tzi)
  have tl : tz.length ≤ 20 := by have := tok.2.1; rw [cds_len] at this; omega
  have tfz : Rd.tf ns tz = m := by unfold Rd.tf; rw [Rd.idx_nodup hn.2.2.1 tzi]; omega
  refine ⟨_, rfl, _, rfl, _, _, rfl, rfl, .inl ⟨by decide, by decide⟩, _, _, rfl, rfl, _, rfl, rx, _, _, _, rfl, rfl, SqL.of hx, atx 0 (by decide), _, _, rfl, rfl, ⟨by decide, by decide⟩, _, _, rfl, rfl, (by show (0 : Int) < 2; decide), _, _, rfl, rfl, nl, _, _, _, rfl, rfl, SqL.of hn.1, htz, ?_⟩
  dsimp only [gName]
  refine ⟨_, rfl, _, rfl, by omega, by omega, ?_⟩
  rw [Int.toNat_natCast]
  refine comp_range (lo := 0) (n := m) (fun i ys H' => Same H H' ∧ ∃ sp : List (Str × Int), All2 (SpoAt H') ys sp ∧ sp.length = i ∧ ∀ s ∈ sp, Rd.SpN s ∧ Rd.knw nms s = true) ⟨Same.refl _, [], .nil, rfl, fun s hs => by cases hs⟩ (szl (by omega)) (fun i ys H' hi pp => by obtain ⟨_, sp, h, h2, _⟩ := pp; rw [h.1]; omega) (fun i ys H' hi pp => ?_) (fun ys H1 pp r1 hr1 => ?_)
  · obtain ⟨e, sp, ay, sl, sb⟩ := pp
    have e0 : 1 + (0 + (i : Int)) = ((1 + i : Nat) : Int) := by omega
    have e1 : 2 + (0 + (i : Int)) = ((2 + i : Nat) : Int) := by omega
    refine ⟨_, rfl, _, rfl, _, _, rfl, rfl, rx, _, _, _, rfl, rfl, SqL.of (e _ _ hx), (by rw [e0]; exact atx (1 + i) (by omega)), _, rfl, _, rfl, _, _, rfl, rfl, rx, _, _, _, rfl, rfl, SqL.of (e _ _ hx), (by rw [e1]; exact atx (2 + i) (by omega)), _, rfl, _, _, kl, nms, rfl, (xb _ (by omega)).1, (xb _ (by omega)).2, (xb _ (by omega)).1, (xb _ (by omega)).2, hk.over e, fun r H2 s e2 hs hb hkn => ?_⟩
    refine ⟨e.trans e2, sp ++ [s], (ay.mono fun _ _ z => z.tk (Same.tk e2)).snoc hs, by rw [List.length_append, sl]; rfl, fun s' hs' => ?_⟩
    rcases List.mem_append.mp hs' with c | c
    · exact sb s' c
    · rw [List.mem_singleton.mp c]; exact ⟨hb, hkn⟩
  obtain ⟨e, sp, ay, sl, sb⟩ := pp
  refine ⟨r1, _, rfl, .inl ⟨SqL.of upd_same, fun p hp => ?_⟩⟩
  have s2 := (same_new hr1 (.lst ys)).trans (same_new hp (.tup ys))
  have hp2 : (upd (upd H1 r1 (.lst ys)) p (.tup ys)) p = some (.tup ys) := upd_same
  dsimp only [gName]
  have eH := e.trans s2
  have ay2 := ay.mono fun _ _ z => z.tk (Same.tk s2)
  generalize upd (upd H1 r1 (.lst ys)) p (.tup ys) = H2 at s2 hp2 eH ay2
  have yl := ay2.1
  refine ⟨_, rfl, _, rfl, _, rfl, rfl, _, rfl, p, rfl, ⟨_, SqT.of hp2⟩, ?_⟩
  refine comp_tup (xs := ys) (fun i zs H' => H' = H2 ∧ zs = ((sp.take i).map boxS).map V.str) ⟨rfl, rfl⟩ (szl (by omega)) (fun i zs H' hi pp => ⟨by rw [pp.1]; exact SqT.of hp2, by rw [pp.2, List.length_map, List.length_map, List.length_take]; omega⟩) (fun i x zs H' hx pp => ?_) (fun zs H' pp r hr' => ?_)
  · obtain ⟨rfl, rfl⟩ := pp
    obtain ⟨s1, hs, hsp⟩ := ay2.get' hx
    have hb := (sb s1 (List.mem_of_getElem? hs)).1.2
    have l1 := spS_len hb
    have l2 : ("[" : Str).length = 1 := by decide +kernel
    have l3 : ("]" : Str).length = 1 := by decide +kernel
    refine ⟨_, rfl, x, s1, rfl, hsp, hb, _, _, rfl, rfl, szl (by omega), _, _, rfl, rfl, szl (by rw [sLen]; omega), rfl, ?_⟩
    rw [take_snoc hs, List.map_append, List.map_append]
    rfl
  obtain ⟨rfl, rfl⟩ := pp
  rw [List.take_of_length_le (by omega)]
  have sb2 : ∀ s ∈ sp, SpB s := fun s hs => (sb s hs).1.2
  have hs := boxes_sum (sp := sp) (by omega) sb2
  have cl := celS_len (sp := sp) tl (by omega) sb2
  unfold celS at cl
  rw [sLen] at cl
  refine ⟨_, r, _, rfl, rfl, .inl (SqL.of upd_same), Nat.le_trans hs (by decide), _, _, rfl, rfl, szl (by omega), szl (by show 3 ≤ 1000000; decide), fun t ht => ?_⟩
  have s3 := (same_new hr' (.lst ((sp.map boxS).map V.str))).trans (same_new ht (.tup [V.str tz, V.ref p, V.str (tz ++ Txt.join "" (sp.map boxS))]))
  exact q t p _ tz sp (eH.trans s3) upd_same ⟨ys, s3 _ _ hp2, ay2.mono fun _ _ z => z.tk (Same.tk s3)⟩ ⟨⟨tok, (fun z => by rw [z] at sl; have : 0 = m := sl; omega), by omega, fun s hs => (sb s hs).1⟩, List.all_eq_true.mpr fun s hs => (sb s hs).2, by show Rd.tf ns tz = sp.length; rw [tfz, sl]⟩

theorem ok_leaf23 (T : Tx w K mg a) : FnOk P w K mg base CX0 4 a.f_l_leaf a.d_l_leaf ["_law_cell_here", "_law_known", "_law_names_here"] Rd.spLeaf23 := by
  have G_l_stream := ok_stream (P := P) (w := w) (base := base) T
  have G_l_number := ok_number (P := P) (w := w) (base := base) T
  have G_l_cell := ok_cell23 (P := P) (w := w) (base := base) T
  refine T.F_l_leaf.ok sc_l_leaf (fun vs H Q E h => ?_) (fun cdv A outer s H vs Q E hr h => ?_)
  · obtain ⟨_, _, _, _, _, rfl, _⟩ := h; rfl
  obtain ⟨c, kl, nl, nms, ns, rfl, hk, hn, q⟩ := h
  refine ⟨_, (@pss_cons _ _ _ _ _ (@ps_set _ _ (3) _ _ _ _ sc_l_leaf.nd rfl (Or.inl rfl) (@pe_call _ _ _ _ _ _ _ _ _ _ _ _ _ _ _ _ G_l_stream (hr.mono (by omega)) (by rfl) T.m_l_stream T.F_l_stream.kp T.b_l_stream .nil pass0 (@pa_cons _ _ _ _ _ (@pe_op _ _ _ _ _ _ _ _ op_fdiv (pv 0) pe_int) (@pa_cons _ _ _ _ _ pe_int pa_nil (by rfl)) (by rfl)) (by decide) (by rfl) (by rfl)) (by rfl) (by first | exact .inl rfl | exact .inr rfl | assumption)) (@pss_cons _ _ _ _ _ (@ps_if _ _ _ _ _ _ _ _ (@pt_cmpR _ _ _ _ _ _ _ _ op_eq (@pe_op _ _ _ _ _ _ _ _ op_mod (pv 0) pe_int) pe_int (@nomark _ _ (by decide) (by decide))) (@pss_cons _ _ _ _ _ (@ps_set _ _ (4) _ _ _ _ sc_l_leaf.nd rfl (Or.inl rfl) (@pe_callB _ _ _ _ _ _ _ _ _ call_abs (by rfl) T.z_abs bt_abs (@pa_cons _ _ _ _ _ (@pe_call _ _ _ _ _ _ _ _ _ _ _ _ _ _ _ _ G_l_number (hr.mono (by omega)) (by rfl) T.m_l_number T.F_l_number.kp T.b_l_number .nil pass0 (@pa_cons _ _ _ _ _ (@pe_op _ _ _ _ _ _ _ _ op_mul (@pe_ix _ _ _ _ _ _ _ ix_list (pv 3) pe_int (fun _ _ => rfl)) (@pe_ix _ _ _ _ _ _ _ ix_list (pv 3) pe_int (fun _ _ => rfl))) (@pa_cons _ _ _ _ _ (@pe_op _ _ _ _ _ _ _ _ op_sub (@pe_op _ _ _ _ _ _ _ _ op_pow pe_int pe_int) pe_int) pa_nil (by rfl)) (by rfl)) (by decide) (by rfl) (by rfl)) pa_nil (by rfl)) (by decide) (by decide) (by rfl) (by rfl)) (by rfl) (by first | exact .inl rfl | exact .inr rfl | assumption)) (@pss_one _ _ _ (@ps_ret _ _ _ _ (@pe_tupq _ _ _ _ _ (@paq_cons _ _ _ _ _ (@pe_callTy _ _ _ _ _ _ _ _ _ call_str_int (by rfl) T.z_str bt_str (@pa_cons _ _ _ _ _ (pv 4) pa_nil (by rfl)) (by decide) (by decide) (by rfl) (by rfl)) (@paq_cons _ _ _ _ _ pe_int (@paq_cons _ _ _ _ _ (@pe_tup _ _ _ _ _ (@pa_cons _ _ _ _ _ pe_str (@pa_cons _ _ _ _ _ (pv 4) pa_nil (by rfl)) (by rfl))) paq_nil star_T) star_C) star_K))))) pss_nil) (@pss_cons _ _ _ _ _ (@ps_if _ _ _ _ _ _ _ _ ((@pw_and _ _ _ _ _ _ _ (@pt_cmpR _ _ _ _ _ _ _ _ op_eq (@pe_op _ _ _ _ _ _ _ _ op_mod (pv 0) pe_int) pe_int (@nomark _ _ (by decide) (by decide))) (@pw_and1 _ _ _ _ (@pt_cmpR _ _ _ _ _ _ _ _ op_gt (@pe_callB _ _ _ _ _ _ _ _ _ call_len_seq (by rfl) T.z_len bt_len (@pa_cons _ _ _ _ _ (pv 1) pa_nil (by rfl)) (by decide) (by decide) (by rfl) (by rfl)) pe_int (@nomark _ _ (by decide) (by decide)))))).pt (@pss_cons _ _ _ _ _ (@ps_set _ _ (5) _ _ _ _ sc_l_leaf.nd rfl (Or.inl rfl) (@pe_ix _ _ _ _ _ _ _ ix_list (pv 1) (@pe_op _ _ _ _ _ _ _ _ op_add pe_int (@pe_op _ _ _ _ _ _ _ _ op_mod (@pe_ix _ _ _ _ _ _ _ ix_list (pv 3) pe_int (fun _ _ => rfl)) (@pe_op _ _ _ _ _ _ _ _ op_sub (@pe_callB _ _ _ _ _ _ _ _ _ call_len_seq (by rfl) T.z_len bt_len (@pa_cons _ _ _ _ _ (pv 1) pa_nil (by rfl)) (by decide) (by decide) (by rfl) (by rfl)) pe_int))) (fun _ _ => rfl)) (by rfl) (by first | exact .inl rfl | exact .inr rfl | assumption)) (@pss_one _ _ _ (@ps_ret _ _ _ _ (@pe_tupq _ _ _ _ _ (@paq_cons _ _ _ _ _ (pv 5) (@paq_cons _ _ _ _ _ pe_int (@paq_cons _ _ _ _ _ (@pe_tup _ _ _ _ _ (@pa_cons _ _ _ _ _ pe_str (@pa_cons _ _ _ _ _ (pv 5) pa_nil (by rfl)) (by rfl))) paq_nil star_T) star_C) star_N))))) pss_nil) (@pss_cons _ _ _ _ _ (@ps_set _ _ (6) _ _ _ _ sc_l_leaf.nd rfl (Or.inl rfl) (@pe_call _ _ _ _ _ _ _ _ _ _ _ _ _ _ _ _ G_l_cell (hr.mono (by omega)) (by rfl) T.m_l_cell T.F_l_cell.kp T.b_l_cell .nil pass0 (@pa_cons _ _ _ _ _ (pv 3) (@pa_cons _ _ _ _ _ (pv 1) (@pa_cons _ _ _ _ _ (pv 2) pa_nil (by rfl)) (by rfl)) (by rfl)) (by decide) (by rfl) (by rfl)) (by rfl) (by first | exact .inl rfl | exact .inr rfl | assumption)) (@pss_one _ _ _ (@ps_ret _ _ _ _ (@pe_tupq _ _ _ _ _ (@paq_cons _ _ _ _ _ (@pe_ix _ _ _ _ _ _ _ ix_tup (pv 6) pe_int (fun _ _ => rfl)) (@paq_cons _ _ _ _ _ pe_int (@paq_cons _ _ _ _ _ (@pe_tupq _ _ _ _ _ (@paq_cons _ _ _ _ _ pe_str (@paq_cons _ _ _ _ _ (@pe_ix _ _ _ _ _ _ _ ix_tup (pv 6) pe_int (fun _ _ => rfl)) (@paq_cons _ _ _ _ _ (@pe_ix _ _ _ _ _ _ _ ix_tup (pv 6) pe_int (fun _ _ => rfl)) paq_nil star_S) star_S) star_C)) paq_nil star_T) star_C) star_S)))))))), ?_⟩
  refine ⟨_, rfl, _, _, rfl, rfl, ⟨by decide, by decide⟩, _, 5, rfl, by decide, by decide, fun rx H1 s1 hx => ?_⟩
  rw [show (5 : Int).toNat = 5 from rfl] at hx
  generalize hxs : strm (c / 3) 5 = xs at hx
  have xl : xs.length = 5 := by rw [← hxs, strm_len]
  have xm : ∀ y ∈ xs, 0 ≤ y ∧ y < 2147483647 := fun y hy => strm_mem (hxs ▸ hy)
  have atx : ∀ k : Nat, k < 5 → atI (xs.map V.int) ((k : Nat) : Int) = some (.int (xs.getD k 0)) := fun k hk => cell_in (ns := xs) (k := ((k : Nat) : Int)) (by omega) (by omega)
  have xb : ∀ k : Nat, k < 5 → -(2 ^ 64 : Int) < xs.getD k 0 ∧ xs.getD k 0 < 2 ^ 64 := fun k hk => by
    have hm : xs.getD k 0 ∈ xs := by rw [List.getD_eq_getElem?_getD, List.getElem?_eq_getElem (by omega)]; exact List.getElem_mem _
    obtain ⟨h0, h1⟩ := xm _ hm
    exact ⟨by omega, by omega⟩
  have hk1 := hk.over s1
  have hn1 := hn.over s1
  dsimp only [gName]
  refine ⟨_, rfl, _, _, rfl, rfl, (by show (0 : Int) < 3; decide), rfl, _, rfl, ?_⟩
  refine ite2 (fun _ => ?_) (fun _ => ?_)
  · refine ⟨_, rfl, rx, _, _, _, rfl, rfl, SqL.of hx, atx 0 (by decide), _, rfl, rx, _, _, _, rfl, rfl, SqL.of hx, atx 1 (by decide), _, _, rfl, rfl, .inl (xb 0 (by decide)), _, _, rfl, rfl, ⟨by decide, by decide, by decide⟩, _, _, rfl, rfl, _, _, rfl, (by decide), (by decide), ?_⟩
    have nb := numZ_b (xs.getD 0 0 * xs.getD 1 0) (far := 10 ^ (18 : Int).toNat - 1) (by decide)
    generalize numZ _ _ = nn at nb ⊢
    refine ⟨_, rfl, ?_⟩
    obtain ⟨n, en, n0, n1⟩ : ∃ n : Int, (if nn < 0 then -nn else nn) = n ∧ 0 ≤ n ∧ n ≤ 999999999999999999 := ⟨_, rfl, by have := nb.1; have := nb.2; split <;> omega, by have := nb.1; have := nb.2; split <;> omega⟩
    rw [en]
    dsimp only [gName]
    refine ⟨_, rfl, _, rfl, log_small (by omega) n1, _, rfl, szl (by show 2 ≤ 1000000; decide), fun t1 ht1 => ⟨szl (by show 3 ≤ 1000000; decide), fun t2 ht2 => ?_⟩⟩
    have s2 := (same_new ht1 (.tup [V.str "n", V.int n])).trans (same_new ht2 (.tup [V.str (Str.ofString (toString n)), V.int 3, V.ref t1]))
    exact q _ _ (.n n) (s1.trans s2) ⟨t2, .ref t1, rfl, upd_same, t1, rfl, (same_new ht2 _) _ _ upd_same⟩ ⟨⟨n0, n1⟩, True.intro, True.intro⟩
  · dsimp only [tNext]
    refine seq_any (fun σ' H2 => H2 = H1 ∧ σ' = [some (.int c), some (.ref kl), some (.ref nl), some (.ref rx), none, none, none]) (fun σ' H2 pp => ?_) (fun nx => ?_)
    · obtain ⟨rfl, rfl⟩ := pp
      refine ⟨_, rfl, _, rfl, _, rfl, rx, kl, nl, xs, nms, ns, rfl, hx, xl, xm, hk1, hn1, fun r p H3 z sp s3 hr3 hp3 ok => ?_⟩
      dsimp only [gName]
      refine ⟨_, rfl, r, _, 2, _, rfl, rfl, SqT.of hr3, rfl, _, rfl, r, _, 0, _, rfl, rfl, SqT.of hr3, rfl, _, rfl, r, _, 1, _, rfl, rfl, SqT.of hr3, rfl, szl (by show 3 ≤ 1000000; decide), fun t1 ht1 => ⟨szl (by show 3 ≤ 1000000; decide), fun t2 ht2 => ?_⟩⟩
      have s4 := (same_new ht1 (.tup [V.str "c", V.str z, V.ref p])).trans (same_new ht2 (.tup [V.str (celS z sp), V.int 3, V.ref t1]))
      exact q _ _ (.c z sp) (s1.trans (s3.trans s4)) ⟨t2, .ref t1, rfl, upd_same, t1, p, rfl, (same_new ht2 _) _ _ upd_same, hp3.tk (Same.tk s4)⟩ ok
    · refine ⟨_, rfl, _, _, rfl, rfl, (by show (0 : Int) < 3; decide), rfl, _, rfl, ?_⟩
      refine ite2 (fun _ => ?_) (fun _ => iteF (nx _ _ ⟨rfl, rfl⟩))
      refine ⟨_, rfl, kl, _, rfl, .inl (SqL.of hk1.1), _, _, rfl, rfl, _, rfl, ?_⟩
      have l4 : ((((("" : Str) :: nms).map V.str).length : Nat) : Int) = (((("" : Str) :: nms).length : Nat) : Int) := by rw [List.length_map]
      refine ite2 (fun cm => ?_) (fun _ => nx _ _ ⟨rfl, rfl⟩)
      have cm : (1 : Int) < ((((("" : Str) :: nms).map V.str).length : Nat) : Int) := dT cm
      have m0 := Int.emod_nonneg (xs.getD 0 0) (show ((((("" : Str) :: nms).map V.str).length : Nat) : Int) - 1 ≠ 0 by omega)
      have m1 := Int.emod_lt_of_pos (xs.getD 0 0) (show (0 : Int) < ((((("" : Str) :: nms).map V.str).length : Nat) : Int) - 1 by omega)
      obtain ⟨z, hz, zi⟩ := Rd.strs_at (zs := ("" : Str) :: nms) (i := 1 + xs.getD 0 0 % (((((("" : Str) :: nms).map V.str).length : Nat) : Int) - 1)) (by omega) (by omega)
      have zm : z ∈ nms := Rd.mem_behind (by omega) zi
      refine ⟨_, rfl, _, rfl, rx, _, _, _, rfl, rfl, SqL.of hx, atx 0 (by decide), _, rfl, kl, _, rfl, .inl (SqL.of hk1.1), _, _, rfl, rfl, _, _, rfl, rfl, (by show (0 : Int) < ((((("" : Str) :: nms).map V.str).length : Nat) : Int) - 1; omega), _, _, rfl, rfl, kl, _, _, _, rfl, rfl, SqL.of hk1.1, hz, ?_⟩
      dsimp only [gName]
      refine ⟨_, rfl, _, rfl, szl (by show 2 ≤ 1000000; decide), fun t1 ht1 => ⟨szl (by show 3 ≤ 1000000; decide), fun t2 ht2 => ?_⟩⟩
      have s2 := (same_new ht1 (.tup [V.str "v", V.str z])).trans (same_new ht2 (.tup [V.str z, V.int 3, V.ref t1]))
      exact q _ _ (.v z) (s1.trans s2) ⟨t2, .ref t1, rfl, upd_same, t1, rfl, (same_new ht2 _) _ _ upd_same⟩ ⟨hk.2.2 z zm, zm, True.intro⟩

theorem ok_spots23 (T : Tx w K mg a) : FnOk P w K mg base CX0 2 a.f_l_spots a.d_l_spots ["_law_found", "_law_due"] Rd.spSpots23 := by
  have G_l_whole := ok_whole (P := P) (w := w) (base := base) T
  refine T.F_l_spots.ok sc_l_spots (fun vs H Q E h => ?_) (fun cdv A outer s H vs Q E hr h => ?_)
  · obtain ⟨_, _, _, rfl, _⟩ := h; rfl
  obtain ⟨p, p2, sp, rfl, ⟨xs, hx, px⟩, ⟨ys, hy, py⟩, sl, q⟩ := h
  refine ⟨_, (@pss_cons _ _ _ _ _ (@ps_if _ _ _ _ _ _ _ _ ((@pw_or _ _ _ _ _ _ _ (@pt_not _ _ _ _ (@pt_val _ _ _ (@pe_callB _ _ _ _ _ _ _ _ _ call_isi (by rfl) T.z_isinstance bt_isinstance (@pa_cons _ _ _ _ _ (pv 0) (@pa_cons _ _ _ _ _ (@pe_bltn _ _ (.ty "tuple") _ _ (by rfl) T.z_tuple bt_tuple rfl (by decide) (by decide)) pa_nil (by rfl)) (by rfl)) (by decide) (by decide) (by rfl) (by rfl)) (by intro _ ; rfl))) (@pw_or1 _ _ _ _ (@pt_cmpR _ _ _ _ _ _ _ _ (@op_neS _ (@hu64 _ _ hr)) (pv 0) (pv 1) (@nomark _ _ (by decide) (by decide)))))).pt (@pss_one _ _ _ (@ps_ret _ _ _ _ pe_bl)) pss_nil) (@pss_cons _ _ _ _ _ (@ps_for _ _ _ _ _ _ _ _ PassesOwn.never rfl (@pi_tup _ _ _ _ (pv 0)) (pg_name (i := 2) sc_l_spots.nd rfl (Or.inl rfl)) (@pss_one _ _ _ (@ps_if _ _ _ _ _ _ _ _ ((@pw_or _ _ _ _ _ _ _ (@pt_not _ _ _ _ (@pt_val _ _ _ (@pe_callB _ _ _ _ _ _ _ _ _ call_isi (by rfl) T.z_isinstance bt_isinstance (@pa_cons _ _ _ _ _ (pv 2) (@pa_cons _ _ _ _ _ (@pe_bltn _ _ (.ty "tuple") _ _ (by rfl) T.z_tuple bt_tuple rfl (by decide) (by decide)) pa_nil (by rfl)) (by rfl)) (by decide) (by decide) (by rfl) (by rfl)) (by intro _ ; rfl))) (@pw_or1 _ _ _ _ (@pt_not _ _ _ _ (@pt_val _ _ _ (@pe_call _ _ _ _ _ _ _ _ _ _ _ _ _ _ _ _ G_l_whole (hr.mono (by omega)) (by rfl) T.m_l_whole T.F_l_whole.kp T.b_l_whole .nil pass0 (@pa_cons _ _ _ _ _ (@pe_ix _ _ _ _ _ _ _ ix_tup (pv 2) pe_int (fun _ _ => rfl)) pa_nil (by rfl)) (by decide) (by rfl) (by rfl)) (by intro _ ; rfl)))))).pt (@pss_one _ _ _ (@ps_ret _ _ _ _ pe_bl)) pss_nil)) (by intro _ ; rfl)) (@pss_one _ _ _ (@ps_ret _ _ _ _ pe_bl)))), ?_⟩
  refine ⟨_, rfl, _, _, _, _, _, rfl, rfl, .tup hx, rfl, _, rfl, iteF ?_⟩
  refine ⟨_, rfl, _, rfl, Rd.ne_same (Rd.sps_tr ⟨xs, hx, px⟩) (Rd.sps_tr ⟨ys, hy, py⟩) (Rd.sps_dep sp) ⟨_, rfl, iteF ?_⟩⟩
  refine ⟨_, rfl, p, rfl, ⟨_, SqT.of hx⟩, ?_⟩
  refine for_tup (xs := xs) (fun i σ' H' => H' = H ∧ ∃ o1, σ' = [some (.ref p), some (.ref p2), o1]) ⟨rfl, _, rfl⟩ (fun i σ' H' _ pp => by obtain ⟨rfl, _⟩ := pp; exact SqT.of hx) (fun i x σ' H' hxi pp => ?_) (fun σ' H' pp => ?_)
  · obtain ⟨rfl, o1, rfl⟩ := pp
    obtain ⟨s0, _, t, rfl, ht⟩ := px.get' hxi
    refine ⟨_, rfl, _, _, _, _, _, rfl, rfl, .tup ht, rfl, _, rfl, iteF ?_⟩
    refine ⟨_, rfl, t, _, 1, _, rfl, rfl, SqT.of ht, rfl, _, rfl, rfl, _, rfl, iteF ?_⟩
    exact ⟨rfl, _, rfl⟩
  · obtain ⟨rfl, o1, rfl⟩ := pp
    exact q _ (Same.refl _)

theorem ok_same23 (T : Tx w K mg a) : ∀ n : Nat, FnOk P w K mg base CX0 (n + 3) a.f_l_same a.d_l_same ["_law_term", "_law_shape"] (Rd.spSame23 (csOf a) n)
  | 0 => by
    have no : ∀ vs H Q E, ¬ Rd.spSame23 (csOf a) 0 vs H Q E := fun vs H Q E h => by
      obtain ⟨x, y, t, _, _, _, _, hm, _⟩ := h
      have := t.sz_pos
      omega
    exact ⟨fun vs H Q E h => absurd h (no vs H Q E), fun A outer s H args us vs Q E _ _ _ _ h => absurd h (no vs H Q E)⟩
  | n + 1 => by
    have G_l_whole := ok_whole (P := P) (w := w) (base := base) T
    have G_l_spots := ok_spots23 (P := P) (w := w) (base := base) T
    have G_l_same := ok_same23 T n
    refine T.F_l_same.ok sc_l_same (fun vs H Q E h => ?_) (fun cdv A outer s H vs Q E hr h => ?_)
    · obtain ⟨_, _, _, rfl, _⟩ := h; rfl
    obtain ⟨x, y, tm, rfl, hb, hs, ok, hm, q⟩ := h
    refine ⟨_, (@pss_cons _ _ _ _ _ (@ps_if _ _ _ _ _ _ _ _ (@pt_cmpR _ _ _ _ _ _ _ _ op_eq (@pe_ix _ _ _ _ _ _ _ ix_tup (pv 1) pe_int (fun _ _ => rfl)) pe_str (@nomark _ _ (by decide) (by decide))) (@pss_one _ _ _ (@ps_ret _ _ _ _ (@pe_and _ _ _ _ _ _ _ (@pe_callB _ _ _ _ _ _ _ _ _ call_isi (by rfl) T.z_isinstance bt_isinstance (@pa_cons _ _ _ _ _ (pv 0) (@pa_cons _ _ _ _ _ (@pe_glob _ _ (.ref a.c_Number) _ _ (by rfl) T.mc_Number rfl (by decide)) pa_nil (by rfl)) (by rfl)) (by decide) (by decide) (by rfl) (by rfl)) (@pe_and _ _ _ _ _ _ _ (@pe_call _ _ _ _ _ _ _ _ _ _ _ _ _ _ _ _ G_l_whole (hr.mono (by omega)) (by rfl) T.m_l_whole T.F_l_whole.kp T.b_l_whole .nil pass0 (@pa_cons _ _ _ _ _ (@pe_fld _ _ _ _ _ (pv 0) rfl) pa_nil (by rfl)) (by decide) (by rfl) (by rfl)) (@pe_one _ _ _ _ _ (@pe_cmpR _ _ _ _ _ _ _ _ op_eq (@pe_fld _ _ _ _ _ (pv 0) rfl) (@pe_ix _ _ _ _ _ _ _ ix_tup (pv 1) pe_int (fun _ _ => rfl)) (@nomark _ _ (by decide) (by decide)))))))) pss_nil) (@pss_cons _ _ _ _ _ (@ps_if _ _ _ _ _ _ _ _ (@pt_cmpR _ _ _ _ _ _ _ _ op_eq (@pe_ix _ _ _ _ _ _ _ ix_tup (pv 1) pe_int (fun _ _ => rfl)) pe_str (@nomark _ _ (by decide) (by decide))) (@pss_one _ _ _ (@ps_ret _ _ _ _ (@pe_and _ _ _ _ _ _ _ (@pe_callB _ _ _ _ _ _ _ _ _ call_isi (by rfl) T.z_isinstance bt_isinstance (@pa_cons _ _ _ _ _ (pv 0) (@pa_cons _ _ _ _ _ (@pe_glob _ _ (.ref a.c_Value) _ _ (by rfl) T.mc_Value rfl (by decide)) pa_nil (by rfl)) (by rfl)) (by decide) (by decide) (by rfl) (by rfl)) (@pe_and _ _ _ _ _ _ _ (@pe_callB _ _ _ _ _ _ _ _ _ call_isi (by rfl) T.z_isinstance bt_isinstance (@pa_cons _ _ _ _ _ (@pe_fld _ _ _ _ _ (pv 0) rfl) (@pa_cons _ _ _ _ _ (@pe_bltn _ _ (.ty "str") _ _ (by rfl) T.z_str bt_str rfl (by decide) (by decide)) pa_nil (by rfl)) (by rfl)) (by decide) (by decide) (by rfl) (by rfl)) (@pe_one _ _ _ _ _ (@pe_cmpR _ _ _ _ _ _ _ _ op_eq (@pe_fld _ _ _ _ _ (pv 0) rfl) (@pe_ix _ _ _ _ _ _ _ ix_tup (pv 1) pe_int (fun _ _ => rfl)) (@nomark _ _ (by decide) (by decide)))))))) pss_nil) (@pss_cons _ _ _ _ _ (@ps_if _ _ _ _ _ _ _ _ (@pt_cmpR _ _ _ _ _ _ _ _ op_eq (@pe_ix _ _ _ _ _ _ _ ix_tup (pv 1) pe_int (fun _ _ => rfl)) pe_str (@nomark _ _ (by decide) (by decide))) (@pss_one _ _ _ (@ps_ret _ _ _ _ (@pe_and _ _ _ _ _ _ _ (@pe_callB _ _ _ _ _ _ _ _ _ call_isi (by rfl) T.z_isinstance bt_isinstance (@pa_cons _ _ _ _ _ (pv 0) (@pa_cons _ _ _ _ _ (@pe_glob _ _ (.ref a.c_Cell) _ _ (by rfl) T.mc_Cell rfl (by decide)) pa_nil (by rfl)) (by rfl)) (by decide) (by decide) (by rfl) (by rfl)) (@pe_and _ _ _ _ _ _ _ (@pe_cmpR _ _ _ _ _ _ _ _ op_eq (@pe_fld _ _ _ _ _ (pv 0) rfl) (@pe_ix _ _ _ _ _ _ _ ix_tup (pv 1) pe_int (fun _ _ => rfl)) (@nomark _ _ (by decide) (by decide))) (@pe_one _ _ _ _ _ (@pe_call _ _ _ _ _ _ _ _ _ _ _ _ _ _ _ _ G_l_spots (hr.mono (by omega)) (by rfl) T.m_l_spots T.F_l_spots.kp T.b_l_spots .nil pass0 (@pa_cons _ _ _ _ _ (@pe_fld _ _ _ _ _ (pv 0) rfl) (@pa_cons _ _ _ _ _ (@pe_ix _ _ _ _ _ _ _ ix_tup (pv 1) pe_int (fun _ _ => rfl)) pa_nil (by rfl)) (by rfl)) (by decide) (by rfl) (by rfl))))))) pss_nil) (@pss_cons _ _ _ _ _ (@ps_if _ _ _ _ _ _ _ _ ((@pw_or _ _ _ _ _ _ _ (@pt_not _ _ _ _ (@pt_val _ _ _ (@pe_callB _ _ _ _ _ _ _ _ _ call_isi (by rfl) T.z_isinstance bt_isinstance (@pa_cons _ _ _ _ _ (pv 0) (@pa_cons _ _ _ _ _ (@pe_glob _ _ (.ref a.c_Joined) _ _ (by rfl) T.mc_Joined rfl (by decide)) pa_nil (by rfl)) (by rfl)) (by decide) (by decide) (by rfl) (by rfl)) (by intro _ ; rfl))) (@pw_or1 _ _ _ _ (@pt_cmpR _ _ _ _ _ _ _ _ op_ne (@pe_fld _ _ _ _ _ (pv 0) rfl) (@pe_ix _ _ _ _ _ _ _ ix_tup (pv 1) pe_int (fun _ _ => rfl)) (@nomark _ _ (by decide) (by decide)))))).pt (@pss_one _ _ _ (@ps_ret _ _ _ _ pe_bl)) pss_nil) (@pss_one _ _ _ (@ps_ret _ _ _ _ (@pe_and _ _ _ _ _ _ _ (@pe_call _ _ _ _ _ _ _ _ _ _ _ _ _ _ _ _ G_l_same (hr.mono (by omega)) (by rfl) T.m_l_same T.F_l_same.kp T.b_l_same .nil pass0 (@pa_cons _ _ _ _ _ (@pe_fld _ _ _ _ _ (pv 0) rfl) (@pa_cons _ _ _ _ _ (@pe_ix _ _ _ _ _ _ _ ix_tup (pv 1) pe_int (fun _ _ => rfl)) pa_nil (by rfl)) (by rfl)) (by decide) (by rfl) (by rfl)) (@pe_one _ _ _ _ _ (@pe_call _ _ _ _ _ _ _ _ _ _ _ _ _ _ _ _ G_l_same (hr.mono (by omega)) (by rfl) T.m_l_same T.F_l_same.kp T.b_l_same .nil pass0 (@pa_cons _ _ _ _ _ (@pe_fld _ _ _ _ _ (pv 0) rfl) (@pa_cons _ _ _ _ _ (@pe_ix _ _ _ _ _ _ _ ix_tup (pv 1) pe_int (fun _ _ => rfl)) pa_nil (by rfl)) (by rfl)) (by decide) (by rfl) (by rfl)))))))))), ?_⟩
    cases tm with
    | n i =>
      obtain ⟨t, rfl, h⟩ := hs
      obtain ⟨o, dx, rfl, ho⟩ := hb
      refine ⟨_, rfl, t, _, 0, _, rfl, rfl, SqT.of h, rfl, rfl, _, rfl, iteE (v := true) (decide_eq_true rfl) (iteT ?_)⟩
      refine ⟨_, rfl, _, _, _, _, true, rfl, rfl, T.ty_Number _ _ _ _ ho, T.is_Number_Number, _, rfl, iteT ?_⟩
      refine ⟨_, rfl, o, _, dx, _, _, rfl, ho, T.cl_Number, T.n_Number_n, rfl, _, rfl, rfl, _, rfl, iteT ?_⟩
      refine ⟨_, rfl, o, _, dx, _, _, rfl, ho, T.cl_Number, T.n_Number_n, rfl, _, rfl, t, _, 1, _, rfl, rfl, SqT.of h, rfl, rfl, ?_⟩
      rw [show decide (V.int i = V.int i) = true from decide_eq_true rfl]
      exact q _ (Same.refl _)
    | v z =>
      obtain ⟨t, rfl, h⟩ := hs
      obtain ⟨o, dx, rfl, ho⟩ := hb
      refine ⟨_, rfl, t, _, 0, _, rfl, rfl, SqT.of h, rfl, rfl, _, rfl, iteE (v := false) (dS (by decide +kernel)) (iteF ?_)⟩
      refine ⟨_, rfl, t, _, 0, _, rfl, rfl, SqT.of h, rfl, rfl, _, rfl, iteE (v := true) (decide_eq_true rfl) (iteT ?_)⟩
      refine ⟨_, rfl, _, _, _, _, true, rfl, rfl, T.ty_Value _ _ _ _ ho, T.is_Value_Value, _, rfl, iteT ?_⟩
      refine ⟨_, rfl, o, _, dx, _, _, rfl, ho, T.cl_Value, T.n_Value_name, rfl, _, _, _, _, _, rfl, rfl, .str _, rfl, _, rfl, iteT ?_⟩
      refine ⟨_, rfl, o, _, dx, _, _, rfl, ho, T.cl_Value, T.n_Value_name, rfl, _, rfl, t, _, 1, _, rfl, rfl, SqT.of h, rfl, rfl, ?_⟩
      rw [show decide (V.str z = V.str z) = true from decide_eq_true rfl]
      exact q _ (Same.refl _)
    | c z sp =>
      obtain ⟨t, p, rfl, h, hsp⟩ := hs
      obtain ⟨o, dx, p2, rfl, ho, hsp2⟩ := hb
      refine ⟨_, rfl, t, _, 0, _, rfl, rfl, SqT.of h, rfl, rfl, _, rfl, iteE (v := false) (dS (by decide +kernel)) (iteF ?_)⟩
      refine ⟨_, rfl, t, _, 0, _, rfl, rfl, SqT.of h, rfl, rfl, _, rfl, iteE (v := false) (dS (by decide +kernel)) (iteF ?_)⟩
      refine ⟨_, rfl, t, _, 0, _, rfl, rfl, SqT.of h, rfl, rfl, _, rfl, iteE (v := true) (decide_eq_true rfl) (iteT ?_)⟩
      refine ⟨_, rfl, _, _, _, _, true, rfl, rfl, T.ty_Cell _ _ _ _ ho, T.is_Cell_Cell, _, rfl, iteT ?_⟩
      refine ⟨_, rfl, o, _, dx, _, _, rfl, ho, T.cl_Cell, T.n_Cell_table, rfl, _, rfl, t, _, 1, _, rfl, rfl, SqT.of h, rfl, rfl, _, rfl, iteE (v := true) (decide_eq_true rfl) (iteT ?_)⟩
      exact ⟨_, rfl, o, _, dx, _, _, rfl, ho, T.cl_Cell, T.n_Cell_spots, rfl, _, rfl, t, _, 2, _, rfl, rfl, SqT.of h, rfl, p2, p, sp, rfl, hsp2, hsp, by have := ok.2.1; omega, q⟩
    | j z l r =>
      obtain ⟨t, sx, sy, rfl, h, tl, tr⟩ := hs
      obtain ⟨o, dx, xa, xb, rfl, ho, ol, or'⟩ := hb
      obtain ⟨hz, okl, okr⟩ := ok
      obtain ⟨z1, z2, z3⟩ := sgn_ne hz
      have := l.sz_pos
      have := r.sz_pos
      have hm : l.sz + r.sz ≤ n + 1 := hm
      refine ⟨_, rfl, t, _, 0, _, rfl, rfl, SqT.of h, rfl, rfl, _, rfl, iteE (v := false) (dS z1) (iteF ?_)⟩
      refine ⟨_, rfl, t, _, 0, _, rfl, rfl, SqT.of h, rfl, rfl, _, rfl, iteE (v := false) (dS z2) (iteF ?_)⟩
      refine ⟨_, rfl, t, _, 0, _, rfl, rfl, SqT.of h, rfl, rfl, _, rfl, iteE (v := false) (dS z3) (iteF ?_)⟩
      refine ⟨_, rfl, _, _, _, _, true, rfl, rfl, T.ty_Joined _ _ _ _ ho, T.is_Joined_Joined, _, rfl, iteF ?_⟩
      refine ⟨_, rfl, o, _, dx, _, _, rfl, ho, T.cl_Joined, T.n_Joined_sign, rfl, _, rfl, t, _, 0, _, rfl, rfl, SqT.of h, rfl, rfl, _, rfl, iteE (v := false) (ndF rfl) (iteF ?_)⟩
      refine ⟨_, rfl, o, _, dx, _, _, rfl, ho, T.cl_Joined, T.n_Joined_left, rfl, _, rfl, t, _, 1, _, rfl, rfl, SqT.of h, rfl, xa, sx, l, rfl, ol, tl, okl, by omega, fun H1 e1 => ⟨_, rfl, iteT ?_⟩⟩
      exact ⟨_, rfl, o, _, dx, _, _, rfl, e1 _ _ ho, T.cl_Joined, T.n_Joined_right, rfl, _, rfl, t, _, 2, _, rfl, rfl, SqT.of (e1 _ _ h), rfl, xb, sy, r, rfl, or'.over e1, tr.tk (Same.tk e1), okr, by omega, fun H2 e2 => q _ (e1.trans e2)⟩

theorem ok_round23 (T : Tx w K mg a) : FnOk P w K mg base CX0 1 a.f_l_round a.d_l_round ["_law_one", "_law_need", "_law_more"] Rd.spRound23 := by
  refine T.F_l_round.ok sc_l_round (fun vs H Q E h => ?_) (fun cdv A outer s H vs Q E hr h => ?_)
  · obtain ⟨_, _, _, _, rfl, _⟩ := h; rfl
  obtain ⟨x, e, b, m, rfl, ⟨p, y, d, rfl, hp, hs⟩, el, q⟩ := h
  refine ⟨_, (@pss_cons _ _ _ _ _ (@ps_if _ _ _ _ _ _ _ _ ((@pw_and _ _ _ _ _ _ _ (@pt_not _ _ _ _ (@pt_val _ _ _ (pv 1) (by intro _ ; rfl))) (@pw_and1 _ _ _ _ ((@pw_or _ _ _ _ _ _ _ (@pt_not _ _ _ _ (@pt_val _ _ _ (pv 2) (by intro _ ; rfl))) (@pw_or1 _ _ _ _ (@pt_cmpR _ _ _ _ _ _ _ _ op_gt (@pe_ix _ _ _ _ _ _ _ ix_tup (pv 0) pe_int (fun _ _ => rfl)) pe_int (@nomark _ _ (by decide) (by decide)))))).pt))).pt (@pss_one _ _ _ (@ps_ret _ _ _ _ (pv 0))) pss_nil) (@pss_one _ _ _ (@ps_ret _ _ _ _ (@pe_tupq _ _ _ _ _ (@paq_cons _ _ _ _ _ (@pe_op _ _ _ _ _ _ _ _ op_add_str (@pe_op _ _ _ _ _ _ _ _ op_add_str pe_str (@pe_ix _ _ _ _ _ _ _ ix_tup (pv 0) pe_int (fun _ _ => rfl))) pe_str) (@paq_cons _ _ _ _ _ pe_int (@paq_cons _ _ _ _ _ (@pe_ix _ _ _ _ _ _ _ ix_tup (pv 0) pe_int (fun _ _ => rfl)) (@paq_cons _ _ _ _ _ (@pe_op _ _ _ _ _ _ _ _ op_add (@pe_ix _ _ _ _ _ _ _ ix_tup (pv 0) pe_int (fun _ _ => rfl)) pe_int) paq_nil star_B) star_S) star_C) star_B))))), ?_⟩
  have l2 : ("(" : Str).length = 1 := by decide +kernel
  have l3 : (")" : Str).length = 1 := by decide +kernel
  have same : b = false → Q (.ref p) H := fun hb => q _ _ e (Same.refl _) ⟨p, y, d, rfl, hp, hs⟩ (.inl ⟨rfl, hb⟩)
  refine seq_any (fun σ' H' => H' = H ∧ σ' = [some (.ref p), some (.bl b), some (.bl m)]) (fun σ' H' pp => ?_) (fun nx => ?_)
  · obtain ⟨rfl, rfl⟩ := pp
    refine ⟨_, rfl, p, _, 0, _, rfl, rfl, SqT.of hp, rfl, _, _, rfl, rfl, szl (by omega), _, _, rfl, rfl, szl (by rw [sLen]; omega), _, rfl, p, _, 2, _, rfl, rfl, SqT.of hp, rfl, _, rfl, p, _, 3, _, rfl, rfl, SqT.of hp, rfl, _, _, rfl, rfl, szl (by show 4 ≤ 1000000; decide), fun t ht => ?_⟩
    have s1 := same_new ht (.tup [V.str ("(" ++ e.txt ++ ")"), V.int 3, y, V.int (d + 1)])
    exact q _ _ (.br e) s1 ⟨t, y, d + 1, rfl, upd_same, hs.tk (Same.tk s1)⟩ (.inr rfl)
  · refine ⟨_, rfl, _, rfl, ?_⟩
    cases b with
    | true => exact iteF (iteF (nx _ _ ⟨rfl, rfl⟩))
    | false =>
      refine iteT ?_
      refine ⟨_, rfl, _, rfl, ?_⟩
      cases m with
      | false => exact iteT (iteT ⟨_, rfl, same rfl⟩)
      | true =>
        refine iteF ?_
        refine ⟨_, rfl, p, _, 3, _, rfl, rfl, SqT.of hp, rfl, _, _, rfl, rfl, _, rfl, ?_⟩
        exact ite2 (fun _ => ⟨_, rfl, same rfl⟩) (fun _ => nx _ _ ⟨rfl, rfl⟩)

theorem ok_both23 (T : Tx w K mg a) : FnOk P w K mg base CX0 2 a.f_l_both a.d_l_both ["_law_sign", "_law_left", "_law_right", "_law_cell_here"] Rd.spBoth23 := by
  have G_l_round := ok_round23 (P := P) (w := w) (base := base) T
  refine T.F_l_both.ok sc_l_both (fun vs H Q E h => ?_) (fun cdv A outer s H vs Q E hr h => ?_)
  · obtain ⟨_, _, _, _, _, _, _, _, rfl, _⟩ := h; rfl
  obtain ⟨ch, x, y, l, r, c, nms, ns, rfl, hz3, hx, hy, okl, okr, szs, q⟩ := h
  refine ⟨_, (@pss_cons _ _ _ _ _ (@ps_set _ _ (4) _ _ _ _ sc_l_both.nd rfl (Or.inl rfl) (@pe_op _ _ _ _ _ _ _ _ op_add pe_int (@pe_callTy _ _ _ _ _ _ _ _ _ call_int1 (by rfl) T.z_int bt_int (@pa_cons _ _ _ _ _ (@pe_cmpR _ _ _ _ _ _ _ _ op_eq (pv 0) pe_str (@nomark _ _ (by decide) (by decide))) pa_nil (by rfl)) (by decide) (by decide) (by rfl) (by rfl))) (by rfl) (by first | exact .inl rfl | exact .inr rfl | assumption)) (@pss_cons _ _ _ _ _ (@ps_set _ _ (5) _ _ _ _ sc_l_both.nd rfl (Or.inl rfl) (@pe_call _ _ _ _ _ _ _ _ _ _ _ _ _ _ _ _ G_l_round (hr.mono (by omega)) (by rfl) T.m_l_round T.F_l_round.kp T.b_l_round .nil pass0 (@pa_cons _ _ _ _ _ (pv 1) (@pa_cons _ _ _ _ _ (@pe_cmpR _ _ _ _ _ _ _ _ op_lt (@pe_ix _ _ _ _ _ _ _ ix_tup (pv 1) pe_int (fun _ _ => rfl)) (pv 4) (@nomark _ _ (by decide) (by decide))) (@pa_cons _ _ _ _ _ (@pe_cmpR _ _ _ _ _ _ _ _ op_eq (@pe_op _ _ _ _ _ _ _ _ op_mod (pv 3) pe_int) pe_int (@nomark _ _ (by decide) (by decide))) pa_nil (by rfl)) (by rfl)) (by rfl)) (by decide) (by rfl) (by rfl)) (by rfl) (by first | exact .inl rfl | exact .inr rfl | assumption)) (@pss_cons _ _ _ _ _ (@ps_set _ _ (6) _ _ _ _ sc_l_both.nd rfl (Or.inl rfl) (@pe_call _ _ _ _ _ _ _ _ _ _ _ _ _ _ _ _ G_l_round (hr.mono (by omega)) (by rfl) T.m_l_round T.F_l_round.kp T.b_l_round .nil pass0 (@pa_cons _ _ _ _ _ (pv 2) (@pa_cons _ _ _ _ _ (@pe_cmpR _ _ _ _ _ _ _ _ op_le (@pe_ix _ _ _ _ _ _ _ ix_tup (pv 2) pe_int (fun _ _ => rfl)) (pv 4) (@nomark _ _ (by decide) (by decide))) (@pa_cons _ _ _ _ _ (@pe_cmpR _ _ _ _ _ _ _ _ op_eq (@pe_op _ _ _ _ _ _ _ _ op_mod (pv 3) pe_int) pe_int (@nomark _ _ (by decide) (by decide))) pa_nil (by rfl)) (by rfl)) (by rfl)) (by decide) (by rfl) (by rfl)) (by rfl) (by first | exact .inl rfl | exact .inr rfl | assumption)) (@pss_one _ _ _ (@ps_ret _ _ _ _ (@pe_tupq _ _ _ _ _ (@paq_cons _ _ _ _ _ (@pe_op _ _ _ _ _ _ _ _ op_add_str (@pe_op _ _ _ _ _ _ _ _ op_add_str (@pe_ix _ _ _ _ _ _ _ ix_tup (pv 5) pe_int (fun _ _ => rfl)) (pv 0)) (@pe_ix _ _ _ _ _ _ _ ix_tup (pv 6) pe_int (fun _ _ => rfl))) (@paq_cons _ _ _ _ _ (pv 4) (@paq_cons _ _ _ _ _ (@pe_tupq _ _ _ _ _ (@paq_cons _ _ _ _ _ (pv 0) (@paq_cons _ _ _ _ _ (@pe_ix _ _ _ _ _ _ _ ix_tup (pv 5) pe_int (fun _ _ => rfl)) (@paq_cons _ _ _ _ _ (@pe_ix _ _ _ _ _ _ _ ix_tup (pv 6) pe_int (fun _ _ => rfl)) paq_nil star_S) star_S) star_N)) (@paq_cons _ _ _ _ _ (@pe_callB _ _ _ _ _ _ _ _ _ (@call_max2 _ rfl) (by rfl) T.z_max bt_max (@pa_cons _ _ _ _ _ (@pe_ix _ _ _ _ _ _ _ ix_tup (pv 5) pe_int (fun _ _ => rfl)) (@pa_cons _ _ _ _ _ (@pe_ix _ _ _ _ _ _ _ ix_tup (pv 6) pe_int (fun _ _ => rfl)) pa_nil (by rfl)) (by rfl)) (by decide) (by decide) (by rfl) (by rfl)) paq_nil star_K) star_T) star_N) star_B))))))), ?_⟩
  have hch : ch = 43 ∨ ch = 45 ∨ ch = 42 := Rd.sgn3_c hz3
  have eh : (1 + if decide (V.str ⟨#[ch]⟩ = V.str (Str.ofString "*")) = true then (1 : Int) else 0) = ((Rd.st ch : Nat) : Int) := by
    rcases hch with rfl | rfl | rfl
    · decide +kernel
    · decide +kernel
    · decide +kernel
  have ll := okl.len
  have lr := okr.len
  obtain ⟨p, sx, dx, rfl, hp, hsx⟩ := hx
  obtain ⟨p2, sy, dy, rfl, hp2, hsy⟩ := hy
  refine ⟨_, rfl, rfl, .inr ⟨_, rfl, _, _, rfl, rfl, ?_⟩⟩
  dsimp only [gName]
  rw [eh]
  refine ⟨_, rfl, _, rfl, p, _, 1, _, rfl, rfl, SqT.of hp, rfl, _, rfl, _, _, rfl, rfl, _, rfl, _, _, rfl, rfl, (by show (0 : Int) < 7; decide), rfl, _, l, _, _, rfl, ⟨p, sx, dx, rfl, hp, hsx⟩, by omega, fun x1 H1 l' e1 h1 c1 => ?_⟩
  dsimp only [gName]
  have hp21 := e1 _ _ hp2
  refine ⟨_, rfl, _, rfl, p2, _, 1, _, rfl, rfl, SqT.of hp21, rfl, _, rfl, _, _, rfl, rfl, _, rfl, _, _, rfl, rfl, (by show (0 : Int) < 11; decide), rfl, _, r, _, _, rfl, ⟨p2, sy, dy, rfl, hp21, hsy.tk (Same.tk e1)⟩, by omega, fun x2 H2 r' e2 h2 c2 => ?_⟩
  dsimp only [gName]
  obtain ⟨okj, lvj⟩ := Rd.join_ok (nms := nms) (ns := ns) (l' := l') (r' := r') hch okl okr (c1.imp (fun h => ⟨h.1, by have := of_decide_eq_false h.2; omega⟩) id) (c2.imp (fun h => ⟨h.1, by have := of_decide_eq_false h.2; omega⟩) id)
  have lj := okj.len
  rw [lvj] at lj
  have tj : (l'.txt ++ (⟨#[ch]⟩ : Str) ++ r'.txt).length ≤ 1200 * (l.lv + r.lv) := lj
  rw [sLen, sLen] at tj
  obtain ⟨q1, y1, d1, rfl, g1, s1⟩ := h1
  obtain ⟨q2, y2, d2, rfl, g2, s2⟩ := h2
  have g1 := e2 _ _ g1
  have s1 := s1.tk (Same.tk e2)
  have a3 : (⟨#[ch]⟩ : Str).length = 1 := rfl
  refine ⟨_, rfl, q1, _, 0, _, rfl, rfl, SqT.of g1, rfl, _, rfl, _, _, rfl, rfl, szl (by omega), _, rfl, q2, _, 0, _, rfl, rfl, SqT.of g2, rfl, _, _, rfl, rfl, szl (by rw [sLen]; omega), _, rfl, _, rfl, _, rfl, q1, _, 2, _, rfl, rfl, SqT.of g1, rfl, _, rfl, q2, _, 2, _, rfl, rfl, SqT.of g2, rfl, szl (by show 3 ≤ 1000000; decide), fun t1 ht1 => ?_⟩
  have n1 := same_new ht1 (.tup [V.str ⟨#[ch]⟩, y1, y2])
  refine ⟨_, rfl, q1, _, 3, _, rfl, rfl, SqT.of (n1 _ _ g1), rfl, _, rfl, q2, _, 3, _, rfl, rfl, SqT.of (n1 _ _ g2), rfl, _, _, rfl, szl (by show 4 ≤ 1000000; decide), fun t2 ht2 => ?_⟩
  have n2 := n1.trans (same_new ht2 (.tup [V.str (l'.txt ++ ⟨#[ch]⟩ ++ r'.txt), V.int ((Rd.st ch : Nat) : Int), V.ref t1, V.int (if d2 > d1 then d2 else d1)]))
  exact q _ _ (.jn ch l' r') (e1.trans (e2.trans n2)) ⟨t2, .ref t1, _, rfl, upd_same, t1, y1, y2, rfl, (same_new ht2 _) _ _ upd_same, s1.tk (Same.tk n2), s2.tk (Same.tk n2)⟩ okj lvj

theorem ok_deep23 (T : Tx w K mg a) : FnOk P w K mg base CX0 5 a.f_l_deep a.d_l_deep ["_law_cell_here", "_law_known", "_law_names_here"] Rd.spDeep23 := by
  have G_l_leaf := ok_leaf23 (P := P) (w := w) (base := base) T
  have G_l_round := ok_round23 (P := P) (w := w) (base := base) T
  refine T.F_l_deep.ok sc_l_deep (fun vs H Q E h => ?_) (fun cdv A outer s H vs Q E hr h => ?_)
  · obtain ⟨_, _, _, _, _, rfl, _⟩ := h; rfl
  obtain ⟨c, kl, nl, nms, ns, rfl, hk, hn, q⟩ := h
  refine ⟨_, (@pss_cons _ _ _ _ _ (@ps_asg _ _ _ _ _ _ (@pe_call _ _ _ _ _ _ _ _ _ _ _ _ _ _ _ _ G_l_leaf (hr.mono (by omega)) (by rfl) T.m_l_leaf T.F_l_leaf.kp T.b_l_leaf .nil pass0 (@pa_cons _ _ _ _ _ (pv 0) (@pa_cons _ _ _ _ _ (pv 1) (@pa_cons _ _ _ _ _ (pv 2) pa_nil (by rfl)) (by rfl)) (by rfl)) (by decide) (by rfl) (by rfl)) (pg_tup rfl (pgs_cons (pg_name (i := 3) sc_l_deep.nd rfl (Or.inl rfl)) (pgs_cons (pg_name (i := 4) sc_l_deep.nd rfl (Or.inl rfl)) (pgs_cons (pg_name (i := 5) sc_l_deep.nd rfl (Or.inl rfl)) pgs_nil)))) (by rfl) (by rfl) (by rfl)) (@pss_one _ _ _ (@ps_ret _ _ _ _ (@pe_call _ _ _ _ _ _ _ _ _ _ _ _ _ _ _ _ G_l_round (hr.mono (by omega)) (by rfl) T.m_l_round T.F_l_round.kp T.b_l_round .nil pass0 (@pa_cons _ _ _ _ _ (@pe_tupq _ _ _ _ _ (@paq_cons _ _ _ _ _ (pv 3) (@paq_cons _ _ _ _ _ (pv 4) (@paq_cons _ _ _ _ _ (pv 5) (@paq_cons _ _ _ _ _ pe_int paq_nil star_C) star_N) star_N) star_N)) (@pa_cons _ _ _ _ _ pe_bl (@pa_cons _ _ _ _ _ (@pe_cmpR _ _ _ _ _ _ _ _ op_eq (@pe_op _ _ _ _ _ _ _ _ op_mod (pv 0) pe_int) pe_int (@nomark _ _ (by decide) (by decide))) pa_nil (by rfl)) (by rfl)) (by rfl)) (by decide) (by rfl) (by rfl))))), ?_⟩
  refine ⟨_, rfl, _, rfl, _, rfl, c, kl, nl, nms, ns, rfl, hk, hn, fun x H1 t e1 ht lk => ?_⟩
  obtain ⟨tt, y, rfl, htt, hy⟩ := ht
  refine ⟨tt, _, rfl, SqT.of htt, rfl, _, _, rfl, _, _, rfl, _, _, rfl, rfl, ?_⟩
  refine ⟨_, rfl, _, rfl, _, rfl, szl (by show 4 ≤ 1000000; decide), fun t1 ht1 => ?_⟩
  have s1 := same_new ht1 (.tup [V.str (Rd.Tk.t t).txt, V.int 3, y, V.int 0])
  have tl := Rd.Tk.len lk.ok
  rw [cds_len] at tl
  have e0 : Rd.ExOk nms ns (.lf t) := ⟨True.intro, fun k hk => by rw [List.mem_singleton.mp hk]; exact lk, by show 1 + 5 ≤ 8 * 1; decide⟩
  refine ⟨_, rfl, _, _, rfl, rfl, (by show (0 : Int) < 13; decide), rfl, _, .lf t, _, _, rfl, ⟨t1, y, 0, rfl, upd_same, hy.tk (Same.tk s1)⟩, ?_, fun x2 H2 e' e2 h2 c2 => ?_⟩
  · show (Rd.Tk.t t).txt.length ≤ 900000
    omega
  rcases c2 with ⟨rfl, _⟩ | rfl
  · exact q _ _ _ (e1.trans (s1.trans e2)) h2 e0 rfl
  · exact q _ _ _ (e1.trans (s1.trans e2)) h2 (Rd.br_ok e0 rfl) rfl

theorem ok_tree23 (T : Tx w K mg a) : FnOk P w K mg base CX0 6 a.f_l_tree a.d_l_tree ["_law_cells", "_law_seed", "_law_names_here"] (Rd.spTree23 K) := by
  have G_l_deep := ok_deep23 (P := P) (w := w) (base := base) T
  have G_l_both := ok_both23 (P := P) (w := w) (base := base) T
  refine T.F_l_tree.ok sc_l_tree (fun vs H Q E h => ?_) (fun cdv A outer s H vs Q E hr h => ?_)
  · obtain ⟨_, _, _, _, _, rfl, _⟩ := h; rfl
  obtain ⟨cl, nl, seed, cs, ns, rfl, hC, hcl, hn, q⟩ := h
  refine ⟨_, (@pss_cons _ _ _ _ _ (@ps_set _ _ (3) _ _ _ _ sc_l_tree.nd rfl (Or.inl rfl) (@pe_op _ _ _ _ _ _ _ _ op_cat (@pe_lst _ _ _ _ (@pa_cons _ _ _ _ _ pe_str pa_nil (by rfl))) (@pe_slice _ _ _ _ _ _ _ _ _ _ sl_list (pv 2) po_none (@po_some _ _ _ pe_int))) (by rfl) (by first | exact .inl rfl | exact .inr rfl | assumption)) (@pss_cons _ _ _ _ _ (@ps_set _ _ (4) _ _ _ _ sc_l_tree.nd rfl (Or.inl rfl) (@pe_lst _ _ _ _ (@pa_cons _ _ _ _ _ (@pe_call _ _ _ _ _ _ _ _ _ _ _ _ _ _ _ _ G_l_deep (hr.mono (by omega)) (by rfl) T.m_l_deep T.F_l_deep.kp T.b_l_deep .nil pass0 (@pa_cons _ _ _ _ _ (pv 1) (@pa_cons _ _ _ _ _ (pv 3) (@pa_cons _ _ _ _ _ (pv 2) pa_nil (by rfl)) (by rfl)) (by rfl)) (by decide) (by rfl) (by rfl)) pa_nil (by rfl))) (by rfl) (by first | exact .inl rfl | exact .inr rfl | assumption)) (@pss_cons _ _ _ _ _ (@ps_for _ _ _ _ _ _ _ _ PassesOwn.never rfl (@pi_list _ _ _ _ (pv 0)) (pg_name (i := 5) sc_l_tree.nd rfl (Or.inl rfl)) (@pss_one _ _ _ (@ps_if _ _ _ _ _ _ _ _ ((@pw_and _ _ _ _ _ _ _ (@pt_cmpR _ _ _ _ _ _ _ _ op_lt (@pe_op _ _ _ _ _ _ _ _ op_mod (pv 5) pe_int) pe_int (@nomark _ _ (by decide) (by decide))) (@pw_and1 _ _ _ _ (@pt_cmpR _ _ _ _ _ _ _ _ op_gt (@pe_callB _ _ _ _ _ _ _ _ _ call_len_seq (by rfl) T.z_len bt_len (@pa_cons _ _ _ _ _ (pv 4) pa_nil (by rfl)) (by decide) (by decide) (by rfl) (by rfl)) pe_int (@nomark _ _ (by decide) (by decide)))))).pt (@pss_cons _ _ _ _ _ (@ps_set _ _ (6) _ _ _ _ sc_l_tree.nd rfl (Or.inl rfl) (@pe_bm0 _ _ _ _ _ _ _ _ _ PySem.F.plainAttrs_list PySem.F.slot_list_pop PySem.F.type_list_pop mt_pop (pv 4) (by rfl) (by rfl)) (by rfl) (by first | exact .inl rfl | exact .inr rfl | assumption)) (@pss_cons _ _ _ _ _ (@ps_set _ _ (7) _ _ _ _ sc_l_tree.nd rfl (Or.inl rfl) (@pe_bm0 _ _ _ _ _ _ _ _ _ PySem.F.plainAttrs_list PySem.F.slot_list_pop PySem.F.type_list_pop mt_pop (pv 4) (by rfl) (by rfl)) (by rfl) (by first | exact .inl rfl | exact .inr rfl | assumption)) (@pss_one _ _ _ (@ps_expr _ _ _ _ (@pe_bm _ _ _ _ _ _ _ _ _ _ _ _ PySem.F.plainAttrs_list PySem.F.slot_list_append PySem.F.type_list_append mt_append (pv 4) (@pa_cons _ _ _ _ _ (@pe_call _ _ _ _ _ _ _ _ _ _ _ _ _ _ _ _ G_l_both (hr.mono (by omega)) (by rfl) T.m_l_both T.F_l_both.kp T.b_l_both .nil pass0 (@pa_cons _ _ _ _ _ (@pe_ix _ _ _ _ _ _ _ ix_str pe_str (@pe_op _ _ _ _ _ _ _ _ op_mod (@pe_op _ _ _ _ _ _ _ _ op_fdiv (pv 5) pe_int) pe_int) (fun _ _ => rfl)) (@pa_cons _ _ _ _ _ (pv 7) (@pa_cons _ _ _ _ _ (pv 6) (@pa_cons _ _ _ _ _ (@pe_op _ _ _ _ _ _ _ _ op_fdiv (pv 5) pe_int) pa_nil (by rfl)) (by rfl)) (by rfl)) (by rfl)) (by decide) (by rfl) (by rfl)) pa_nil (by rfl)) (by rfl) (by rfl) (by rfl) (by rfl) (by rfl)) (by rfl))))) (@pss_one _ _ _ (@ps_expr _ _ _ _ (@pe_bm _ _ _ _ _ _ _ _ _ _ _ _ PySem.F.plainAttrs_list PySem.F.slot_list_append PySem.F.type_list_append mt_append (pv 4) (@pa_cons _ _ _ _ _ (@pe_call _ _ _ _ _ _ _ _ _ _ _ _ _ _ _ _ G_l_deep (hr.mono (by omega)) (by rfl) T.m_l_deep T.F_l_deep.kp T.b_l_deep .nil pass0 (@pa_cons _ _ _ _ _ (@pe_op _ _ _ _ _ _ _ _ op_fdiv (pv 5) pe_int) (@pa_cons _ _ _ _ _ (pv 3) (@pa_cons _ _ _ _ _ (pv 2) pa_nil (by rfl)) (by rfl)) (by rfl)) (by decide) (by rfl) (by rfl)) pa_nil (by rfl)) (by rfl) (by rfl) (by rfl) (by rfl) (by rfl)) (by rfl))))) (by intro _ ; rfl)) (@pss_cons _ _ _ _ _ (@ps_while _ _ _ _ _ _ PassesOwn.never (@pt_cmpR _ _ _ _ _ _ _ _ op_gt (@pe_callB _ _ _ _ _ _ _ _ _ call_len_seq (by rfl) T.z_len bt_len (@pa_cons _ _ _ _ _ (pv 4) pa_nil (by rfl)) (by decide) (by decide) (by rfl) (by rfl)) pe_int (@nomark _ _ (by decide) (by decide))) (@pss_cons _ _ _ _ _ (@ps_set _ _ (6) _ _ _ _ sc_l_tree.nd rfl (Or.inl rfl) (@pe_bm0 _ _ _ _ _ _ _ _ _ PySem.F.plainAttrs_list PySem.F.slot_list_pop PySem.F.type_list_pop mt_pop (pv 4) (by rfl) (by rfl)) (by rfl) (by first | exact .inl rfl | exact .inr rfl | assumption)) (@pss_cons _ _ _ _ _ (@ps_set _ _ (7) _ _ _ _ sc_l_tree.nd rfl (Or.inl rfl) (@pe_bm0 _ _ _ _ _ _ _ _ _ PySem.F.plainAttrs_list PySem.F.slot_list_pop PySem.F.type_list_pop mt_pop (pv 4) (by rfl) (by rfl)) (by rfl) (by first | exact .inl rfl | exact .inr rfl | assumption)) (@pss_one _ _ _ (@ps_expr _ _ _ _ (@pe_bm _ _ _ _ _ _ _ _ _ _ _ _ PySem.F.plainAttrs_list PySem.F.slot_list_append PySem.F.type_list_append mt_append (pv 4) (@pa_cons _ _ _ _ _ (@pe_call _ _ _ _ _ _ _ _ _ _ _ _ _ _ _ _ G_l_both (hr.mono (by omega)) (by rfl) T.m_l_both T.F_l_both.kp T.b_l_both .nil pass0 (@pa_cons _ _ _ _ _ (@pe_ix _ _ _ _ _ _ _ ix_str pe_str (@pe_op _ _ _ _ _ _ _ _ op_mod (@pe_op _ _ _ _ _ _ _ _ op_add (@pe_callB _ _ _ _ _ _ _ _ _ call_len_seq (by rfl) T.z_len bt_len (@pa_cons _ _ _ _ _ (pv 4) pa_nil (by rfl)) (by decide) (by decide) (by rfl) (by rfl)) (pv 1)) pe_int) (fun _ _ => rfl)) (@pa_cons _ _ _ _ _ (pv 7) (@pa_cons _ _ _ _ _ (pv 6) (@pa_cons _ _ _ _ _ (@pe_op _ _ _ _ _ _ _ _ op_fdiv (pv 1) pe_int) pa_nil (by rfl)) (by rfl)) (by rfl)) (by rfl)) (by decide) (by rfl) (by rfl)) pa_nil (by rfl)) (by rfl) (by rfl) (by rfl) (by rfl) (by rfl)) (by rfl)))))) (@pss_one _ _ _ (@ps_ret _ _ _ _ (@pe_ix _ _ _ _ _ _ _ ix_list (pv 4) pe_int (fun _ _ => rfl)))))))), ?_⟩
  refine ⟨szl (by show 1 ≤ 1000000; decide), fun r1 hr1 => ?_⟩
  have s1 := same_new hr1 (.lst [V.str ""])
  have nlen := hn.2.1
  have ct : cutV (ns.map V.str) none (some 3) = (ns.take 3).map V.str := by
    have := cut_to (ns.map V.str) (k := 3) (by decide)
    rw [List.map_take]
    exact this
  refine ⟨_, rfl, _, rfl, nl, _, rfl, SqL.of (s1 _ _ hn.1), fun p1 hp1 => ?_⟩
  rw [ct]
  have s2 := same_new hp1 (.lst ((ns.take 3).map V.str))
  refine ⟨r1, p1, _, _, rfl, rfl, s2 _ _ upd_same, upd_same, szl (by rw [List.length_map, List.length_take, List.length_singleton]; omega), fun kl hkl => ?_⟩
  have e3 := (s1.trans s2).trans (same_new hkl (.lst ([V.str ""] ++ (ns.take 3).map V.str)))
  have hk : Rd.KnAt (upd (upd (upd H r1 (.lst [V.str ""])) p1 (.lst ((ns.take 3).map V.str))) kl (.lst ([V.str ""] ++ (ns.take 3).map V.str))) kl (ns.take 3) := ⟨upd_same, by rw [List.length_take]; omega, fun z hz => hn.2.2.2 z (List.mem_of_mem_take hz)⟩
  dsimp only [gName]
  generalize upd (upd (upd H r1 (.lst [V.str ""])) p1 (.lst ((ns.take 3).map V.str))) kl (.lst ([V.str ""] ++ (ns.take 3).map V.str)) = H3 at e3 hk
  refine ⟨_, rfl, _, rfl, _, rfl, seed, kl, nl, ns.take 3, ns, rfl, hk, hn.over e3, fun v H4 t e4 tp ok st => ⟨szl (by show 1 ≤ 1000000; decide), fun l hl => ?_⟩⟩
  have e04 := e3.trans e4
  have hl0 : H l = none := e04.free hl
  have kl0 : H3 l = none := e4.free hl
  have s5 := same_new hl (.lst [v])
  have hl5 : (upd H4 l (.lst [v])) l = some (.lst [v]) := upd_same
  have S5 : Rd.StE (upd H4 l (.lst [v])) (ns.take 3) ns [v] [t] 1 := Rd.StE.push (xs := []) (es := []) (N := 0) ⟨.nil, fun t ht => (by cases ht), Nat.le_refl _⟩ (tp.tk (Same.tk s5)) ok (by omega)
  have e05 := e04.trans s5
  have hk5 := hk.over (e4.trans s5)
  dsimp only [gName]
  generalize upd H4 l (.lst [v]) = H5 at s5 hl5 S5 e05 hk5
  -- two joined
  refine ⟨_, rfl, cl, rfl, ⟨_, e05.seq hC⟩, ?_⟩
  refine for_list (xs := cs.map V.int) (fun i σ' H' => Same H H' ∧ Same H3 H' ∧ (∃ o5 o6 o7, σ' = [some (.ref cl), some (.int seed), some (.ref nl), some (.ref kl), some (.ref l), o5, o6, o7]) ∧ ∃ xs ts N, H' l = some (.lst xs) ∧ Rd.StE H' (ns.take 3) ns xs ts N ∧ N ≤ i + 1 ∧ 0 < xs.length) ⟨e05, e4.trans s5, ⟨_, _, _, rfl⟩, [v], [t], 1, hl5, S5, Nat.le_refl _, Nat.succ_pos _⟩ (fun i σ' H' _ p => p.1.seq hC) (fun i x σ' H' hx p => ?_) (fun σ' H' p => ?_)
  · obtain ⟨eH, e3H, ⟨o5, o6, o7, rfl⟩, xs, ts, N, hxs, hS, hNi, hpos⟩ := p
    obtain ⟨c, rfl⟩ : ∃ c, x = V.int c := by
      rw [List.getElem?_map] at hx
      cases e : cs[i]? with
      | none => rw [e] at hx; cases hx
      | some z => rw [e] at hx; exact ⟨z, (Option.some.inj hx).symm⟩
    have hi : i < cs.length := by have := (List.getElem?_eq_some_iff.mp hx).1; rwa [List.length_map] at this
    have sl := hS.len
    dsimp only [gName]
    refine if_any (fun H2 => H2 = H') (fun H2 e => ?_) (fun els => ?_)
    · subst e
      refine ⟨_, rfl, .inl ⟨rfl, _, SqL.of hxs⟩, _, rfl, _, _, rfl, rfl, ⟨by decide, by decide⟩, _, rfl, _, rfl, _, kl, nl, ns.take 3, ns, rfl, hk.over e3H, hn.over eH, fun v2 H6 t2 e6 p6 ok2 sz2 => ?_⟩
      have hxs6 := e6 _ _ hxs
      refine ⟨l, _, _, rfl, rfl, hxs6, szlt (by omega), ?_⟩
      have tk : TK H6 (upd H6 l (.lst (xs ++ [v2]))) := TK.upd hxs6
      refine ⟨fun b ob eb => by rw [upd_ne (ne_of_none eb hl0)]; exact e6 _ _ (eH _ _ eb), fun b ob eb => by rw [upd_ne (ne_of_none eb kl0)]; exact e6 _ _ (e3H _ _ eb), ⟨_, _, _, rfl⟩, xs ++ [v2], ts ++ [t2], N + 1, upd_same, ((hS.tk (Same.tk e6)).tk tk).push (p6.tk tk) ok2 (by omega), by omega, by rw [List.length_append]; omega⟩
    · refine ⟨_, rfl, _, _, rfl, rfl, (by show (0 : Int) < 5; decide), _, _, rfl, rfl, _, rfl, ?_⟩
      refine ite2 (fun _ => ?_) (fun _ => iteF (els _ rfl))
      refine ⟨_, rfl, l, _, rfl, .inl (SqL.of hxs), _, _, rfl, rfl, _, rfl, ?_⟩
      refine ite2 (fun c2 => ?_) (fun _ => els _ rfl)
      have c2 := dT c2
      obtain ⟨ys, x1, us, t1, M1, rfl, rfl, hS1, px, okx, m1⟩ := hS.pop hpos
      rw [List.length_append, List.length_singleton] at c2
      obtain ⟨zs, x2, us2, t2, M2, rfl, rfl, hS2, py, oky, m2⟩ := hS1.pop (by omega)
      refine ⟨_, rfl, .inl ⟨rfl, _, SqL.of hxs⟩, l, _, x1, rfl, rfl, hxs, pop_last.1, ?_⟩
      rw [pop_last.2]
      dsimp only [gName]
      refine ⟨_, rfl, .inl ⟨rfl, _, SqL.of upd_same⟩, l, _, x2, rfl, rfl, upd_same, pop_last.1, ?_⟩
      rw [pop_last.2]
      dsimp only [gName]
      have tk0 : TK H' (upd (upd H' l (.lst (zs ++ [x2]))) l (.lst zs)) := (TK.upd hxs).trans (TK.upd upd_same)
      have hz : (upd (upd H' l (.lst (zs ++ [x2]))) l (.lst zs)) l = some (.lst zs) := upd_same
      have u2 : ∀ b, b ≠ l → (upd (upd H' l (.lst (zs ++ [x2]))) l (.lst zs)) b = H' b := fun b hb => by rw [upd_ne hb, upd_ne hb]
      generalize upd (upd H' l (.lst (zs ++ [x2]))) l (.lst zs) = H2 at tk0 hz u2
      have eH2 : Same H H2 := fun b ob eb => by rw [u2 _ (ne_of_none eb hl0)]; exact eH _ _ eb
      have e3H2 : Same H3 H2 := fun b ob eb => by rw [u2 _ (ne_of_none eb kl0)]; exact e3H _ _ eb
      have f0 := Int.emod_nonneg (c / 5) (show (3 : Int) ≠ 0 by decide)
      have f1 := Int.emod_lt_of_pos (c / 5) (show (0 : Int) < 3 by decide)
      obtain ⟨ch, hch, h3⟩ := sgn_at f0 f1
      have sl2 := hS2.len
      refine ⟨_, rfl, .inl ⟨rfl, _, SqL.of hz⟩, _, rfl, _, _, rfl, rfl, ⟨by decide, by decide⟩, _, _, rfl, rfl, (by show (0 : Int) < 3; decide), _, _, ch, rfl, rfl, (by decide +kernel), hch, _, rfl, _, rfl, _, rfl, _, _, rfl, rfl, ⟨by decide, by decide⟩, ch, x2, x1, t2, t1, _, ns.take 3, ns, rfl, h3, py.tk tk0, px.tk tk0, oky, okx, by omega, fun v3 H6 e3x e6 p6 okE lvE => ?_⟩
      have hz6 := e6 _ _ hz
      refine ⟨l, _, _, rfl, rfl, hz6, szlt (by omega), ?_⟩
      have tk : TK H6 (upd H6 l (.lst (zs ++ [v3]))) := TK.upd hz6
      refine ⟨fun b ob eb => by rw [upd_ne (ne_of_none eb hl0)]; exact e6 _ _ (eH2 _ _ eb), fun b ob eb => by rw [upd_ne (ne_of_none eb kl0)]; exact e6 _ _ (e3H2 _ _ eb), ⟨_, _, _, rfl⟩, zs ++ [v3], us2 ++ [e3x], N, upd_same, (((hS2.tk tk0).tk (Same.tk e6)).tk tk).push (p6.tk tk) okE (by omega), by omega, by rw [List.length_append]; exact Nat.succ_pos _⟩
  · obtain ⟨eH, e3H, ⟨o5, o6, o7, rfl⟩, xs, ts, N, hxs, hS, hNi, hpos⟩ := p
    rw [List.length_map] at hNi
    have sl := hS.len
    show tSeq (tWhile _ _) (tRet _) _ _ _
    refine seq_any (fun σ' H2 => Same H H2 ∧ (∃ o5 o6 o7, σ' = [some (.ref cl), some (.int seed), some (.ref nl), some (.ref kl), some (.ref l), o5, o6, o7]) ∧ ∃ x t, H2 l = some (.lst [x]) ∧ Rd.ExAt H2 x t ∧ Rd.ExOk (ns.take 3) ns t ∧ t.lv ≤ 40) (fun σ' H2 pp => ?_) (fun nx => ?_)
    · obtain ⟨e2, ⟨o5, o6, o7, rfl⟩, x, t, hx, tx, okt, st⟩ := pp
      exact ⟨_, rfl, l, _, _, _, rfl, rfl, SqL.of hx, rfl, q x _ t e2 tx okt st⟩
    refine while_ix 40 (fun j σ' H2 => Same H H2 ∧ (∃ o5 o6 o7, σ' = [some (.ref cl), some (.int seed), some (.ref nl), some (.ref kl), some (.ref l), o5, o6, o7]) ∧ ∃ xs ts, H2 l = some (.lst xs) ∧ Rd.StE H2 (ns.take 3) ns xs ts 40 ∧ xs.length + j ≤ 40 ∧ 0 < xs.length) ⟨eH, ⟨_, _, _, rfl⟩, xs, ts, hxs, ⟨hS.at', hS.ok, by have := hS.sum; omega⟩, by omega, hpos⟩ (fun j σ' H' hj pp => ?_) (MT.test (ME.op (MR.i0 _) (ME.cb MB.len (MA.cons (ME.var _) MA.nil)) (ME.c _)))
    obtain ⟨eH, ⟨o5, o6, o7, rfl⟩, xs, ts, hxs, hS, hNi, hpos⟩ := pp
    refine ⟨_, rfl, l, _, rfl, .inl (SqL.of hxs), _, _, rfl, rfl, _, rfl, ?_⟩
    refine ite2 (fun c2 => ?_) (fun c2 => ?_)
    · have c2 := dT c2
      refine ⟨by omega, ?_⟩
      obtain ⟨ys, x1, us, t1, M1, rfl, rfl, hS1, px, okx, m1⟩ := hS.pop hpos
      rw [List.length_append, List.length_singleton] at c2 hNi
      obtain ⟨zs, x2, us2, t2, M2, rfl, rfl, hS2, py, oky, m2⟩ := hS1.pop (by omega)
      rw [List.length_append, List.length_singleton] at hNi
      refine ⟨_, rfl, .inl ⟨rfl, _, SqL.of hxs⟩, l, _, x1, rfl, rfl, hxs, pop_last.1, ?_⟩
      rw [pop_last.2]
      dsimp only [gName]
      refine ⟨_, rfl, .inl ⟨rfl, _, SqL.of upd_same⟩, l, _, x2, rfl, rfl, upd_same, pop_last.1, ?_⟩
      rw [pop_last.2]
      dsimp only [gName]
      have tk0 : TK H' (upd (upd H' l (.lst (zs ++ [x2]))) l (.lst zs)) := (TK.upd hxs).trans (TK.upd upd_same)
      have hz : (upd (upd H' l (.lst (zs ++ [x2]))) l (.lst zs)) l = some (.lst zs) := upd_same
      have u2 : ∀ b, b ≠ l → (upd (upd H' l (.lst (zs ++ [x2]))) l (.lst zs)) b = H' b := fun b hb => by rw [upd_ne hb, upd_ne hb]
      generalize upd (upd H' l (.lst (zs ++ [x2]))) l (.lst zs) = H2 at tk0 hz u2
      have eH2 : Same H H2 := fun b ob eb => by rw [u2 _ (ne_of_none eb hl0)]; exact eH _ _ eb
      have sl2 := hS2.len
      refine ⟨_, rfl, .inl ⟨rfl, _, SqL.of hz⟩, _, rfl, l, _, rfl, .inl (SqL.of hz), _, rfl, _, _, rfl, rfl, ?_⟩
      have f0 := Int.emod_nonneg (((zs.length : Nat) : Int) + seed) (show (3 : Int) ≠ 0 by decide)
      have f1 := Int.emod_lt_of_pos (((zs.length : Nat) : Int) + seed) (show (0 : Int) < 3 by decide)
      obtain ⟨ch, hch, h3⟩ := sgn_at f0 f1
      refine ⟨_, _, rfl, rfl, (by show (0 : Int) < 3; decide), _, _, ch, rfl, rfl, (by decide +kernel), hch, _, rfl, _, rfl, _, rfl, _, _, rfl, rfl, ⟨by decide, by decide⟩, ch, x2, x1, t2, t1, _, ns.take 3, ns, rfl, h3, py.tk tk0, px.tk tk0, oky, okx, by omega, fun v3 H6 e3x e6 p6 okE lvE => ?_⟩
      have hz6 := e6 _ _ hz
      refine ⟨l, _, _, rfl, rfl, hz6, szlt (by omega), ?_⟩
      have tk : TK H6 (upd H6 l (.lst (zs ++ [v3]))) := TK.upd hz6
      exact ⟨fun b ob eb => by rw [upd_ne (ne_of_none eb hl0)]; exact e6 _ _ (eH2 _ _ eb), ⟨_, _, _, rfl⟩, zs ++ [v3], us2 ++ [e3x], upd_same, (((hS2.tk tk0).tk (Same.tk e6)).tk tk).push (p6.tk tk) okE (by omega), by rw [List.length_append, List.length_singleton]; omega, by rw [List.length_append]; exact Nat.succ_pos _⟩
    · have c2 := dF c2
      obtain ⟨ys, x1, us, t1, M1, rfl, rfl, hS1, px, okx, m1⟩ := hS.pop hpos
      have y0 : ys = [] := by
        rw [List.length_append, List.length_singleton] at c2
        exact List.eq_nil_of_length_eq_zero (by omega)
      subst y0
      exact nx _ _ ⟨eH, ⟨_, _, _, rfl⟩, x1, t1, hxs, px, okx, by omega⟩

theorem ok_blank23 (T : Tx w K mg a) : FnOk P w K mg base CX0 1 a.f_l_blank a.d_l_blank ["_law_text", "_law_first", "_law_cell_here"] Rd.spBlank23 := by
  refine T.F_l_blank.ok sc_l_blank (fun vs H Q E h => ?_) (fun cdv A outer s H vs Q E hr h => ?_)
  · obtain ⟨_, _, _, rfl, _⟩ := h; rfl
  obtain ⟨z, n, c, rfl, hn, zl, q⟩ := h
  refine ⟨_, (@pss_cons _ _ _ _ _ (@ps_if _ _ _ _ _ _ _ _ (@pt_cmpR _ _ _ _ _ _ _ _ op_eq (@pe_op _ _ _ _ _ _ _ _ op_mod (pv 2) pe_int) pe_int (@nomark _ _ (by decide) (by decide))) (@pss_one _ _ _ (@ps_ret _ _ _ _ (pv 0))) pss_nil) (@pss_cons _ _ _ _ _ (@ps_set _ _ (3) _ _ _ _ sc_l_blank.nd rfl (Or.inl rfl) (@pe_op _ _ _ _ _ _ _ _ op_add (pv 1) (@pe_op _ _ _ _ _ _ _ _ op_mod (@pe_op _ _ _ _ _ _ _ _ op_fdiv (pv 2) pe_int) (@pe_op _ _ _ _ _ _ _ _ op_add (@pe_op _ _ _ _ _ _ _ _ op_sub (@pe_callB _ _ _ _ _ _ _ _ _ call_len_str (by rfl) T.z_len bt_len (@pa_cons _ _ _ _ _ (pv 0) pa_nil (by rfl)) (by decide) (by decide) (by rfl) (by rfl)) (pv 1)) pe_int))) (by rfl) (by first | exact .inl rfl | exact .inr rfl | assumption)) (@pss_one _ _ _ (@ps_ret _ _ _ _ (@pe_op _ _ _ _ _ _ _ _ op_add_str (@pe_op _ _ _ _ _ _ _ _ op_add_str (@pe_slice _ _ _ _ _ _ _ _ _ _ sl_str (pv 0) po_none (@po_some _ _ _ (pv 3))) pe_str) (@pe_slice _ _ _ _ _ _ _ _ _ _ sl_str (pv 0) (@po_some _ _ _ (pv 3)) po_none)))))), ?_⟩
  refine ⟨_, rfl, _, _, rfl, rfl, (by show (0 : Int) < 3; decide), rfl, _, rfl, ?_⟩
  refine ite2 (fun _ => ⟨_, rfl, q _ _ (Same.refl _) (.inl rfl)⟩) (fun _ => ?_)
  have hp : (0 : Int) < ((z.length : Nat) : Int) - (n : Int) + 1 := by omega
  have f0 := Int.emod_nonneg (c / 3) (show ((z.length : Nat) : Int) - (n : Int) + 1 ≠ 0 by omega)
  have f1 := Int.emod_lt_of_pos (c / 3) hp
  refine ⟨_, rfl, _, rfl, _, _, rfl, rfl, ⟨by decide, by decide⟩, _, rfl, z, rfl, szl (by omega), _, rfl, _, _, rfl, rfl, _, _, rfl, rfl, _, _, rfl, rfl, hp, _, _, rfl, rfl, ?_⟩
  obtain ⟨k, ek⟩ : ∃ k : Nat, (n : Int) + c / 3 % (((z.length : Nat) : Int) - (n : Int) + 1) = (k : Int) := ⟨((n : Int) + c / 3 % (((z.length : Nat) : Int) - (n : Int) + 1)).toNat, by omega⟩
  dsimp only [gName]
  rw [ek]
  have kb : n ≤ k ∧ k ≤ z.length := by omega
  have hlen := cds_len z
  have l1 : (" " : Str).length = 1 := by decide +kernel
  have c1 : cutC (cds z) none (some (k : Int)) = (cds z).take k := by rw [cut_to _ (by omega), Int.toNat_natCast]
  have c2 : cutC (cds z) (some (k : Int)) none = (cds z).drop k := by rw [cut_from _ (by omega), Int.toNat_natCast]
  refine ⟨_, rfl, _, rfl, _, rfl, _, rfl, szl (by omega), _, _, rfl, rfl, ?_, _, rfl, _, rfl, _, rfl, _, rfl, szl (by omega), _, _, rfl, rfl, ?_, ?_⟩
  · rw [c1, len_sOf, List.length_take]
    exact szl (by omega)
  · rw [c1, c2, sLen, len_sOf, len_sOf, List.length_take, List.length_drop]
    exact szl (by omega)
  · refine q _ _ (Same.refl _) (.inr ⟨k, kb.1, by omega, ?_⟩)
    rw [c1, c2, cds_app, cds_app, cds_sOf, cds_sOf, List.append_assoc]
    rfl

theorem ok_law (T : Tx w K mg a) : FnOk P w K mg base CX0 90 a.f_law a.d_law ["_law_script"] (spLaw K) := by
  have G_l_cell_at := ok_cell_at (P := P) (w := w) (base := base) T
  have G_l_names := ok_names (P := P) (w := w) (base := base) T
  have G_l_stream := ok_stream (P := P) (w := w) (base := base) T
  have G_l_tree := ok_tree23 (P := P) (w := w) (base := base) T
  have G_l_cell := ok_cell23 (P := P) (w := w) (base := base) T
  have G_l_blank := ok_blank23 (P := P) (w := w) (base := base) T
  have G_read := ok_read (P := P) (w := w) (base := base) T
  have G_l_spots := ok_spots23 (P := P) (w := w) (base := base) T
  have G_l_same := ok_same23 (P := P) (w := w) (base := base) T 40
  refine T.F_law.ok sc_law (fun vs H Q E h => ?_) (fun cdv A outer s H vs Q E hr h => ?_)
  · obtain ⟨_, _, rfl, _⟩ := h; rfl
  obtain ⟨p, ns, rfl, hp, h63, _, q⟩ := h
  refine ⟨_, (@pss_cons _ _ _ _ _ (@ps_set _ _ (1) _ _ _ _ sc_law.nd rfl (Or.inl rfl) (@pe_call _ _ _ _ _ _ _ _ _ _ _ _ _ _ _ _ G_l_names (hr.mono (by omega)) (by rfl) T.m_l_names T.F_l_names.kp T.b_l_names .nil pass0 (@pa_cons _ _ _ _ _ (@pe_call _ _ _ _ _ _ _ _ _ _ _ _ _ _ _ _ G_l_cell_at (hr.mono (by omega)) (by rfl) T.m_l_cell_at T.F_l_cell_at.kp T.b_l_cell_at .nil pass0 (@pa_cons _ _ _ _ _ (pv 0) (@pa_cons _ _ _ _ _ pe_int pa_nil (by rfl)) (by rfl)) (by decide) (by rfl) (by rfl)) (@pa_cons _ _ _ _ _ pe_int pa_nil (by rfl)) (by rfl)) (by decide) (by rfl) (by rfl)) (by rfl) (by first | exact .inl rfl | exact .inr rfl | assumption)) (@pss_cons _ _ _ _ _ (@ps_set _ _ (2) _ _ _ _ sc_law.nd rfl (Or.inl rfl) (@pe_call _ _ _ _ _ _ _ _ _ _ _ _ _ _ _ _ G_l_tree (hr.mono (by omega)) (by rfl) T.m_l_tree T.F_l_tree.kp T.b_l_tree .nil pass0 (@pa_cons _ _ _ _ _ (@pe_slice _ _ _ _ _ _ _ _ _ _ sl_list (pv 0) (@po_some _ _ _ pe_int) (@po_some _ _ _ pe_int)) (@pa_cons _ _ _ _ _ (@pe_call _ _ _ _ _ _ _ _ _ _ _ _ _ _ _ _ G_l_cell_at (hr.mono (by omega)) (by rfl) T.m_l_cell_at T.F_l_cell_at.kp T.b_l_cell_at .nil pass0 (@pa_cons _ _ _ _ _ (pv 0) (@pa_cons _ _ _ _ _ pe_int pa_nil (by rfl)) (by rfl)) (by decide) (by rfl) (by rfl)) (@pa_cons _ _ _ _ _ (pv 1) pa_nil (by rfl)) (by rfl)) (by rfl)) (by decide) (by rfl) (by rfl)) (by rfl) (by first | exact .inl rfl | exact .inr rfl | assumption)) (@pss_cons _ _ _ _ _ (@ps_asg _ _ _ _ _ _ (@pe_call _ _ _ _ _ _ _ _ _ _ _ _ _ _ _ _ G_l_cell (hr.mono (by omega)) (by rfl) T.m_l_cell T.F_l_cell.kp T.b_l_cell .nil pass0 (@pa_cons _ _ _ _ _ (@pe_call _ _ _ _ _ _ _ _ _ _ _ _ _ _ _ _ G_l_stream (hr.mono (by omega)) (by rfl) T.m_l_stream T.F_l_stream.kp T.b_l_stream .nil pass0 (@pa_cons _ _ _ _ _ (@pe_call _ _ _ _ _ _ _ _ _ _ _ _ _ _ _ _ G_l_cell_at (hr.mono (by omega)) (by rfl) T.m_l_cell_at T.F_l_cell_at.kp T.b_l_cell_at .nil pass0 (@pa_cons _ _ _ _ _ (pv 0) (@pa_cons _ _ _ _ _ pe_int pa_nil (by rfl)) (by rfl)) (by decide) (by rfl) (by rfl)) (@pa_cons _ _ _ _ _ pe_int pa_nil (by rfl)) (by rfl)) (by decide) (by rfl) (by rfl)) (@pa_cons _ _ _ _ _ (@pe_op _ _ _ _ _ _ _ _ op_cat (@pe_lst _ _ _ _ (@pa_cons _ _ _ _ _ pe_str pa_nil (by rfl))) (@pe_slice _ _ _ _ _ _ _ _ _ _ sl_list (pv 1) po_none (@po_some _ _ _ pe_int))) (@pa_cons _ _ _ _ _ (pv 1) pa_nil (by rfl)) (by rfl)) (by rfl)) (by decide) (by rfl) (by rfl)) (pg_tup rfl (pgs_cons (pg_name (i := 3) sc_law.nd rfl (Or.inl rfl)) (pgs_cons (pg_name (i := 4) sc_law.nd rfl (Or.inl rfl)) (pgs_cons (pg_name (i := 5) sc_law.nd rfl (Or.inl rfl)) pgs_nil)))) (by rfl) (by rfl) (by rfl)) (@pss_cons _ _ _ _ _ (@ps_set _ _ (6) _ _ _ _ sc_law.nd rfl (Or.inl rfl) (@pe_call _ _ _ _ _ _ _ _ _ _ _ _ _ _ _ _ G_l_blank (hr.mono (by omega)) (by rfl) T.m_l_blank T.F_l_blank.kp T.b_l_blank .nil pass0 (@pa_cons _ _ _ _ _ (@pe_op _ _ _ _ _ _ _ _ op_add_str (@pe_op _ _ _ _ _ _ _ _ op_add_str (pv 5) pe_str) (@pe_ix _ _ _ _ _ _ _ ix_tup (pv 2) pe_int (fun _ _ => rfl))) (@pa_cons _ _ _ _ _ (@pe_callB _ _ _ _ _ _ _ _ _ call_len_str (by rfl) T.z_len bt_len (@pa_cons _ _ _ _ _ (pv 3) pa_nil (by rfl)) (by decide) (by decide) (by rfl) (by rfl)) (@pa_cons _ _ _ _ _ (@pe_call _ _ _ _ _ _ _ _ _ _ _ _ _ _ _ _ G_l_cell_at (hr.mono (by omega)) (by rfl) T.m_l_cell_at T.F_l_cell_at.kp T.b_l_cell_at .nil pass0 (@pa_cons _ _ _ _ _ (pv 0) (@pa_cons _ _ _ _ _ pe_int pa_nil (by rfl)) (by rfl)) (by decide) (by rfl) (by rfl)) pa_nil (by rfl)) (by rfl)) (by rfl)) (by decide) (by rfl) (by rfl)) (by rfl) (by first | exact .inl rfl | exact .inr rfl | assumption)) (@pss_cons _ _ _ _ _ (@ps_set _ _ (6) _ _ _ _ sc_law.nd rfl (Or.inl rfl) (@pe_call _ _ _ _ _ _ _ _ _ _ _ _ _ _ _ _ G_l_blank (hr.mono (by omega)) (by rfl) T.m_l_blank T.F_l_blank.kp T.b_l_blank .nil pass0 (@pa_cons _ _ _ _ _ (pv 6) (@pa_cons _ _ _ _ _ (@pe_callB _ _ _ _ _ _ _ _ _ call_len_str (by rfl) T.z_len bt_len (@pa_cons _ _ _ _ _ (pv 3) pa_nil (by rfl)) (by decide) (by decide) (by rfl) (by rfl)) (@pa_cons _ _ _ _ _ (@pe_op _ _ _ _ _ _ _ _ op_fdiv (@pe_call _ _ _ _ _ _ _ _ _ _ _ _ _ _ _ _ G_l_cell_at (hr.mono (by omega)) (by rfl) T.m_l_cell_at T.F_l_cell_at.kp T.b_l_cell_at .nil pass0 (@pa_cons _ _ _ _ _ (pv 0) (@pa_cons _ _ _ _ _ pe_int pa_nil (by rfl)) (by rfl)) (by decide) (by rfl) (by rfl)) pe_int) pa_nil (by rfl)) (by rfl)) (by rfl)) (by decide) (by rfl) (by rfl)) (by rfl) (by first | exact .inl rfl | exact .inr rfl | assumption)) (@pss_cons _ _ _ _ _ (@ps_set _ _ (7) _ _ _ _ sc_law.nd rfl (Or.inl rfl) (@pe_op _ _ _ _ _ _ _ _ op_cat (@pe_op _ _ _ _ _ _ _ _ op_cat (@pe_op _ _ _ _ _ _ _ _ op_cat (@pe_lst _ _ _ _ (@pa_cons _ _ _ _ _ pe_str pa_nil (by rfl))) (@pe_compB _ _ _ _ _ _ _ ["_law_name"] [none] _ _ _ _ (by rfl) (@pi_list _ _ _ _ (@pe_slice _ _ _ _ _ _ _ _ _ _ sl_list (pv 1) po_none (@po_some _ _ _ pe_int))) c_law_0 (fun _ _ _ _ _ _ => ⟨(pg_name (i := 0) c_law_0n rfl (Or.inl rfl)), @pts_nil _, (@pe_op _ _ _ _ _ _ _ _ op_add_str (@pe_op _ _ _ _ _ _ _ _ op_add_str pe_str (pv 0)) pe_str)⟩) (by intro _ ; rfl))) (@pe_lst _ _ _ _ (@pa_cons _ _ _ _ _ (pv 6) pa_nil (by rfl)))) (@pe_op _ _ _ _ _ _ _ _ op_rep (@pe_lst _ _ _ _ (@pa_cons _ _ _ _ _ pe_str pa_nil (by rfl))) pe_int)) (by rfl) (by first | exact .inl rfl | exact .inr rfl | assumption)) (@pss_cons _ _ _ _ _ (@ps_set _ _ (8) _ _ _ _ sc_law.nd rfl (Or.inl rfl) (@pe_fld _ _ _ _ _ (@pe_call _ _ _ _ _ _ _ _ _ _ _ _ _ _ _ _ G_read (hr.mono (by omega)) (by rfl) T.m_read T.F_read.kp T.b_read .nil pass0 (@pa_cons _ _ _ _ _ (@pe_bm _ _ _ _ _ _ _ _ _ _ _ _ PySem.F.plainAttrs_str PySem.F.slot_str_join PySem.F.type_str_join mt_join pe_str (@pa_cons _ _ _ _ _ (pv 7) pa_nil (by rfl)) (by rfl) (by rfl) (by rfl) (by rfl) (by rfl)) pa_nil (by rfl)) (by decide) (by rfl) (by rfl)) rfl) (by rfl) (by first | exact .inl rfl | exact .inr rfl | assumption)) (@pss_cons _ _ _ _ _ (@ps_if _ _ _ _ _ _ _ _ ((@pw_or _ _ _ _ _ _ _ (@pt_not _ _ _ _ (@pt_val _ _ _ (@pe_callB _ _ _ _ _ _ _ _ _ call_isi (by rfl) T.z_isinstance bt_isinstance (@pa_cons _ _ _ _ _ (pv 8) (@pa_cons _ _ _ _ _ (@pe_bltn _ _ (.ty "list") _ _ (by rfl) T.z_list bt_list rfl (by decide) (by decide)) pa_nil (by rfl)) (by rfl)) (by decide) (by decide) (by rfl) (by rfl)) (by intro _ ; rfl))) (@pw_or _ _ _ _ _ _ _ (@pt_cmpR _ _ _ _ _ _ _ _ op_ne (@pe_callB _ _ _ _ _ _ _ _ _ call_len_seq (by rfl) T.z_len bt_len (@pa_cons _ _ _ _ _ (pv 8) pa_nil (by rfl)) (by decide) (by decide) (by rfl) (by rfl)) pe_int (@nomark _ _ (by decide) (by decide))) (@pw_or1 _ _ _ _ (@pt_cmpR _ _ _ _ _ _ _ _ op_ne (@pe_fld _ _ _ _ _ (@pe_ix _ _ _ _ _ _ _ ix_list (pv 8) pe_int (fun _ _ => rfl)) rfl) (pv 3) (@nomark _ _ (by decide) (by decide))))))).pt (@pss_one _ _ _ (@ps_ret _ _ _ _ pe_bl)) pss_nil) (@pss_one _ _ _ (@ps_ret _ _ _ _ (@pe_and _ _ _ _ _ _ _ (@pe_call _ _ _ _ _ _ _ _ _ _ _ _ _ _ _ _ G_l_spots (hr.mono (by omega)) (by rfl) T.m_l_spots T.F_l_spots.kp T.b_l_spots .nil pass0 (@pa_cons _ _ _ _ _ (@pe_fld _ _ _ _ _ (@pe_ix _ _ _ _ _ _ _ ix_list (pv 8) pe_int (fun _ _ => rfl)) rfl) (@pa_cons _ _ _ _ _ (pv 4) pa_nil (by rfl)) (by rfl)) (by decide) (by rfl) (by rfl)) (@pe_one _ _ _ _ _ (@pe_call _ _ _ _ _ _ _ _ _ _ _ _ _ _ _ _ G_l_same (hr.mono (by omega)) (by rfl) T.m_l_same T.F_l_same.kp T.b_l_same .nil pass0 (@pa_cons _ _ _ _ _ (@pe_fld _ _ _ _ _ (@pe_ix _ _ _ _ _ _ _ ix_list (pv 8) pe_int (fun _ _ => rfl)) rfl) (@pa_cons _ _ _ _ _ (@pe_ix _ _ _ _ _ _ _ ix_tup (pv 2) pe_int (fun _ _ => rfl)) pa_nil (by rfl)) (by rfl)) (by decide) (by rfl) (by rfl)))))))))))))), ?_⟩
  refine ⟨_, rfl, p, ns, 0, rfl, hp, by decide, _, rfl, fun nl H1 zs e1 hn => ?_⟩
  dsimp only [gName]
  refine ⟨_, rfl, _, rfl, _, rfl, p, _, rfl, e1.seq hp, fun p1 hp1 => ?_⟩
  rw [cutV_map]
  have s2 := same_new hp1 (.lst ((cutC ns (some 4) (some 28)).map V.int))
  have cl : (cutC ns (some 4) (some 28)).length ≤ 39 := by
    by_cases c : 28 ≤ ns.length
    · rw [cut_mid ns (by decide) (by decide) (by omega) (by decide), List.length_take]
      exact Nat.le_trans (Nat.min_le_left _ _) (by decide)
    · exact Rd.cut_few ns
  refine ⟨_, rfl, p, ns, 1, rfl, (e1.trans s2).seq hp, by decide, _, rfl, p1, nl, _, cutC ns (some 4) (some 28), zs, rfl, SqL.of upd_same, cl, hn.over s2, fun x H3 e e3 tp ok st => ?_⟩
  obtain ⟨tt, y, d, rfl, htt, hy⟩ := tp
  dsimp only [gName]
  have e13 := e1.trans (s2.trans e3)
  have hn3 := hn.over (s2.trans e3)
  refine ⟨_, rfl, p, ns, 2, rfl, e13.seq hp, by decide, _, 5, rfl, by decide, by decide, fun rx H4 s4 hx => ?_⟩
  rw [show (5 : Int).toNat = 5 from rfl] at hx
  generalize hxs : strm _ 5 = xs at hx
  have xl : xs.length = 5 := by rw [← hxs, strm_len]
  have xm : ∀ y ∈ xs, 0 ≤ y ∧ y < 2147483647 := fun y hy => strm_mem (hxs ▸ hy)
  have e14 := e13.trans s4
  have hn4 := hn3.over s4
  have htt4 := s4 _ _ htt
  have hy4 := hy.tk (Same.tk s4)
  refine ⟨szl (by show 1 ≤ 1000000; decide), fun r1 hr1 => ?_⟩
  have s5 := same_new hr1 (.lst [V.str ""])
  have ct : cutV (zs.map V.str) none (some 3) = (zs.take 3).map V.str := by
    have := cut_to (zs.map V.str) (k := 3) (by decide)
    rw [List.map_take]
    exact this
  refine ⟨_, rfl, _, rfl, nl, _, rfl, SqL.of (s5 _ _ hn4.1), fun p5 hp5 => ?_⟩
  rw [ct]
  have s6 := same_new hp5 (.lst ((zs.take 3).map V.str))
  refine ⟨r1, p5, _, _, rfl, rfl, s6 _ _ upd_same, upd_same, szl (by rw [List.length_map, List.length_take, List.length_singleton]; omega), fun kl hkl => ?_⟩
  have e6 := (s5.trans s6).trans (same_new hkl (.lst ([V.str ""] ++ (zs.take 3).map V.str)))
  have hk : Rd.KnAt (upd (upd (upd H4 r1 (.lst [V.str ""])) p5 (.lst ((zs.take 3).map V.str))) kl (.lst ([V.str ""] ++ (zs.take 3).map V.str))) kl (zs.take 3) := ⟨upd_same, by rw [List.length_take]; omega, fun z hz => hn.2.2.2 z (List.mem_of_mem_take hz)⟩
  generalize upd (upd (upd H4 r1 (.lst [V.str ""])) p5 (.lst ((zs.take 3).map V.str))) kl (.lst ([V.str ""] ++ (zs.take 3).map V.str)) = H6 at e6 hk
  refine ⟨_, rfl, rx, kl, nl, xs, zs.take 3, zs, rfl, e6 _ _ hx, xl, xm, hk, hn4.over e6, fun r sp0 H7 tb sp e7 hr7 hsp lk => ?_⟩
  have e17 := e14.trans (e6.trans e7)
  have hn7 := hn4.over (e6.trans e7)
  have htt7 := (e6.trans e7) _ _ htt4
  have hy7 := hy4.tk (Same.tk (e6.trans e7))
  refine ⟨r, _, rfl, SqT.of hr7, rfl, _, _, rfl, _, _, rfl, _, _, rfl, rfl, ?_⟩
  have ll := ok.len
  have cll := Rd.Tk.len lk.ok
  have cll : (celS tb sp).length ≤ 150 := by rw [← cds_len]; exact cll
  have tbl : tb.length ≤ 8 := by have := lk.ok.1.2.1; rw [cds_len] at this; exact this
  have q1 : ("=" : Str).length = 1 := by decide +kernel
  refine ⟨_, rfl, _, _, rfl, rfl, szl (by omega), _, rfl, tt, _, 0, _, rfl, rfl, SqT.of htt7, rfl, _, _, rfl, rfl, szl (by rw [sLen]; omega), _, rfl, tb, rfl, szl (by omega), _, rfl, p, ns, 3, rfl, e17.seq hp, by decide, ?_⟩
  have ez : cds (celS tb sp ++ "=" ++ e.txt) = Rd.dedT tb sp e.tk := by
    rw [cds_app, cds_app, Rd.Ex.txt_tk, List.append_assoc]
    rfl
  have cel : (celS tb sp).length = tb.length + (Txt.join "" (sp.map boxS)).length := by unfold celS; rw [sLen]
  refine ⟨celS tb sp ++ "=" ++ e.txt, tb.length, _, rfl, (by rw [sLen, sLen]; omega), (by rw [sLen, sLen]; omega), fun H8 z1 e8 b1 => ?_⟩
  dsimp only [gName]
  have e18 := e17.trans e8
  have zl0 : (celS tb sp ++ "=" ++ e.txt).length ≤ 48160 := by rw [sLen, sLen]; omega
  have bl1 := Rd.blk_len b1
  rw [cds_len, cds_len] at bl1
  have tbz : tb.length ≤ (celS tb sp ++ "=" ++ e.txt).length := by rw [sLen, sLen]; omega
  refine ⟨_, rfl, _, rfl, tb, rfl, szl (by omega), _, rfl, p, ns, 3, rfl, e18.seq hp, by decide, _, _, rfl, rfl, ⟨by decide, by decide⟩, z1, tb.length, _, rfl, by omega, by omega, fun H9 z2 e9 b2 => ?_⟩
  dsimp only [gName]
  have bl2 := Rd.blk_len b2
  rw [cds_len, cds_len] at bl2
  have e19 := e18.trans e9
  have hn9 := hn7.over (e8.trans e9)
  have htt9 := (e8.trans e9) _ _ htt7
  have hy9 := hy7.tk (Same.tk (e8.trans e9))
  have hsp9 := hsp.tk (Same.tk (e8.trans e9))
  rw [← cds_len tb] at b1 b2
  have dr0 := Rd.drow_0 lk.ok (ks := e.tk) fun k hk => (ok.lk k hk).ok
  rw [← ez] at dr0
  have dr := Rd.drow_blk (Rd.drow_blk dr0 b1) b2
  -- the rows
  refine ⟨szl (by show 1 ≤ 1000000; decide), fun a1 ha1 => ?_⟩
  have g1 := same_new ha1 (.lst [V.str "size 7"])
  have ha1' : (upd H9 a1 (.lst [V.str "size 7"])) a1 = some (.lst [V.str "size 7"]) := upd_same
  generalize upd H9 a1 (.lst [V.str "size 7"]) = G1 at g1 ha1'
  refine ⟨_, rfl, _, rfl, nl, _, rfl, SqL.of (g1 _ _ hn9.1), fun p6 hp6 => ?_⟩
  rw [ct]
  have g2 := same_new hp6 (.lst ((zs.take 3).map V.str))
  have hp6' : (upd G1 p6 (.lst ((zs.take 3).map V.str))) p6 = some (.lst ((zs.take 3).map V.str)) := upd_same
  generalize upd G1 p6 (.lst ((zs.take 3).map V.str)) = G2 at g2 hp6'
  have t3 : (zs.take 3).length = 3 := by rw [List.length_take, hn.2.1]; rfl
  refine ⟨p6, rfl, ⟨_, SqL.of hp6'⟩, ?_⟩
  refine comp_list (xs := (zs.take 3).map V.str) (fun i ys H' => H' = G2 ∧ ys = (((zs.take 3).take i).map fun x => ("for " : Str) ++ x ++ " 0 9").map V.str) ⟨rfl, rfl⟩ (szl (by rw [List.length_map]; omega)) (fun i ys H' hi pp => ?_) (fun i x ys H' hc pp => ?_) (fun ys H' pp b0 hb0 => ?_)
  · obtain ⟨rfl, rfl⟩ := pp
    exact ⟨SqL.of hp6', by rw [List.length_map, List.length_map, List.length_take]; omega⟩
  · obtain ⟨rfl, rfl⟩ := pp
    rw [List.getElem?_map] at hc
    cases hz : (zs.take 3)[i]? with
    | none => rw [hz] at hc; cases hc
    | some u =>
      rw [hz] at hc
      cases hc
      have ul : u.length ≤ 8 := by
        have := (hn.2.2.2 u (List.mem_of_mem_take (List.mem_of_getElem? hz))).2.1
        rw [cds_len] at this
        exact this
      have k1 : ("for " : Str).length = 4 := by decide +kernel
      have k2 : (" 0 9" : Str).length = 4 := by decide +kernel
      refine ⟨_, rfl, _, _, rfl, rfl, szl (by omega), _, _, rfl, rfl, szl (by rw [sLen]; omega), rfl, ?_⟩
      rw [take_snoc hz, List.map_append, List.map_append]
      rfl
  obtain ⟨rfl, rfl⟩ := pp
  rw [List.length_map, List.take_length]
  generalize hfs : (zs.take 3).map (fun x => ("for " : Str) ++ x ++ " 0 9") = fs at hb0 ⊢
  have fl : fs.length = 3 := by rw [← hfs, List.length_map]; exact t3
  have g3 := same_new hb0 (.lst (fs.map V.str))
  have hb0' : (upd H' b0 (.lst (fs.map V.str))) b0 = some (.lst (fs.map V.str)) := upd_same
  generalize upd H' b0 (.lst (fs.map V.str)) = G3 at g3 hb0'
  refine ⟨a1, b0, _, _, rfl, rfl, (g2.trans g3) _ _ ha1', hb0', szl (by rw [List.length_map, fl, List.length_singleton]; omega), fun b1 hb1 => ?_⟩
  have g4 := same_new hb1 (.lst ([V.str "size 7"] ++ fs.map V.str))
  have hb1' : (upd G3 b1 (.lst ([V.str "size 7"] ++ fs.map V.str))) b1 = some (.lst ([V.str "size 7"] ++ fs.map V.str)) := upd_same
  generalize upd G3 b1 (.lst ([V.str "size 7"] ++ fs.map V.str)) = G4 at g4 hb1'
  refine ⟨_, rfl, szl (by show 1 ≤ 1000000; decide), fun c1 hc1 => ?_⟩
  have g5 := same_new hc1 (.lst [V.str z2])
  have hc1' : (upd G4 c1 (.lst [V.str z2])) c1 = some (.lst [V.str z2]) := upd_same
  generalize upd G4 c1 (.lst [V.str z2]) = G5 at g5 hc1'
  refine ⟨b1, c1, _, _, rfl, rfl, g5 _ _ hb1', hc1', szl (by rw [List.length_append, List.length_map, fl, List.length_singleton, List.length_singleton]; omega), fun c2 hc2 => ?_⟩
  have g6 := same_new hc2 (.lst ([V.str "size 7"] ++ fs.map V.str ++ [V.str z2]))
  have hc2' : (upd G5 c2 (.lst ([V.str "size 7"] ++ fs.map V.str ++ [V.str z2]))) c2 = some (.lst ([V.str "size 7"] ++ fs.map V.str ++ [V.str z2])) := upd_same
  generalize upd G5 c2 (.lst ([V.str "size 7"] ++ fs.map V.str ++ [V.str z2])) = G6 at g6 hc2'
  refine ⟨szl (by show 1 ≤ 1000000; decide), fun d1 hd1 => ?_⟩
  have g7 := same_new hd1 (.lst [V.str "end"])
  have hd1' : (upd G6 d1 (.lst [V.str "end"])) d1 = some (.lst [V.str "end"]) := upd_same
  generalize upd G6 d1 (.lst [V.str "end"]) = G7 at g7 hd1'
  refine ⟨d1, 3, _, rfl, rfl, hd1', by decide, by decide, szl (by show 3 ≤ 1000000; decide), fun d2 hd2 => ?_⟩
  have g8 := same_new hd2 (.lst [V.str "end", V.str "end", V.str "end"])
  have hd2' : (upd G7 d2 (.lst [V.str "end", V.str "end", V.str "end"])) d2 = some (.lst [V.str "end", V.str "end", V.str "end"]) := upd_same
  change rCat (.ref c2) (.ref d2) (upd G7 d2 (.lst [V.str "end", V.str "end", V.str "end"])) _
  generalize upd G7 d2 (.lst [V.str "end", V.str "end", V.str "end"]) = G8 at g8 hd2'
  refine ⟨c2, d2, _, _, rfl, rfl, (g7.trans g8) _ _ hc2', hd2', szl (by rw [List.length_append, List.length_append, List.length_map, fl, List.length_singleton, List.length_singleton]; show 1 + 3 + 1 + 3 ≤ _; omega), fun rl hrl => ?_⟩
  have erows : [V.str "size 7"] ++ fs.map V.str ++ [V.str z2] ++ [V.str "end", V.str "end", V.str "end"] = (Rd.rows23 zs z2).map V.str := by
    unfold Rd.rows23
    rw [hfs, List.map_append, List.map_append, List.map_append]
    rfl
  rw [erows]
  have g9 := same_new hrl (.lst ((Rd.rows23 zs z2).map V.str))
  have hrl' : (upd G8 rl (.lst ((Rd.rows23 zs z2).map V.str))) rl = some (.lst ((Rd.rows23 zs z2).map V.str)) := upd_same
  dsimp only [gName]
  generalize upd G8 rl (.lst ((Rd.rows23 zs z2).map V.str)) = G9 at g9 hrl'
  have g19 := g1.trans (g2.trans (g3.trans (g4.trans (g5.trans (g6.trans (g7.trans (g8.trans g9)))))))
  clear hp6' hb0' hb1' hc1' hc2' hd1' hd2' ha1'
  have nb8 : ∀ x ∈ zs, x.length ≤ 8 := fun x hx => by have := (hn.2.2.2 x hx).2.1; rw [cds_len] at this; exact this
  obtain ⟨rs1, rs2⟩ := Rd.rows_sum (z := z2) hn.2.1 nb8
  have nl1 : ("\n" : Str).length = 1 := by decide +kernel
  have jl := join_len "\n" (Rd.rows23 zs z2)
  rw [rs2, nl1] at jl
  obtain ⟨path, hR, h10⟩ := Rd.rds23 hn.2.1 hn.2.2.1 hn.2.2.2 lk ok st dr
  refine ⟨rfl, _, rfl, _, rl, _, rfl, rfl, .inl (SqL.of hrl'), ?_, ?_⟩
  · rw [rs2, nl1]
    exact Nat.le_trans (Nat.add_le_add_right rs1 _) (by omega)
  refine ⟨_, _, _, _, 7, rfl, by omega, Rd.join_split (fun z => by rw [z] at rs2; cases rs2) h10, by omega, hR, rfl, (fun z => nomatch z), rfl, fun v K1 k1 hP => ?_⟩
  obtain ⟨x, dx, dl, rfl, hx1, ds, hdl, pds⟩ := hP
  obtain ⟨d0, rfl⟩ : ∃ d0, ds = [d0] := by
    have := pds.1
    match ds, this with
    | [d0], _ => exact ⟨d0, rfl⟩
  obtain ⟨pd, pdx, nm, lo, hi, ps, pt, ob, ls, hs, rfl, hd0, _, _, _, _, _, hps, hob, _⟩ := pds.2 0 d0 _ rfl rfl
  refine ⟨x, _, dx, _, _, rfl, hx1, T.cl_Program, T.n_Program_deeds, rfl, ?_⟩
  dsimp only [gName]
  have g1k := g19.trans k1
  have htt1 := g1k _ _ htt9
  have hy1 := hy9.tk (Same.tk g1k)
  have hsp1 := hsp9.tk (Same.tk g1k)
  refine ⟨_, rfl, _, _, _, _, _, rfl, rfl, .lst hdl, rfl, _, rfl, iteF ?_⟩
  refine ⟨_, rfl, dl, _, rfl, .inl (SqL.of hdl), rfl, _, rfl, iteE (v := false) (ndF rfl) (iteF ?_)⟩
  refine ⟨_, rfl, dl, _, 0, _, rfl, rfl, SqL.of hdl, rfl, pd, _, pdx, _, _, rfl, hd0, T.cl_Deed, T.n_Deed_table, rfl, _, rfl, rfl, _, rfl, iteE (v := false) (ndF rfl) (iteF ?_)⟩
  obtain ⟨shk, shs⟩ := Rd.sh_ok ok.ok ok.lk
  refine ⟨_, rfl, dl, _, 0, _, rfl, rfl, SqL.of hdl, rfl, pd, _, pdx, _, _, rfl, hd0, T.cl_Deed, T.n_Deed_spots, rfl, _, rfl, ps, sp0, sp, rfl, hps, hsp1, (by have := lk.ok.2.2.1; omega), fun K2 k2 => ⟨_, rfl, iteT ?_⟩⟩
  refine ⟨_, rfl, dl, _, 0, _, rfl, rfl, SqL.of (k2 _ _ hdl), rfl, pd, _, pdx, _, _, rfl, k2 _ _ hd0, T.cl_Deed, T.n_Deed_term, rfl, _, rfl, tt, _, 2, _, rfl, rfl, SqT.of (k2 _ _ htt1), rfl, ob, y, e.sh, rfl, TbAt.over k2 hob, hy1.tk (Same.tk k2), shk, by omega, fun K3 k3 => ?_⟩
  exact q _

end
theorem len_1 {us : List Value} (h : us.length = 1) : ∃ x0, us = [x0] := by
  rcases us with _ | ⟨x0, us⟩
  · cases h
  rcases us with _ | ⟨y, us⟩
  · exact ⟨x0, rfl⟩
  · simp only [List.length_cons] at h; omega
theorem len_2 {us : List Value} (h : us.length = 2) : ∃ x0 x1, us = [x0, x1] := by
  rcases us with _ | ⟨x0, us⟩
  · cases h
  rcases us with _ | ⟨x1, us⟩
  · cases h
  rcases us with _ | ⟨y, us⟩
  · exact ⟨x0, x1, rfl⟩
  · simp only [List.length_cons] at h; omega
theorem len_3 {us : List Value} (h : us.length = 3) : ∃ x0 x1 x2, us = [x0, x1, x2] := by
  rcases us with _ | ⟨x0, us⟩
  · cases h
  rcases us with _ | ⟨x1, us⟩
  · cases h
  rcases us with _ | ⟨x2, us⟩
  · cases h
  rcases us with _ | ⟨y, us⟩
  · exact ⟨x0, x1, x2, rfl⟩
  · simp only [List.length_cons] at h; omega
theorem len_4 {us : List Value} (h : us.length = 4) : ∃ x0 x1 x2 x3, us = [x0, x1, x2, x3] := by
  rcases us with _ | ⟨x0, us⟩
  · cases h
  rcases us with _ | ⟨x1, us⟩
  · cases h
  rcases us with _ | ⟨x2, us⟩
  · cases h
  rcases us with _ | ⟨x3, us⟩
  · cases h
  rcases us with _ | ⟨y, us⟩
  · exact ⟨x0, x1, x2, x3, rfl⟩
  · simp only [List.length_cons] at h; omega
theorem len_8 {us : List Value} (h : us.length = 8) : ∃ x0 x1 x2 x3 x4 x5 x6 x7, us = [x0, x1, x2, x3, x4, x5, x6, x7] := by
  rcases us with _ | ⟨x0, us⟩
  · cases h
  rcases us with _ | ⟨x1, us⟩
  · cases h
  rcases us with _ | ⟨x2, us⟩
  · cases h
  rcases us with _ | ⟨x3, us⟩
  · cases h
  rcases us with _ | ⟨x4, us⟩
  · cases h
  rcases us with _ | ⟨x5, us⟩
  · cases h
  rcases us with _ | ⟨x6, us⟩
  · cases h
  rcases us with _ | ⟨x7, us⟩
  · cases h
  rcases us with _ | ⟨y, us⟩
  · exact ⟨x0, x1, x2, x3, x4, x5, x6, x7, rfl⟩
  · simp only [List.length_cons] at h; omega
theorem bd_Number_init : BdA "__init__" "Number.__init__" s_Number_init ["self", "n"] := fun _ _ _ _ _ _ _ h => by obtain ⟨_, _, rfl⟩ := len_2 h; rfl
theorem bd_Value_init : BdA "__init__" "Value.__init__" s_Value_init ["self", "name"] := fun _ _ _ _ _ _ _ h => by obtain ⟨_, _, rfl⟩ := len_2 h; rfl
theorem bd_Cell_init : BdA "__init__" "Cell.__init__" s_Cell_init ["self", "table", "spots"] := fun _ _ _ _ _ _ _ h => by obtain ⟨_, _, _, rfl⟩ := len_3 h; rfl
theorem bd_Joined_init : BdA "__init__" "Joined.__init__" s_Joined_init ["self", "sign", "left", "right"] := fun _ _ _ _ _ _ _ h => by obtain ⟨_, _, _, _, rfl⟩ := len_4 h; rfl
theorem bd_Deed_init : BdA "__init__" "Deed.__init__" s_Deed_init ["self", "names", "lows", "highs", "table", "spots", "term", "path"] := fun _ _ _ _ _ _ _ h => by obtain ⟨_, _, _, _, _, _, _, _, rfl⟩ := len_8 h; rfl
theorem bd_Program_init : BdA "__init__" "Program.__init__" s_Program_init ["self", "size", "deeds"] := fun _ _ _ _ _ _ _ h => by obtain ⟨_, _, _, rfl⟩ := len_3 h; rfl
theorem bd_made_of : BdA "made_of" "made_of" s_made_of ["text", "signs"] := fun _ _ _ _ _ _ _ h => by obtain ⟨_, _, rfl⟩ := len_2 h; rfl
theorem bd_number_of : BdA "number_of" "number_of" s_number_of ["text"] := fun _ _ _ _ _ _ _ h => by obtain ⟨_, rfl⟩ := len_1 h; rfl
theorem bd_is_name : BdA "is_name" "is_name" s_is_name ["text"] := fun _ _ _ _ _ _ _ h => by obtain ⟨_, rfl⟩ := len_1 h; rfl
theorem bd_risen : BdA "risen" "risen" s_risen ["parts"] := fun _ _ _ _ _ _ _ h => by obtain ⟨_, rfl⟩ := len_1 h; rfl
theorem bd_fallen : BdA "fallen" "fallen" s_fallen ["parts"] := fun _ _ _ _ _ _ _ h => by obtain ⟨_, rfl⟩ := len_1 h; rfl
theorem bd_spot_of : BdA "spot_of" "spot_of" s_spot_of ["text"] := fun _ _ _ _ _ _ _ h => by obtain ⟨_, rfl⟩ := len_1 h; rfl
theorem bd_bare_row : BdA "bare_row" "bare_row" s_bare_row ["row"] := fun _ _ _ _ _ _ _ h => by obtain ⟨_, rfl⟩ := len_1 h; rfl
theorem bd_words_of : BdA "words_of" "words_of" s_words_of ["row"] := fun _ _ _ _ _ _ _ h => by obtain ⟨_, rfl⟩ := len_1 h; rfl
theorem bd_part_end : BdA "part_end" "part_end" s_part_end ["text", "at"] := fun _ _ _ _ _ _ _ h => by obtain ⟨_, _, rfl⟩ := len_2 h; rfl
theorem bd_cell_of : BdA "cell_of" "cell_of" s_cell_of ["text"] := fun _ _ _ _ _ _ _ h => by obtain ⟨_, rfl⟩ := len_1 h; rfl
theorem bd_part_of : BdA "part_of" "part_of" s_part_of ["text"] := fun _ _ _ _ _ _ _ h => by obtain ⟨_, rfl⟩ := len_1 h; rfl
theorem bd_parts_of : BdA "parts_of" "parts_of" s_parts_of ["text"] := fun _ _ _ _ _ _ _ h => by obtain ⟨_, rfl⟩ := len_1 h; rfl
theorem bd_join_waiting : BdA "join_waiting" "join_waiting" s_join_waiting ["terms", "signs", "least"] := fun _ _ _ _ _ _ _ h => by obtain ⟨_, _, _, rfl⟩ := len_3 h; rfl
theorem bd_term_of : BdA "term_of" "term_of" s_term_of ["parts"] := fun _ _ _ _ _ _ _ h => by obtain ⟨_, rfl⟩ := len_1 h; rfl
theorem bd_Draft_init : BdA "__init__" "Draft.__init__" s_Draft_init ["self"] := fun _ _ _ _ _ _ _ h => by obtain ⟨_, rfl⟩ := len_1 h; rfl
theorem bd_spots_known : BdA "spots_known" "spots_known" s_spots_known ["draft", "spots"] := fun _ _ _ _ _ _ _ h => by obtain ⟨_, _, rfl⟩ := len_2 h; rfl
theorem bd_names_known : BdA "names_known" "names_known" s_names_known ["draft", "parts"] := fun _ _ _ _ _ _ _ h => by obtain ⟨_, _, rfl⟩ := len_2 h; rfl
theorem bd_tables_kept : BdA "tables_kept" "tables_kept" s_tables_kept ["draft", "parts"] := fun _ _ _ _ _ _ _ h => by obtain ⟨_, _, rfl⟩ := len_2 h; rfl
theorem bd_deed_taken : BdA "deed_taken" "deed_taken" s_deed_taken ["draft", "row"] := fun _ _ _ _ _ _ _ h => by obtain ⟨_, _, rfl⟩ := len_2 h; rfl
theorem bd_size_taken : BdA "size_taken" "size_taken" s_size_taken ["draft", "words"] := fun _ _ _ _ _ _ _ h => by obtain ⟨_, _, rfl⟩ := len_2 h; rfl
theorem bd_loop_taken : BdA "loop_taken" "loop_taken" s_loop_taken ["draft", "words"] := fun _ _ _ _ _ _ _ h => by obtain ⟨_, _, rfl⟩ := len_2 h; rfl
theorem bd_end_taken : BdA "end_taken" "end_taken" s_end_taken ["draft", "words"] := fun _ _ _ _ _ _ _ h => by obtain ⟨_, _, rfl⟩ := len_2 h; rfl
theorem bd_taken : BdA "taken" "taken" s_taken ["draft", "row"] := fun _ _ _ _ _ _ _ h => by obtain ⟨_, _, rfl⟩ := len_2 h; rfl
theorem bd_read : BdA "read" "read" s_read ["text"] := fun _ _ _ _ _ _ _ h => by obtain ⟨_, rfl⟩ := len_1 h; rfl
theorem bd_l_cell_at : BdA "_law_cell_at" "_law_cell_at" s_l_cell_at ["_law_script", "_law_k"] := fun _ _ _ _ _ _ _ h => by obtain ⟨_, _, rfl⟩ := len_2 h; rfl
theorem bd_l_whole : BdA "_law_whole" "_law_whole" s_l_whole ["_law_found"] := fun _ _ _ _ _ _ _ h => by obtain ⟨_, rfl⟩ := len_1 h; rfl
theorem bd_l_stream : BdA "_law_stream" "_law_stream" s_l_stream ["_law_cell_here", "_law_many"] := fun _ _ _ _ _ _ _ h => by obtain ⟨_, _, rfl⟩ := len_2 h; rfl
theorem bd_l_names : BdA "_law_names" "_law_names" s_l_names ["_law_cell_here", "_law_many"] := fun _ _ _ _ _ _ _ h => by obtain ⟨_, _, rfl⟩ := len_2 h; rfl
theorem bd_l_number : BdA "_law_number" "_law_number" s_l_number ["_law_cell_here", "_law_far"] := fun _ _ _ _ _ _ _ h => by obtain ⟨_, _, rfl⟩ := len_2 h; rfl
theorem bd_l_spot_text : BdA "_law_spot_text" "_law_spot_text" s_l_spot_text ["_law_spot_here"] := fun _ _ _ _ _ _ _ h => by obtain ⟨_, rfl⟩ := len_1 h; rfl
theorem bd_l_spot : BdA "_law_spot" "_law_spot" s_l_spot ["_law_one", "_law_other", "_law_known"] := fun _ _ _ _ _ _ _ h => by obtain ⟨_, _, _, rfl⟩ := len_3 h; rfl
theorem bd_l_cell : BdA "_law_cell" "_law_cell" s_l_cell ["_law_xs", "_law_known", "_law_names_here"] := fun _ _ _ _ _ _ _ h => by obtain ⟨_, _, _, rfl⟩ := len_3 h; rfl
theorem bd_l_leaf : BdA "_law_leaf" "_law_leaf" s_l_leaf ["_law_cell_here", "_law_known", "_law_names_here"] := fun _ _ _ _ _ _ _ h => by obtain ⟨_, _, _, rfl⟩ := len_3 h; rfl
theorem bd_l_spots : BdA "_law_spots" "_law_spots" s_l_spots ["_law_found", "_law_due"] := fun _ _ _ _ _ _ _ h => by obtain ⟨_, _, rfl⟩ := len_2 h; rfl
theorem bd_l_same : BdA "_law_same" "_law_same" s_l_same ["_law_term", "_law_shape"] := fun _ _ _ _ _ _ _ h => by obtain ⟨_, _, rfl⟩ := len_2 h; rfl
theorem bd_l_round : BdA "_law_round" "_law_round" s_l_round ["_law_one", "_law_need", "_law_more"] := fun _ _ _ _ _ _ _ h => by obtain ⟨_, _, _, rfl⟩ := len_3 h; rfl
theorem bd_l_both : BdA "_law_both" "_law_both" s_l_both ["_law_sign", "_law_left", "_law_right", "_law_cell_here"] := fun _ _ _ _ _ _ _ h => by obtain ⟨_, _, _, _, rfl⟩ := len_4 h; rfl
theorem bd_l_deep : BdA "_law_deep" "_law_deep" s_l_deep ["_law_cell_here", "_law_known", "_law_names_here"] := fun _ _ _ _ _ _ _ h => by obtain ⟨_, _, _, rfl⟩ := len_3 h; rfl
theorem bd_l_tree : BdA "_law_tree" "_law_tree" s_l_tree ["_law_cells", "_law_seed", "_law_names_here"] := fun _ _ _ _ _ _ _ h => by obtain ⟨_, _, _, rfl⟩ := len_3 h; rfl
theorem bd_l_blank : BdA "_law_blank" "_law_blank" s_l_blank ["_law_text", "_law_first", "_law_cell_here"] := fun _ _ _ _ _ _ _ h => by obtain ⟨_, _, _, rfl⟩ := len_3 h; rfl
theorem bd_law : BdA "law" "law" s_law ["_law_script"] := fun _ _ _ _ _ _ _ h => by obtain ⟨_, rfl⟩ := len_1 h; rfl
theorem txt_mk {w : World} {K : PySem.W.Frag} {h : Heap} {mg : Str → Option Value} {fa : Addr} (X : K.In h) (G : h.Ns mainGlobals mg) (hfa : mg "law" = some (.ref fa))
    {C_Term : Addr} {C_Number : Addr} {C_Value : Addr} {C_Cell : Addr} {C_Joined : Addr} {C_Deed : Addr} {C_Program : Addr} {C_Draft : Addr} {f1 f2 f3 f4 f5 f6 f7 f8 f9 f10 f11 f12 f13 f14 f15 f16 f17 f18 f19 f20 f21 f22 f23 f24 f25 f26 f27 f28 f29 f30 f31 f32 f33 f34 f35 f36 f37 f38 f39 f40 f41 f42 f43 f44 f45 f46 f47 : Addr} {d1 d2 d3 d4 d5 d6 d7 d8 d9 d10 d11 d12 d13 d14 d15 d16 d17 d18 d19 d20 d21 d22 d23 d24 d25 d26 d27 d28 d29 d30 d31 d32 d33 d34 d35 d36 d37 d38 d39 d40 d41 d42 d43 d44 d45 d46 d47 : FuncData} {t_FIGURES : Tok} {t_LEAST_SIZE : Tok} {t_LETTERS : Tok} {t_MOST_DEEDS : Tok} {t_MOST_FIGURES : Tok} {t_MOST_LETTERS : Tok} {t_MOST_LOOPS : Tok} {t_MOST_SPOTS : Tok} {u_ROW_WORDS : Addr} {e_ROW_WORDS : Option Addr} {n_ROW_WORDS : Nat} {b_ROW_WORDS : Array (Option Value)} {t_ROW_WORDS0 : Tok} {t_ROW_WORDS1 : Tok} {t_ROW_WORDS2 : Tok} {t_SIGNS : Tok} {u_STRENGTHS : Addr} {n_STRENGTHS : Nat} {h_STRENGTHS0 : Int} {k_STRENGTHS0 s_STRENGTHS0 : Tok} {h_STRENGTHS1 : Int} {k_STRENGTHS1 s_STRENGTHS1 : Tok} {h_STRENGTHS2 : Int} {k_STRENGTHS2 s_STRENGTHS2 : Tok} {h_STRENGTHS3 : Int} {k_STRENGTHS3 s_STRENGTHS3 : Tok}
    (a_Term : ClA K C_Term "Term")
    (a_Number : ClA K C_Number "Number")
    (a_Value : ClA K C_Value "Value")
    (a_Cell : ClA K C_Cell "Cell")
    (a_Joined : ClA K C_Joined "Joined")
    (a_Deed : ClA K C_Deed "Deed")
    (a_Program : ClA K C_Program "Program")
    (a_Draft : ClA K C_Draft "Draft")
    (h1 : DcA K C_Number "__init__" "Number.__init__" s_Number_init f1 d1)
    (h2 : DcA K C_Value "__init__" "Value.__init__" s_Value_init f2 d2)
    (h3 : DcA K C_Cell "__init__" "Cell.__init__" s_Cell_init f3 d3)
    (h4 : DcA K C_Joined "__init__" "Joined.__init__" s_Joined_init f4 d4)
    (h5 : DcA K C_Deed "__init__" "Deed.__init__" s_Deed_init f5 d5)
    (h6 : DcA K C_Program "__init__" "Program.__init__" s_Program_init f6 d6)
    (h7 : DnA K "made_of" s_made_of f7 d7)
    (h8 : DnA K "number_of" s_number_of f8 d8)
    (h9 : DnA K "is_name" s_is_name f9 d9)
    (h10 : DnA K "risen" s_risen f10 d10)
    (h11 : DnA K "fallen" s_fallen f11 d11)
    (h12 : DnA K "spot_of" s_spot_of f12 d12)
    (h13 : DnA K "bare_row" s_bare_row f13 d13)
    (h14 : DnA K "words_of" s_words_of f14 d14)
    (h15 : DnA K "part_end" s_part_end f15 d15)
    (h16 : DnA K "cell_of" s_cell_of f16 d16)
    (h17 : DnA K "part_of" s_part_of f17 d17)
    (h18 : DnA K "parts_of" s_parts_of f18 d18)
    (h19 : DnA K "join_waiting" s_join_waiting f19 d19)
    (h20 : DnA K "term_of" s_term_of f20 d20)
    (h21 : DcA K C_Draft "__init__" "Draft.__init__" s_Draft_init f21 d21)
    (h22 : DnA K "spots_known" s_spots_known f22 d22)
    (h23 : DnA K "names_known" s_names_known f23 d23)
    (h24 : DnA K "tables_kept" s_tables_kept f24 d24)
    (h25 : DnA K "deed_taken" s_deed_taken f25 d25)
    (h26 : DnA K "size_taken" s_size_taken f26 d26)
    (h27 : DnA K "loop_taken" s_loop_taken f27 d27)
    (h28 : DnA K "end_taken" s_end_taken f28 d28)
    (h29 : DnA K "taken" s_taken f29 d29)
    (h30 : DnA K "read" s_read f30 d30)
    (h31 : DnA K "_law_cell_at" s_l_cell_at f31 d31)
    (h32 : DnA K "_law_whole" s_l_whole f32 d32)
    (h33 : DnA K "_law_stream" s_l_stream f33 d33)
    (h34 : DnA K "_law_names" s_l_names f34 d34)
    (h35 : DnA K "_law_number" s_l_number f35 d35)
    (h36 : DnA K "_law_spot_text" s_l_spot_text f36 d36)
    (h37 : DnA K "_law_spot" s_l_spot f37 d37)
    (h38 : DnA K "_law_cell" s_l_cell f38 d38)
    (h39 : DnA K "_law_leaf" s_l_leaf f39 d39)
    (h40 : DnA K "_law_spots" s_l_spots f40 d40)
    (h41 : DnA K "_law_same" s_l_same f41 d41)
    (h42 : DnA K "_law_round" s_l_round f42 d42)
    (h43 : DnA K "_law_both" s_l_both f43 d43)
    (h44 : DnA K "_law_deep" s_l_deep f44 d44)
    (h45 : DnA K "_law_tree" s_l_tree f45 d45)
    (h46 : DnA K "_law_blank" s_l_blank f46 d46)
    (h47 : DnA K "law" s_law f47 d47)
    (n_Number_n : PySem.W.findIn K (.ref C_Number) "n" = some none)
    (n_Value_name : PySem.W.findIn K (.ref C_Value) "name" = some none)
    (n_Cell_table : PySem.W.findIn K (.ref C_Cell) "table" = some none)
    (n_Cell_spots : PySem.W.findIn K (.ref C_Cell) "spots" = some none)
    (n_Joined_sign : PySem.W.findIn K (.ref C_Joined) "sign" = some none)
    (n_Joined_left : PySem.W.findIn K (.ref C_Joined) "left" = some none)
    (n_Joined_right : PySem.W.findIn K (.ref C_Joined) "right" = some none)
    (n_Deed_names : PySem.W.findIn K (.ref C_Deed) "names" = some none)
    (n_Deed_lows : PySem.W.findIn K (.ref C_Deed) "lows" = some none)
    (n_Deed_highs : PySem.W.findIn K (.ref C_Deed) "highs" = some none)
    (n_Deed_table : PySem.W.findIn K (.ref C_Deed) "table" = some none)
    (n_Deed_spots : PySem.W.findIn K (.ref C_Deed) "spots" = some none)
    (n_Deed_term : PySem.W.findIn K (.ref C_Deed) "term" = some none)
    (n_Deed_path : PySem.W.findIn K (.ref C_Deed) "path" = some none)
    (n_Program_size : PySem.W.findIn K (.ref C_Program) "size" = some none)
    (n_Program_deeds : PySem.W.findIn K (.ref C_Program) "deeds" = some none)
    (n_Draft_size : PySem.W.findIn K (.ref C_Draft) "size" = some none)
    (n_Draft_deeds : PySem.W.findIn K (.ref C_Draft) "deeds" = some none)
    (n_Draft_tables : PySem.W.findIn K (.ref C_Draft) "tables" = some none)
    (n_Draft_names : PySem.W.findIn K (.ref C_Draft) "names" = some none)
    (n_Draft_lows : PySem.W.findIn K (.ref C_Draft) "lows" = some none)
    (n_Draft_highs : PySem.W.findIn K (.ref C_Draft) "highs" = some none)
    (n_Draft_path : PySem.W.findIn K (.ref C_Draft) "path" = some none)
    (hn0 : PySem.W.specialIn K (.builtin "object.__class__") "__get__" = some (some (.builtin "getset_descriptor.__get__"))) (ht0 : PySem.W.takesIn K (.builtin "object.__class__") = some true)
    (ha_Number : PySem.W.findIn K (.ref C_Number) "__class__" = some (some (.builtin "object.__class__"))) (hm_Number : PySem.W.mroIn K C_Number (.type "object") = some true)
    (is_Number_Term : PySem.W.kitOne K (.ref C_Number) (.ref C_Term) = some true)
    (is_Number_Number : PySem.W.kitOne K (.ref C_Number) (.ref C_Number) = some true)
    (is_Number_Value : PySem.W.kitOne K (.ref C_Number) (.ref C_Value) = some false)
    (is_Number_Cell : PySem.W.kitOne K (.ref C_Number) (.ref C_Cell) = some false)
    (is_Number_Joined : PySem.W.kitOne K (.ref C_Number) (.ref C_Joined) = some false)
    (is_Number_Deed : PySem.W.kitOne K (.ref C_Number) (.ref C_Deed) = some false)
    (is_Number_Program : PySem.W.kitOne K (.ref C_Number) (.ref C_Program) = some false)
    (is_Number_Draft : PySem.W.kitOne K (.ref C_Number) (.ref C_Draft) = some false)
    (ha_Value : PySem.W.findIn K (.ref C_Value) "__class__" = some (some (.builtin "object.__class__"))) (hm_Value : PySem.W.mroIn K C_Value (.type "object") = some true)
    (is_Value_Term : PySem.W.kitOne K (.ref C_Value) (.ref C_Term) = some true)
    (is_Value_Number : PySem.W.kitOne K (.ref C_Value) (.ref C_Number) = some false)
    (is_Value_Value : PySem.W.kitOne K (.ref C_Value) (.ref C_Value) = some true)
    (is_Value_Cell : PySem.W.kitOne K (.ref C_Value) (.ref C_Cell) = some false)
    (is_Value_Joined : PySem.W.kitOne K (.ref C_Value) (.ref C_Joined) = some false)
    (is_Value_Deed : PySem.W.kitOne K (.ref C_Value) (.ref C_Deed) = some false)
    (is_Value_Program : PySem.W.kitOne K (.ref C_Value) (.ref C_Program) = some false)
    (is_Value_Draft : PySem.W.kitOne K (.ref C_Value) (.ref C_Draft) = some false)
    (ha_Cell : PySem.W.findIn K (.ref C_Cell) "__class__" = some (some (.builtin "object.__class__"))) (hm_Cell : PySem.W.mroIn K C_Cell (.type "object") = some true)
    (is_Cell_Term : PySem.W.kitOne K (.ref C_Cell) (.ref C_Term) = some true)
    (is_Cell_Number : PySem.W.kitOne K (.ref C_Cell) (.ref C_Number) = some false)
    (is_Cell_Value : PySem.W.kitOne K (.ref C_Cell) (.ref C_Value) = some false)
    (is_Cell_Cell : PySem.W.kitOne K (.ref C_Cell) (.ref C_Cell) = some true)
    (is_Cell_Joined : PySem.W.kitOne K (.ref C_Cell) (.ref C_Joined) = some false)
    (is_Cell_Deed : PySem.W.kitOne K (.ref C_Cell) (.ref C_Deed) = some false)
    (is_Cell_Program : PySem.W.kitOne K (.ref C_Cell) (.ref C_Program) = some false)
    (is_Cell_Draft : PySem.W.kitOne K (.ref C_Cell) (.ref C_Draft) = some false)
    (ha_Joined : PySem.W.findIn K (.ref C_Joined) "__class__" = some (some (.builtin "object.__class__"))) (hm_Joined : PySem.W.mroIn K C_Joined (.type "object") = some true)
    (is_Joined_Term : PySem.W.kitOne K (.ref C_Joined) (.ref C_Term) = some true)
    (is_Joined_Number : PySem.W.kitOne K (.ref C_Joined) (.ref C_Number) = some false)
    (is_Joined_Value : PySem.W.kitOne K (.ref C_Joined) (.ref C_Value) = some false)
    (is_Joined_Cell : PySem.W.kitOne K (.ref C_Joined) (.ref C_Cell) = some false)
    (is_Joined_Joined : PySem.W.kitOne K (.ref C_Joined) (.ref C_Joined) = some true)
    (is_Joined_Deed : PySem.W.kitOne K (.ref C_Joined) (.ref C_Deed) = some false)
    (is_Joined_Program : PySem.W.kitOne K (.ref C_Joined) (.ref C_Program) = some false)
    (is_Joined_Draft : PySem.W.kitOne K (.ref C_Joined) (.ref C_Draft) = some false)
    (is_str_Term : PySem.W.kitOne K (.type "str") (.ref C_Term) = some false)
    (is_str_Number : PySem.W.kitOne K (.type "str") (.ref C_Number) = some false)
    (is_str_Value : PySem.W.kitOne K (.type "str") (.ref C_Value) = some false)
    (is_str_Cell : PySem.W.kitOne K (.type "str") (.ref C_Cell) = some false)
    (is_str_Joined : PySem.W.kitOne K (.type "str") (.ref C_Joined) = some false)
    (is_str_Deed : PySem.W.kitOne K (.type "str") (.ref C_Deed) = some false)
    (is_str_Program : PySem.W.kitOne K (.type "str") (.ref C_Program) = some false)
    (is_str_Draft : PySem.W.kitOne K (.type "str") (.ref C_Draft) = some false)
    (ha_Deed : PySem.W.findIn K (.ref C_Deed) "__class__" = some (some (.builtin "object.__class__"))) (hm_Deed : PySem.W.mroIn K C_Deed (.type "object") = some true)
    (is_Deed_Term : PySem.W.kitOne K (.ref C_Deed) (.ref C_Term) = some false)
    (is_Deed_Number : PySem.W.kitOne K (.ref C_Deed) (.ref C_Number) = some false)
    (is_Deed_Value : PySem.W.kitOne K (.ref C_Deed) (.ref C_Value) = some false)
    (is_Deed_Cell : PySem.W.kitOne K (.ref C_Deed) (.ref C_Cell) = some false)
    (is_Deed_Joined : PySem.W.kitOne K (.ref C_Deed) (.ref C_Joined) = some false)
    (is_Deed_Deed : PySem.W.kitOne K (.ref C_Deed) (.ref C_Deed) = some true)
    (is_Deed_Program : PySem.W.kitOne K (.ref C_Deed) (.ref C_Program) = some false)
    (is_Deed_Draft : PySem.W.kitOne K (.ref C_Deed) (.ref C_Draft) = some false)
    (ha_Program : PySem.W.findIn K (.ref C_Program) "__class__" = some (some (.builtin "object.__class__"))) (hm_Program : PySem.W.mroIn K C_Program (.type "object") = some true)
    (is_Program_Term : PySem.W.kitOne K (.ref C_Program) (.ref C_Term) = some false)
    (is_Program_Number : PySem.W.kitOne K (.ref C_Program) (.ref C_Number) = some false)
    (is_Program_Value : PySem.W.kitOne K (.ref C_Program) (.ref C_Value) = some false)
    (is_Program_Cell : PySem.W.kitOne K (.ref C_Program) (.ref C_Cell) = some false)
    (is_Program_Joined : PySem.W.kitOne K (.ref C_Program) (.ref C_Joined) = some false)
    (is_Program_Deed : PySem.W.kitOne K (.ref C_Program) (.ref C_Deed) = some false)
    (is_Program_Program : PySem.W.kitOne K (.ref C_Program) (.ref C_Program) = some true)
    (is_Program_Draft : PySem.W.kitOne K (.ref C_Program) (.ref C_Draft) = some false)
    (ha_Draft : PySem.W.findIn K (.ref C_Draft) "__class__" = some (some (.builtin "object.__class__"))) (hm_Draft : PySem.W.mroIn K C_Draft (.type "object") = some true)
    (is_Draft_Term : PySem.W.kitOne K (.ref C_Draft) (.ref C_Term) = some false)
    (is_Draft_Number : PySem.W.kitOne K (.ref C_Draft) (.ref C_Number) = some false)
    (is_Draft_Value : PySem.W.kitOne K (.ref C_Draft) (.ref C_Value) = some false)
    (is_Draft_Cell : PySem.W.kitOne K (.ref C_Draft) (.ref C_Cell) = some false)
    (is_Draft_Joined : PySem.W.kitOne K (.ref C_Draft) (.ref C_Joined) = some false)
    (is_Draft_Deed : PySem.W.kitOne K (.ref C_Draft) (.ref C_Deed) = some false)
    (is_Draft_Program : PySem.W.kitOne K (.ref C_Draft) (.ref C_Program) = some false)
    (is_Draft_Draft : PySem.W.kitOne K (.ref C_Draft) (.ref C_Draft) = some true)
    (z_abs : PySem.W.nsIn K mainGlobals "abs" = some none)
    (z_all : PySem.W.nsIn K mainGlobals "all" = some none)
    (z_bool : PySem.W.nsIn K mainGlobals "bool" = some none)
    (z_enumerate : PySem.W.nsIn K mainGlobals "enumerate" = some none)
    (z_int : PySem.W.nsIn K mainGlobals "int" = some none)
    (z_isinstance : PySem.W.nsIn K mainGlobals "isinstance" = some none)
    (z_len : PySem.W.nsIn K mainGlobals "len" = some none)
    (z_list : PySem.W.nsIn K mainGlobals "list" = some none)
    (z_max : PySem.W.nsIn K mainGlobals "max" = some none)
    (z_range : PySem.W.nsIn K mainGlobals "range" = some none)
    (z_str : PySem.W.nsIn K mainGlobals "str" = some none)
    (z_tuple : PySem.W.nsIn K mainGlobals "tuple" = some none)
    (g_FIGURES : PySem.W.nsIn K mainGlobals "FIGURES" = some (some (.str "0123456789" t_FIGURES)))
    (g_LEAST_SIZE : PySem.W.nsIn K mainGlobals "LEAST_SIZE" = some (some (.int 2 t_LEAST_SIZE)))
    (g_LETTERS : PySem.W.nsIn K mainGlobals "LETTERS" = some (some (.str "abcdefghijklmnopqrstuvwxyz" t_LETTERS)))
    (g_MOST_DEEDS : PySem.W.nsIn K mainGlobals "MOST_DEEDS" = some (some (.int 6 t_MOST_DEEDS)))
    (g_MOST_FIGURES : PySem.W.nsIn K mainGlobals "MOST_FIGURES" = some (some (.int 18 t_MOST_FIGURES)))
    (g_MOST_LETTERS : PySem.W.nsIn K mainGlobals "MOST_LETTERS" = some (some (.int 8 t_MOST_LETTERS)))
    (g_MOST_LOOPS : PySem.W.nsIn K mainGlobals "MOST_LOOPS" = some (some (.int 3 t_MOST_LOOPS)))
    (g_MOST_SPOTS : PySem.W.nsIn K mainGlobals "MOST_SPOTS" = some (some (.int 3 t_MOST_SPOTS)))
    (g_ROW_WORDS : PySem.W.nsIn K mainGlobals "ROW_WORDS" = some (some (.ref u_ROW_WORDS)))
    (q_ROW_WORDS : K.lookup u_ROW_WORDS = some ⟨.type "tuple", e_ROW_WORDS, .seq #[.str "for" t_ROW_WORDS0, .str "end" t_ROW_WORDS1, .str "size" t_ROW_WORDS2] n_ROW_WORDS, b_ROW_WORDS⟩)
    (g_SIGNS : PySem.W.nsIn K mainGlobals "SIGNS" = some (some (.str "+-*()" t_SIGNS)))
    (g_STRENGTHS : PySem.W.nsIn K mainGlobals "STRENGTHS" = some (some (.ref u_STRENGTHS)))
    (q_STRENGTHS : K.lookup u_STRENGTHS = some ⟨.type "dict", none, .dict #[⟨h_STRENGTHS0, .str "(" k_STRENGTHS0, .int 0 s_STRENGTHS0⟩, ⟨h_STRENGTHS1, .str "+" k_STRENGTHS1, .int 1 s_STRENGTHS1⟩, ⟨h_STRENGTHS2, .str "-" k_STRENGTHS2, .int 1 s_STRENGTHS2⟩, ⟨h_STRENGTHS3, .str "*" k_STRENGTHS3, .int 2 s_STRENGTHS3⟩] n_STRENGTHS, #[]⟩)
    (hh_STRENGTHS0 : h_STRENGTHS0 = hashStr w "(")
    (hh_STRENGTHS1 : h_STRENGTHS1 = hashStr w "+")
    (hh_STRENGTHS2 : h_STRENGTHS2 = hashStr w "-")
    (hh_STRENGTHS3 : h_STRENGTHS3 = hashStr w "*")
    (qsm_STRENGTHS : (u_STRENGTHS == sysModules) = false) :
    ∃ a : Ad, Tx w K mg a ∧ fa = a.f_law ∧ (∀ (s : Shared) (v : Value), BindsTo s a.d_law ⟨[v], []⟩ [("_law_script", v)]) := by
  have e := hfa.symm.trans (PySem.W.mg_of X G h47.a)
  cases e
  obtain ⟨_, _, _, _, _, _, _, _, _, rfl, _⟩ := h47.F.ex
  exact ⟨⟨f1, d1, f2, d2, f3, d3, f4, d4, f5, d5, f6, d6, f7, d7, f8, d8, f9, d9, f10, d10, f11, d11, f12, d12, f13, d13, f14, d14, f15, d15, f16, d16, f17, d17, f18, d18, f19, d19, f20, d20, f21, d21, f22, d22, f23, d23, f24, d24, f25, d25, f26, d26, f27, d27, f28, d28, f29, d29, f30, d30, f31, d31, f32, d32, f33, d33, f34, d34, f35, d35, f36, d36, f37, d37, f38, d38, f39, d39, f40, d40, f41, d41, f42, d42, f43, d43, f44, d44, f45, d45, f46, d46, fa, _, C_Term, C_Number, C_Value, C_Cell, C_Joined, C_Deed, C_Program, C_Draft, .str "0123456789" t_FIGURES, .int 2 t_LEAST_SIZE, .str "abcdefghijklmnopqrstuvwxyz" t_LETTERS, .int 6 t_MOST_DEEDS, .int 18 t_MOST_FIGURES, .int 8 t_MOST_LETTERS, .int 3 t_MOST_LOOPS, .int 3 t_MOST_SPOTS, u_ROW_WORDS, .str "+-*()" t_SIGNS, u_STRENGTHS⟩, ⟨h1.F, 
    h1.F.binds bd_Number_init, 
    h2.F, 
    h2.F.binds bd_Value_init, 
    h3.F, 
    h3.F.binds bd_Cell_init, 
    h4.F, 
    h4.F.binds bd_Joined_init, 
    h5.F, 
    h5.F.binds bd_Deed_init, 
    h6.F, 
    h6.F.binds bd_Program_init, 
    h7.F, 
    h7.F.binds bd_made_of, 
    PySem.W.mg_of X G h7.a, 
    h8.F, 
    h8.F.binds bd_number_of, 
    PySem.W.mg_of X G h8.a, 
    h9.F, 
    h9.F.binds bd_is_name, 
    PySem.W.mg_of X G h9.a, 
    h10.F, 
    h10.F.binds bd_risen, 
    PySem.W.mg_of X G h10.a, 
    h11.F, 
    h11.F.binds bd_fallen, 
    PySem.W.mg_of X G h11.a, 
    h12.F, 
    h12.F.binds bd_spot_of, 
    PySem.W.mg_of X G h12.a, 
    h13.F, 
    h13.F.binds bd_bare_row, 
    PySem.W.mg_of X G h13.a, 
    h14.F, 
    h14.F.binds bd_words_of, 
    PySem.W.mg_of X G h14.a, 
    h15.F, 
    h15.F.binds bd_part_end, 
    PySem.W.mg_of X G h15.a, 
    h16.F, 
    h16.F.binds bd_cell_of, 
    PySem.W.mg_of X G h16.a, 
    h17.F, 
    h17.F.binds bd_part_of, 
    PySem.W.mg_of X G h17.a, 
    h18.F, 
    h18.F.binds bd_parts_of, 
    PySem.W.mg_of X G h18.a, 
    h19.F, 
    h19.F.binds bd_join_waiting, 
    PySem.W.mg_of X G h19.a, 
    h20.F, 
    h20.F.binds bd_term_of, 
    PySem.W.mg_of X G h20.a, 
    h21.F, 
    h21.F.binds bd_Draft_init, 
    h22.F, 
    h22.F.binds bd_spots_known, 
    PySem.W.mg_of X G h22.a, 
    h23.F, 
    h23.F.binds bd_names_known, 
    PySem.W.mg_of X G h23.a, 
    h24.F, 
    h24.F.binds bd_tables_kept, 
    PySem.W.mg_of X G h24.a, 
    h25.F, 
    h25.F.binds bd_deed_taken, 
    PySem.W.mg_of X G h25.a, 
    h26.F, 
    h26.F.binds bd_size_taken, 
    PySem.W.mg_of X G h26.a, 
    h27.F, 
    h27.F.binds bd_loop_taken, 
    PySem.W.mg_of X G h27.a, 
    h28.F, 
    h28.F.binds bd_end_taken, 
    PySem.W.mg_of X G h28.a, 
    h29.F, 
    h29.F.binds bd_taken, 
    PySem.W.mg_of X G h29.a, 
    h30.F, 
    h30.F.binds bd_read, 
    PySem.W.mg_of X G h30.a, 
    h31.F, 
    h31.F.binds bd_l_cell_at, 
    PySem.W.mg_of X G h31.a, 
    h32.F, 
    h32.F.binds bd_l_whole, 
    PySem.W.mg_of X G h32.a, 
    h33.F, 
    h33.F.binds bd_l_stream, 
    PySem.W.mg_of X G h33.a, 
    h34.F, 
    h34.F.binds bd_l_names, 
    PySem.W.mg_of X G h34.a, 
    h35.F, 
    h35.F.binds bd_l_number, 
    PySem.W.mg_of X G h35.a, 
    h36.F, 
    h36.F.binds bd_l_spot_text, 
    PySem.W.mg_of X G h36.a, 
    h37.F, 
    h37.F.binds bd_l_spot, 
    PySem.W.mg_of X G h37.a, 
    h38.F, 
    h38.F.binds bd_l_cell, 
    PySem.W.mg_of X G h38.a, 
    h39.F, 
    h39.F.binds bd_l_leaf, 
    PySem.W.mg_of X G h39.a, 
    h40.F, 
    h40.F.binds bd_l_spots, 
    PySem.W.mg_of X G h40.a, 
    h41.F, 
    h41.F.binds bd_l_same, 
    PySem.W.mg_of X G h41.a, 
    h42.F, 
    h42.F.binds bd_l_round, 
    PySem.W.mg_of X G h42.a, 
    h43.F, 
    h43.F.binds bd_l_both, 
    PySem.W.mg_of X G h43.a, 
    h44.F, 
    h44.F.binds bd_l_deep, 
    PySem.W.mg_of X G h44.a, 
    h45.F, 
    h45.F.binds bd_l_tree, 
    PySem.W.mg_of X G h45.a, 
    h46.F, 
    h46.F.binds bd_l_blank, 
    PySem.W.mg_of X G h46.a, 
    h47.F, 
    h47.F.binds bd_law, 
    PySem.W.mg_of X G h47.a, 
    ⟨a_Term.pg, a_Term.hd, a_Term.po, a_Term.sa⟩, 
    PySem.W.mg_of X G a_Term.a, 
    ⟨a_Number.pg, a_Number.hd, a_Number.po, a_Number.sa⟩, 
    PySem.W.mg_of X G a_Number.a, 
    ⟨a_Number.mi, h1.a, h1.i, a_Number.kc⟩, 
    n_Number_n, 
    ⟨a_Value.pg, a_Value.hd, a_Value.po, a_Value.sa⟩, 
    PySem.W.mg_of X G a_Value.a, 
    ⟨a_Value.mi, h2.a, h2.i, a_Value.kc⟩, 
    n_Value_name, 
    ⟨a_Cell.pg, a_Cell.hd, a_Cell.po, a_Cell.sa⟩, 
    PySem.W.mg_of X G a_Cell.a, 
    ⟨a_Cell.mi, h3.a, h3.i, a_Cell.kc⟩, 
    n_Cell_table, 
    n_Cell_spots, 
    ⟨a_Joined.pg, a_Joined.hd, a_Joined.po, a_Joined.sa⟩, 
    PySem.W.mg_of X G a_Joined.a, 
    ⟨a_Joined.mi, h4.a, h4.i, a_Joined.kc⟩, 
    n_Joined_sign, 
    n_Joined_left, 
    n_Joined_right, 
    ⟨a_Deed.pg, a_Deed.hd, a_Deed.po, a_Deed.sa⟩, 
    PySem.W.mg_of X G a_Deed.a, 
    ⟨a_Deed.mi, h5.a, h5.i, a_Deed.kc⟩, 
    n_Deed_names, 
    n_Deed_lows, 
    n_Deed_highs, 
    n_Deed_table, 
    n_Deed_spots, 
    n_Deed_term, 
    n_Deed_path, 
    ⟨a_Program.pg, a_Program.hd, a_Program.po, a_Program.sa⟩, 
    PySem.W.mg_of X G a_Program.a, 
    ⟨a_Program.mi, h6.a, h6.i, a_Program.kc⟩, 
    n_Program_size, 
    n_Program_deeds, 
    ⟨a_Draft.pg, a_Draft.hd, a_Draft.po, a_Draft.sa⟩, 
    PySem.W.mg_of X G a_Draft.a, 
    ⟨a_Draft.mi, h21.a, h21.i, a_Draft.kc⟩, 
    n_Draft_size, 
    n_Draft_deeds, 
    n_Draft_tables, 
    n_Draft_names, 
    n_Draft_lows, 
    n_Draft_highs, 
    n_Draft_path, 
    fun H x dx fs e => .ins e ⟨a_Number.pg, a_Number.hd, a_Number.po, a_Number.sa⟩ ha_Number hn0 ht0 hm_Number, 
    is_Number_Term, 
    is_Number_Number, 
    is_Number_Value, 
    is_Number_Cell, 
    is_Number_Joined, 
    is_Number_Deed, 
    is_Number_Program, 
    is_Number_Draft, 
    fun H x dx fs e => .ins e ⟨a_Value.pg, a_Value.hd, a_Value.po, a_Value.sa⟩ ha_Value hn0 ht0 hm_Value, 
    is_Value_Term, 
    is_Value_Number, 
    is_Value_Value, 
    is_Value_Cell, 
    is_Value_Joined, 
    is_Value_Deed, 
    is_Value_Program, 
    is_Value_Draft, 
    fun H x dx fs e => .ins e ⟨a_Cell.pg, a_Cell.hd, a_Cell.po, a_Cell.sa⟩ ha_Cell hn0 ht0 hm_Cell, 
    is_Cell_Term, 
    is_Cell_Number, 
    is_Cell_Value, 
    is_Cell_Cell, 
    is_Cell_Joined, 
    is_Cell_Deed, 
    is_Cell_Program, 
    is_Cell_Draft, 
    fun H x dx fs e => .ins e ⟨a_Joined.pg, a_Joined.hd, a_Joined.po, a_Joined.sa⟩ ha_Joined hn0 ht0 hm_Joined, 
    is_Joined_Term, 
    is_Joined_Number, 
    is_Joined_Value, 
    is_Joined_Cell, 
    is_Joined_Joined, 
    is_Joined_Deed, 
    is_Joined_Program, 
    is_Joined_Draft, 
    is_str_Term, 
    is_str_Number, 
    is_str_Value, 
    is_str_Cell, 
    is_str_Joined, 
    is_str_Deed, 
    is_str_Program, 
    is_str_Draft, 
    fun H x dx fs e => .ins e ⟨a_Deed.pg, a_Deed.hd, a_Deed.po, a_Deed.sa⟩ ha_Deed hn0 ht0 hm_Deed, 
    is_Deed_Term, 
    is_Deed_Number, 
    is_Deed_Value, 
    is_Deed_Cell, 
    is_Deed_Joined, 
    is_Deed_Deed, 
    is_Deed_Program, 
    is_Deed_Draft, 
    fun H x dx fs e => .ins e ⟨a_Program.pg, a_Program.hd, a_Program.po, a_Program.sa⟩ ha_Program hn0 ht0 hm_Program, 
    is_Program_Term, 
    is_Program_Number, 
    is_Program_Value, 
    is_Program_Cell, 
    is_Program_Joined, 
    is_Program_Deed, 
    is_Program_Program, 
    is_Program_Draft, 
    fun H x dx fs e => .ins e ⟨a_Draft.pg, a_Draft.hd, a_Draft.po, a_Draft.sa⟩ ha_Draft hn0 ht0 hm_Draft, 
    is_Draft_Term, 
    is_Draft_Number, 
    is_Draft_Value, 
    is_Draft_Cell, 
    is_Draft_Joined, 
    is_Draft_Deed, 
    is_Draft_Program, 
    is_Draft_Draft, 
    PySem.W.mg_none_of X G z_abs, 
    PySem.W.mg_none_of X G z_all, 
    PySem.W.mg_none_of X G z_bool, 
    PySem.W.mg_none_of X G z_enumerate, 
    PySem.W.mg_none_of X G z_int, 
    PySem.W.mg_none_of X G z_isinstance, 
    PySem.W.mg_none_of X G z_len, 
    PySem.W.mg_none_of X G z_list, 
    PySem.W.mg_none_of X G z_max, 
    PySem.W.mg_none_of X G z_range, 
    PySem.W.mg_none_of X G z_str, 
    PySem.W.mg_none_of X G z_tuple, 
    PySem.W.mg_of X G g_FIGURES, 
    ⟨_, rfl⟩, 
    PySem.W.mg_of X G g_LEAST_SIZE, 
    ⟨_, rfl⟩, 
    PySem.W.mg_of X G g_LETTERS, 
    ⟨_, rfl⟩, 
    PySem.W.mg_of X G g_MOST_DEEDS, 
    ⟨_, rfl⟩, 
    PySem.W.mg_of X G g_MOST_FIGURES, 
    ⟨_, rfl⟩, 
    PySem.W.mg_of X G g_MOST_LETTERS, 
    ⟨_, rfl⟩, 
    PySem.W.mg_of X G g_MOST_LOOPS, 
    ⟨_, rfl⟩, 
    PySem.W.mg_of X G g_MOST_SPOTS, 
    ⟨_, rfl⟩, 
    PySem.W.mg_of X G g_ROW_WORDS, 
    rfl, 
    fun H => .inr ⟨_, _, _, q_ROW_WORDS, rfl, rfl, szl (by show 3 ≤ 1000000; decide), (.cons ⟨_, rfl⟩ (.cons ⟨_, rfl⟩ (.cons ⟨_, rfl⟩ .nil)))⟩, 
    PySem.W.mg_of X G g_SIGNS, 
    ⟨_, rfl⟩, 
    PySem.W.mg_of X G g_STRENGTHS, 
    rfl, 
    fun P => kdict4s q_STRENGTHS hh_STRENGTHS0 hh_STRENGTHS1 hh_STRENGTHS2 hh_STRENGTHS3 qsm_STRENGTHS (by decide +kernel)⟩, rfl, fun s v => .of_eq rfl⟩
end Fw
open PySem PySem.W PyProof.Rows
namespace PySem.W.Fast
def tw10039876514236700204 := True
def tw10066972614413161408 := True
def tw10099196179505216573 := True
def tw10148767016032612656 := True
def tw10177543792695108178 := True
def tw10194903883221644705 := True
def tw10223033021911137391 := True
def tw10245116407769942327 := True
def tw10251897455945650653 := True
def tw10251977223056160685 := True
def tw10270091873263947138 := True
def tw10276405407791443428 := True
def tw1033855768877085932 := True
def tw1034042877870449225 := True
def tw10402057128992509924 := True
def tw10560096544151157755 := True
def tw10603392294580290031 := True
def tw10612835098787747227 := True
def tw10685665215817824519 := True
def tw10688949825496190036 := True
def tw10695659312187080312 := True
def tw10802597588098075124 := True
def tw10802843356165214305 := True
def tw10842061718586296003 := True
def tw10843318399398595585 := True
def tw10909206944701627036 := True
def tw1091022369636932848 := True
def tw10941092117777885678 := True
def tw10950543037202286054 := True
def tw10964313268137220483 := True
def tw10977804644718517270 := True
def tw11012782584357141955 := True
def tw11027283906479289799 := True
def tw11046758587426898850 := True
def tw11053810396041492811 := True
def tw11084845787266458842 := True
def tw11116782587951940726 := True
def tw11187358936738543098 := True
def tw11215591004488303391 := True
def tw11222893185637190786 := True
def tw11243758673167619738 := True
def tw11291782980380185071 := True
def tw11295235895060600017 := True
def tw11296724140633578310 := True
def tw11326635578938515222 := True
def tw11328442524187651026 := True
def tw11389423711912098172 := True
def tw11401650512789953126 := True
def tw11439235985893674812 := True
def tw11450491983815393351 := True
def tw11453001084663092366 := True
def tw11478738367080538535 := True
def tw11480478335200613802 := True
def tw11511350648842653574 := True
def tw11526367865939564455 := True
def tw11581385597142155173 := True
def tw11584687788791334054 := True
def tw11596891869821908731 := True
def tw11604289952317518097 := True
def tw11615842912513501732 := True
def tw11666334947620576283 := True
def tw11715632368493911033 := True
def tw11722572010310906887 := True
def tw11759727299257794892 := True
def tw11791298243344210887 := True
def tw11814408550325090239 := True
def tw11834130640456324434 := True
def tw11960774653009321733 := True
def tw11990645068458738660 := True
def tw12007618450633866377 := True
def tw12061736627496291949 := True
def tw12092523081479860030 := True
def tw1212292227648245644 := True
def tw12135732165803796381 := True
def tw12191802376003646101 := True
def tw12207995112512612446 := True
def tw1222953869449537480 := True
def tw12262532391052092817 := True
def tw12299000158671422609 := True
def tw12372652915546430768 := True
def tw12373731791831590854 := True
def tw12382624773177023645 := True
def tw12392180711070447170 := True
def tw1240368881516136211 := True
def tw12438697923046705708 := True
def tw12492438973453161267 := True
def tw1249947504357258905 := True
def tw12580290515064253186 := True
def tw12662382063347575917 := True
def tw12691165061504917051 := True
def tw12819066728415217492 := True
def tw12830348746254509836 := True
def tw12856034828714610889 := True
def tw12876845432209345616 := True
def tw12907600845024004377 := True
def tw12959109614489536356 := True
def tw13037849289923794860 := True
def tw13089684483312 := True
def tw13102145030266860333 := True
def tw1319972575178176204 := True
def tw13251878052252698954 := True
def tw13284120654779661776 := True
def tw1336674461989163661 := True
def tw13403456001282850981 := True
def tw13419306908979169732 := True
def tw13445697952839563687 := True
def tw1347303504869245529 := True
def tw13508919012440505643 := True
def tw13613172591611923949 := True
def tw13621388806445750336 := True
def tw13657090468340991999 := True
def tw13690251555419553877 := True
def tw13694754794602686824 := True
def tw13701108079046901871 := True
def tw13770047624272035378 := True
def tw13774692171974610540 := True
def tw13780696066863905721 := True
def tw13797415708087504016 := True
def tw13801424501071829255 := True
def tw13830439289513269672 := True
def tw13847472382867889062 := True
def tw13860185260634094593 := True
def tw13928216652135511225 := True
def tw13929754806781510333 := True
def tw1393119006852779364 := True
def tw13969277645718535013 := True
def tw13980919018680917410 := True
def tw13999567072947135728 := True
def tw13999913810891250701 := True
def tw14035239784228564807 := True
def tw14076736958434733058 := True
def tw14107569783869034051 := True
def tw14238564357096780597 := True
def tw14249785685908091925 := True
def tw14270747361942582399 := True
def tw14278756006447324355 := True
def tw14307310073055029134 := True
def tw14315537694393927747 := True
def tw14322769169870086771 := True
def tw14325802247142420451 := True
def tw143659718598164021 := True
def tw14382243417796879794 := True
def tw14398795765781456714 := True
def tw14427796999205466361 := True
def tw14446387197262560919 := True
def tw14448054248386412941 := True
def tw14448480878602248605 := True
def tw14458960862604162102 := True
def tw14469598278167281476 := True
def tw14520807435571872514 := True
def tw14536376020062161030 := True
def tw14567320829063683498 := True
def tw14608308488369460067 := True
def tw14628504116778429647 := True
def tw14637650965614750802 := True
def tw14700952030832652174 := True
def tw14706544582967802899 := True
def tw14709862426662758717 := True
def tw14751322093454354812 := True
def tw14760470351154130888 := True
def tw14902961353269844614 := True
def tw14903436775959864022 := True
def tw14961702842441685150 := True
def tw14979720171590665834 := True
def tw15028691740851521082 := True
def tw15031009215650893352 := True
def tw15035439300013334065 := True
def tw15091239869901205329 := True
def tw15120417290554844348 := True
def tw15135903806821715313 := True
def tw1517122457968409109 := True
def tw15175192302696546898 := True
def tw15188155728888669421 := True
def tw15195614262426708278 := True
def tw15244715044511948690 := True
def tw15293148799375988309 := True
def tw15419566669054034980 := True
def tw15426733016014776356 := True
def tw15550497388005260328 := True
def tw15557091949642092680 := True
def tw1559573966073177770 := True
def tw15608811998565951433 := True
def tw1561370698127747265 := True
def tw15636820114233165767 := True
def tw15653394212757186745 := True
def tw15795337427118682937 := True
def tw15811669341479244062 := True
def tw15836567163589026147 := True
def tw15838322317822072876 := True
def tw1586667689390581763 := True
def tw15884967771812125945 := True
def tw15918499883151719379 := True
def tw15960206147674855395 := True
def tw15967585361411209972 := True
def tw15986960354670713469 := True
def tw16029493849607641320 := True
def tw16029758108625931996 := True
def tw16051546047665888294 := True
def tw16060912746898040226 := True
def tw16073911741529658353 := True
def tw16120984911656268986 := True
def tw16186967685220668405 := True
def tw16191068053895029397 := True
def tw16198927000839093027 := True
def tw16223390953807542617 := True
def tw16273579710916865415 := True
def tw16285392464521485034 := True
def tw16298590516172909785 := True
def tw16323718877890254599 := True
def tw16336748181848985296 := True
def tw16390836076623864440 := True
def tw16425502708477832154 := True
def tw16486829340585986816 := True
def tw16538714407748726715 := True
def tw16694416134318860371 := True
def tw16794240261433048046 := True
def tw1683211216346702925 := True
def tw16843052289847834175 := True
def tw16850438644128988831 := True
def tw16853798878652257109 := True
def tw16856029375520140400 := True
def tw16887395464181095214 := True
def tw16918049048741420659 := True
def tw16955392720110234862 := True
def tw16957980665423513907 := True
def tw16978893178504647454 := True
def tw17012466466665813126 := True
def tw17035536232850975945 := True
def tw17068051750086819833 := True
def tw17070796901134902121 := True
def tw17074250525285758022 := True
def tw17157679731839945095 := True
def tw1719474742414524647 := True
def tw17233772946930735862 := True
def tw17245825973355970340 := True
def tw1726905968077517358 := True
def tw17319844697050434325 := True
def tw17332945480808960907 := True
def tw17341237698825740921 := True
def tw1738232015137068338 := True
def tw17432801706771031398 := True
def tw17449399706187944596 := True
def tw17523920494667720282 := True
def tw17579163897485923309 := True
def tw17591825644315663887 := True
def tw17623408264091744649 := True
def tw17676382038725044459 := True
def tw17695316243467174573 := True
def tw17865245394025860158 := True
def tw17980410434548490860 := True
def tw17997090254991310324 := True
def tw17998563308643763658 := True
def tw18000514901326063885 := True
def tw18026458739852472187 := True
def tw18049092993997125388 := True
def tw18155958364821066568 := True
def tw18159780193712103659 := True
def tw18221590327756865745 := True
def tw18248883499011903163 := True
def tw18282721573724757935 := True
def tw18284333622284206663 := True
def tw18358480953049063446 := True
def tw18400152211925993135 := True
def tw18445945024470075152 := True
def tw1866735910166191321 := True
def tw1885858444798846491 := True
def tw1973676265595280458 := True
def tw1982811328442542231 := True
def tw208640548356606706 := True
def tw2101813491534856009 := True
def tw2129320134911636129 := True
def tw2147919523653216082 := True
def tw217290569345299538 := True
def tw2179064961562118398 := True
def tw2201474015192120696 := True
def tw2227433187062697491 := True
def tw2353651663170987726 := True
def tw2404124533361363682 := True
def tw2442409559106376219 := True
def tw2451173103924016535 := True
def tw2458614986551254080 := True
def tw2474079122370821099 := True
def tw2495808950264424923 := True
def tw2500783436605937063 := True
def tw2515357313421886259 := True
def tw2537104674462322626 := True
def tw2537286153803828154 := True
def tw2593911974058903620 := True
def tw2606923748192277492 := True
def tw2658028454076070527 := True
def tw2732368983117048866 := True
def tw2803564225947264931 := True
def tw2808826889694044722 := True
def tw2858056697108871064 := True
def tw2878589143063706322 := True
def tw2964305782791928930 := True
def tw3020611803303033640 := True
def tw3060377928560282540 := True
def tw3123189430514750367 := True
def tw3123572627213902424 := True
def tw3143176897910742142 := True
def tw3158457949621481325 := True
def tw3188672636348787274 := True
def tw3208338510262053506 := True
def tw3275640537861636651 := True
def tw3317960984282099902 := True
def tw341210700021566782 := True
def tw3421557817616136658 := True
def tw3432770802029697303 := True
def tw3472497110628979016 := True
def tw347956646923680010 := True
def tw3491335876019852278 := True
def tw355939040861938524 := True
def tw3561450655613047160 := True
def tw3789061943994776039 := True
def tw3789785156209783661 := True
def tw38123501105581381 := True
def tw3814115101826171825 := True
def tw3835416894005596699 := True
def tw3896363893202869957 := True
def tw394919323951796484 := True
def tw3965402789048912069 := True
def tw4145002746262304672 := True
def tw4156556240343604950 := True
def tw4166364622978245520 := True
def tw419026617616994106 := True
def tw4208241313152691778 := True
def tw4222576552091539826 := True
def tw4330486002404121642 := True
def tw434056494888761528 := True
def tw4372475717435169027 := True
def tw4394960462252181659 := True
def tw4418556604305897955 := True
def tw4580914987712746037 := True
def tw4636459781959021263 := True
def tw4644248849537418235 := True
def tw4671596104042651757 := True
def tw4677128113210330806 := True
def tw4730201311818054795 := True
def tw4771911677892702875 := True
def tw4795147581035356361 := True
def tw4881302867425789984 := True
def tw4924668934830963271 := True
def tw4973514003284153234 := True
def tw5027135044273894837 := True
def tw5036928725168812587 := True
def tw5049906722407679846 := True
def tw5063483874561182098 := True
def tw5127931991625123340 := True
def tw5174974219272696921 := True
def tw5203599316333139447 := True
def tw5214315565441929942 := True
def tw5229404291625344593 := True
def tw5364639276070986041 := True
def tw5378239647191338454 := True
def tw5381382619545234213 := True
def tw5401485096200903194 := True
def tw5458702685416890556 := True
def tw5491118080048960240 := True
def tw5502428503057378310 := True
def tw5521905920171978708 := True
def tw5569669745341856494 := True
def tw5651614166391947702 := True
def tw5712299412191241376 := True
def tw5733203737059247939 := True
def tw5784147096147519164 := True
def tw5791816436233531111 := True
def tw5818871977357972773 := True
def tw582944171309357229 := True
def tw5852064523571635178 := True
def tw5917933301404016593 := True
def tw5925154633092171743 := True
def tw595755950505086522 := True
def tw5988605554231097717 := True
def tw6029271736967345816 := True
def tw6074547765040474822 := True
def tw609300203180630245 := True
def tw6170452139510601467 := True
def tw6180713032270604519 := True
def tw6223959062290603656 := True
def tw6227192663548457838 := True
def tw6245563797484560874 := True
def tw633098050930712229 := True
def tw6353647569555676010 := True
def tw638914843717157438 := True
def tw6391299494605484003 := True
def tw6402705701249076969 := True
def tw6428534206462601563 := True
def tw651274635432236211 := True
def tw6533390924078822264 := True
def tw6637590352104578491 := True
def tw6712822781476727866 := True
def tw6739476034995346305 := True
def tw6755832730850404360 := True
def tw6790583434534762213 := True
def tw6799689330876864893 := True
def tw6841061572358493782 := True
def tw6872100870385116724 := True
def tw6888417783547176023 := True
def tw6944043128140879820 := True
def tw6944650925083030244 := True
def tw6962776473723528250 := True
def tw7003433328166271422 := True
def tw7109353759358762580 := True
def tw7135079519591006106 := True
def tw7207770944554253262 := True
def tw7212897712494037435 := True
def tw7259748300081854854 := True
def tw728690749365883869 := True
def tw7300225223921656330 := True
def tw7303793253293170072 := True
def tw7340644019087166661 := True
def tw7365339897332572710 := True
def tw7393516764162808508 := True
def tw745445805931601307 := True
def tw7458018701058849978 := True
def tw7463457285739091430 := True
def tw7550469673245693371 := True
def tw7604284766593090238 := True
def tw7608385973789533800 := True
def tw7615778637318944262 := True
def tw7619804999857092792 := True
def tw7739475396092493671 := True
def tw7741786427789223977 := True
def tw7759882287607272200 := True
def tw7768375430171150127 := True
def tw7811431639777942899 := True
def tw7845305057627041849 := True
def tw791003271675507037 := True
def tw7943598756517575964 := True
def tw8032000375352147027 := True
def tw8053759523442611897 := True
def tw8058444683359252993 := True
def tw8097152395282230347 := True
def tw8099056154985761830 := True
def tw815273558090810739 := True
def tw8154844143818126869 := True
def tw817759133896252318 := True
def tw8224960972518199168 := True
def tw8261442969691648419 := True
def tw8266975928115679030 := True
def tw8299721536903291291 := True
def tw8354165858677103512 := True
def tw8395266667215118474 := True
def tw8399293189999595372 := True
def tw8403045901088143650 := True
def tw849210605246489428 := True
def tw8494915965917702600 := True
def tw8516483591477485719 := True
def tw8527967670372569751 := True
def tw854308081656786634 := True
def tw8576449485168748568 := True
def tw8630574793373130268 := True
def tw8698283784333578466 := True
def tw8709914108544071521 := True
def tw8712850494329669215 := True
def tw8718430312127755377 := True
def tw8747234275081475807 := True
def tw8774245169264885904 := True
def tw8791322533859415648 := True
def tw8855002616610522401 := True
def tw888505926155591512 := True
def tw8893790013690780346 := True
def tw8930412400723214765 := True
def tw8937080254197647775 := True
def tw8956131325243942584 := True
def tw8974878080278996869 := True
def tw8986879816026046843 := True
def tw9033010400202586621 := True
def tw9058272246053632992 := True
def tw9081397474237978092 := True
def tw9085591296178290355 := True
def tw9085816740640720231 := True
def tw9088026115118536606 := True
def tw9125052150898765412 := True
def tw9135086112062804504 := True
def tw9136524164679180558 := True
def tw9148418676265445917 := True
def tw9155395703181630931 := True
def tw9159000738367894917 := True
def tw9176862202691427485 := True
def tw9178219084101786699 := True
def tw9193885501801225932 := True
def tw919668462441960779 := True
def tw9231818570620346757 := True
def tw9239638067795841257 := True
def tw9251287793513842579 := True
def tw9255154383940589647 := True
def tw9278665264901949453 := True
def tw9334016119230058307 := True
def tw9337749270792864212 := True
def tw9379490807553814319 := True
def tw9418389817163821211 := True
def tw9450055124992790752 := True
def tw9457388294316150974 := True
def tw9486603868952423325 := True
def tw9610536660653975216 := True
def tw9617840664247686662 := True
def tw96385585623554425 := True
def tw9688019783513480154 := True
def tw9750423244784111674 := True
def tw9783442828535022376 := True
def tw9804036267914819520 := True
def tw9829156059387192220 := True
def tw9863026198031668697 := True
def tw9935234197159155718 := True
def tw9943278702984200297 := True
end PySem.W.Fast
set_option maxRecDepth 100000 in
set_option maxHeartbeats 0 in
theorem PySem.Challenge.cw_furrow_k23_terms_read_holds : PySem.Challenge.rw_furrow_k23_terms_read.Holds := by
  w_on; o_law; k_head; (case hw => w_witness2)
  k_fill
  refine L2.law_walk (l := PySem.Challenge.rw_furrow_k23_terms_read) (x := "_law_script") 90 (by decide) rfl rfl (fun w h Y => PySem.W.kIn_of Y) ?F
  case F =>
    intro w mg fa h KX G hmg
    suffices hh : ∃ a : Fw.Ad, Fw.Tx w _ mg a ∧ fa = a.f_law ∧ (∀ (s : Shared) (v : Value), BindsTo s a.d_law ⟨[v], []⟩ [("_law_script", v)]) by
      obtain ⟨a, T, e, b⟩ := hh
      subst e
      exact ⟨a.d_law, b, fun base _ _ => Fw.ok_law T⟩
    refine' Fw.txt_mk KX G hmg ?a_Term ?a_Number ?a_Value ?a_Cell ?a_Joined ?a_Deed ?a_Program ?a_Draft ?h1 ?h2 ?h3 ?h4 ?h5 ?h6 ?h7 ?h8 ?h9 ?h10 ?h11 ?h12 ?h13 ?h14 ?h15 ?h16 ?h17 ?h18 ?h19 ?h20 ?h21 ?h22 ?h23 ?h24 ?h25 ?h26 ?h27 ?h28 ?h29 ?h30 ?h31 ?h32 ?h33 ?h34 ?h35 ?h36 ?h37 ?h38 ?h39 ?h40 ?h41 ?h42 ?h43 ?h44 ?h45 ?h46 ?h47 ?n_Number_n ?n_Value_name ?n_Cell_table ?n_Cell_spots ?n_Joined_sign ?n_Joined_left ?n_Joined_right ?n_Deed_names ?n_Deed_lows ?n_Deed_highs ?n_Deed_table ?n_Deed_spots ?n_Deed_term ?n_Deed_path ?n_Program_size ?n_Program_deeds ?n_Draft_size ?n_Draft_deeds ?n_Draft_tables ?n_Draft_names ?n_Draft_lows ?n_Draft_highs ?n_Draft_path ?hn0 ?ht0 ?ha_Number ?hm_Number ?is_Number_Term ?is_Number_Number ?is_Number_Value ?is_Number_Cell ?is_Number_Joined ?is_Number_Deed ?is_Number_Program ?is_Number_Draft ?ha_Value ?hm_Value ?is_Value_Term ?is_Value_Number ?is_Value_Value ?is_Value_Cell ?is_Value_Joined ?is_Value_Deed ?is_Value_Program ?is_Value_Draft ?ha_Cell ?hm_Cell ?is_Cell_Term ?is_Cell_Number ?is_Cell_Value ?is_Cell_Cell ?is_Cell_Joined ?is_Cell_Deed ?is_Cell_Program ?is_Cell_Draft ?ha_Joined ?hm_Joined ?is_Joined_Term ?is_Joined_Number ?is_Joined_Value ?is_Joined_Cell ?is_Joined_Joined ?is_Joined_Deed ?is_Joined_Program ?is_Joined_Draft ?is_str_Term ?is_str_Number ?is_str_Value ?is_str_Cell ?is_str_Joined ?is_str_Deed ?is_str_Program ?is_str_Draft ?ha_Deed ?hm_Deed ?is_Deed_Term ?is_Deed_Number ?is_Deed_Value ?is_Deed_Cell ?is_Deed_Joined ?is_Deed_Deed ?is_Deed_Program ?is_Deed_Draft ?ha_Program ?hm_Program ?is_Program_Term ?is_Program_Number ?is_Program_Value ?is_Program_Cell ?is_Program_Joined ?is_Program_Deed ?is_Program_Program ?is_Program_Draft ?ha_Draft ?hm_Draft ?is_Draft_Term ?is_Draft_Number ?is_Draft_Value ?is_Draft_Cell ?is_Draft_Joined ?is_Draft_Deed ?is_Draft_Program ?is_Draft_Draft ?z_abs ?z_all ?z_bool ?z_enumerate ?z_int ?z_isinstance ?z_len ?z_list ?z_max ?z_range ?z_str ?z_tuple ?g_FIGURES ?g_LEAST_SIZE ?g_LETTERS ?g_MOST_DEEDS ?g_MOST_FIGURES ?g_MOST_LETTERS ?g_MOST_LOOPS ?g_MOST_SPOTS ?g_ROW_WORDS ?q_ROW_WORDS ?g_SIGNS ?g_STRENGTHS ?q_STRENGTHS ?hh_STRENGTHS0 ?hh_STRENGTHS1 ?hh_STRENGTHS2 ?hh_STRENGTHS3 ?qsm_STRENGTHS
    any_goals first | refine' ⟨?_, L2.fun_mk ?_ ?_ ?_⟩ | refine' ⟨?_, ?_, L2.fun_mk ?_ ?_ ?_⟩ | refine' Fw.ClA.mk ?_ ?_ ?_ ?_ ?_ ?_ ?_
    any_goals first | k_is | kit_is | exact rfl | kernel_rfl | decide
#print axioms PySem.Challenge.cw_furrow_k23_terms_read_holds
