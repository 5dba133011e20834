import PyProof.Rows.All
import Wide.All
import OpenK.AllK
import Wide.FinOn
import Lean
import PyProof.EqAt
import PyProof.EqKinds
import PyProof.TupleCall
import PyProof.ListMulRoad
import KE.KNest
import KE.KLam
import KE.KSortKey
import PyProof.ListRange
import PyProof.TupleOfSeq
import PySem.Challenge.RW_furrow_k13_cells_from_left_to_right
set_option Elab.async false
set_option linter.all false
set_option maxRecDepth 100000
set_option maxHeartbeats 4000000
namespace EX
open PySem PySem.Spec PyProof.Rows

section
variable {M : Model} {A : Around} {E : Value → Shared → Prop} {s : Shared}

end
end EX

set_option Elab.async false
set_option linter.all false
set_option maxRecDepth 100000
set_option maxHeartbeats 4000000
namespace EX
open PySem PySem.Spec PyProof.Rows

section
variable {M : Model} {A : Around} {E : Value → Shared → Prop} {s : Shared} {env : Env}

end
end EX

set_option Elab.async false
set_option linter.all false
set_option maxRecDepth 100000
set_option maxHeartbeats 4000000
namespace EX
open PySem PySem.Spec PySem.Calls PyProof.Rows

section
variable {prog : Program} {w : World} {A : Around} {h : Heap} {g : Array GenState} {d : Drawn} {t : Nat} {os : OsState} {R : Result → Shared → Prop}
variable {nm q : Str} {C N : Addr} {bs bm bmB : List Value} {hdct : Bool} {sn : List Str} {sub : List Value} {ab : Bool} {col : Option Bool} {dd : Option Addr} {k0 k1 k2 k3 k5 : Option Value} {B newId initId : String}

end
end EX

set_option Elab.async false
set_option linter.all false
set_option maxRecDepth 100000
set_option maxHeartbeats 4000000
namespace EX
open PySem PySem.Spec PySem.Calls PyProof.Rows PySem.W PySem.Builtin PySem.Builtin.ObjectAttr

section
variable {prog : Program} {w : World} {A : Around} {E : Value → Shared → Prop} {s : Shared} {K : Frag} {x C : Addr} {ox : Obj} {od : Option Obj} {name : Str} {expr : Bool}

end
end EX

set_option Elab.async false
set_option linter.all false
set_option maxRecDepth 100000
set_option maxHeartbeats 4000000
namespace EX
open PySem PySem.Spec PySem.Calls PyProof.Rows PySem.W PySem.Builtin PySem.Builtin.ObjectAttr

section
variable {prog : Program} {w : World} {A : Around} {E : Value → Shared → Prop} {s : Shared} {K : Frag} {x C : Addr} {ox : Obj} {od : Option Obj}

end
end EX

set_option Elab.async false
set_option linter.all false
set_option maxRecDepth 100000
namespace L2
open PySem PySem.Spec PyProof.Rows

noncomputable abbrev Key := Sum Int Str
noncomputable def keyIs : Key → Value → Bool
  | .inl k, v => Value.isInt k v
  | .inr x, v => Value.isStrOf x v
noncomputable def keyH (w : World) : Key → Int
  | .inl k => hashInt k
  | .inr x => hashStr w x
theorem keyIs_shape : ∀ {k : Key} {v : Value}, keyIs k v = true → (∃ i t, k = Sum.inl i ∧ v = Value.int i t) ∨ (∃ x t, k = Sum.inr x ∧ v = Value.str x t)
  | .inl i, v, h => by
    obtain ⟨t, e⟩ := Value.isInt_shape (k := i) (v := v) h
    exact .inl ⟨i, t, rfl, e⟩
  | .inr x, v, h => by
    obtain ⟨t, e⟩ := Value.isStrOf_shape (x := x) (v := v) h
    exact .inr ⟨x, t, rfl, e⟩
theorem keyIs_int (i : Int) (t : Tok) : keyIs (.inl i) (.int i t) = true := by simp [keyIs, Value.isInt]
theorem keyIs_str (x : Str) (t : Tok) : keyIs (.inr x) (.str x t) = true := by simp [keyIs, Value.isStrOf]
theorem key_ll (a b : Int) : decide ((Sum.inl a : Key) = Sum.inl b) = (a == b) := by
  by_cases e : a = b
  · subst e; simp
  · have h : ¬ (Sum.inl a : Key) = Sum.inl b := fun q => e (Sum.inl.inj q)
    rw [decide_eq_false h]
    exact (beq_eq_false_iff_ne.mpr e).symm
theorem key_rr (a b : Str) : decide ((Sum.inr a : Key) = Sum.inr b) = decide (a = b) := by
  by_cases e : a = b
  · subst e; simp
  · have h : ¬ (Sum.inr a : Key) = Sum.inr b := fun q => e (Sum.inr.inj q)
    rw [decide_eq_false h, decide_eq_false e]
theorem key_lr (a : Int) (b : Str) : decide ((Sum.inl a : Key) = Sum.inr b) = false := decide_eq_false (fun q => nomatch q)
theorem key_rl (a : Str) (b : Int) : decide ((Sum.inr a : Key) = Sum.inl b) = false := decide_eq_false (fun q => nomatch q)

noncomputable def mixKind (prog : Program) (w : World) : PySem.KeyKind prog w Key where
  is := keyIs
  hash := keyH w
  inj := fun v a b ha hb => by
    rcases keyIs_shape ha with ⟨i, t, rfl, rfl⟩ | ⟨x, t, rfl, rfl⟩
    · rcases keyIs_shape hb with ⟨j, u, rfl, e⟩ | ⟨y, u, rfl, e⟩
      · injection e with e1 _; rw [e1]
      · exact nomatch e
    · rcases keyIs_shape hb with ⟨j, u, rfl, e⟩ | ⟨y, u, rfl, e⟩
      · exact nomatch e
      · injection e with e1 _; rw [e1]
  byValue := fun k v h => by
    rcases keyIs_shape h with ⟨i, t, rfl, rfl⟩ | ⟨x, t, rfl, rfl⟩ <;> rfl
  pyHash := fun hv h => by
    rcases keyIs_shape hv with ⟨i, t, rfl, rfl⟩ | ⟨x, t, rfl, rfl⟩
    · exact wpAny_pyHash_int h
    · exact wpAny_pyHash_str h
  eqBool := fun hu hv h => by
    rcases keyIs_shape hu with ⟨i, t, rfl, rfl⟩ | ⟨x, t, rfl, rfl⟩
    · rcases keyIs_shape hv with ⟨j, u, rfl, rfl⟩ | ⟨y, u, rfl, rfl⟩
      · rw [key_ll] at h; exact wpAny_eqBool_int h
      · rw [key_lr] at h; exact SeqAt.EqAt.int_str i t y u _ _ _ _ h
    · rcases keyIs_shape hv with ⟨j, u, rfl, rfl⟩ | ⟨y, u, rfl, rfl⟩
      · rw [key_rl] at h; exact SeqAt.EqAt.str_int x t j u _ _ _ _ h
      · rw [key_rr] at h; exact wpAny_eqBool_str h
  «strs» := fun k x t v h => by
    rcases keyIs_shape h with ⟨i, u, rfl, e⟩ | ⟨y, u, rfl, e⟩
    · exact nomatch e
    · injection e with e1 _
      subst e1
      cases v <;> rfl

theorem mixKind_int (prog : Program) (w : World) (i : Int) (t : Tok) : (mixKind prog w).is (.inl i) (.int i t) = true := keyIs_int i t
theorem mixKind_str (prog : Program) (w : World) (x : Str) (t : Tok) : (mixKind prog w).is (.inr x) (.str x t) = true := keyIs_str x t
end L2

namespace L2
open PySem PySem.Spec PyProof.Rows

inductive V where
  | non | bl (b : Bool) | int (i : Int) | str (x : Str) | byt (b : Array UInt8) | flt (b : UInt64) | ref (a : Addr) | ty (n : String)
  deriving DecidableEq

noncomputable def RelV : V → Value → Prop
  | .non, u => u = Value.none
  | .bl b, u => u = Value.bool b
  | .int i, u => ∃ t, u = Value.int i t
  | .str x, u => ∃ t, u = Value.str x t
  | .byt b, u => ∃ t, u = Value.bytes b t
  | .flt b, u => ∃ t, u = Value.float b t
  | .ref a, u => u = Value.ref a
  | .ty n, u => u = Value.type n

noncomputable abbrev Vals : List V → List Value → Prop := Paired RelV
theorem Vals.length {xs : List V} {us : List Value} (r : Vals xs us) : xs.length = us.length := Paired.length r
theorem Vals.get : ∀ {xs : List V} {us : List Value} {i : Nat} {x : V}, Vals xs us → xs[i]? = some x → ∃ u, us[i]? = some u ∧ RelV x u
  | _, _, _, _, .nil, e => by simp at e
  | _, _, 0, _, .cons r _, e => by simp at e; subst e; exact ⟨_, rfl, r⟩
  | _, _, i + 1, x, .cons _ t, e => by
    obtain ⟨u, h1, h2⟩ := Vals.get (i := i) (x := x) t (by simpa using e)
    exact ⟨u, by simpa using h1, h2⟩
theorem Vals.append : ∀ {xs ys : List V} {us ws : List Value}, Vals xs us → Vals ys ws → Vals (xs ++ ys) (us ++ ws)
  | _, _, _, _, .nil, s => s
  | _, _, _, _, .cons r t, s => .cons r (Vals.append t s)
theorem Vals.take : ∀ {xs : List V} {us : List Value} (n : Nat), Vals xs us → Vals (xs.take n) (us.take n)
  | _, _, 0, _ => .nil
  | _, _, _ + 1, .nil => .nil
  | _, _, n + 1, .cons r t => .cons r (Vals.take n t)
theorem Vals.drop : ∀ {xs : List V} {us : List Value} (n : Nat), Vals xs us → Vals (xs.drop n) (us.drop n)
  | _, _, 0, r => r
  | _, _, _ + 1, .nil => .nil
  | _, _, n + 1, .cons _ t => Vals.drop n t
noncomputable def RelO : Option V → Option Value → Prop
  | some v, some u => RelV v u
  | none, none => True
  | _, _ => False
noncomputable def KV {κ : Type} : List (κ × V) → List (κ × Value) → Prop := Paired fun (p : κ × V) (q : κ × Value) => p.1 = q.1 ∧ RelV p.2 q.2

noncomputable def kV : Key → V
  | .inl i => .int i
  | .inr x => .str x

inductive HO where
  /-- a list -/
  | lst (xs : List V)
  /-- a tuple (never changes) -/
  | tup (xs : List V)
  /-- a dict whose keys are ints and texts; one whose keys are tuples of ints and texts (the empty one is both) -/
  | dK (kvs : List (Key × V)) | dT (kvs : List (List Key × V))
  /-- a set of ints: its members, its size -/
  | set (S : Int → Bool) (n : Nat)
  /-- an instance of the class at C, its dict at dx, its attributes -/
  | ins (C dx : Addr) (fs : List (Str × V))
  /-- the dict of the instance at x -/
  | own (x : Addr)
  /-- the dict of an exception -/
  | xd (fs : List (Str × V))
  /-- a bound method, f of x -/
  | met (f x : Addr)
  /-- a range object lo, lo + 1, .. below hi -/
  | rng (lo hi : Int)
  /-- a thing that is known to the object (the script; a dict while a loop walks it): read, never written while it is so -/
  | frz (o : Obj) (u : HO)
  /-- a code object's table -/
  | tbl (ps : Array Value)
  /-- any other thing, by what is true of its one object (a def of one's own: SetO a S n := HO.ext fun h => ..) -/
  | ext (φ : Heap → Prop)

noncomputable abbrev Hp := Addr → Option HO
noncomputable def upd (H : Hp) (a : Addr) (o : HO) : Hp := fun b => if b = a then some o else H b
theorem upd_same {H : Hp} {a : Addr} {o : HO} : upd H a o a = some o := by unfold upd; rw [if_pos rfl]
theorem upd_ne {H : Hp} {a b : Addr} {o : HO} (h : b ≠ a) : upd H a o b = H b := by unfold upd; rw [if_neg h]
theorem ne_of {H : Hp} {a b : Addr} {o u : HO} (h : H a = some o) (h' : H b = some u) (d : o ≠ u) : a ≠ b := by
  intro e; subst e; rw [h] at h'; exact d (Option.some.inj h')
theorem ne_of_none {H : Hp} {a b : Addr} {o : HO} (h : H a = some o) (h' : H b = none) : a ≠ b := by
  intro e; subst e; rw [h] at h'; cases h'

section
variable (P : Program) (w : World)
noncomputable def IsTupN (h : Heap) (a : Addr) (its : Array Value) : Prop := ∃ o, h.get? a = some o ∧ o.cls = .type "tuple" ∧ (∃ n, o.data = .seq its n) ∧ o.dict = none
theorem IsTupN.tup {h : Heap} {a : Addr} {its : Array Value} (x : IsTupN h a its) : IsTup h a its := let ⟨o, e, c, d, _⟩ := x; ⟨o, e, c, d⟩
theorem IsTupN.new (h : Heap) (its : Array Value) : IsTupN (h.push { cls := .type "tuple", data := .seq its }) h.objs.size its := ⟨_, Heap.get?_push_size _ rfl, rfl, ⟨_, rfl⟩, rfl⟩
noncomputable def ObjOk (H : Hp) (h : Heap) (a : Addr) : HO → Prop
  | .lst xs => xs.length ≤ sizeLine ∧ ∃ (its : List Value) (n : Nat), Vals xs its ∧ h.get? a = some { cls := .type "list", data := .seq its.toArray n }
  | .tup xs => xs.length ≤ sizeLine ∧ ∃ its : List Value, Vals xs its ∧ IsTupN h a its.toArray
  | .dK kvs => kvs.length ≤ sizeLine ∧ (a == sysModules) = false ∧ ∃ vs, KV kvs vs ∧ h.DictOf (mixKind P w) a vs
  | .dT kvs => kvs.length ≤ sizeLine ∧ (a == sysModules) = false ∧ ∃ xs : List (List Key × Addr × Value),
      Paired (fun (p : List Key × V) (q : List Key × Addr × Value) => p.1 = q.1 ∧ H q.2.1 = some (.tup (p.1.map kV)) ∧ RelV p.2 q.2.2) kvs xs ∧
      ∃ o es ep, h.get? a = some o ∧ o.ExactDict ∧ o.data = .dict es ep ∧ es.toList = xs.map (entryOfKey (tupleKind (mixKind P w))) ∧ (xs.map (·.1)).Nodup
  | .set S n => h.SetOf (intKind P w) a S n
  | .ins C dx fs => H dx = some (.own a) ∧ fs.length ≤ 1000 ∧ dx ≠ a ∧ h.get? a = some (PySem.W.instObj C dx) ∧
      ∃ mA, h.Ns1 dx mA ∧ (∀ f, RelO (fs.lookup f) (mA f)) ∧ PySem.Within mA (fs.map (·.1))
  | .own _ => ∃ o, h.get? a = some o
  | .xd fs => ∃ mA, h.Ns1 a mA ∧ ∀ f, RelO (fs.lookup f) (mA f)
  | .rng lo hi => ∃ t u v, h.get? a = some { cls := .type "range", data := .fields #[.int lo t, .int hi u, .int 1 v] }
  | .frz o u => h.get? a = some o ∧ ObjOk H h a u
  | .tbl ps => h.get? a = some { cls := .none, data := .fields ps }
  | .met f x => h.get? a = some (PySem.W.methodObj (.ref f) (.ref x))
  | .ext φ => φ h ∧ (∃ o, h.get? a = some o) ∧ ∀ h1 h2 : Heap, φ h1 → (∀ o, h1.get? a = some o → h2.get? a = some o) → φ h2
noncomputable def HOk (H : Hp) (h : Heap) : Prop := ∀ a o, H a = some o → ObjOk P w H h a o
end

section
variable {P : Program} {w : World} {H H' : Hp} {h h' : Heap} {a : Addr} {o : HO}
theorem ObjOk.lt (x : ObjOk P w H h a o) : a < h.objs.size := by
  cases o with
  | lst xs => obtain ⟨_, _, _, _, e⟩ := x; exact Heap.lt_size e
  | tup xs => obtain ⟨_, _, _, p⟩ := x; exact p.tup.lt
  | dK kvs => obtain ⟨_, _, _, _, o, _, _, e, _⟩ := x; exact Heap.lt_size e
  | dT kvs => obtain ⟨_, _, _, _, o, _, _, e, _⟩ := x; exact Heap.lt_size e
  | set S n => obtain ⟨o, _, _, _, e, _⟩ := x; exact Heap.lt_size e
  | ins C dx fs => obtain ⟨_, _, _, e, _⟩ := x; exact Heap.lt_size e
  | own y => obtain ⟨_, e⟩ := x; exact Heap.lt_size e
  | xd fs => obtain ⟨_, ⟨_, _, _, e, _⟩, _⟩ := x; exact Heap.lt_size e
  | rng lo hi => obtain ⟨_, _, _, e⟩ := x; exact Heap.lt_size e
  | frz ob u => obtain ⟨e, _⟩ := x; exact Heap.lt_size e
  | tbl ps => exact Heap.lt_size (show h.get? a = some _ from x)
  | met f y => exact Heap.lt_size (show h.get? a = some _ from x)
  | ext φ => obtain ⟨_, ⟨_, e⟩, _⟩ := x; exact Heap.lt_size e
theorem Paired.mapP {α β : Type} {F G : α → β → Prop} : ∀ {l₁ : List α} {l₂ : List β}, Paired F l₁ l₂ → (∀ a b, F a b → G a b) → Paired G l₁ l₂
  | _, _, .nil, _ => .nil
  | _, _, .cons r t, f => .cons (f _ _ r) (Paired.mapP t f)
theorem ObjOk.stay (x : ObjOk P w H h a o) (k : ∀ b u, (b = a ∨ H b = some (.own a)) → h.get? b = some u → h'.get? b = some u)
    (ho : ∀ b, H b = some (.own a) → H' b = some (.own a)) (ht : ∀ b xs, H b = some (.tup xs) → H' b = some (.tup xs)) : ObjOk P w H' h' a o := by
  induction o with
  | lst xs => obtain ⟨z, its, n, r, e⟩ := x; exact ⟨z, its, n, r, k _ _ (.inl rfl) e⟩
  | tup xs => obtain ⟨z, its, r, ob, e, c⟩ := x; exact ⟨z, its, r, ob, k _ _ (.inl rfl) e, c⟩
  | dK kvs => obtain ⟨z, y, vs, r, ob, es, ep, e, c⟩ := x; exact ⟨z, y, vs, r, ob, es, ep, k _ _ (.inl rfl) e, c⟩
  | dT kvs =>
    obtain ⟨z, y, xs, r, ob, es, ep, e, c⟩ := x
    exact ⟨z, y, xs, Paired.mapP r fun p q z => ⟨z.1, ht _ _ z.2.1, z.2.2⟩, ob, es, ep, k _ _ (.inl rfl) e, c⟩
  | set S n => obtain ⟨ob, es, ep, t, e, c⟩ := x; exact ⟨ob, es, ep, t, k _ _ (.inl rfl) e, c⟩
  | ins C dx fs =>
    obtain ⟨d, z, ne, e, mA, ⟨od, es, ep, e2, c⟩, r⟩ := x
    exact ⟨ho _ d, z, ne, k _ _ (.inl rfl) e, mA, ⟨od, es, ep, k _ _ (.inr d) e2, c⟩, r⟩
  | own y => obtain ⟨ob, e⟩ := x; exact ⟨ob, k _ _ (.inl rfl) e⟩
  | xd fs => obtain ⟨mA, ⟨od, es, ep, e, c⟩, r⟩ := x; exact ⟨mA, ⟨od, es, ep, k _ _ (.inl rfl) e, c⟩, r⟩
  | rng lo hi => obtain ⟨t, u, v, e⟩ := x; exact ⟨t, u, v, k _ _ (.inl rfl) e⟩
  | frz ob u ih => obtain ⟨e, q⟩ := x; exact ⟨k _ _ (.inl rfl) e, ih q⟩
  | tbl ps =>
    have e : h.get? a = some { cls := .none, data := .fields ps } := x
    show h'.get? a = some { cls := .none, data := .fields ps }
    exact k a _ (.inl rfl) e
  | met f y =>
    have e : h.get? a = some (PySem.W.methodObj (.ref f) (.ref y)) := x
    show h'.get? a = some (PySem.W.methodObj (.ref f) (.ref y))
    exact k a _ (.inl rfl) e
  | ext φ => obtain ⟨p, ⟨o, e⟩, st⟩ := x; exact ⟨st _ _ p fun o q => k _ _ (.inl rfl) q, ⟨o, k _ _ (.inl rfl) e⟩, st⟩
theorem HOk.lt (x : HOk P w H h) (e : H a = some o) : a < h.objs.size := (x a o e).lt
theorem HOk.fresh (x : HOk P w H h) (e : h.objs.size ≤ a) : H a = none := by
  cases q : H a with
  | none => rfl
  | some u => exact absurd (Nat.lt_of_lt_of_le (x.lt q) e) (Nat.lt_irrefl _)
theorem HOk.kept (x : HOk P w H h) (k : ∀ b u, h.get? b = some u → h'.get? b = some u) : HOk P w H h' := fun a o e =>
  (x a o e).stay (fun b u _ q => k b u q) (fun _ q => q) fun _ _ q => q
theorem HOk.laid (x : HOk P w H h) (k : ∀ b u, h.get? b = some u → h'.get? b = some u) (hp : h.objs.size ≤ a) (new : ObjOk P w (upd H a o) h' a o) : HOk P w (upd H a o) h' := fun b u e => by
  have hn := x.fresh hp
  by_cases hb : b = a
  · subst hb; rw [upd_same] at e; cases e; exact new
  · rw [upd_ne hb] at e
    exact (x b u e).stay (fun c v _ q => k c v q) (fun c q => by rw [upd_ne (ne_of_none q hn)]; exact q) fun c xs q => by rw [upd_ne (ne_of_none q hn)]; exact q
end

noncomputable def Rd (H : Hp) (a : Addr) (u : HO) : Prop := H a = some u ∨ ∃ o, H a = some (.frz o u)
theorem Rd.ok {P : Program} {w : World} {H : Hp} {h : Heap} {a : Addr} {u : HO} (r : Rd H a u) (x : HOk P w H h) : ObjOk P w H h a u := by
  rcases r with r | ⟨o, r⟩
  · exact x a u r
  · obtain ⟨_, q⟩ := x a _ r
    exact q
noncomputable def Mut : Option HO → Prop
  | some (.lst _) => True
  | some (.dK _) => True
  | some (.dT _) => True
  | some (.set _ _) => True
  | some (.ins _ _ _) => True
  | some (.ext _) => True
  | _ => False
section
variable {P : Program} {w : World} {H : Hp} {h h' : Heap} {x e : Addr} {o' : HO}
theorem HOk.write (ok : HOk P w H h) (mu : Mut (H x)) (he : e = x ∨ H e = some (.own x)) (k : ∀ b u, b ≠ e → h.get? b = some u → h'.get? b = some u) (heo : ∃ u, h'.get? e = some u)
    (new : ObjOk P w (upd H x o') h' x o') : HOk P w (upd H x o') h' := fun b u q => by
  have nown : ∀ c y, H c = some (.own y) → c ≠ x := fun c y r z => by subst z; rw [r] at mu; exact mu
  have ntup : ∀ c xs, H c = some (.tup xs) → c ≠ x := fun c xs r z => by subst z; rw [r] at mu; exact mu
  by_cases hb : b = x
  · subst hb; rw [upd_same] at q; cases q; exact new
  · rw [upd_ne hb] at q
    by_cases hbe : b = e
    · have q' : H b = some (.own x) := by
        rcases he with z | z
        · exact absurd (hbe.trans z) hb
        · rw [hbe]; exact z
      rw [q] at q'; cases q'
      obtain ⟨v, hv⟩ := heo
      exact ⟨v, by rw [hbe]; exact hv⟩
    · refine (ok b u q).stay (fun c v hc r => k c v ?_ r) (fun c r => by rw [upd_ne (nown c b r)]; exact r) fun c xs r => by rw [upd_ne (ntup c xs r)]; exact r
      rcases hc with rfl | hc
      · exact hbe
      · rintro rfl
        rcases he with z | z
        · exact nown c b hc z
        · rw [hc] at z; cases z; exact hb rfl
end

structure Un (fs ex : List Addr) (H H' : Hp) (h h' : Heap) : Prop where
  keep : ∀ b o, h.get? b = some o → H b = none → b ∉ fs → b ∉ ex → h'.get? b = some o
  slot : ∀ b o, h.get? b = some o → H b = none → b ∈ fs → b ∉ ex → ∃ sl, h'.get? b = some { o with slots := sl }
  free : ∀ b o, h.get? b = some o → H b = none → b ∉ ex → H' b = none
  there : ∀ b o, h.get? b = some o → b ∉ ex → ∃ o', h'.get? b = some o'
  tups : ∀ b xs, H b = some (.tup xs) → H' b = some (.tup xs)
  frzs : ∀ b o u, H b = some (.frz o u) → H' b = some (.frz o u)
  tbls : ∀ b ps, H b = some (.tbl ps) → ∃ more, H' b = some (.tbl (ps ++ more))
section
variable {fs fs' ex ex' : List Addr} {H H1 H2 : Hp} {h h1 h2 h' : Heap} {a x e : Addr} {o : HO}
theorem Un.any (u : Un fs ex H H1 h h1) {b : Addr} {ob : Obj} (q : h.get? b = some ob) (n : H b = none) (hx : b ∉ ex) : ∃ sl, h1.get? b = some { ob with slots := sl } := by
  by_cases hb : b ∈ fs
  · exact u.slot b ob q n hb hx
  · exact ⟨ob.slots, u.keep b ob q n hb hx⟩
theorem Un.kept (k : ∀ b u, h.get? b = some u → h'.get? b = some u) : Un fs ex H H h h' :=
  ⟨fun b ob q _ _ _ => k b ob q, fun b ob q _ _ _ => ⟨ob.slots, k b ob q⟩, fun _ _ _ n _ => n, fun b ob q _ => ⟨ob, k b ob q⟩, fun _ _ q => q, fun _ _ _ q => q, fun _ ps q => ⟨#[], by rw [q]; simp⟩⟩
theorem Un.refl : Un fs ex H H h h := Un.kept fun _ _ q => q
theorem Un.laid (k : ∀ b u, h.get? b = some u → h'.get? b = some u) (hp : h.objs.size ≤ a) (hn : H a = none) : Un fs ex H (upd H a o) h h' where
  keep := fun b u q _ _ _ => k b u q
  slot := fun b u q _ _ _ => ⟨u.slots, k b u q⟩
  free := fun b u q n _ => by rw [upd_ne (Nat.ne_of_lt (Nat.lt_of_lt_of_le (Heap.lt_size q) hp))]; exact n
  there := fun b u q _ => ⟨u, k b u q⟩
  tups := fun b xs q => by rw [upd_ne (ne_of_none q hn)]; exact q
  frzs := fun b u xs q => by rw [upd_ne (ne_of_none q hn)]; exact q
  tbls := fun b ps q => ⟨#[], by rw [upd_ne (ne_of_none q hn), q]; simp⟩
theorem Un.write (mu : Mut (H x)) (he : e = x ∨ H e = some (.own x)) (k : ∀ b u, b ≠ e → h.get? b = some u → h'.get? b = some u) (heo : ∃ u, h'.get? e = some u) : Un fs ex H (upd H x o) h h' := by
  have hx : ∀ b, H b = none → b ≠ x := fun b n z => by subst z; rw [n] at mu; exact mu
  have hb : ∀ b, H b = none → b ≠ e := fun b n z => by
    subst z
    rcases he with r | r
    · exact hx b n r
    · rw [n] at r; cases r
  have hm : ∀ b u, H b = some u → ¬ Mut (some u) → b ≠ x := fun b u q nm z => by subst z; rw [q] at mu; exact nm mu
  refine ⟨fun b u q n _ _ => k b u (hb b n) q, fun b u q n _ _ => ⟨u.slots, k b u (hb b n) q⟩, fun b u q n _ => by rw [upd_ne (hx b n)]; exact n, fun b u q _ => ?_,
    fun b xs q => by rw [upd_ne (hm b _ q fun z => z)]; exact q, fun b u xs q => by rw [upd_ne (hm b _ q fun z => z)]; exact q, fun b ps q => ⟨#[], by rw [upd_ne (hm b _ q fun z => z), q]; simp⟩⟩
  by_cases hbe : b = e
  · subst hbe; exact heo
  · exact ⟨u, k b u hbe q⟩
end

noncomputable def trk (h : Heap) (H : Hp) : List Addr := (List.range h.objs.size).filter fun a => (H a).isSome
noncomputable def hidT (h : Heap) (H : Hp) : Heap := PySem.W.hideAll h (trk h H)
theorem hidT_size (h : Heap) (H : Hp) : (hidT h H).objs.size = h.objs.size := PySem.W.hideAll_size _ _
theorem hidT_get {h : Heap} {H : Hp} {b : Addr} {o : Obj} (e : h.get? b = some o) (n : H b = none) : (hidT h H).get? b = some o :=
  PySem.W.hideAll_get _ e fun hm => by
    have q : (H b).isSome = true := (List.mem_filter.mp hm).2
    rw [n] at q; simp at q
theorem of_hidT {h : Heap} {H : Hp} {b : Addr} {o : Obj} (e : (hidT h H).get? b = some o) : h.get? b = some o ∧ H b = none := by
  have e' : h.get? b = some o := PySem.W.of_hideAll (trk h H) e
  refine ⟨e', ?_⟩
  cases q : H b with
  | none => rfl
  | some x =>
    have hm : b ∈ trk h H := List.mem_filter.mpr ⟨List.mem_range.mpr (Heap.lt_size e'), by simp [q]⟩
    have z : (hidT h H).get? b = none := PySem.W.hideAll_none (trk h H) hm
    rw [z] at e; cases e

end L2

namespace L2
open PySem PySem.Spec PyProof.Rows

structure Mod (K : PySem.W.Frag) (mg : Str → Option Value) (base : Heap) : Prop where
  kin : K.In base
  glob : base.Ns mainGlobals mg
  blt : ∃ mb, base.Ns builtinsNs mb ∧ ∀ x : Str, x ≠ "__name__" → mb x = bootBuiltins x
  nolimit : base.NoLimit

structure Cx where
  prog : Program
  w : World
  K : PySem.W.Frag
  mg : Str → Option Value
  base : Heap
  A : Around
  N : List Str
  s₀ : Shared
  H₀ : Hp
  env : Env
  outer : List Env
  stack : List Env
  ex : List Addr
  fn : Str → Bool
  calm : Bool
  pn : List (Addr × Obj)
  xe : Value → Shared → Prop
noncomputable def frs (l : List Env) : List Addr := l.filterMap (·.frame)
noncomputable abbrev Cx.fs (X : Cx) : List Addr := frs X.outer

noncomputable def Vis (sc : Scope) (x : Str) : Prop := sc.names.lookup x = some .local ∨ sc.names.lookup x = some .cell ∨ sc.names.lookup x = some .free
noncomputable def Loc (sc : Scope) (x : Str) : Prop := sc.names.lookup x = some .local ∨ sc.names.lookup x = some .cell
noncomputable def Look (env : Env) (h : Heap) (m : Str → Option Value) (x : Str) (u : Value) : Prop :=
  (env.kindOf x = some .local ∧ m x = some u) ∨ ((env.kindOf x = some .cell ∨ env.kindOf x = some .free) ∧ ∃ c, env.cells.lookup x = some c ∧ h.IsCell c (some u))

structure Cx.Ok (X : Cx) : Prop where
  mod : Mod X.K X.mg X.base
  kind : X.env.scope.kind = .function
  glob : X.env.globals = mainGlobals
  blt : X.env.builtins = builtinsNs
  above : X.s₀.heap.objs.size ≤ X.env.locals
  inj : ∀ x y c, X.env.cells.lookup x = some c → X.env.cells.lookup y = some c → x = y
  has : ∀ x, (X.env.kindOf x = some .cell ∨ X.env.kindOf x = some .free) → ∃ c, X.env.cells.lookup x = some c
  cab : ∀ x c, X.fn x = true → X.env.cells.lookup x = some c → X.s₀.heap.objs.size ≤ c
  hd : X.calm = true → X.A.handled = none
  frames : X.A.frames = some X.stack
  stk : X.stack = X.outer ∨ (X.stack = X.env :: X.outer ∧ X.env.frame = some X.env.locals)
  exf : ∀ b ∈ X.ex, b ≠ X.env.locals ∧ ∀ x c, X.env.cells.lookup x = some c → c ≠ b
  bs : ∀ b o, X.base.get? b = some o → X.s₀.heap.get? b = some o ∧ X.H₀ b = none
  bsz : X.base.objs.size ≤ X.s₀.heap.objs.size
  noex : ∀ b o, X.base.get? b = some o → b ∉ X.ex
  exfs : ∀ b ∈ X.ex, b ∉ X.fs
  funs : X.s₀.heap.FunFrames X.base X.outer
  frf : ∀ b ∈ X.fs, X.H₀ b = none

structure Inv (X : Cx) (pins : List (Addr × Obj)) (σ : List (Option V)) (H : Hp) (s : Shared) : Prop where
  ok : X.Ok
  os : s.os = X.s₀.os
  bare : AllBare s.gens
  base : Un X.fs X.ex X.H₀ H X.s₀.heap s.heap
  loc : ∃ m, s.heap.Ns X.env.locals m ∧ ∀ (i : Nat) (x : Str) (v : V), X.N[i]? = some x → σ[i]? = some (some v) → Vis X.env.scope x → ∃ u, RelV v u ∧ Look X.env s.heap m x u
  cell : ∀ x c, X.env.cells.lookup x = some c → ∃ v, s.heap.IsCell c v
  free : H X.env.locals = none
  freeC : ∀ x c, X.env.cells.lookup x = some c → H c = none
  pin : ∀ p ∈ X.pn ++ pins, s.heap.get? p.1 = some p.2 ∧ H p.1 = none ∧ p.1 ≠ X.env.locals ∧ p.1 ∉ X.fs ∧ ∀ v, p.2.data ≠ .cell v
  hok : HOk X.prog X.w H s.heap
  len : σ.length = X.N.length

section
variable {X : Cx} {pins : List (Addr × Obj)} {σ : List (Option V)} {H H' : Hp} {s : Shared} {h' : Heap}

theorem Cx.Ok.nofr (ok : X.Ok) {b : Addr} {o : Obj} (e : X.base.get? b = some o) : b ∉ X.fs := fun hb => by
  have := (ok.funs.mem hb).1
  rw [e] at this; cases this
theorem Inv.bs (I : Inv X pins σ H s) : ∀ b o, X.base.get? b = some o → s.heap.get? b = some o ∧ H b = none := fun b o e =>
  ⟨I.base.keep b o (I.ok.bs b o e).1 (I.ok.bs b o e).2 (I.ok.nofr e) (I.ok.noex b o e), I.base.free b o (I.ok.bs b o e).1 (I.ok.bs b o e).2 (I.ok.noex b o e)⟩
theorem Inv.bk (I : Inv X pins σ H s) : ∀ b o, X.base.get? b = some o → s.heap.get? b = some o := fun b o e => (I.bs b o e).1
theorem Inv.mod (I : Inv X pins σ H s) : Mod X.K X.mg X.base := I.ok.mod
theorem Inv.kIn (I : Inv X pins σ H s) : X.K.In s.heap := I.ok.mod.kin.keeps I.bk
theorem Inv.lt (I : Inv X pins σ H s) : X.env.locals < s.heap.objs.size := let ⟨_, hn, _⟩ := I.loc; hn.lt
theorem Inv.sz (I : Inv X pins σ H s) : X.s₀.heap.objs.size ≤ s.heap.objs.size := Nat.le_trans I.ok.above (Nat.le_of_lt I.lt)
theorem Inv.nofs (I : Inv X pins σ H s) {a : Addr} (h : s.heap.objs.size ≤ a) : a ∉ X.fs := fun hb => by
  obtain ⟨_, o, ho, _⟩ := I.ok.funs.mem hb
  exact absurd (Nat.lt_of_lt_of_le (Heap.lt_size ho) (Nat.le_trans I.sz h)) (Nat.lt_irrefl _)
theorem Inv.cne (I : Inv X pins σ H s) : ∀ x c, X.env.cells.lookup x = some c → c ≠ X.env.locals := fun x c e z => by
  obtain ⟨v, o, ho, hd⟩ := I.cell x c e
  obtain ⟨m, ⟨o', es, ep, ho', hd', _⟩, _⟩ := I.loc
  rw [z, ho'] at ho; cases ho; rw [hd'] at hd; cases hd
theorem Inv.funs (I : Inv X pins σ H s) : s.heap.FunFrames X.base X.outer := by
  have all : ∀ (l : List Env), (∀ b ∈ frs l, b ∈ X.fs) → X.s₀.heap.FunFrames X.base l → s.heap.FunFrames X.base l := by
    intro l
    induction l with
    | nil => intro _ _; trivial
    | cons env r ih =>
      intro hs hl
      obtain ⟨hk, ⟨L, o, hf, hn, ho, hd⟩, hr⟩ := hl
      have hL : L ∈ X.fs := hs L (by unfold frs; rw [List.filterMap_cons, hf]; exact List.mem_cons_self)
      obtain ⟨sl, e⟩ := I.base.slot L o ho (I.ok.frf L hL) hL fun z => I.ok.exfs L z hL
      exact ⟨hk, ⟨L, _, hf, hn, e, hd⟩, ih (fun b hb => hs b (by unfold frs; rw [List.filterMap_cons, hf]; exact List.mem_cons_of_mem _ hb)) hr⟩
  exact all X.outer (fun _ hb => hb) I.ok.funs

theorem Inv.stack (I : Inv X pins σ H s) : s.heap.FunFrames X.base X.stack := by
  rcases I.ok.stk with e | ⟨e, hf⟩
  · rw [e]; exact I.funs
  · rw [e]
    obtain ⟨m, hn, _⟩ := I.loc
    refine .cons (by rw [I.ok.kind]; decide) hf hn ?_ I.funs
    exact Heap.get?_none_of_le (Nat.le_trans I.ok.bsz I.ok.above)
theorem Inv.stkSub (I : Inv X pins σ H s) : ∀ b ∈ frs X.stack, b ∈ X.env.locals :: X.fs := fun b hb => by
  rcases I.ok.stk with e | ⟨e, hf⟩
  · rw [e] at hb; exact List.mem_cons_of_mem _ hb
  · rw [e] at hb
    unfold frs at hb
    rw [List.filterMap_cons, hf] at hb
    exact hb
theorem Inv.stkFree (I : Inv X pins σ H s) : ∀ b ∈ frs X.stack, H b = none := fun b hb => by
  rcases List.mem_cons.mp (I.stkSub b hb) with e | hb
  · rw [e]; exact I.free
  · obtain ⟨_, o, ho, _⟩ := I.ok.funs.mem hb
    exact I.base.free b o ho (I.ok.frf b hb) fun z => I.ok.exfs b z hb

theorem Inv.step {g' : Array GenState} {t' : Nat} {d' : Drawn} {ch : List Addr} (I : Inv X pins σ H s)
    (hch : ∀ b ∈ ch, (b ∈ X.ex ∨ X.s₀.heap.objs.size ≤ b) ∧ b ≠ X.env.locals ∧ (∀ x c, X.env.cells.lookup x = some c → c ≠ b) ∧ ∀ p ∈ X.pn ++ pins, p.1 ≠ b)
    (keep : ∀ b o, b ≠ X.env.locals → b ∉ X.fs → b ∉ ch → s.heap.get? b = some o → H b = none → h'.get? b = some o)
    (slot : ∀ b o, b ≠ X.env.locals → b ∈ X.fs → b ∉ ch → s.heap.get? b = some o → H b = none → ∃ sl, h'.get? b = some { o with slots := sl }) (free : ∀ b o, b ∉ ch → s.heap.get? b = some o → H b = none → H' b = none)
    (there : ∀ b o, b ∉ ch → s.heap.get? b = some o → ∃ o', h'.get? b = some o')
    (tups : ∀ b xs, H b = some (.tup xs) → H' b = some (.tup xs)) (frzs : ∀ b o u, H b = some (.frz o u) → H' b = some (.frz o u)) (tbls : ∀ b ps, H b = some (.tbl ps) → ∃ more, H' b = some (.tbl (ps ++ more)))
    (ns : ∀ m, s.heap.Ns X.env.locals m → h'.Ns X.env.locals m) (hok : HOk X.prog X.w H' h') (hg : AllBare g') :
    Inv X pins σ H' { s with heap := h', gens := g', drawn := d', toks := t' } := by
  have neL : ∀ b o, X.s₀.heap.get? b = some o → b ≠ X.env.locals := fun b o e => Nat.ne_of_lt (Nat.lt_of_lt_of_le (Heap.lt_size e) I.ok.above)
  have neC : ∀ b o, X.s₀.heap.get? b = some o → b ∉ X.ex → b ∉ ch := fun b o e hx hb => by
    rcases (hch b hb).1 with z | z
    · exact hx z
    · exact absurd (Nat.lt_of_lt_of_le (Heap.lt_size e) z) (Nat.lt_irrefl _)
  have cellK : ∀ x c, X.env.cells.lookup x = some c → ∀ v, s.heap.IsCell c v → h'.IsCell c v := fun x c e v ⟨o, ho, hd⟩ => by
    have nch : c ∉ ch := fun z => (hch c z).2.2.1 x c e rfl
    by_cases hc : c ∈ X.fs
    · obtain ⟨sl, q⟩ := slot c o (I.cne x c e) hc nch ho (I.freeC x c e)
      exact ⟨_, q, hd⟩
    · exact ⟨o, keep c o (I.cne x c e) hc nch ho (I.freeC x c e), hd⟩
  refine ⟨I.ok, I.os, hg, ⟨fun b o e n hb hx => ?_, fun b o e n hb hx => ?_, fun b o e n hx => ?_, fun b o e hx => ?_, fun b xs e => tups b xs (I.base.tups b xs e), fun b o xs e => frzs b o xs (I.base.frzs b o xs e), fun b ps e => ?_⟩, ?_, fun x c e => ?_, ?_, fun x c e => ?_, fun p hp => ?_, hok, I.len⟩
  · exact keep b o (neL b o e) hb (neC b o e hx) (I.base.keep b o e n hb hx) (I.base.free b o e n hx)
  · obtain ⟨sl, e1⟩ := I.base.slot b o e n hb hx
    obtain ⟨sl', e2⟩ := slot b _ (neL b o e) hb (neC b o e hx) e1 (I.base.free b o e n hx)
    exact ⟨sl', e2⟩
  · obtain ⟨o', e1⟩ := I.base.there b o e hx
    exact free b o' (neC b o e hx) e1 (I.base.free b o e n hx)
  · obtain ⟨o', e1⟩ := I.base.there b o e hx
    exact there b o' (neC b o e hx) e1
  · obtain ⟨m1, e1⟩ := I.base.tbls b ps e
    obtain ⟨m2, e2⟩ := tbls b _ e1
    exact ⟨m1 ++ m2, by rw [e2, Array.append_assoc]⟩
  · obtain ⟨m, hn, hl⟩ := I.loc
    refine ⟨m, ns m hn, fun i x v e1 e2 e3 => ?_⟩
    obtain ⟨u, r, l⟩ := hl i x v e1 e2 e3
    refine ⟨u, r, ?_⟩
    rcases l with l | ⟨k, c, e, z⟩
    · exact .inl l
    · exact .inr ⟨k, c, e, cellK x c e _ z⟩
  · obtain ⟨v, z⟩ := I.cell x c e
    exact ⟨v, cellK x c e v z⟩
  · obtain ⟨m, ⟨o, _, _, ho, _⟩, _⟩ := I.loc
    exact free _ o (fun z => (hch _ z).2.1 rfl) ho I.free
  · obtain ⟨v, o, ho, hd⟩ := I.cell x c e
    exact free c o (fun z => (hch c z).2.2.1 x c e rfl) ho (I.freeC x c e)
  · obtain ⟨e, n, ne, nf, d⟩ := I.pin p hp
    have nch : p.1 ∉ ch := fun z => (hch p.1 z).2.2.2 p hp rfl
    exact ⟨keep p.1 p.2 ne nf nch e n, free p.1 p.2 nch e n, ne, nf, d⟩
theorem Inv.un {t' : Nat} (I : Inv X pins σ H s) (u : Un X.fs [] H H' s.heap h') (hok : HOk X.prog X.w H' h') : Inv X pins σ H' { s with heap := h', toks := t' } := by
  obtain ⟨m, ⟨o, es, ep, ho, r⟩, _⟩ := id I.loc
  obtain ⟨sl, hL⟩ := u.any ho I.free (by simp)
  exact I.step (g' := s.gens) (d' := s.drawn) (ch := []) (fun _ z => nomatch z) (fun b o _ hb _ e n => u.keep b o e n hb (by simp)) (fun b o _ hb _ e n => u.slot b o e n hb (by simp)) (fun b o _ e n => u.free b o e n (by simp)) (fun b o _ e => u.there b o e (by simp)) u.tups u.frzs u.tbls (fun m' hm => by
    obtain ⟨o', es', ep', ho', r'⟩ := hm
    rw [ho] at ho'; cases ho'
    exact ⟨_, es', ep', hL, r'⟩) hok I.bare
theorem Inv.call {g' : Array GenState} {t' : Nat} {d' : Drawn} {ch : List Addr} (I : Inv X pins σ H s) (u : Un (frs X.stack) ch H H' s.heap h') (hok : HOk X.prog X.w H' h') (hg : AllBare g')
    (hch : ∀ b ∈ ch, (b ∈ X.ex ∨ X.s₀.heap.objs.size ≤ b) ∧ b ≠ X.env.locals ∧ (∀ x c, X.env.cells.lookup x = some c → c ≠ b) ∧ ∀ p ∈ X.pn ++ pins, p.1 ≠ b) :
    Inv X pins σ H' { s with heap := h', gens := g', drawn := d', toks := t' } := by
  obtain ⟨m, ⟨o, es, ep, ho, r⟩, _⟩ := id I.loc
  obtain ⟨sl, hL⟩ := u.any ho I.free fun z => (hch _ z).2.1 rfl
  exact I.step (ch := ch) hch (fun b o hL hb hc e n => u.keep b o e n (fun z => (List.mem_cons.mp (I.stkSub b z)).elim hL hb) hc) (fun b o _ _ hc e n => u.any e n hc) (fun b o hc e n => u.free b o e n hc) (fun b o hc e => u.there b o e hc) u.tups u.frzs u.tbls (fun m' hm => by
    obtain ⟨o', es', ep', ho', r'⟩ := hm
    rw [ho] at ho'; cases ho'
    exact ⟨_, es', ep', hL, r'⟩) hok hg
theorem Inv.turned {t' : Nat} {it : Addr} (I : Inv X pins σ H s) (k : ∀ b o, b ≠ it → s.heap.get? b = some o → h'.get? b = some o) (hn : H it = none) (hL : it ≠ X.env.locals)
    (h1 : it ∈ X.ex ∨ X.s₀.heap.objs.size ≤ it) (h2 : ∀ x c, X.env.cells.lookup x = some c → c ≠ it) (h3 : ∀ p ∈ X.pn ++ pins, p.1 ≠ it) : Inv X pins σ H { s with heap := h', toks := t' } := by
  have nit : ∀ b u, H b = some u → b ≠ it := fun b u e z => by rw [z, hn] at e; cases e
  refine I.step (g' := s.gens) (d' := s.drawn) (ch := [it]) (fun b hb => ?_) (fun b o _ _ hc e _ => k b o (fun z => hc (by simp [z])) e) (fun b o _ _ hc e _ => ⟨o.slots, k b o (fun z => hc (by simp [z])) e⟩) (fun _ _ _ _ n => n)
    (fun b o hc e => ⟨o, k b o (fun z => hc (by simp [z])) e⟩) (fun _ _ e => e) (fun _ _ _ e => e) (fun b ps e => ⟨#[], by rw [e]; simp⟩) (fun m hm => ?_) (fun b u e => ?_) I.bare
  · have e : b = it := by simpa using hb
    subst e
    exact ⟨h1, hL, h2, h3⟩
  · obtain ⟨o, es, ep, ho, r⟩ := hm
    exact ⟨o, es, ep, k _ o (Ne.symm hL) ho, r⟩
  · refine (I.hok b u e).stay (fun c v hc q => k c v ?_ q) (fun _ q => q) fun _ _ q => q
    rcases hc with z | z
    · rw [z]; exact nit b u e
    · exact nit c _ z
theorem Inv.tok (I : Inv X pins σ H s) (t : Nat) : Inv X pins σ H { s with toks := t } := I.un (h' := s.heap) (t' := t) Un.refl I.hok
theorem Inv.kept {t' : Nat} (I : Inv X pins σ H s) (k : ∀ b u, s.heap.get? b = some u → h'.get? b = some u) : Inv X pins σ H { s with heap := h', toks := t' } := I.un (Un.kept k) (I.hok.kept k)
theorem Inv.laid {a : Addr} {o : HO} {t' : Nat} (I : Inv X pins σ H s) (k : ∀ b u, s.heap.get? b = some u → h'.get? b = some u) (hp : s.heap.objs.size ≤ a) (new : ObjOk X.prog X.w (upd H a o) h' a o) :
    Inv X pins σ (upd H a o) { s with heap := h', toks := t' } := I.un (Un.laid k hp (I.hok.fresh hp)) (I.hok.laid k hp new)
theorem Inv.write {x e : Addr} {o : HO} {t' : Nat} (I : Inv X pins σ H s) (mu : Mut (H x)) (he : e = x ∨ H e = some (.own x)) (k : ∀ b u, b ≠ e → s.heap.get? b = some u → h'.get? b = some u) (heo : ∃ u, h'.get? e = some u)
    (new : ObjOk X.prog X.w (upd H x o) h' x o) : Inv X pins σ (upd H x o) { s with heap := h', toks := t' } := I.un (Un.write mu he k heo) (I.hok.write mu he k heo new)
theorem Inv.weak {σ' : List (Option V)} (I : Inv X pins σ H s) (hl : σ'.length = σ.length) (w : ∀ (i : Nat) v, σ'[i]? = some (some v) → σ[i]? = some (some v)) : Inv X pins σ' H s :=
  ⟨I.ok, I.os, I.bare, I.base, let ⟨m, hn, hl'⟩ := I.loc; ⟨m, hn, fun i x v e1 e2 e3 => hl' i x v e1 (w i v e2) e3⟩, I.cell, I.free, I.freeC, I.pin, I.hok, hl.trans I.len⟩
theorem Inv.pins_of {pins' : List (Addr × Obj)} (I : Inv X pins σ H s) (h : ∀ p ∈ pins', s.heap.get? p.1 = some p.2 ∧ H p.1 = none ∧ p.1 ≠ X.env.locals ∧ p.1 ∉ X.fs ∧ ∀ v, p.2.data ≠ .cell v) : Inv X pins' σ H s :=
  ⟨I.ok, I.os, I.bare, I.base, I.loc, I.cell, I.free, I.freeC, fun p hp => (List.mem_append.mp hp).elim (fun z => I.pin p (List.mem_append_left _ z)) (h p), I.hok, I.len⟩

theorem nodup_ix {N : List Str} (hN : N.Nodup) {i j : Nat} {x : Str} (a : N[i]? = some x) (b : N[j]? = some x) : i = j := by
  obtain ⟨h1, e1⟩ := List.getElem?_eq_some_iff.mp a
  obtain ⟨h2, e2⟩ := List.getElem?_eq_some_iff.mp b
  exact (List.getElem_inj hN).mp (e1.trans e2.symm)

theorem store_ok2 {M : Model} {A : Around} {E : Value → Shared → Prop} {i : Nat} {x : Str} {v : V} {u : Value} {Q : Unit → Shared → Prop} (I : Inv X pins σ H s) (hN : X.N.Nodup) (hi : X.N[i]? = some x) (hx : Loc X.env.scope x) (r : RelV v u)
    (h : ∀ s', Inv X pins (σ.set i (some v)) H s' → (∃ a, Heap.SameBut a s.heap s'.heap ∧ (a = X.env.locals ∨ X.env.cells.lookup x = some a)) → Q () s') (hf : X.fn x = true ∨ X.env.scope.names.lookup x = some .local := by first | exact .inl rfl | exact .inr rfl | assumption) : wpAny M A (storeName X.env x u) Q E s := by
  obtain ⟨m, hn, hl⟩ := id I.loc
  have hcls : (X.env.scope.kind == .class || (X.env.scope.kind == .module && X.env.locals != X.env.globals)) = false := by rw [I.ok.kind]; rfl
  have hiσ : i < σ.length := by rw [I.len]; exact (List.getElem?_eq_some_iff.mp hi).1
  have cne := I.cne
  have tracked : ∀ {a : Addr} {h' : Heap}, (∃ o, s.heap.get? a = some o ∧ H a = none) → Heap.SameBut a s.heap h' → HOk X.prog X.w H h' := fun {a h'} ha hs b ob e => by
    obtain ⟨_, _, hfree⟩ := ha
    refine (I.hok b ob e).stay (fun c w' hc q => (hs.2 c ?_).trans q) (fun _ q => q) fun _ _ q => q
    rintro rfl
    rcases hc with rfl | hc
    · rw [hfree] at e; cases e
    · rw [hfree] at hc; cases hc
  rcases hx with hk | hk
  · refine wpAny_storeName_local hk hn (fun h' hn' hs => ?_) hcls
    obtain ⟨oL, _, _, hoL, _⟩ := id hn
    refine h _ ⟨I.ok, I.os, I.bare, ⟨fun b o e n hb hx => ?_, fun b o e n hb hx => ?_, I.base.free, fun b o e hx => ?_, I.base.tups, I.base.frzs, I.base.tbls⟩, ⟨_, hn', fun j y v' e1 e2 e3 => ?_⟩, fun y c e => ?_, I.free, I.freeC, fun p hp => ?_, tracked ⟨oL, hoL, I.free⟩ hs, by simpa using I.len⟩ ⟨_, hs, .inl rfl⟩
    · exact (hs.2 b (Nat.ne_of_lt (Nat.lt_of_lt_of_le (Heap.lt_size e) I.ok.above))).trans (I.base.keep b o e n hb hx)
    · obtain ⟨sl, e1⟩ := I.base.slot b o e n hb hx
      exact ⟨sl, (hs.2 b (Nat.ne_of_lt (Nat.lt_of_lt_of_le (Heap.lt_size e) I.ok.above))).trans e1⟩
    · obtain ⟨o', e1⟩ := I.base.there b o e hx
      exact ⟨o', (hs.2 b (Nat.ne_of_lt (Nat.lt_of_lt_of_le (Heap.lt_size e) I.ok.above))).trans e1⟩
    · by_cases hj : j = i
      · subst hj
        rw [hi] at e1; cases e1
        rw [List.getElem?_set_self hiσ] at e2
        cases e2
        exact ⟨u, r, .inl ⟨hk, by simp⟩⟩
      · rw [List.getElem?_set_ne (Ne.symm hj)] at e2
        obtain ⟨u', r', q⟩ := hl j y v' e1 e2 e3
        refine ⟨u', r', ?_⟩
        rcases q with ⟨k, e⟩ | ⟨k, c, e, z⟩
        · refine .inl ⟨k, ?_⟩
          have : y ≠ x := fun e => hj (nodup_ix hN e1 (e ▸ hi))
          simp [this, e]
        · exact .inr ⟨k, c, e, z.sameBut hs (cne y c e)⟩
    · obtain ⟨w', z⟩ := I.cell y c e
      exact ⟨w', z.sameBut hs (cne y c e)⟩
    · obtain ⟨e, n, ne, nf, d⟩ := I.pin p hp
      exact ⟨(hs.2 p.1 ne).trans e, n, ne, nf, d⟩
  · have hfn : X.fn x = true := by
      rcases hf with z | z
      · exact z
      · rw [z] at hk; cases hk
    obtain ⟨c, hc⟩ := I.ok.has x (.inl hk)
    obtain ⟨w', z⟩ := I.cell x c hc
    refine wpAny_storeName_cell I.ok.kind hk hc z (fun h' hc' hs => ?_)
    obtain ⟨oc, hoc, hocd⟩ := id z
    refine h { s with heap := h' } ⟨I.ok, I.os, I.bare, ⟨fun b o e n hb hx => ?_, fun b o e n hb hx => ?_, I.base.free, fun b o e hx => ?_, I.base.tups, I.base.frzs, I.base.tbls⟩, ⟨m, hn.sameBut hs (Ne.symm (cne x c hc)), fun j y v' e1 e2 e3 => ?_⟩, fun y c' e => ?_, I.free, I.freeC, fun p hp => ?_, tracked ⟨oc, hoc, I.freeC x c hc⟩ hs, by simpa using I.len⟩ ⟨c, hs, .inr hc⟩
    · exact (hs.2 b (Nat.ne_of_lt (Nat.lt_of_lt_of_le (Heap.lt_size e) (I.ok.cab x c hfn hc)))).trans (I.base.keep b o e n hb hx)
    · obtain ⟨sl, e1⟩ := I.base.slot b o e n hb hx
      exact ⟨sl, (hs.2 b (Nat.ne_of_lt (Nat.lt_of_lt_of_le (Heap.lt_size e) (I.ok.cab x c hfn hc)))).trans e1⟩
    · obtain ⟨o', e1⟩ := I.base.there b o e hx
      exact ⟨o', (hs.2 b (Nat.ne_of_lt (Nat.lt_of_lt_of_le (Heap.lt_size e) (I.ok.cab x c hfn hc)))).trans e1⟩
    · by_cases hj : j = i
      · subst hj
        rw [hi] at e1; cases e1
        rw [List.getElem?_set_self hiσ] at e2
        cases e2
        exact ⟨u, r, .inr ⟨.inl hk, c, hc, hc'⟩⟩
      · rw [List.getElem?_set_ne (Ne.symm hj)] at e2
        obtain ⟨u', r', q⟩ := hl j y v' e1 e2 e3
        refine ⟨u', r', ?_⟩
        rcases q with q | ⟨k, c', e, z'⟩
        · exact .inl q
        · refine .inr ⟨k, c', e, z'.sameBut hs ?_⟩
          rintro rfl
          exact hj (nodup_ix hN e1 (I.ok.inj _ _ _ e hc ▸ hi))
    · by_cases hcc : c' = c
      · subst hcc; exact ⟨_, hc'⟩
      · obtain ⟨w2, z2⟩ := I.cell y c' e
        exact ⟨w2, z2.sameBut hs hcc⟩
    · obtain ⟨e, n, ne, nf, d⟩ := I.pin p hp
      refine ⟨(hs.2 p.1 ?_).trans e, n, ne, nf, d⟩
      intro q
      rw [q, hoc] at e
      have q' : oc = p.2 := Option.some.inj e
      exact d w' (by rw [← q']; exact hocd)
theorem store_ok {M : Model} {A : Around} {E : Value → Shared → Prop} {i : Nat} {x : Str} {v : V} {u : Value} {Q : Unit → Shared → Prop} (I : Inv X pins σ H s) (hN : X.N.Nodup) (hi : X.N[i]? = some x) (hx : Loc X.env.scope x) (r : RelV v u)
    (h : ∀ s', Inv X pins (σ.set i (some v)) H s' → Q () s') (hf : X.fn x = true ∨ X.env.scope.names.lookup x = some .local := by first | exact .inl rfl | exact .inr rfl | assumption) : wpAny M A (storeName X.env x u) Q E s :=
  store_ok2 I hN hi hx r (fun s' I' _ => h s' I') hf
theorem Inv.call' {s' : Shared} {ch : List Addr} (I : Inv X pins σ H s) (ho : s'.os = s.os) (u : Un (frs X.stack) ch H H' s.heap s'.heap) (hok : HOk X.prog X.w H' s'.heap) (hg : AllBare s'.gens)
    (hch : ∀ b ∈ ch, (b ∈ X.ex ∨ X.s₀.heap.objs.size ≤ b) ∧ b ≠ X.env.locals ∧ (∀ x c, X.env.cells.lookup x = some c → c ≠ b) ∧ ∀ p ∈ X.pn ++ pins, p.1 ≠ b) : Inv X pins σ H' s' := by
  obtain ⟨h', g', d', t', o'⟩ := s'
  have e : o' = s.os := ho
  subst e
  exact I.call (g' := g') (t' := t') (d' := d') u hok hg hch
end

noncomputable abbrev XK := Value → Option Addr → Hp → Prop
noncomputable abbrev St := List (Option V)
noncomputable abbrev VK := V → Hp → Prop
noncomputable abbrev TE := St → Hp → VK → Prop
noncomputable abbrev TT := St → Hp → (Bool → Hp → Prop) → Prop
noncomputable abbrev TA := St → Hp → (List V → Hp → Prop) → Prop
structure Ends where
  nx : St → Hp → Prop
  rt : VK
  bk : St → Hp → Prop := fun _ _ => False
  ct : St → Hp → Prop := fun _ _ => False
noncomputable abbrev TS := Ends → St → Hp → Prop

noncomputable def EP (X : Cx) (pins : List (Addr × Obj)) (σ : St) (Q : VK) (u : Value) (s' : Shared) : Prop := ∃ v H', Inv X pins σ H' s' ∧ RelV v u ∧ Q v H'
noncomputable def TP (X : Cx) (pins : List (Addr × Obj)) (σ : St) (Q : Bool → Hp → Prop) (b : Bool) (s' : Shared) : Prop := ∃ H', Inv X pins σ H' s' ∧ Q b H'
noncomputable def AP (X : Cx) (pins : List (Addr × Obj)) (σ : St) (Q : List V → Hp → Prop) (us : List Value) (s' : Shared) : Prop := ∃ vs H', Inv X pins σ H' s' ∧ Vals vs us ∧ Q vs H'
noncomputable def SP (X : Cx) (pins : List (Addr × Obj)) (D : Ends) (f : Flow) (s' : Shared) : Prop :=
  match f with
  | .next => ∃ σ' H', Inv X pins σ' H' s' ∧ D.nx σ' H'
  | .brk => ∃ σ' H', Inv X pins σ' H' s' ∧ D.bk σ' H'
  | .cont => ∃ σ' H', Inv X pins σ' H' s' ∧ D.ct σ' H'
  | .ret u => ∃ v σ' H', Inv X pins σ' H' s' ∧ RelV v u ∧ D.rt v H'

noncomputable def PE (X : Cx) (e : Expr) (t : TE) : Prop :=
  ∀ (pins : List (Addr × Obj)) (s : Shared) (σ : St) (H : Hp) (Q : VK), Inv X pins σ H s → t σ H Q → wpAny (model X.prog X.w) X.A (eval e X.env) (EP X pins σ Q) X.xe s
noncomputable def PT (X : Cx) (e : Expr) (t : TT) : Prop :=
  ∀ (pins : List (Addr × Obj)) (s : Shared) (σ : St) (H : Hp) (Q : Bool → Hp → Prop), Inv X pins σ H s → t σ H Q → wpAny (model X.prog X.w) X.A (isTrue e X.env (eval e X.env)) (TP X pins σ Q) X.xe s
noncomputable def PW (X : Cx) (e : Expr) (t : TT) : Prop :=
  ∀ (whole : Sem Value) (pins : List (Addr × Obj)) (s : Shared) (σ : St) (H : Hp) (Q : Bool → Hp → Prop), Inv X pins σ H s → t σ H Q → wpAny (model X.prog X.w) X.A (isTrue e X.env whole) (TP X pins σ Q) X.xe s
theorem PW.pt {X : Cx} {e : Expr} {t : TT} (h : PW X e t) : PT X e t := h _
noncomputable def PA (X : Cx) (es : List Expr) (t : TA) : Prop :=
  ∀ (pos : Pos) (pins : List (Addr × Obj)) (s : Shared) (σ : St) (H : Hp) (Q : List V → Hp → Prop), Inv X pins σ H s → t σ H Q → wpAny (model X.prog X.w) X.A (spliced (backTo pos (starEach es X.env))) (AP X pins σ Q) X.xe s
noncomputable def PS (X : Cx) (st : Stmt) (t : TS) : Prop :=
  ∀ (pins : List (Addr × Obj)) (s : Shared) (σ : St) (H : Hp) (D : Ends), Inv X pins σ H s → t D σ H → wpAny (model X.prog X.w) X.A (exec st X.env) (SP X pins D) X.xe s
noncomputable def PSs (X : Cx) (st : List Stmt) (t : TS) : Prop :=
  ∀ (pins : List (Addr × Obj)) (s : Shared) (σ : St) (H : Hp) (D : Ends), Inv X pins σ H s → t D σ H → wpAny (model X.prog X.w) X.A (execs st X.env) (SP X pins D) X.xe s
theorem thn {α : Type} {t : Sem α} {Q Q' : α → Shared → Prop} {M : Model} {A : Around} {E : Value → Shared → Prop} {s : Shared} (h : wpAny M A t Q E s) (hQ : ∀ a s, Q a s → Q' a s) : wpAny M A t Q' E s := wpAny_mono h hQ fun _ _ x => x
end L2

namespace L2
open PySem PySem.Spec PyProof.Rows
section
variable {X : Cx}

noncomputable def tVar (i : Nat) : TE := fun σ H Q => ∃ v, σ[i]? = some (some v) ∧ Q v H
noncomputable def tC (v : V) : TE := fun _ H Q => Q v H
theorem pe_var {i : Nat} {x : Str} {pos : Pos} (hN : X.N[i]? = some x) (hv : Vis X.env.scope x) (hd : (x == ("__debug__" : Str)) = false := by decide) (hcd : (x == ("__classdict__" : Str)) = false := by decide) : PE X (.Name x pos) (tVar i) := by
  intro pins s σ H Q I h
  obtain ⟨v, e, h⟩ := h
  obtain ⟨m, hn, hl⟩ := I.loc
  obtain ⟨u, r, l⟩ := hl i x v hN e hv
  have fin : EP X pins σ Q u s := ⟨v, H, I, r, h⟩
  rcases l with ⟨hk, hm⟩ | ⟨hk, c, hc, hcell⟩
  · exact wpAny_Name (wpAny_loadName_local I.ok.kind hk hn hm fin) hd
  · rcases hk with hk | hk
    · exact wpAny_Name (wpAny_loadName_cell I.ok.kind hk hc hcell fin) hd
    · exact wpAny_Name (wpAny_loadName_free I.ok.kind hk hc hcell fin hcd) hd
theorem pe_int {i j pos} : PE X (.Constant (.int i) j pos) (tC (.int i)) := fun _ _ _ H _ I h => wpAny_Constant_int ⟨.int i, H, I.tok _, ⟨_, rfl⟩, h⟩
theorem pe_bl {b j pos} : PE X (.Constant (.bool b) j pos) (tC (.bl b)) := fun _ _ _ H _ I h => Constant_bool ⟨.bl b, H, I, rfl, h⟩
theorem pe_str {x j pos} : PE X (.Constant (.str x) j pos) (tC (.str x)) := fun _ _ _ H _ I h => Calls.Constant_str ⟨.str x, H, I.tok _, ⟨_, rfl⟩, h⟩

noncomputable def Gl (X : Cx) (x : Str) : Prop := X.env.kindOf x = some .globalImplicit
theorem ld_glob {E : Value → Shared → Prop} {pins : List (Addr × Obj)} {s : Shared} {σ : St} {H : Hp} {x : Str} {u : Value} {pos : Pos} {Q : Value → Shared → Prop} (I : Inv X pins σ H s) (hg : Gl X x) (hm : X.mg x = some u) (h : Q u s)
    (hd : (x == ("__debug__" : Str)) = false := by decide) : wpAny (model X.prog X.w) X.A (eval (.Name x pos) X.env) Q E s :=
  Calls.Name_function_global I.ok.kind hg (Calls.loadGlobal_global (by rw [I.ok.glob]; exact I.mod.glob.keeps I.bk) hm h) hd
theorem ld_blt {E : Value → Shared → Prop} {pins : List (Addr × Obj)} {s : Shared} {σ : St} {H : Hp} {x : Str} {u : Value} {pos : Pos} {Q : Value → Shared → Prop} (I : Inv X pins σ H s) (hg : Gl X x) (hm : X.mg x = none) (hv : bootBuiltins x = some u) (h : Q u s)
    (hn : x ≠ "__name__" := by decide) (hd : (x == ("__debug__" : Str)) = false := by decide) : wpAny (model X.prog X.w) X.A (eval (.Name x pos) X.env) Q E s := by
  obtain ⟨mb, h1, h2⟩ := I.mod.blt
  exact Calls.Name_function_global I.ok.kind hg (Calls.loadGlobal_builtin (by rw [I.ok.glob]; exact I.mod.glob.keeps I.bk) hm (by rw [I.ok.blt]; exact h1.keeps I.bk) ((h2 x hn).trans hv) h) hd
theorem pe_bltn {x : Str} {v : V} {u : Value} {pos : Pos} (hg : Gl X x) (hm : X.mg x = none) (hv : bootBuiltins x = some u) (r : RelV v u) (hn : x ≠ "__name__" := by decide) (hd : (x == ("__debug__" : Str)) = false := by decide) : PE X (.Name x pos) (tC v) :=
  fun _ _ _ H _ I h => ld_blt I hg hm hv ⟨v, H, I, r, h⟩ hn hd

variable {a b : Expr} {ta tb : TE} {pos : Pos}
noncomputable def tB (t : TE) : TT := fun σ H Q => t σ H fun x H1 => ∃ c, x = .bl c ∧ Q c H1
theorem pt_val {e : Expr} {t : TE} (h : PE X e t) (he : ∀ whole, isTrue e X.env whole = (do let v ← whole; standAt e.pos; holding [v] (truthy v)) := by intro _; rfl) : PT X e (tB t) := by
  intro pins s σ H Q I hw
  refine isTrue_plain (thn (h pins s σ H _ I hw) fun v s1 ⟨x, H1, I1, r1, q1⟩ => ?_) (he _)
  obtain ⟨d, rfl, q⟩ := q1
  cases r1
  exact wpAny_truthy_bool ⟨H1, I1, q⟩

variable {tA tB' : TT} {rest : List Expr}
noncomputable def tAnd (t u : TT) : TT := fun σ H Q => t σ H fun c H1 => if c = true then u σ H1 Q else Q false H1
noncomputable def tOr (t u : TT) : TT := fun σ H Q => t σ H fun c H1 => if c = true then Q true H1 else u σ H1 Q
noncomputable def tNot (t : TT) : TT := fun σ H Q => t σ H fun c H1 => Q (!c) H1
theorem pw_and1 (ha : PT X a tA) : PW X (.BoolOp .And [a] pos) tA := by
  intro wh pins s σ H Q I h
  refine isTrue_and (thn (ha pins s σ H Q I h) fun c s1 e => ?_)
  cases c with
  | true => exact isTrue_and_nil e
  | false => exact e
theorem pw_or1 (ha : PT X a tA) : PW X (.BoolOp .Or [a] pos) tA := by
  intro wh pins s σ H Q I h
  refine isTrue_or (thn (ha pins s σ H Q I h) fun c s1 e => ?_)
  cases c with
  | false => exact isTrue_or_nil e
  | true => exact e
theorem pw_and (ha : PT X a tA) (hb : PW X (.BoolOp .And (b :: rest) pos) tB') : PW X (.BoolOp .And (a :: b :: rest) pos) (tAnd tA tB') := by
  intro wh pins s σ H Q I h
  refine isTrue_and (thn (ha pins s σ H _ I h) fun c s1 ⟨H1, I1, q1⟩ => ?_)
  cases c with
  | true => exact hb wh pins s1 σ H1 Q I1 q1
  | false => exact ⟨H1, I1, q1⟩
theorem pw_or (ha : PT X a tA) (hb : PW X (.BoolOp .Or (b :: rest) pos) tB') : PW X (.BoolOp .Or (a :: b :: rest) pos) (tOr tA tB') := by
  intro wh pins s σ H Q I h
  refine isTrue_or (thn (ha pins s σ H _ I h) fun c s1 ⟨H1, I1, q1⟩ => ?_)
  cases c with
  | true => exact ⟨H1, I1, q1⟩
  | false => exact hb wh pins s1 σ H1 Q I1 q1
theorem pt_not (ha : PT X a tA) : PT X (.UnaryOp .Not a pos) (tNot tA) := by
  intro pins s σ H Q I h
  exact isTrue_not (ha pins s σ H (fun c H1 => Q (!c) H1) I h)
noncomputable def tAndV (ta tb : TE) : TE := fun σ H Q => ta σ H fun x H1 => ∃ c, x = .bl c ∧ if c = true then tb σ H1 Q else Q (.bl false) H1
noncomputable def tNotV (ta : TE) : TE := fun σ H Q => ta σ H fun x H1 => ∃ c, x = .bl c ∧ Q (.bl (!c)) H1
theorem pe_one {op} {t : TE} (h : PE X a t) : PE X (.BoolOp op [a] pos) t := fun pins s σ H Q I hw => BoolOp_one (h pins s σ H Q I hw)
theorem pe_and (ha : PE X a ta) (hb : PE X (.BoolOp .And (b :: rest) pos) tb) : PE X (.BoolOp .And (a :: b :: rest) pos) (tAndV ta tb) := by
  intro pins s σ H Q I h
  refine BoolOp_and (thn (ha pins s σ H _ I h) fun v s1 ⟨x, H1, I1, r1, q1⟩ => ?_)
  obtain ⟨c, rfl, q1⟩ := q1
  cases r1
  refine wpAny_truthy_bool ?_
  cases c with
  | true => exact hb pins s1 σ H1 Q I1 q1
  | false => exact ⟨.bl false, H1, I1, rfl, q1⟩
theorem pe_not (ha : PE X a ta) : PE X (.UnaryOp .Not a pos) (tNotV ta) := by
  intro pins s σ H Q I h
  refine UnaryOp_ (thn (ha pins s σ H _ I h) fun v s1 ⟨x, H1, I1, r1, q1⟩ => ?_)
  obtain ⟨c, rfl, q1⟩ := q1
  cases r1
  exact not_of (wpAny_truthy_bool ⟨.bl (!c), H1, I1, rfl, q1⟩)
end
end L2

namespace L2
open PySem PySem.Spec PyProof.Rows

noncomputable def SqL (K : PySem.W.Frag) (H : Hp) (a : Addr) (xs : List V) : Prop :=
  Rd H a (.lst xs) ∨
    ∃ (o : Obj) (its : Array Value) (n : Nat), K.lookup a = some o ∧ o.cls = .type "list" ∧ o.dict = none ∧ o.data = .seq its n ∧ its.size ≤ sizeLine ∧ Vals xs its.toList
noncomputable def SqT (K : PySem.W.Frag) (H : Hp) (a : Addr) (xs : List V) : Prop :=
  Rd H a (.tup xs) ∨
    ∃ (o : Obj) (its : Array Value) (n : Nat), K.lookup a = some o ∧ o.cls = .type "tuple" ∧ o.data = .seq its n ∧ its.size ≤ sizeLine ∧ Vals xs its.toList
noncomputable def absV : Value → Option V
  | .none => some .non
  | .bool b => some (.bl b)
  | .int i _ => some (.int i)
  | .str x _ => some (.str x)
  | .bytes b _ => some (.byt b)
  | .float b _ => some (.flt b)
  | .ref a => some (.ref a)
  | .type n => some (.ty n)
  | _ => none
theorem RelV.abs {x : V} {u : Value} (r : RelV x u) : absV u = some x := by
  cases x with
  | non => cases r; rfl
  | bl _ => cases r; rfl
  | int _ => obtain ⟨t, rfl⟩ := r; rfl
  | str _ => obtain ⟨t, rfl⟩ := r; rfl
  | byt _ => obtain ⟨t, rfl⟩ := r; rfl
  | flt _ => obtain ⟨t, rfl⟩ := r; rfl
  | ref _ => cases r; rfl
  | ty _ => cases r; rfl
theorem RelV.inj {x y : V} {u : Value} (r : RelV x u) (q : RelV y u) : x = y := Option.some.inj (r.abs.symm.trans q.abs)
theorem Vals.inj : ∀ {xs ys : List V} {us : List Value}, Vals xs us → Vals ys us → xs = ys
  | _, _, _, .nil, .nil => rfl
  | _, _, _, .cons r t, .cons r' t' => by rw [r.inj r', Vals.inj t t']
section
variable {X : Cx} {pins : List (Addr × Obj)} {σ : St} {H : Hp} {s : Shared} {a : Addr} {xs ys : List V}
theorem SqL.of {K : PySem.W.Frag} (h : H a = some (.lst xs)) : SqL K H a xs := .inl (.inl h)
theorem SqT.of {K : PySem.W.Frag} (h : H a = some (.tup xs)) : SqT K H a xs := .inl (.inl h)
theorem Inv.list (I : Inv X pins σ H s) (h : SqL X.K H a xs) : ∃ its : List Value, Vals xs its ∧ PlainL s.heap a its.toArray ∧ xs.length ≤ sizeLine := by
  rcases h with h | ⟨o, its, n, hk, hc, hd, hs, hz, r⟩
  · obtain ⟨z, its, n, r, e⟩ := h.ok I.hok
    exact ⟨its, r, ⟨_, n, e, rfl, rfl, rfl⟩, z⟩
  · refine ⟨its.toList, r, ⟨o, n, I.kIn a o hk, hc, hd, by simpa using hs⟩, ?_⟩
    have e := r.length
    simp only [Array.length_toList] at e
    omega
theorem Inv.tuple (I : Inv X pins σ H s) (h : SqT X.K H a xs) : ∃ its : List Value, Vals xs its ∧ IsTup s.heap a its.toArray ∧ xs.length ≤ sizeLine := by
  rcases h with h | ⟨o, its, n, hk, hc, hs, hz, r⟩
  · obtain ⟨z, its, r, p⟩ := h.ok I.hok
    exact ⟨its, r, p.tup, z⟩
  · refine ⟨its.toList, r, ⟨o, I.kIn a o hk, hc, n, by simpa using hs⟩, ?_⟩
    have e := r.length
    simp only [Array.length_toList] at e
    omega
theorem Inv.list_inj (I : Inv X pins σ H s) (h : SqL X.K H a xs) (h' : SqL X.K H a ys) : xs = ys := by
  obtain ⟨its, r, ⟨o, n, e, _, _, d⟩, _⟩ := I.list h
  obtain ⟨its', r', ⟨o', n', e', _, _, d'⟩, _⟩ := I.list h'
  rw [e] at e'; cases e'
  rw [d] at d'
  injection d' with d1 _
  have : its = its' := by simpa using congrArg Array.toList d1
  subst this
  exact r.inj r'
theorem Inv.tuple_inj (I : Inv X pins σ H s) (h : SqT X.K H a xs) (h' : SqT X.K H a ys) : xs = ys := by
  obtain ⟨its, r, ⟨o, e, _, n, d⟩, _⟩ := I.tuple h
  obtain ⟨its', r', ⟨o', e', _, n', d'⟩, _⟩ := I.tuple h'
  rw [e] at e'; cases e'
  rw [d] at d'
  injection d' with d1 _
  have : its = its' := by simpa using congrArg Array.toList d1
  subst this
  exact r.inj r'
end

noncomputable abbrev Cx.wish (X : Cx) (E : Value → Shared → Prop) : Cx := { X with xe := E }
noncomputable abbrev Cx.nox (X : Cx) : Cx := X.wish fun _ _ => False
theorem Cx.Ok.wish {X : Cx} (ok : X.Ok) (E : Value → Shared → Prop) : (X.wish E).Ok :=
  ⟨ok.mod, ok.kind, ok.glob, ok.blt, ok.above, ok.inj, ok.has, ok.cab, ok.hd, ok.frames, ok.stk, ok.exf, ok.bs, ok.bsz, ok.noex, ok.exfs, ok.funs, ok.frf⟩
theorem Cx.Ok.unwish {X : Cx} {E : Value → Shared → Prop} (ok : (X.wish E).Ok) : X.Ok :=
  ⟨ok.mod, ok.kind, ok.glob, ok.blt, ok.above, ok.inj, ok.has, ok.cab, ok.hd, ok.frames, ok.stk, ok.exf, ok.bs, ok.bsz, ok.noex, ok.exfs, ok.funs, ok.frf⟩
section
variable {X : Cx} {pins : List (Addr × Obj)} {σ : St} {H : Hp} {s : Shared} {E : Value → Shared → Prop}
theorem Inv.wish (I : Inv X pins σ H s) (E : Value → Shared → Prop) : Inv (X.wish E) pins σ H s := ⟨I.ok.wish E, I.os, I.bare, I.base, I.loc, I.cell, I.free, I.freeC, I.pin, I.hok, I.len⟩
theorem Inv.unwish (I : Inv (X.wish E) pins σ H s) : Inv X pins σ H s := ⟨I.ok.unwish, I.os, I.bare, I.base, I.loc, I.cell, I.free, I.freeC, I.pin, I.hok, I.len⟩
theorem SP.unwish {D : Ends} {f : Flow} {s' : Shared} (h : SP (X.wish E) pins D f s') : SP X pins D f s' := by
  cases f with
  | next => obtain ⟨σ', H', I, q⟩ := h; exact ⟨σ', H', I.unwish, q⟩
  | brk => obtain ⟨σ', H', I, q⟩ := h; exact ⟨σ', H', I.unwish, q⟩
  | cont => obtain ⟨σ', H', I, q⟩ := h; exact ⟨σ', H', I.unwish, q⟩
  | ret u => obtain ⟨v, σ', H', I, r, q⟩ := h; exact ⟨v, σ', H', I.unwish, r, q⟩
theorem PSs.nox {st : List Stmt} {t : TS} (h : PSs X.nox st t) : PSs X st t := fun pins s σ H D I hw =>
  wpAny_mono (h pins s σ H D (I.wish _) hw) (fun _ _ q => q.unwish) fun _ _ z => False.elim z
end

section
variable {X : Cx} {st : Stmt} {rest : List Stmt} {t u : TS} {e : Expr} {te : TE} {pos : Pos}
noncomputable def tNext : TS := fun D σ H => D.nx σ H
noncomputable def tSeq (t u : TS) : TS := fun D σ H => t { D with nx := u D } σ H
theorem pss_nil : PSs X [] tNext := fun _ _ σ H _ I h => wpAny_execs_nil ⟨σ, H, I, h⟩
theorem pss_cons (h1 : PS X st t) (h2 : PSs X rest u) : PSs X (st :: rest) (tSeq t u) := by
  intro pins s σ H D I h
  refine wpAny_execs_cons (thn (h1 pins s σ H { D with nx := u D } I h) fun f s1 q => ?_)
  cases f with
  | next =>
    obtain ⟨σ', H', I', q⟩ := q
    exact h2 pins s1 σ' H' D I' q
  | ret v => exact q
  | brk => exact q
  | cont => exact q
theorem pss_one (h1 : PS X st t) : PSs X [st] t := by
  intro pins s σ H D I h
  refine wpAny_execs_cons (thn (h1 pins s σ H D I h) fun f s1 q => ?_)
  cases f with
  | next => exact wpAny_execs_nil q
  | ret v => exact q
  | brk => exact q
  | cont => exact q
theorem Inv.quiet {pins : List (Addr × Obj)} {σ : St} {H : Hp} {s : Shared} (I : Inv X pins σ H s) : interactive X.env = false := by simp [interactive, I.ok.kind]
noncomputable def tDrop (te : TE) : TS := fun D σ H => te σ H fun _ H1 => D.nx σ H1
theorem ps_expr (he : PE X e te) (hs : swapsWith e none pos.line X.env = pure false := by rfl) : PS X (.Expr e pos) (tDrop te) := by
  intro pins s σ H D I h
  exact wpAny_Expr_any (thn (he pins s σ H _ I h) fun v s1 ⟨x, H1, I1, r1, q1⟩ => ⟨σ, H1, I1, q1⟩) I.quiet hs
noncomputable def tRet (te : TE) : TS := fun D σ H => te σ H D.rt
theorem ps_ret (he : PE X e te) : PS X (.Return (some e) pos) (tRet te) := by
  intro pins s σ H D I h
  exact wpAny_Return_some (thn (he pins s σ H _ I h) fun v s1 ⟨x, H1, I1, r1, q1⟩ => ⟨x, σ, H1, I1, r1, q1⟩)
noncomputable def tIfS (c : TT) (t u : TS) : TS := fun D σ H => c σ H fun b H1 => if b = true then t D σ H1 else u D σ H1
theorem ps_if {c : Expr} {a b : List Stmt} {tc : TT} (hc : PT X c tc) (ha : PSs X a t) (hb : PSs X b u) : PS X (.If c a b pos) (tIfS tc t u) := by
  intro pins s σ H D I h
  refine wpAny_If (thn (hc pins s σ H _ I h) fun d s1 ⟨H1, I1, q1⟩ => ?_)
  cases d with
  | true => exact ha pins s1 σ H1 D I1 q1
  | false => exact hb pins s1 σ H1 D I1 q1
end

noncomputable abbrev TG := V → St → Hp → (St → Hp → Prop) → Prop
noncomputable abbrev TGs := List V → St → Hp → (St → Hp → Prop) → Prop
noncomputable def PG (X : Cx) (target : Expr) (t : TG) : Prop :=
  ∀ (pins : List (Addr × Obj)) (s : Shared) (σ : St) (H : Hp) (v : V) (u : Value) (Q : St → Hp → Prop), Inv X pins σ H s → RelV v u → t v σ H Q →
    wpAny (model X.prog X.w) X.A (assign target X.env u) (fun _ s' => ∃ σ' H', Inv X pins σ' H' s' ∧ Q σ' H') X.xe s
noncomputable def PGs (X : Cx) (ts : List Expr) (t : TGs) : Prop :=
  ∀ (pins : List (Addr × Obj)) (s : Shared) (σ : St) (H : Hp) (vs : List V) (us : List Value) (Q : St → Hp → Prop), Inv X pins σ H s → Vals vs us → t vs σ H Q →
    wpAny (model X.prog X.w) X.A (assignInOrder ((assignEach ts X.env).map (·.2)) us) (fun _ s' => ∃ σ' H', Inv X pins σ' H' s' ∧ Q σ' H') X.xe s
section
variable {X : Cx} {pos : Pos}
noncomputable def gName (i : Nat) : TG := fun v σ H Q => Q (σ.set i (some v)) H
theorem pg_name {i : Nat} {x : Str} (hN : X.N.Nodup) (hi : X.N[i]? = some x) (hx : Loc X.env.scope x) (hf : X.fn x = true ∨ X.env.scope.names.lookup x = some .local := by first | exact .inl rfl | exact .inr rfl | assumption) : PG X (.Name x pos) (gName i) := by
  intro pins s σ H v u Q I r h
  exact wpAny_assign_Name (store_ok I hN hi hx r (fun s' I' => ⟨_, H, I', h⟩) hf)
noncomputable def gNil : TGs := fun vs σ H Q => vs = [] ∧ Q σ H
noncomputable def gCons (t : TG) (u : TGs) : TGs := fun vs σ H Q => ∃ v r, vs = v :: r ∧ t v σ H fun σ' H' => u r σ' H' Q
theorem pgs_nil : PGs X [] gNil := by
  intro pins s σ H vs us Q I r h
  obtain ⟨e, h⟩ := h
  subst e
  cases r
  exact assignInOrder_nil ⟨σ, H, I, h⟩
theorem pgs_cons {e : Expr} {es : List Expr} {t : TG} {u : TGs} (h1 : PG X e t) (h2 : PGs X es u)
    (hs : (assignEach (e :: es) X.env).map (·.2) = assign e X.env :: (assignEach es X.env).map (·.2) := by rfl) : PGs X (e :: es) (gCons t u) := by
  intro pins s σ H vs us Q I r h
  obtain ⟨v, vr, e1, h⟩ := h
  subst e1
  cases r with
  | cons r rr =>
    rw [hs]
    refine assignInOrder_cons (thn (h1 pins s σ H _ _ _ I r h) fun _ s1 ⟨σ1, H1, I1, q1⟩ => ?_)
    exact h2 pins s1 σ1 H1 _ _ Q I1 rr q1
noncomputable def gTup (K : PySem.W.Frag) (n : Nat) (t : TGs) : TG := fun v σ H Q => ∃ a xs, v = .ref a ∧ SqT K H a xs ∧ xs.length = n ∧ t xs σ H Q
theorem pg_tup {es : List Expr} {k : Nat} {t : TGs} {n : Nat} (hc : X.calm = true) (h : PGs X es t)
    (hn : (assignEach es X.env).length = n := by rfl) (hst : (assignEach es X.env).findIdx? (·.1) = none := by rfl) : PG X (.Tuple es k pos) (gTup X.K n t) := by
  intro pins s σ H v u Q I r hw
  obtain ⟨a, xs, e1, hq, hl, hw⟩ := hw
  subst e1
  cases r
  obtain ⟨its, rv, ht, hz⟩ := I.tuple hq
  refine assign_Tuple_tuple (I.ok.hd hc) ht (by simp [hn, ← hl, rv.length]) hst fun h' hx => ?_
  have I1 : Inv X pins σ H { s with heap := h' } := I.kept (t' := s.toks) fun b o e => hx b o (Nat.ne_of_lt (Heap.lt_size e)) e
  exact h pins _ σ H xs _ Q I1 (by simpa using rv) hw
noncomputable def tAsg (te : TE) (g : TG) : TS := fun D σ H => te σ H fun x H1 => g x σ H1 D.nx
theorem ps_asg {tg e : Expr} {te : TE} {g : TG} (he : PE X e te) (hg : PG X tg g) (hs : swapsWithSole [tg] e pos.line X.env = pure false := by rfl) (hw : swappedStores [tg] e X.env = pure none := by rfl)
    (h1 : (assignEach [tg] X.env).map (·.2) = [assign tg X.env] := by rfl) : PS X (.Assign [tg] e pos) (tAsg te g) := by
  intro pins s σ H D I h
  refine wpAny_Assign_stores (thn (he pins s σ H _ I h) fun v s1 ⟨x, H1, I1, r1, q1⟩ => ?_) hs hw
  rw [h1]
  exact thn (hg pins s1 σ H1 x v _ I1 r1 q1) fun _ s2 q => q
theorem ps_set {i : Nat} {x : Str} {e : Expr} {te : TE} {pos' : Pos} (hN : X.N.Nodup) (hi : X.N[i]? = some x) (hx : Loc X.env.scope x) (he : PE X e te) (hs : swapsWith e (some (.Name x pos')) pos.line X.env = pure false := by rfl) (hf : X.fn x = true ∨ X.env.scope.names.lookup x = some .local := by first | exact .inl rfl | exact .inr rfl | assumption) :
    PS X (.Assign [.Name x pos'] e pos) (tAsg te (gName i)) := by
  intro pins s σ H D I h
  refine wpAny_Assign_Name (thn (he pins s σ H _ I h) fun v s1 ⟨y, H1, I1, r1, q1⟩ => ?_) hs
  exact store_ok I1 hN hi hx r1 (fun s2 I2 => ⟨_, H1, I2, q1⟩) hf
end

section
variable {X : Cx} {pos : Pos}
noncomputable def tWhile (c : TT) (tb : TS) : TS := fun D σ H => ∃ W : Nat → St → Hp → Prop, (∃ m, W m σ H) ∧ ∀ m σ H, W m σ H →
  c σ H fun b H1 => if b = true then ∃ N : St → Hp → Prop, (∀ σ' H', N σ' H' → ∃ m', m' < m ∧ W m' σ' H') ∧ tb { D with nx := N, ct := N, bk := D.nx } σ H1 else D.nx σ H1
theorem ps_while {c : Expr} {body : List Stmt} {tc : TT} {tb : TS} (hp : PassesOwn (model X.prog X.w) X.A X.env X.xe) (hc : PT X c tc) (hb : PSs X body tb) : PS X (.While c body [] pos) (tWhile tc tb) := by
  intro pins s σ H D I h
  obtain ⟨W, ⟨m0, w0⟩, turn⟩ := h
  refine wpAny_While (codeAny_whileLoop (fun n s' => ∃ σ' H', Inv X pins σ' H' s' ∧ W n σ' H') ?_ m0 ⟨σ, H, I, w0⟩)
  rintro n s1 ⟨σ1, H1, I1, w1⟩
  refine wpAny_passesOwn hp (thn (hc pins s1 σ1 H1 _ I1 (turn n σ1 H1 w1)) fun b s2 ⟨H2, I2, q2⟩ => ?_)
  cases b with
  | true =>
    obtain ⟨N, hN, q2⟩ := q2
    rw [if_pos rfl]
    refine wpAny_passesOwn hp (thn (hb pins s2 σ1 H2 _ I2 q2) fun f s3 q3 => ?_)
    cases f with
    | next =>
      obtain ⟨σ3, H3, I3, n3⟩ := q3
      obtain ⟨m', hm, w3⟩ := hN σ3 H3 n3
      exact ⟨m', hm, σ3, H3, I3, w3⟩
    | cont =>
      obtain ⟨σ3, H3, I3, n3⟩ := q3
      obtain ⟨m', hm, w3⟩ := hN σ3 H3 n3
      exact ⟨m', hm, σ3, H3, I3, w3⟩
    | brk => exact q3
    | ret v => exact q3
  | false =>
    rw [if_neg Bool.false_ne_true]
    exact wpAny_execs_nil ⟨σ1, H2, I2, q2⟩
end

structure It where
  go : Nat → Hp → Prop
  yld : Nat → Hp → V → Hp → Prop
  stop : Nat → Hp → Prop
noncomputable def FpOk (X : Cx) (pins : List (Addr × Obj)) (H : Hp) (b : Addr) : Prop :=
  H b = none ∧ b ≠ X.env.locals ∧ b ∉ X.fs ∧ (b ∈ X.ex ∨ X.s₀.heap.objs.size ≤ b) ∧ (∀ x c, X.env.cells.lookup x = some c → c ≠ b) ∧ ∀ p ∈ X.pn ++ pins, p.1 ≠ b
theorem Inv.fpOk {X : Cx} {pins : List (Addr × Obj)} {σ : St} {H H' : Hp} {s : Shared} {b : Addr} (I : Inv X pins σ H s) (hb : s.heap.objs.size ≤ b) (hn : H' b = none) : FpOk X pins H' b := by
  refine ⟨hn, Nat.ne_of_gt (Nat.lt_of_lt_of_le I.lt hb), I.nofs hb, .inr (Nat.le_trans I.sz hb), fun x c e z => ?_, fun p hp z => ?_⟩
  · obtain ⟨v, q⟩ := I.cell x c e
    exact absurd (Nat.lt_of_lt_of_le q.lt (by rw [z]; exact hb)) (Nat.lt_irrefl _)
  · exact absurd (Nat.lt_of_lt_of_le (Heap.lt_size (I.pin p hp).1) (by rw [z]; exact hb)) (Nat.lt_irrefl _)
structure Turn (P : Program) (w : World) (K : PySem.W.Frag) (tg : Expr) (J : It) (fp : List Addr) (it : Addr) (tn : Nat → Heap → Prop) : Prop where
  mem : it ∈ fp
  obj : ∀ i h, tn i h → ∀ b ∈ fp, ∃ o, h.get? b = some o ∧ ∀ v, o.data ≠ .cell v
  keep : ∀ i h h', tn i h → (∀ b ∈ fp, ∀ o, h.get? b = some o → h'.get? b = some o) → tn i h'
  item : ∀ (X : Cx), X.prog = P → X.w = w → X.K = K → X.calm = true → ∀ (i : Nat) (pins : List (Addr × Obj)) (s : Shared) (σ : St) (H : Hp) (E : Value → Shared → Prop), Inv X pins σ H s → (∀ b ∈ fp, FpOk X pins H b) → tn i s.heap → J.go i H →
    wpAny (model P w) X.A (pyNext (.ref it)) (fun r s1 => ∃ u, r = some u ∧
      wpAny (model P w) X.A (letOwnedTupleGo tg (.ref it) u) (fun _ s2 => ∃ x H', Inv X pins σ H' s2 ∧ RelV x u ∧ J.yld i H x H' ∧ tn (i + 1) s2.heap ∧ ∀ b ∈ fp, H' b = none) E s1) E s
  done : ∀ (X : Cx), X.prog = P → X.w = w → X.K = K → X.calm = true → ∀ (i : Nat) (pins : List (Addr × Obj)) (s : Shared) (σ : St) (H : Hp) (E : Value → Shared → Prop), Inv X pins σ H s → (∀ b ∈ fp, FpOk X pins H b) → tn i s.heap → J.stop i H →
    wpAny (model P w) X.A (pyNext (.ref it)) (fun r s1 => r = none ∧ Inv X pins σ H s1) E s
  self : ∀ (A : Around) (i : Nat) (s : Shared) (Q : Value → Shared → Prop) (E : Value → Shared → Prop), tn i s.heap → Q (.ref it) s → wpAny (model P w) A (pyIter (.ref it)) Q E s
noncomputable abbrev TI := St → Hp → (It → Hp → Prop) → Prop
noncomputable def PIE (X : Cx) (pins : List (Addr × Obj)) (σ : St) (tg : Expr) (R : It → Hp → Prop) (itv : Value) (s2 : Shared) : Prop :=
  ∃ (it : Addr) (fp : List Addr) (tn : Nat → Heap → Prop) (J : It) (H' : Hp), itv = .ref it ∧ Inv X pins σ H' s2 ∧ Turn X.prog X.w X.K tg J fp it tn ∧ tn 0 s2.heap ∧ (∀ b ∈ fp, FpOk X pins H' b) ∧ R J H'
noncomputable def PI (X : Cx) (tg iter : Expr) (wi : TI) : Prop :=
  ∀ (pins : List (Addr × Obj)) (s : Shared) (σ : St) (H : Hp) (R : It → Hp → Prop), Inv X pins σ H s → wi σ H R →
    wpAny (model X.prog X.w) X.A (eval iter X.env) (fun v s1 => wpAny (model X.prog X.w) X.A (pyIter v) (PIE X pins σ tg R) X.xe s1) X.xe s

theorem go_of {M : Model} {A : Around} {E : Value → Shared → Prop} {s : Shared} {tg : Expr} {it : Addr} {u : Value} {o : Obj} {n : String} {vs : Array Value} {Q : Unit → Shared → Prop} (ho : s.heap.get? it = some o) (hc : o.cls = .type n) (hd : o.data = .fields vs)
    (hn : ["enumerate", "zip", "dict_itemiterator", "dict_reverseitemiterator", "odict_iterator", "itertools.zip_longest", "itertools.pairwise"].contains n = false) (hQ : Q () s) : wpAny M A (letOwnedTupleGo tg (.ref it) u) Q E s := by
  unfold letOwnedTupleGo
  cases tg <;> first
    | exact wpAny_pure hQ
    | (cases u <;> first
        | exact wpAny_pure hQ
        | (refine wpAny_bind (wpAny_load ho ?_)
           rw [hc, hd]
           show wpAny M A (if (["enumerate", "zip", "dict_itemiterator", "dict_reverseitemiterator", "odict_iterator", "itertools.zip_longest", "itertools.pairwise"].contains n && vs[0]? == some (rawInt _)) = true then _ else _) Q E s
           rw [if_neg (by intro h; rw [hn, Bool.false_and] at h; cases h)]
           exact wpAny_pure hQ))

noncomputable def Itl (K : PySem.W.Frag) (a : Addr) : It :=
  ⟨fun i H => ∃ xs x, SqL K H a xs ∧ xs[i]? = some x, fun i H x H' => H' = H ∧ ∀ xs, SqL K H a xs → xs[i]? = some x, fun i H => ∃ xs, SqL K H a xs ∧ xs.length ≤ i⟩
noncomputable def Itt (K : PySem.W.Frag) (a : Addr) : It :=
  ⟨fun i H => ∃ xs x, SqT K H a xs ∧ xs[i]? = some x, fun i H x H' => H' = H ∧ ∀ xs, SqT K H a xs → xs[i]? = some x, fun i H => ∃ xs, SqT K H a xs ∧ xs.length ≤ i⟩
noncomputable def Itr (lo : Int) (n : Nat) : It := ⟨fun i _ => i < n, fun i H x H' => H' = H ∧ x = .int (lo + i), fun i _ => n ≤ i⟩
theorem turn_list {P : Program} {w : World} {K : PySem.W.Frag} {tg : Expr} (a it : Addr) : Turn P w K tg (Itl K a) [it] it (fun i h => h.IsListIter it a i) where
  mem := by simp
  obj := fun i h st b hb => by
    have e : b = it := by simpa using hb
    subst e
    obtain ⟨o, e, c, d⟩ := st
    exact ⟨o, e, fun v z => by rw [d] at z; cases z⟩
  keep := fun i h h' st k => st.at fun o e => k it (by simp) o e
  item := by
    intro X hP hw hK hc i pins s σ H E I hf st hg
    subst hP hw hK
    obtain ⟨xs, x, hq, hx⟩ := hg
    obtain ⟨its, rv, p, hz⟩ := I.list hq
    obtain ⟨u, hu, ru⟩ := rv.get hx
    obtain ⟨f0, f1, f2, f3, f4, f5⟩ := hf it (by simp)
    refine wpAny_pyNext_list_item st p.isList (x := u) (by simpa using hu) fun h' st' sb => ?_
    have I1 : Inv X pins σ H { s with heap := h' } := I.turned (t' := s.toks) (fun b o hb e => (sb.2 b hb).trans e) f0 f1 f3 f4 f5
    obtain ⟨o, e, c, d⟩ := id st'
    exact ⟨u, rfl, go_of (s := { s with heap := h' }) e c d (by decide) ⟨x, H, I1, ru, ⟨rfl, fun ys hy => by rw [I.list_inj hy hq]; exact hx⟩, st', fun b hb => (hf b hb).1⟩⟩
  done := by
    intro X hP hw hK hc i pins s σ H E I hf st hg
    subst hP hw hK
    obtain ⟨xs, hq, hx⟩ := hg
    obtain ⟨its, rv, p, hz⟩ := I.list hq
    obtain ⟨f0, f1, f2, f3, f4, f5⟩ := hf it (by simp)
    have hl := rv.length
    exact wpAny_pyNext_list_end (I.ok.hd hc) st p.isList (by simp; omega) fun h' eb => ⟨rfl, I.turned (t' := s.toks) (fun b o hb e => eb b o hb e) f0 f1 f3 f4 f5⟩
  self := fun _ _ _ _ _ st h => wpAny_pyIter_listiter st h
theorem turn_tuple {P : Program} {w : World} {K : PySem.W.Frag} {tg : Expr} (a it : Addr) : Turn P w K tg (Itt K a) [it] it (fun i h => h.IsTupleIter it a i) where
  mem := by simp
  obj := fun i h st b hb => by
    have e : b = it := by simpa using hb
    subst e
    obtain ⟨o, e, c, d⟩ := st
    exact ⟨o, e, fun v z => by rw [d] at z; cases z⟩
  keep := fun i h h' st k => st.at fun o e => k it (by simp) o e
  item := by
    intro X hP hw hK hc i pins s σ H E I hf st hg
    subst hP hw hK
    obtain ⟨xs, x, hq, hx⟩ := hg
    obtain ⟨its, rv, p, hz⟩ := I.tuple hq
    obtain ⟨u, hu, ru⟩ := rv.get hx
    obtain ⟨f0, f1, f2, f3, f4, f5⟩ := hf it (by simp)
    refine wpAny_pyNext_tuple_item st (show s.heap.IsTuple a its.toArray from p) (x := u) (by simpa using hu) fun h' st' sb => ?_
    have I1 : Inv X pins σ H { s with heap := h' } := I.turned (t' := s.toks) (fun b o hb e => (sb.2 b hb).trans e) f0 f1 f3 f4 f5
    obtain ⟨o, e, c, d⟩ := id st'
    exact ⟨u, rfl, go_of (s := { s with heap := h' }) e c d (by decide) ⟨x, H, I1, ru, ⟨rfl, fun ys hy => by rw [I.tuple_inj hy hq]; exact hx⟩, st', fun b hb => (hf b hb).1⟩⟩
  done := by
    intro X hP hw hK hc i pins s σ H E I hf st hg
    subst hP hw hK
    obtain ⟨xs, hq, hx⟩ := hg
    obtain ⟨its, rv, p, hz⟩ := I.tuple hq
    obtain ⟨f0, f1, f2, f3, f4, f5⟩ := hf it (by simp)
    have hl := rv.length
    exact wpAny_pyNext_tuple_end (I.ok.hd hc) st (show s.heap.IsTuple a its.toArray from p) (by simp; omega) fun h' eb => ⟨rfl, I.turned (t' := s.toks) (fun b o hb e => eb b o hb e) f0 f1 f3 f4 f5⟩
  self := fun _ _ _ _ _ st h => wpAny_pyIter_tupleiter st h
theorem turn_range {P : Program} {w : World} {K : PySem.W.Frag} {tg : Expr} (it : Addr) (lo : Int) (n : Nat) : Turn P w K tg (Itr lo n) [it] it (fun i h => IsRangeIter h it (lo + (i : Nat) * 1) ((n : Int) - (i : Nat)) 1) where
  mem := by simp
  obj := fun i h st b hb => by
    have e : b = it := by simpa using hb
    subst e
    exact ⟨_, st, fun v z => by
      have z' : Data.fields _ = Data.cell v := z
      cases z'⟩
  keep := fun i h h' st k => k it (by simp) _ st
  item := by
    intro X hP hw hK hc i pins s σ H E I hf st hg
    subst hP hw hK
    obtain ⟨f0, f1, f2, f3, f4, f5⟩ := hf it (by simp)
    have W := Walks.range (prog := X.prog) (w := X.w) (I.ok.hd hc) it lo 1 n
    refine W.item i s _ _ hg st fun v h' tk hv st' kk => ?_
    obtain ⟨t, rfl⟩ := hv
    have I1 : Inv X pins σ H { s with heap := h', toks := tk } := I.turned (fun b o hb e => kk b o (by simpa using hb) e) f0 f1 f3 f4 f5
    refine ⟨_, rfl, go_of (s := { s with heap := h', toks := tk }) (n := "range_iterator") st' rfl rfl (by decide) ⟨.int (lo + i), H, I1, ⟨t, ?_⟩, ⟨rfl, rfl⟩, st', fun b hb => (hf b hb).1⟩⟩
    rw [Int.mul_one]
  done := by
    intro X hP hw hK hc i pins s σ H E I hf st hg
    subst hP hw hK
    obtain ⟨f0, f1, f2, f3, f4, f5⟩ := hf it (by simp)
    exact wpAny_pyNext_range_end (I.ok.hd hc) st (by have : n ≤ i := hg; omega) fun h' eb => ⟨rfl, I.turned (t' := s.toks) (fun b o hb e => eb b o hb e) f0 f1 f3 f4 f5⟩
  self := fun _ _ _ _ _ st h => wpAny_pyIter_rangeiter st h
end L2

namespace L2
open PySem PySem.Spec PyProof.Rows
section
variable {X : Cx} {tg : Expr}
noncomputable def iList (K : PySem.W.Frag) (tl : TE) : TI := fun σ H R => tl σ H fun x H1 => ∃ a, x = .ref a ∧ (∃ xs, SqL K H1 a xs) ∧ R (Itl K a) H1
noncomputable def iTup (K : PySem.W.Frag) (tl : TE) : TI := fun σ H R => tl σ H fun x H1 => ∃ a, x = .ref a ∧ (∃ xs, SqT K H1 a xs) ∧ R (Itt K a) H1
theorem pi_list {l : Expr} {tl : TE} (hl : PE X l tl) : PI X tg l (iList X.K tl) := by
  intro pins s σ H R I h
  refine thn (hl pins s σ H _ I h) fun v s1 ⟨x, H1, I1, r1, q1⟩ => ?_
  obtain ⟨a, e, ⟨xs, hq⟩, q⟩ := q1
  subst e
  cases r1
  obtain ⟨its, rv, p, hz⟩ := I1.list hq
  refine wpAny_pyIter_list p.isList ?_
  refine ⟨s1.heap.objs.size, [s1.heap.objs.size], _, _, H1, rfl, I1.kept (t' := s1.toks) fun b o e => Heap.get?_push_of_some _ e, turn_list a _, ⟨_, Heap.get?_push_size _ rfl, rfl, rfl⟩, fun b hb => ?_, q⟩
  have e : b = s1.heap.objs.size := by simpa using hb
  subst e
  exact I1.fpOk (Nat.le_refl _) (I1.hok.fresh (Nat.le_refl _))
theorem pi_tup {l : Expr} {tl : TE} (hl : PE X l tl) : PI X tg l (iTup X.K tl) := by
  intro pins s σ H R I h
  refine thn (hl pins s σ H _ I h) fun v s1 ⟨x, H1, I1, r1, q1⟩ => ?_
  obtain ⟨a, e, ⟨xs, hq⟩, q⟩ := q1
  subst e
  cases r1
  obtain ⟨its, rv, p, hz⟩ := I1.tuple hq
  refine wpAny_pyIter_tuple (show s1.heap.IsTuple a its.toArray from p) ?_
  refine ⟨s1.heap.objs.size, [s1.heap.objs.size], _, _, H1, rfl, I1.kept (t' := s1.toks) fun b o e => Heap.get?_push_of_some _ e, turn_tuple a _, ⟨_, Heap.get?_push_size _ rfl, rfl, rfl⟩, fun b hb => ?_, q⟩
  have e : b = s1.heap.objs.size := by simpa using hb
  subst e
  exact I1.fpOk (Nat.le_refl _) (I1.hok.fresh (Nat.le_refl _))
theorem range_it {pins : List (Addr × Obj)} {σ : St} {H : Hp} {s : Shared} {R : It → Hp → Prop} {E : Value → Shared → Prop} {lo hi : Int} {t u v : Tok} {tk : Nat} (I : Inv X pins σ H s) (h1 : -(2 ^ 62) ≤ lo) (h2 : lo < 2 ^ 62) (h3 : -(2 ^ 62) ≤ hi) (h4 : hi < 2 ^ 62)
    (q : R (Itr lo (hi - lo).toNat) H) : wpAny (model X.prog X.w) X.A (pyIter (.ref s.heap.objs.size)) (PIE X pins σ tg R) E { s with heap := s.heap.push { cls := .type "range", data := .fields #[.int lo t, .int hi u, .int 1 v] }, toks := tk } := by
  refine wpAny_pyIter_range (IsRange.new ..) (small_one h1 h2 h3 h4) ?_
  have I1 : Inv X pins σ H { s with heap := s.heap.push { cls := .type "range", data := .fields #[.int lo t, .int hi u, .int 1 v] }, toks := tk } := I.kept fun b o e => Heap.get?_push_of_some _ e
  refine ⟨(s.heap.push { cls := .type "range", data := .fields #[.int lo t, .int hi u, .int 1 v] }).objs.size, [(s.heap.push { cls := .type "range", data := .fields #[.int lo t, .int hi u, .int 1 v] }).objs.size], _, _, H, rfl,
    I1.kept (t' := tk) fun b o e => Heap.get?_push_of_some _ e, turn_range _ lo (hi - lo).toNat, ?_, fun b hb => ?_, q⟩
  · have e1 : lo + ((0 : Nat) : Int) * 1 = lo := by simp
    have e2 : (((hi - lo).toNat : Nat) : Int) - ((0 : Nat) : Int) = Builtin.Range.rangeSize lo hi 1 := by rw [rangeSize_one]; split <;> omega
    show IsRangeIter _ _ (lo + ((0 : Nat) : Int) * 1) ((((hi - lo).toNat : Nat) : Int) - ((0 : Nat) : Int)) 1
    rw [e1, e2]
    exact Heap.get?_push_size _ rfl
  · have e : b = (s.heap.push { cls := .type "range", data := .fields #[.int lo t, .int hi u, .int 1 v] }).objs.size := by simpa using hb
    subst e
    exact I1.fpOk (Nat.le_refl _) (I1.hok.fresh (Nat.le_refl _))
noncomputable def iRng1 (ta : TA) : TI := fun σ H R => ta σ H fun vs H1 => ∃ j : Int, vs = [.int j] ∧ -(2 ^ 62) ≤ j ∧ j < 2 ^ 62 ∧ R (Itr 0 j.toNat) H1
theorem pi_range1 {a : Expr} {ta : TA} {p pos : Pos} (hg : Gl X "range") (hm : X.mg "range" = none) (ha : PA X [a] ta) (hs : starEach [a] X.env = [(false, eval a X.env)] := by rfl) : PI X tg (.Call (.Name "range" p) [a] [] pos) (iRng1 ta) := by
  intro pins s σ H R I h
  refine Call_ (ld_blt I hg hm boot_range (PyProof.Rows.callWith_type1 (thn (ha pos pins s σ H _ I h) fun us s1 ⟨vs, H1, I1, r1, q1⟩ => ?_) hs rfl))
  obtain ⟨j, e, q1, q2, q⟩ := q1
  subst e
  cases r1 with
  | cons r rr =>
    cases rr
    obtain ⟨t, rfl⟩ := r
    exact call_range_1 (range_it I1 (by omega) (by omega) q1 q2 (by simpa using q))
noncomputable def tFor (wi : TI) (g : TG) (tb : TS) : TS := fun D σ H => wi σ H fun J H1 => ∃ W : Nat → Nat → St → Hp → Prop, (∃ m, W 0 m σ H1) ∧ ∀ i m σ H, W i m σ H →
  (J.stop i H ∧ D.nx σ H) ∨ (J.go i H ∧ ∃ N : St → Hp → Prop, (∀ σ' H', N σ' H' → ∃ m', m' < m ∧ W (i + 1) m' σ' H') ∧ ∀ x H', J.yld i H x H' → g x σ H' fun σ2 H2 => tb { D with nx := N, ct := N, bk := D.nx } σ2 H2)
noncomputable def pinsAt (fp : List Addr) (h : Heap) : List (Addr × Obj) := fp.filterMap fun b => (h.get? b).map fun o => (b, o)
theorem mem_pinsAt {fp : List Addr} {h : Heap} {b : Addr} {o : Obj} (hb : b ∈ fp) (e : h.get? b = some o) : (b, o) ∈ pinsAt fp h := List.mem_filterMap.mpr ⟨b, hb, by rw [e]; rfl⟩
theorem of_pinsAt {fp : List Addr} {h : Heap} {p : Addr × Obj} (hp : p ∈ pinsAt fp h) : p.1 ∈ fp ∧ h.get? p.1 = some p.2 := by
  obtain ⟨b, hb, e⟩ := List.mem_filterMap.mp hp
  cases q : h.get? b with
  | none => rw [q] at e; cases e
  | some o =>
    rw [q] at e
    have e' : (b, o) = p := Option.some.inj e
    subst e'
    exact ⟨hb, q⟩
theorem Inv.pinned {pins : List (Addr × Obj)} {σ : St} {H : Hp} {s : Shared} {fp : List Addr} (I : Inv X pins σ H s) (hf : ∀ b ∈ fp, FpOk X pins H b) (ho : ∀ b ∈ fp, ∃ o, s.heap.get? b = some o ∧ ∀ v, o.data ≠ .cell v) : Inv X (pins ++ pinsAt fp s.heap) σ H s :=
  I.pins_of fun p hp => (List.mem_append.mp hp).elim (fun z => I.pin p (List.mem_append_right _ z)) fun z => by
    obtain ⟨hb, e⟩ := of_pinsAt z
    obtain ⟨f0, f1, f2, _⟩ := hf p.1 hb
    obtain ⟨o, e', d⟩ := ho p.1 hb
    rw [e] at e'; cases e'
    exact ⟨e, f0, f1, f2, d⟩
theorem Inv.unpinned {pins pl : List (Addr × Obj)} {σ : St} {H : Hp} {s : Shared} (I : Inv X (pins ++ pl) σ H s) : Inv X pins σ H s := I.pins_of fun p hp => I.pin p (List.mem_append_right _ (List.mem_append_left _ hp))
theorem ps_for {iter : Expr} {body : List Stmt} {wi : TI} {g : TG} {tb : TS} {pos : Pos} (hp : PassesOwn (model X.prog X.w) X.A X.env X.xe) (hc : X.calm = true) (hi : PI X tg iter wi) (hg : PG X tg g) (hb : PSs X body tb)
    (hs : ∀ x, foldedSetIterable iter X.env x = pure x := by intro _; rfl) : PS X (.For tg iter body [] pos) (tFor wi g tb) := by
  intro pins s σ H D I h
  refine wpAny_For (thn (hi pins s σ H _ I h) fun v s1 h1 => thn h1 fun itv s2 h2 => ?_) hs
  obtain ⟨it, fp, tn, J, H2, e, I2, T, st2, f2, W, ⟨m0, w0⟩, turn⟩ := h2
  subst e
  -- what stays true of the iterator's objects through the loop
  have stat : ∀ {H' : Hp}, (∀ b ∈ fp, H' b = none) → ∀ b ∈ fp, FpOk X pins H' b := fun hn b hb => ⟨hn b hb, (f2 b hb).2⟩
  refine codeAny_forLoop_any (fun n s' => ∃ i σ' H', Inv X pins σ' H' s' ∧ tn i s'.heap ∧ (∀ b ∈ fp, H' b = none) ∧ W i n σ' H') ?_ m0 ⟨0, σ, H2, I2, st2, fun b hb => (f2 b hb).1, w0⟩
  rintro n s3 ⟨i, σ3, H3, I3, st3, fr3, w3⟩
  rcases turn i n σ3 H3 w3 with ⟨stop, qn⟩ | ⟨go, N, hN, step⟩
  · refine wpAny_passesOwn hp (thn (T.done X rfl rfl rfl hc i pins s3 σ3 H3 X.xe I3 (stat fr3) st3 stop) fun r s4 ⟨hr, I4⟩ => ?_)
    subst hr
    exact wpAny_execs_nil ⟨σ3, H3, I4, qn⟩
  · refine wpAny_passesOwn hp (thn (T.item X rfl rfl rfl hc i pins s3 σ3 H3 X.xe I3 (stat fr3) st3 go) fun r s4 ⟨u, hr, h4⟩ => ?_)
    subst hr
    refine wpAny_passesOwn hp (thn h4 fun _ s5 ⟨x, H5, I5, r5, y5, st5, fr5⟩ => ?_)
    have I5' := I5.pinned (stat fr5) (T.obj _ _ st5)
    refine wpAny_passesOwn hp (thn (hg _ s5 σ3 H5 x u _ I5' r5 (step x H5 y5)) fun _ s6 ⟨σ6, H6, I6, q6⟩ => ?_)
    refine wpAny_passesOwn hp (thn (hb _ s6 σ6 H6 _ I6 q6) fun f s7 q7 => ?_)
    have again : ∀ {σ7 : St} {H7 : Hp}, Inv X (pins ++ pinsAt fp s5.heap) σ7 H7 s7 → N σ7 H7 → ∃ m, m < n ∧ ∃ i σ' H', Inv X pins σ' H' s7 ∧ tn i s7.heap ∧ (∀ b ∈ fp, H' b = none) ∧ W i m σ' H' := fun {σ7 H7} I7 n7 => by
      obtain ⟨m', hm, w7⟩ := hN σ7 H7 n7
      refine ⟨m', hm, i + 1, σ7, H7, I7.unpinned, T.keep _ _ _ st5 fun b hb o e => (I7.pin (b, o) (List.mem_append_right _ (List.mem_append_right _ (mem_pinsAt hb e)))).1, fun b hb => ?_, w7⟩
      obtain ⟨o, e, d⟩ := T.obj _ _ st5 b hb
      exact (I7.pin (b, o) (List.mem_append_right _ (List.mem_append_right _ (mem_pinsAt hb e)))).2.1
    cases f with
    | next => obtain ⟨σ7, H7, I7, n7⟩ := q7; exact again I7 n7
    | cont => obtain ⟨σ7, H7, I7, n7⟩ := q7; exact again I7 n7
    | brk => obtain ⟨σ7, H7, I7, q7⟩ := q7; exact ⟨σ7, H7, I7.unpinned, q7⟩
    | ret v => obtain ⟨x7, σ7, H7, I7, r7, q7⟩ := q7; exact ⟨x7, σ7, H7, I7.unpinned, r7, q7⟩
end

theorem for_list {K : PySem.W.Frag} {a : Addr} {xs : List V} {g : TG} {tb : TS} {D : Ends} {σ : St} {H : Hp} (Pv : Nat → St → Hp → Prop) (h0 : Pv 0 σ H) (hl : ∀ i σ H, i ≤ xs.length → Pv i σ H → SqL K H a xs)
    (hs : ∀ i x σ H, xs[i]? = some x → Pv i σ H → g x σ H fun σ2 H2 => tb { D with nx := Pv (i + 1), ct := Pv (i + 1), bk := D.nx } σ2 H2) (hd : ∀ σ H, Pv xs.length σ H → D.nx σ H) :
    ∃ W : Nat → Nat → St → Hp → Prop, (∃ m, W 0 m σ H) ∧ ∀ i m σ H, W i m σ H →
      ((Itl K a).stop i H ∧ D.nx σ H) ∨ ((Itl K a).go i H ∧ ∃ N : St → Hp → Prop, (∀ σ' H', N σ' H' → ∃ m', m' < m ∧ W (i + 1) m' σ' H') ∧ ∀ x H', (Itl K a).yld i H x H' → g x σ H' fun σ2 H2 => tb { D with nx := N, ct := N, bk := D.nx } σ2 H2) := by
  refine ⟨fun i m σ H => m = xs.length - i ∧ i ≤ xs.length ∧ Pv i σ H, ⟨xs.length, by simp, Nat.zero_le _, h0⟩, ?_⟩
  rintro i m σ H ⟨rfl, hi, p⟩
  have q := hl i σ H hi p
  by_cases hlt : i < xs.length
  · refine .inr ⟨⟨xs, xs[i], q, by simp [hlt]⟩, Pv (i + 1), fun σ' H' p' => ⟨xs.length - (i + 1), by omega, rfl, hlt, p'⟩, fun x H' y => ?_⟩
    obtain ⟨e, y⟩ := y
    subst e
    exact hs i x σ _ (y xs q) p
  · have e : i = xs.length := by omega
    subst e
    exact .inl ⟨⟨xs, q, Nat.le_refl _⟩, hd σ H p⟩
theorem for_tup {K : PySem.W.Frag} {a : Addr} {xs : List V} {g : TG} {tb : TS} {D : Ends} {σ : St} {H : Hp} (Pv : Nat → St → Hp → Prop) (h0 : Pv 0 σ H) (hl : ∀ i σ H, i ≤ xs.length → Pv i σ H → SqT K H a xs)
    (hs : ∀ i x σ H, xs[i]? = some x → Pv i σ H → g x σ H fun σ2 H2 => tb { D with nx := Pv (i + 1), ct := Pv (i + 1), bk := D.nx } σ2 H2) (hd : ∀ σ H, Pv xs.length σ H → D.nx σ H) :
    ∃ W : Nat → Nat → St → Hp → Prop, (∃ m, W 0 m σ H) ∧ ∀ i m σ H, W i m σ H →
      ((Itt K a).stop i H ∧ D.nx σ H) ∨ ((Itt K a).go i H ∧ ∃ N : St → Hp → Prop, (∀ σ' H', N σ' H' → ∃ m', m' < m ∧ W (i + 1) m' σ' H') ∧ ∀ x H', (Itt K a).yld i H x H' → g x σ H' fun σ2 H2 => tb { D with nx := N, ct := N, bk := D.nx } σ2 H2) := by
  refine ⟨fun i m σ H => m = xs.length - i ∧ i ≤ xs.length ∧ Pv i σ H, ⟨xs.length, by simp, Nat.zero_le _, h0⟩, ?_⟩
  rintro i m σ H ⟨rfl, hi, p⟩
  have q := hl i σ H hi p
  by_cases hlt : i < xs.length
  · refine .inr ⟨⟨xs, xs[i], q, by simp [hlt]⟩, Pv (i + 1), fun σ' H' p' => ⟨xs.length - (i + 1), by omega, rfl, hlt, p'⟩, fun x H' y => ?_⟩
    obtain ⟨e, y⟩ := y
    subst e
    exact hs i x σ _ (y xs q) p
  · have e : i = xs.length := by omega
    subst e
    exact .inl ⟨⟨xs, q, Nat.le_refl _⟩, hd σ H p⟩
theorem for_range {lo : Int} {n : Nat} {g : TG} {tb : TS} {D : Ends} {σ : St} {H : Hp} (Pv : Nat → St → Hp → Prop) (h0 : Pv 0 σ H)
    (hs : ∀ i σ H, i < n → Pv i σ H → g (.int (lo + i)) σ H fun σ2 H2 => tb { D with nx := Pv (i + 1), ct := Pv (i + 1), bk := D.nx } σ2 H2) (hd : ∀ σ H, Pv n σ H → D.nx σ H) :
    ∃ W : Nat → Nat → St → Hp → Prop, (∃ m, W 0 m σ H) ∧ ∀ i m σ H, W i m σ H →
      ((Itr lo n).stop i H ∧ D.nx σ H) ∨ ((Itr lo n).go i H ∧ ∃ N : St → Hp → Prop, (∀ σ' H', N σ' H' → ∃ m', m' < m ∧ W (i + 1) m' σ' H') ∧ ∀ x H', (Itr lo n).yld i H x H' → g x σ H' fun σ2 H2 => tb { D with nx := N, ct := N, bk := D.nx } σ2 H2) := by
  refine ⟨fun i m σ H => m = n - i ∧ i ≤ n ∧ Pv i σ H, ⟨n, by simp, Nat.zero_le _, h0⟩, ?_⟩
  rintro i m σ H ⟨rfl, hi, p⟩
  by_cases hlt : i < n
  · refine .inr ⟨hlt, Pv (i + 1), fun σ' H' p' => ⟨n - (i + 1), by omega, rfl, hlt, p'⟩, fun x H' y => ?_⟩
    obtain ⟨e, y⟩ := y
    subst e y
    exact hs i σ _ hlt p
  · have e : i = n := by omega
    subst e
    exact .inl ⟨Nat.le_refl _, hd σ H p⟩
end L2

namespace L2
open PySem PySem.Spec PyProof.Rows

noncomputable abbrev R2 := V → V → Hp → VK → Prop
noncomputable def OpR (X : Cx) (f : Value → Value → Sem Value) (r : R2) : Prop :=
  ∀ (pins : List (Addr × Obj)) (s : Shared) (σ : St) (H : Hp) (x y : V) (v u : Value) (Q : VK), Inv X pins σ H s → RelV x v → RelV y u → r x y H Q →
    wpAny (model X.prog X.w) X.A (f v u) (EP X pins σ Q) X.xe s
noncomputable def CallR (X : Cx) (f : Value) (r : List V → Hp → VK → Prop) : Prop :=
  ∀ (pins : List (Addr × Obj)) (s : Shared) (σ : St) (H : Hp) (xs : List V) (us : List Value) (Q : VK), Inv X pins σ H s → Vals xs us → r xs H Q →
    wpAny (model X.prog X.w) X.A (call f us) (EP X pins σ Q) X.xe s
noncomputable def tOp (r : R2) (ta tb : TE) : TE := fun σ H Q => ta σ H fun x H1 => tb σ H1 fun y H2 => r x y H2 Q
noncomputable def rI (C : Int → Int → Prop) (g : Int → Int → V) : R2 := fun x y H Q => ∃ i j, x = .int i ∧ y = .int j ∧ C i j ∧ Q (g i j) H
noncomputable def rI0 (g : Int → Int → V) : R2 := fun x y H Q => ∃ i j, x = .int i ∧ y = .int j ∧ Q (g i j) H
section
variable {X : Cx} {a b c : Expr} {ta tb tc : TE} {pos : Pos}

theorem binT (ha : PE X a ta) (hb : PE X b tb) {pins : List (Addr × Obj)} {s : Shared} {σ : St} {H : Hp} {R : V → V → Hp → Prop} (I : Inv X pins σ H s)
    (h : ta σ H fun x H1 => tb σ H1 fun y H2 => R x y H2) {Q : Value → Shared → Prop} {f : Value → Value → Sem Value}
    (hf : ∀ v u s2 x y H2, Inv X pins σ H2 s2 → RelV x v → RelV y u → R x y H2 → wpAny (model X.prog X.w) X.A (f v u) Q X.xe s2) :
    wpAny (model X.prog X.w) X.A (eval a X.env) (fun v s₁ => wpAny (model X.prog X.w) X.A (eval b X.env) (fun u s₂ => wpAny (model X.prog X.w) X.A (f v u) Q X.xe s₂) X.xe s₁) X.xe s := by
  refine thn (ha pins s σ H _ I h) fun v s1 ⟨x, H1, I1, r1, q1⟩ => ?_
  refine thn (hb pins s1 σ H1 _ I1 q1) fun u s2 ⟨y, H2, I2, r2, q2⟩ => ?_
  exact hf v u s2 x y H2 I2 r1 r2 q2

theorem pe_op {op : Operator} {r : R2} (ho : OpR X (binaryOp op) r) (ha : PE X a ta) (hb : PE X b tb) : PE X (.BinOp a op b pos) (tOp r ta tb) := by
  intro pins s σ H Q I h
  exact wpAny_BinOp (binT ha hb I h fun v u s2 x y H2 I2 rx ry q => ho pins s2 σ H2 x y v u Q I2 rx ry q)
theorem opI {f : Value → Value → Sem Value} {C : Int → Int → Prop} {g : Int → Int → Int}
    (rule : ∀ (i j : Int) (t u : Tok) (s : Shared) (Q : Value → Shared → Prop) (E : Value → Shared → Prop), C i j → Q (.int (g i j) s.toks) { s with toks := s.toks + 1 } → wpAny (model X.prog X.w) X.A (f (.int i t) (.int j u)) Q E s) :
    OpR X f (rI C fun i j => .int (g i j)) := by
  intro pins s σ H x y v u Q I rx ry h
  obtain ⟨i, j, rfl, rfl, hc, q⟩ := h
  obtain ⟨t, rfl⟩ := rx
  obtain ⟨t', rfl⟩ := ry
  exact rule i j t t' s _ _ hc ⟨.int (g i j), H, I.tok _, ⟨_, rfl⟩, q⟩
theorem opI0 {f : Value → Value → Sem Value} {g : Int → Int → Int}
    (rule : ∀ (i j : Int) (t u : Tok) (s : Shared) (Q : Value → Shared → Prop) (E : Value → Shared → Prop), Q (.int (g i j) s.toks) { s with toks := s.toks + 1 } → wpAny (model X.prog X.w) X.A (f (.int i t) (.int j u)) Q E s) :
    OpR X f (rI0 fun i j => .int (g i j)) := by
  intro pins s σ H x y v u Q I rx ry h
  obtain ⟨i, j, rfl, rfl, q⟩ := h
  obtain ⟨t, rfl⟩ := rx
  obtain ⟨t', rfl⟩ := ry
  exact rule i j t t' s _ _ ⟨.int (g i j), H, I.tok _, ⟨_, rfl⟩, q⟩
theorem opB0 {f : Value → Value → Sem Value} {g : Int → Int → Bool}
    (rule : ∀ (i j : Int) (t u : Tok) (s : Shared) (Q : Value → Shared → Prop) (E : Value → Shared → Prop), Q (.bool (g i j)) s → wpAny (model X.prog X.w) X.A (f (.int i t) (.int j u)) Q E s) :
    OpR X f (rI0 fun i j => .bl (g i j)) := by
  intro pins s σ H x y v u Q I rx ry h
  obtain ⟨i, j, rfl, rfl, q⟩ := h
  obtain ⟨t, rfl⟩ := rx
  obtain ⟨t', rfl⟩ := ry
  exact rule i j t t' s _ _ ⟨.bl (g i j), H, I, rfl, q⟩

noncomputable def CDiv (i j : Int) : Prop := 0 < j ∧ j < 1073741824
noncomputable def CPow (i j : Int) : Prop := 0 ≤ j ∧ j ≤ 1000000 ∧ i.natAbs < 2 ^ 64
noncomputable def CMul (i j : Int) : Prop := (-(2 ^ 64) < i ∧ i < 2 ^ 64) ∨ (-(2 ^ 64) < j ∧ j < 2 ^ 64)
theorem CMul.ok {i j : Int} (h : CMul i j) : IntMulOk i j := by
  rcases h with ⟨h1, h2⟩ | ⟨h1, h2⟩
  · exact .of_left (intBits_le_64 h1 h2)
  · exact .of_right (intBits_le_64 h1 h2)
theorem op_add : OpR X (binaryOp .Add) (rI0 fun i j => .int (i + j)) := opI0 fun _ _ _ _ _ _ _ q => add_int q
theorem op_sub : OpR X (binaryOp .Sub) (rI0 fun i j => .int (i - j)) := opI0 fun _ _ _ _ _ _ _ q => sub_int q
theorem op_mul : OpR X (binaryOp .Mult) (rI CMul fun i j => .int (i * j)) := opI fun _ _ _ _ _ _ _ hc q => mul_int q hc.ok
theorem op_fdiv : OpR X (binaryOp .FloorDiv) (rI CDiv fun i j => .int (i / j)) := opI fun i j _ _ _ _ _ hc q => by
  have h1 : (0 : Int) < j := hc.1
  have h2 : j < 1073741824 := hc.2
  exact floordiv_int (by omega) (by rw [Int.fdiv_eq_ediv_of_nonneg i (by omega)]; exact q) (.inl (PyProof.noPylong_small (by omega)))
theorem op_mod : OpR X (binaryOp .Mod) (rI (fun _ j => 0 < j) fun i j => .int (i % j)) := opI fun i j _ _ _ _ _ hc q => by
  have h1 : (0 : Int) < j := hc
  exact mod_int' (by omega) (by rw [Int.fmod_eq_emod_of_nonneg i (by omega)]; exact q)
theorem op_pow : OpR X (binaryOp .Pow) (rI CPow fun i j => .int (i ^ j.toNat)) := opI fun _ _ _ _ _ _ _ hc q => pow_int_small hc.1 hc.2.1 hc.2.2 q
end

noncomputable def scal : V → V → Bool
  | .non, .non => true | .non, .int _ => true | .int _, .non => true | .non, .bl _ => true | .bl _, .non => true | .non, .str _ => true | .str _, .non => true
  | .int _, .int _ => true | .bl _, .bl _ => true | .str _, .str _ => true | .byt _, .byt _ => true
  | .int _, .str _ => true | .str _, .int _ => true | .bl _, .str _ => true | .str _, .bl _ => true
  | _, _ => false
noncomputable def rEq : R2 := fun x y H Q => scal x y = true ∧ Q (.bl (decide (x = y))) H
noncomputable def rNe : R2 := fun x y H Q => scal x y = true ∧ Q (.bl (!decide (x = y))) H

theorem dec_int {i j : Int} : decide (V.int i = V.int j) = (i == j) := by
  rw [Bool.eq_iff_iff]
  simp
theorem dec_bl {i j : Bool} : decide (V.bl i = V.bl j) = (i == j) := by
  rw [Bool.eq_iff_iff]
  simp
theorem dec_str {i j : Str} : decide (V.str i = V.str j) = (i == j) := by
  rw [Bool.eq_iff_iff]
  simp
theorem dec_byt {i j : Array UInt8} : decide (V.byt i = V.byt j) = (i.toList == j.toList) := by
  rw [Bool.eq_iff_iff]
  cases i
  cases j
  simp

section
variable {X : Cx} {a b c : Expr} {ta tb tc : TE} {pos : Pos}
theorem fin_bl {pins : List (Addr × Obj)} {σ : St} {H : Hp} {s : Shared} {Q : VK} {k k' : Bool} (I : Inv X pins σ H s) (q : Q (.bl k) H) (e : k = k') : EP X pins σ Q (.bool k') s := by
  subst e
  exact ⟨.bl k, H, I, rfl, q⟩
theorem op_eq : OpR X (compareOp .Eq) rEq := by
  intro pins s σ H x y v u Q I rx ry h
  obtain ⟨hs, q⟩ := h
  cases x with
  | non =>
    cases rx
    cases y with
    | non => cases ry; exact PySem.EqNone.eq_none_none (fin_bl I q (by simp))
    | bl j => cases ry; exact PySem.EqNone.eq_none_bool (fin_bl I q (by simp))
    | int j => obtain ⟨t', rfl⟩ := ry; exact PySem.EqNone.eq_none_int (fin_bl I q (by simp))
    | str j => obtain ⟨t', rfl⟩ := ry; exact PySem.EqNone.eq_none_str (fin_bl I q (by simp))
    | _ => exact absurd (show false = true from hs) Bool.false_ne_true
  | bl i =>
    cases rx
    cases y with
    | non => cases ry; exact PySem.EqNone.eq_bool_none (fin_bl I q (by simp))
    | bl j => cases ry; exact eq_bool (fin_bl I q dec_bl)
    | str j => obtain ⟨t', rfl⟩ := ry; exact PySem.EqMixed.eq_bool_str (fin_bl I q (by simp))
    | _ => exact absurd (show false = true from hs) Bool.false_ne_true
  | int i =>
    obtain ⟨t, rfl⟩ := rx
    cases y with
    | non => cases ry; exact PySem.EqNone.eq_int_none (fin_bl I q (by simp))
    | int j => obtain ⟨t', rfl⟩ := ry; exact eq_int (fin_bl I q dec_int)
    | str j => obtain ⟨t', rfl⟩ := ry; exact PySem.EqMixed.eq_int_str (fin_bl I q (by simp))
    | _ => exact absurd (show false = true from hs) Bool.false_ne_true
  | str i =>
    obtain ⟨t, rfl⟩ := rx
    cases y with
    | non => cases ry; exact PySem.EqNone.eq_str_none (fin_bl I q (by simp))
    | bl j => cases ry; exact PySem.EqMixed.eq_str_bool (fin_bl I q (by simp))
    | int j => obtain ⟨t', rfl⟩ := ry; exact PySem.EqMixed.eq_str_int (fin_bl I q (by simp))
    | str j => obtain ⟨t', rfl⟩ := ry; exact eq_str (fin_bl I q dec_str)
    | _ => exact absurd (show false = true from hs) Bool.false_ne_true
  | byt i =>
    obtain ⟨t, rfl⟩ := rx
    cases y with
    | byt j => obtain ⟨t', rfl⟩ := ry; exact PySem.W.eq_bytes (fin_bl I q dec_byt)
    | _ => exact absurd (show false = true from hs) Bool.false_ne_true
  | _ => cases y <;> exact absurd (show false = true from hs) Bool.false_ne_true
theorem op_ne : OpR X (compareOp .NotEq) rNe := by
  intro pins s σ H x y v u Q I rx ry h
  obtain ⟨hs, q⟩ := h
  cases x with
  | non =>
    cases rx
    cases y with
    | non => cases ry; exact PySem.EqNone.ne_none_none (fin_bl I q (by simp))
    | bl j => cases ry; exact PySem.EqNone.ne_none_bool (fin_bl I q (by simp))
    | int j => obtain ⟨t', rfl⟩ := ry; exact PySem.EqNone.ne_none_int (fin_bl I q (by simp))
    | str j => obtain ⟨t', rfl⟩ := ry; exact PySem.EqNone.ne_none_str (fin_bl I q (by simp))
    | _ => exact absurd (show false = true from hs) Bool.false_ne_true
  | bl i =>
    cases rx
    cases y with
    | non => cases ry; exact PySem.EqNone.ne_bool_none (fin_bl I q (by simp))
    | bl j => cases ry; exact ne_bool (fin_bl I q (congrArg not dec_bl))
    | str j => obtain ⟨t', rfl⟩ := ry; exact PySem.EqMixed.ne_bool_str (fin_bl I q (by simp))
    | _ => exact absurd (show false = true from hs) Bool.false_ne_true
  | int i =>
    obtain ⟨t, rfl⟩ := rx
    cases y with
    | non => cases ry; exact PySem.EqNone.ne_int_none (fin_bl I q (by simp))
    | int j => obtain ⟨t', rfl⟩ := ry; exact ne_int (fin_bl I q (congrArg not dec_int))
    | str j => obtain ⟨t', rfl⟩ := ry; exact PySem.EqMixed.ne_int_str (fin_bl I q (by simp))
    | _ => exact absurd (show false = true from hs) Bool.false_ne_true
  | str i =>
    obtain ⟨t, rfl⟩ := rx
    cases y with
    | non => cases ry; exact PySem.EqNone.ne_str_none (fin_bl I q (by simp))
    | bl j => cases ry; exact PySem.EqMixed.ne_str_bool (fin_bl I q (by simp))
    | int j => obtain ⟨t', rfl⟩ := ry; exact PySem.EqMixed.ne_str_int (fin_bl I q (by simp))
    | str j => obtain ⟨t', rfl⟩ := ry; exact ne_str (fin_bl I q (congrArg not dec_str))
    | _ => exact absurd (show false = true from hs) Bool.false_ne_true
  | byt i =>
    obtain ⟨t, rfl⟩ := rx
    cases y with
    | byt j => obtain ⟨t', rfl⟩ := ry; exact PySem.W.ne_bytes (fin_bl I q (congrArg not dec_byt))
    | _ => exact absurd (show false = true from hs) Bool.false_ne_true
  | _ => cases y <;> exact absurd (show false = true from hs) Bool.false_ne_true

theorem op_lt : OpR X (compareOp .Lt) (rI0 fun i j => .bl (decide (i < j))) := opB0 fun _ _ _ _ _ _ _ q => lt_int q
theorem op_gt : OpR X (compareOp .Gt) (rI0 fun i j => .bl (decide (j < i))) := opB0 fun _ _ _ _ _ _ _ q => gt_int q
theorem nomark (b : Expr) {op : CmpOp} (h : op ≠ .In := by decide) (h2 : op ≠ .NotIn := by decide) : behindInMarks op b = false := by
  have e1 : (op == CmpOp.In) = false := by cases op <;> first | rfl | exact absurd rfl h
  have e2 : (op == CmpOp.NotIn) = false := by cases op <;> first | rfl | exact absurd rfl h2
  cases b <;> simp [behindInMarks, e1, e2]
noncomputable def tTest (t : TE) : TT := fun σ H Q => t σ H fun x H' => ∃ k, x = .bl k ∧ Q k H'
theorem pt_cmpR {op : CmpOp} {r : R2} (ho : OpR X (compareOp op) r) (ha : PE X a ta) (hb : PE X b tb) (hm : behindInMarks op b = false) : PT X (.Compare a [op] [b] pos) (tTest (tOp r ta tb)) := by
  intro pins s σ H Q I h
  refine wpAny_isTrue_Compare1 (thn (ha pins s σ H _ I h) fun v s1 ⟨x, H1, I1, r1, q1⟩ => thn (hb pins s1 σ H1 _ I1 q1) fun u s2 ⟨y, H2, I2, r2, q2⟩ =>
    thn (ho pins s2 σ H2 x y v u _ I2 r1 r2 q2) fun c s3 ⟨z, H3, I3, r3, k, e, q3⟩ => ?_) hm
  subst e
  cases r3
  exact wpAny_truthy_bool ⟨H3, I3, q3⟩
theorem line63 : (sizeLine : Nat) < 2 ^ 63 := by rw [sizeLine_eq]; decide
theorem op_add_str : OpR X (binaryOp .Add) (fun x y H Q => ∃ i j, x = .str i ∧ y = .str j ∧ i.length + j.length ≤ sizeLine ∧ Q (.str (i ++ j)) H) := by
  intro pins s σ H x y v u Q I rx ry h
  obtain ⟨i, j, rfl, rfl, hz, q⟩ := h
  obtain ⟨t, rfl⟩ := rx
  obtain ⟨t', rfl⟩ := ry
  exact add_str (fun t' tk => ⟨.str (i ++ j), H, I.tok _, ⟨_, rfl⟩, q⟩) hz
theorem vals1 {x : V} {us : List Value} (r : Vals [x] us) : ∃ u, us = [u] ∧ RelV x u := by
  cases r with
  | cons r1 r2 => cases r2; exact ⟨_, rfl, r1⟩
theorem call_abs : CallR X (.builtin "abs") (fun xs H Q => ∃ i, xs = [.int i] ∧ Q (.int (if i < 0 then -i else i)) H) := by
  intro pins s σ H xs us Q I r h
  obtain ⟨i, rfl, q⟩ := h
  obtain ⟨u, rfl, t, rfl⟩ := vals1 r
  exact call_abs_int fun u tk => ⟨.int (if i < 0 then -i else i), H, I.tok _, ⟨_, rfl⟩, q⟩
theorem call_ord : CallR X (.builtin "ord") (fun xs H Q => ∃ x, xs = [.str x] ∧ x.length = 1 ∧ Q (.int (x.cps.getD 0 0 : Nat)) H) := by
  intro pins s σ H xs us Q I r h
  obtain ⟨x, rfl, hz, q⟩ := h
  obtain ⟨u, rfl, t, rfl⟩ := vals1 r
  exact ord_of_one hz ⟨.int _, H, I.tok _, ⟨_, rfl⟩, q⟩
end
end L2

namespace L2
open PySem PySem.Spec PyProof.Rows

structure ObjM (h : Heap) (x dx C : Addr) (mA : Str → Option Value) : Prop where
  obj : h.get? x = some (PySem.W.instObj C dx)
  ns : h.Ns1 dx mA
  ne : dx ≠ x

theorem lookIn_ns {h : Heap} {dx : Addr} {mA : Str → Option Value} (n : h.Ns1 dx mA) : ∃ od, h.get? dx = some od ∧ ∀ name, PySem.W.lookIn name od = some (mA name) := by
  obtain ⟨o, es, ep, ho, hd, hk, _, hm⟩ := n
  refine ⟨o, ho, fun name => ?_⟩
  have e := hm name
  unfold nsFind findBy at e
  rw [← Array.find?_toList] at e
  unfold PySem.W.lookIn
  rw [hd]
  dsimp only
  split
  · rename_i y q
    rw [q] at e
    exact congrArg some e
  · rename_i q
    rw [q] at e
    have a : es.toList.any (·.refKey) = false := by
      rw [List.any_eq_false]
      intro y hy
      obtain ⟨z, t, hkey⟩ := hk y (Array.mem_toList_iff.mp hy)
      simp [DictEntry.refKey, hkey]
    have a' : ¬ es.toList.any (·.refKey) = true := by rw [a]; exact Bool.false_ne_true
    rw [if_neg a']
    exact congrArg some e

theorem ObjM.look {h : Heap} {x dx C : Addr} {mA : Str → Option Value} (I : ObjM h x dx C mA) : ∃ od, PySem.W.InstAt h x (PySem.W.instObj C dx) C (some od) ∧ ∀ name, PySem.W.lookIn name od = some (mA name) :=
  let ⟨od, ho, hl⟩ := lookIn_ns I.ns
  ⟨od, ⟨I.obj, rfl, rfl, ho⟩, hl⟩

section
variable {prog : Program} {w : World} {A : Around} {E : Value → Shared → Prop} {s : Shared} {K : PySem.W.Frag} {x dx C f : Addr} {mA : Str → Option Value} {name : Str} {v : Value}

theorem get_map {expr : Bool} {Q : Value → Shared → Prop} (X : K.In s.heap) (I : ObjM s.heap x dx C mA) (hg : PySem.W.plainGet K C name = true) (hh : PySem.W.hasDictIn K C = true)
    (ha : PySem.W.findIn K (.ref C) name = some none) (hv : mA name = some v) (hv' : PySem.W.handedIn v = true) (h : Q v { s with toks := s.toks + 1 }) :
    wpAny (model prog w) A (getAttr (.ref x) name expr) Q E s := by
  obtain ⟨od, J, hl⟩ := I.look
  exact PySem.W.get_value X J (PySem.W.plainGet_of hg).1 (PySem.W.findObj_own hh ha rfl (by rw [hl, hv])) hv' h

theorem get_meth {pl : Sem Bool} {Q : Value × List Value → Shared → Prop} (X : K.In s.heap) (I : ObjM s.heap x dx C mA) (hg : PySem.W.plainGet K C name = true)
    (hf : PySem.W.findIn K (.ref C) name = some (some (.ref f))) (ht : PySem.W.isFn K (.ref f) = true) (hv : mA name = none) (h : Q (.ref f, [.ref x]) s) :
    wpAny (model prog w) A (getMethod (.ref x) name pl) Q E s := by
  obtain ⟨od, J, hl⟩ := I.look
  exact PySem.W.method_fn X J (PySem.W.plainGet_of hg).1 (PySem.W.plainGet_of hg).2 hf (beq_iff_eq.mp ht) (by show (PySem.W.lookIn name od).map (·.isSome) = some false; rw [hl, hv]; rfl) h

theorem set_map {ns : List Str} {Q : Unit → Shared → Prop} (X : K.In s.heap) (I : ObjM s.heap x dx C mA)
    (hs : PySem.W.findIn K (.ref C) "__setattr__" = some (some (.builtin "object.__setattr__"))) (hp : PySem.W.plainOver K C = true) (ht : PySem.W.takerIn K C name = some none) (hh : PySem.W.hasDictIn K C = true)
    (hw : PySem.Within mA ns) (hsz : ns.length ≤ sizeLine)
    (h : ∀ h', ObjM h' x dx C (fun y => if y = name then some v else mA y) → Heap.SameBut dx s.heap h' → Q () { s with heap := h', toks := s.toks + 2 }) :
    wpAny (model prog w) A (setAttr (.ref x) name v) Q E s := by
  obtain ⟨od, J, hl⟩ := I.look
  refine PySem.W.set_plain X J hs (PySem.W.osa_open (s := { s with toks := s.toks + 1 }) (r := none) X J hp ht fun b => ?_)
  obtain ⟨cd, hc, hd'⟩ := PySem.W.any_some hh
  have hx : s.heap.get? x = some ⟨.ref C, some dx, .plain, #[]⟩ := I.obj
  refine wpAny_bind (wpAny_pure (wpAny_bind (wpAny_bind (wpAny_loadPart hx (wpAny_bind (PySem.W.Looks.here (s := { s with toks := s.toks + 1 }) (PySem.W.looks_clsIn X hc) ?_))))))
  rw [hd']
  refine wpAny_pure (a := some dx) (wpAny_bind (wpAny_pure (wpAny_bind ?_)))
  refine wpAny_nsSet1 (s := { s with toks := s.toks + 1 }) I.ns fun h' hn2 hs2 => ?_
  obtain ⟨oD, esD, epD, hoD, hdD, hcD⟩ := hn2.count (PySem.Within.cons name v hw)
  refine wpAny_bind (wpAny_lookBehind hoD (by rw [hdD]; exact pastItsLine_dict (Nat.le_trans hcD (by rw [List.length_cons]; omega))) ?_)
  exact wpAny_pure (h _ ⟨(hs2.2 _ (Ne.symm I.ne)).trans I.obj, hn2, I.ne⟩ hs2)

theorem make_map {R : Result → Shared → Prop} {vs : List Value} {kw : List (Str × Value)} (X : K.In s.heap) (hm : PySem.W.makesIn K C = true)
    (hi : PySem.W.findIn K (.ref C) "__init__" = some (some (.ref f))) (hf : PySem.W.typeIn K (.ref f) = some (.type "function"))
    (h : codeAny (model prog w) (A.under (.builtin "type.__call__" ⟨.ref C :: vs, kw⟩)) (.call (.ref f) ⟨.ref (s.heap.objs.size + 1) :: vs, kw⟩) (PySem.W.InitBack (s.heap.objs.size + 1) R)
      { s with heap := (s.heap.push PySem.W.emptyDict).push (PySem.W.instObj C s.heap.objs.size) }) :
    codeAny (model prog w) A (.call (.ref C) ⟨vs, kw⟩) R s := by
  obtain ⟨hh, g, d, t, os⟩ := s
  exact PySem.W.make_core (PySem.W.makes_of X hm) (PySem.W.looks_findIn X hi) (fun self => PySem.W.bind_fn X self hf) (.inl rfl) h
end

noncomputable def putF (f : Str) (v : V) : List (Str × V) → List (Str × V)
  | [] => [(f, v)]
  | (g, x) :: r => if g = f then (g, v) :: r else (g, x) :: putF f v r
theorem lookup_putF (f g : Str) (v : V) : ∀ fs : List (Str × V), (putF f v fs).lookup g = if g = f then some v else fs.lookup g
  | [] => by
    show List.lookup g [(f, v)] = _
    by_cases h : g = f
    · have hb : (g == f) = true := beq_iff_eq.mpr h
      simp only [List.lookup, hb, if_pos h]
    · have hb : (g == f) = false := beq_eq_false_iff_ne.mpr h
      simp only [List.lookup, hb, if_neg h]
  | (k, x) :: r => by
    have ih := lookup_putF f g v r
    rw [show putF f v ((k, x) :: r) = (if k = f then (k, v) :: r else (k, x) :: putF f v r) from rfl]
    by_cases hk : k = f
    · rw [if_pos hk]
      by_cases h : g = k
      · have hb : (g == k) = true := beq_iff_eq.mpr h
        simp only [List.lookup, hb, if_pos (h.trans hk)]
      · have hb : (g == k) = false := beq_eq_false_iff_ne.mpr h
        simp only [List.lookup, hb, if_neg (fun e : g = f => h (e.trans hk.symm))]
    · rw [if_neg hk]
      by_cases h : g = k
      · have hb : (g == k) = true := beq_iff_eq.mpr h
        simp only [List.lookup, hb, if_neg (fun e : g = f => hk (h.symm.trans e))]
      · have hb : (g == k) = false := beq_eq_false_iff_ne.mpr h
        simp only [List.lookup, hb]
        exact ih
theorem keys_putF (f : Str) (v : V) : ∀ fs : List (Str × V), f ∈ (putF f v fs).map (·.1) ∧ ∀ g, g ∈ fs.map (·.1) → g ∈ (putF f v fs).map (·.1)
  | [] => ⟨by simp [putF], fun g h => by simp at h⟩
  | (k, x) :: r => by
    obtain ⟨i1, i2⟩ := keys_putF f v r
    rw [show putF f v ((k, x) :: r) = (if k = f then (k, v) :: r else (k, x) :: putF f v r) from rfl]
    by_cases hk : k = f
    · rw [if_pos hk]
      subst hk
      exact ⟨by simp, fun g h => by simpa using h⟩
    · rw [if_neg hk]
      refine ⟨?_, fun g h => ?_⟩
      · rw [List.map_cons]
        exact List.mem_cons_of_mem _ i1
      · rw [List.map_cons] at h ⊢
        rcases List.mem_cons.mp h with e | e
        · exact List.mem_cons.mpr (.inl e)
        · exact List.mem_cons_of_mem _ (i2 g e)
theorem length_putF (f : Str) (v : V) : ∀ fs : List (Str × V), (putF f v fs).length ≤ fs.length + 1
  | [] => by simp [putF]
  | (k, x) :: r => by
    have ih := length_putF f v r
    rw [show putF f v ((k, x) :: r) = (if k = f then (k, v) :: r else (k, x) :: putF f v r) from rfl]
    by_cases hk : k = f
    · rw [if_pos hk, List.length_cons, List.length_cons]; omega
    · rw [if_neg hk, List.length_cons, List.length_cons]; omega

theorem RelO.some_of {v : V} {o : Option Value} (r : RelO (some v) o) : ∃ u, o = some u ∧ RelV v u := by
  cases o with
  | none => exact (show False from r).elim
  | some u => exact ⟨u, rfl, r⟩
theorem RelO.none_of {o : Option Value} (r : RelO none o) : o = none := by
  cases o with
  | none => rfl
  | some u => exact (show False from r).elim
theorem handed_of {v : V} {u : Value} (r : RelV v u) : PySem.W.handedIn u = true := by
  cases v with
  | non => cases (show u = Value.none from r); rfl
  | bl b => cases (show u = Value.bool b from r); rfl
  | int i => obtain ⟨t, e⟩ := (show ∃ t, u = Value.int i t from r); cases e; rfl
  | str x => obtain ⟨t, e⟩ := (show ∃ t, u = Value.str x t from r); cases e; rfl
  | byt b => obtain ⟨t, e⟩ := (show ∃ t, u = Value.bytes b t from r); cases e; rfl
  | flt b => obtain ⟨t, e⟩ := (show ∃ t, u = Value.float b t from r); cases e; rfl
  | ref a => cases (show u = Value.ref a from r); rfl
  | ty n => cases (show u = Value.type n from r); rfl

section
variable {P : Program} {w : World} {H H' : Hp} {h h' : Heap} {a C dx : Addr} {fs fs' : List (Str × V)}
theorem ins_get (hok : HOk P w H h) (e : H a = some (.ins C dx fs)) : ∃ mA, ObjM h a dx C mA ∧ (∀ f, RelO (fs.lookup f) (mA f)) ∧ PySem.Within mA (fs.map (·.1)) ∧ fs.length ≤ 1000 ∧ H dx = some (.own a) := by
  obtain ⟨d, z, ne, ob, mA, n, r, q⟩ := (show ObjOk P w H h a (.ins C dx fs) from hok a _ e)
  exact ⟨mA, ⟨ob, n, ne⟩, r, q, z, d⟩
end

structure Cls (K : PySem.W.Frag) (C : Addr) : Prop where
  pg : PySem.W.plainGet K C Str.empty = true
  hd : PySem.W.hasDictIn K C = true
  po : PySem.W.plainOver K C = true
  sa : PySem.W.findIn K (.ref C) "__setattr__" = some (some (.builtin "object.__setattr__"))
theorem Cls.get {K : PySem.W.Frag} {C : Addr} (c : Cls K C) (f : Str) : PySem.W.plainGet K C f = true := c.pg
noncomputable def NoAttr (K : PySem.W.Frag) (C : Addr) (f : Str) : Prop := PySem.W.findIn K (.ref C) f = some none
theorem NoAttr.taker {K : PySem.W.Frag} {C : Addr} {f : Str} (n : NoAttr K C f) : PySem.W.takerIn K C f = some none := by
  unfold PySem.W.takerIn
  rw [show PySem.W.findIn K (.ref C) f = some none from n]
  rfl
structure Meth (K : PySem.W.Frag) (C : Addr) (m : Str) (f : Addr) : Prop where
  at_ : PySem.W.findIn K (.ref C) m = some (some (.ref f))
  fn : PySem.W.isFn K (.ref f) = true
  kp : PySem.W.keepIn K (.ref f) = true

section
variable {X : Cx} {pins : List (Addr × Obj)} {σ : St} {H : Hp} {s : Shared} {a C dx : Addr} {fs : List (Str × V)} {f : Str} {v : V} {A : Around} {E : Value → Shared → Prop}

theorem getattr_ok {b : Bool} {Q : Value → Shared → Prop} (I : Inv X pins σ H s) (e : H a = some (.ins C dx fs)) (c : Cls X.K C) (n : NoAttr X.K C f) (l : fs.lookup f = some v)
    (h : ∀ u s', Inv X pins σ H s' → RelV v u → Q u s') : wpAny (model X.prog X.w) A (getAttr (.ref a) f b) Q E s := by
  obtain ⟨mA, O, r, _, _, _⟩ := ins_get I.hok e
  obtain ⟨u, hu, ru⟩ := RelO.some_of (v := v) (o := mA f) (by rw [← l]; exact r f)
  exact get_map I.kIn O (c.get f) c.hd n hu (handed_of ru) (h u _ (I.tok _) ru)

theorem getmeth_ok {m : Str} {g : Addr} {pl : Sem Bool} {Q : Value × List Value → Shared → Prop} (I : Inv X pins σ H s) (e : H a = some (.ins C dx fs)) (c : Cls X.K C) (k : Meth X.K C m g) (l : fs.lookup m = none)
    (h : Q (.ref g, [.ref a]) s) : wpAny (model X.prog X.w) A (getMethod (.ref a) m pl) Q E s := by
  obtain ⟨mA, O, r, _, _, _⟩ := ins_get I.hok e
  have hn : mA m = none := RelO.none_of (by rw [← l]; exact r m)
  exact get_meth I.kIn O (c.get m) k.at_ k.fn hn h

theorem setattr_ok {y : V} {u : Value} {Q : Unit → Shared → Prop} (I : Inv X pins σ H s) (e : H a = some (.ins C dx fs)) (c : Cls X.K C) (n : NoAttr X.K C f) (hl : fs.length < 1000) (ry : RelV y u)
    (h : ∀ s', Inv X pins σ (upd H a (.ins C dx (putF f y fs))) s' → Q () s') : wpAny (model X.prog X.w) A (setAttr (.ref a) f u) Q E s := by
  obtain ⟨mA, O, r, wi, _, ho⟩ := ins_get I.hok e
  have hz : (fs.map (·.1)).length ≤ sizeLine := by rw [List.length_map, sizeLine_eq]; omega
  refine set_map I.kIn O c.sa c.po n.taker c.hd wi hz fun h' O' sb => h _ ?_
  have hd : ∃ o, h'.get? dx = some o := let ⟨o, _, _, e', _⟩ := O'.ns; ⟨o, e'⟩
  refine I.write (x := a) (e := dx) (by rw [e]; exact True.intro) (.inr ho) (fun b q hb z => (sb.2 b hb).trans z) hd ?_
  refine ⟨by rw [upd_ne O.ne]; exact ho, ?_, O.ne, O'.obj, _, O'.ns, fun g => ?_, fun g hg => ?_⟩
  · have := length_putF f y fs; omega
  · show RelO ((putF f y fs).lookup g) (if g = f then some u else mA g)
    rw [lookup_putF]
    by_cases q : g = f
    · rw [if_pos q, if_pos q]; exact ry
    · rw [if_neg q, if_neg q]; exact r g
  · by_cases q : g = f
    · rw [q]; exact (keys_putF f y fs).1
    · refine (keys_putF f y fs).2 g (wi g fun z => hg ?_)
      show (if g = f then some u else mA g) = none
      rw [if_neg q]; exact z

theorem Inv.made (I : Inv X pins σ H s) : Inv X pins σ (upd (upd H s.heap.objs.size (.own (s.heap.objs.size + 1))) (s.heap.objs.size + 1) (.ins C s.heap.objs.size []))
    { s with heap := (s.heap.push PySem.W.emptyDict).push (PySem.W.instObj C s.heap.objs.size) } := by
  have e1 : (s.heap.push PySem.W.emptyDict).get? s.heap.objs.size = some PySem.W.emptyDict := Heap.get?_push_size s.heap rfl
  have e2 : ((s.heap.push PySem.W.emptyDict).push (PySem.W.instObj C s.heap.objs.size)).get? (s.heap.objs.size + 1) = some (PySem.W.instObj C s.heap.objs.size) := by
    have := Heap.get?_push_size (s.heap.push PySem.W.emptyDict) (o := PySem.W.instObj C s.heap.objs.size) rfl
    rwa [Heap.size_push] at this
  have e3 : (s.heap.push PySem.W.emptyDict).Ns s.heap.objs.size (fun _ => none) := ⟨PySem.W.emptyDict, #[], _, e1, rfl, (fun e he => absurd he (by simp)), fun _ => rfl⟩
  have I1 := I.laid (a := s.heap.objs.size) (o := .own (s.heap.objs.size + 1)) (h' := s.heap.push PySem.W.emptyDict) (t' := s.toks) (fun b u q => Heap.get?_push_of_some _ q) (Nat.le_refl _) ⟨_, e1⟩
  refine I1.laid (a := s.heap.objs.size + 1) (o := .ins C s.heap.objs.size []) (t' := s.toks) (fun b u q => Heap.get?_push_of_some _ q) (Nat.le_of_eq (Heap.size_push _ _)) ?_
  have ne : s.heap.objs.size ≠ s.heap.objs.size + 1 := Nat.ne_of_lt (Nat.lt_succ_self _)
  refine ⟨by rw [upd_ne ne, upd_same], Nat.zero_le _, ne, e2, fun _ => none, (Heap.Ns1.of_empty e3).at fun o q => Heap.get?_push_of_some _ q, fun _ => True.intro, fun y hy => absurd rfl hy⟩

theorem attr_of {prog : Program} {w : World} {env : Env} {e : Expr} {f : Str} {pos : Pos} {s : Shared} {Q : Value → Shared → Prop} (hb : attributeBase e f env (eval e env) = eval e env)
    (h : wpAny (model prog w) A (eval e env) (fun o s₁ => wpAny (model prog w) A (getAttr o f true) Q E s₁) E s) : wpAny (model prog w) A (eval (.Attribute e f pos) env) Q E s :=
  Attribute_any_ h (by rw [arm_eval_Attribute, hb])
end

noncomputable def tFld (K : PySem.W.Frag) (ta : TE) (f : Str) : TE := fun σ H Q => ta σ H fun x H1 => ∃ a C dx fs v, x = .ref a ∧ H1 a = some (.ins C dx fs) ∧ Cls K C ∧ NoAttr K C f ∧ fs.lookup f = some v ∧ Q v H1
noncomputable def sFld (K : PySem.W.Frag) (ta tv : TE) (f : Str) : TS := fun D σ H => tv σ H fun y H1 => ta σ H1 fun x H2 => ∃ a C dx fs, x = .ref a ∧ H2 a = some (.ins C dx fs) ∧ Cls K C ∧ NoAttr K C f ∧ fs.length < 1000 ∧
  D.nx σ (upd H2 a (.ins C dx (putF f y fs)))
section
variable {X : Cx} {o e value : Expr} {f : Str} {pos pos' tpos : Pos} {ta tv : TE}
theorem pe_fld (he : PE X e ta) (hb : attributeBase e f X.env (eval e X.env) = eval e X.env) : PE X (.Attribute e f pos) (tFld X.K ta f) := by
  intro pins s σ H Q I h
  refine attr_of hb (thn (he pins s σ H _ I h) fun u s1 ⟨x, H1, I1, rx, a, C, dx, fs, v, ex, ea, c, n, l, q⟩ => ?_)
  subst ex
  obtain rfl : u = Value.ref a := rx
  exact getattr_ok I1 ea c n l fun u' s2 I2 ru => ⟨v, H1, I2, ru, q⟩
theorem ps_fld (ha : PE X o ta) (hv : PE X value tv) (hs : swapsWith value (some (.Attribute o f pos')) pos.line X.env = pure false) : PS X (.Assign [.Attribute o f pos'] value pos) (sFld X.K ta tv f) := by
  intro pins s σ H D I h
  refine plainObj_wpAny_Assign_Attribute (thn (hv pins s σ H _ I h) fun u s1 ⟨y, H1, I1, ry, q⟩ => thn (ha pins s1 σ H1 _ I1 q) fun ov s2 ⟨x, H2, I2, rx, a, C, dx, fs, ex, ea, c, n, l, q2⟩ => ?_) hs
  subst ex
  obtain rfl : ov = Value.ref a := rx
  exact setattr_ok I2 ea c n l ry fun s3 I3 => ⟨σ, _, I3, q2⟩
end

section
variable {X : Cx} {pins : List (Addr × Obj)} {σ : St} {H : Hp} {s : Shared} {A : Around} {E : Value → Shared → Prop} {Q : Value → Shared → Prop} {c : Value} {b : Bool}
inductive TyOf (K : PySem.W.Frag) (H : Hp) : V → Value → Prop where
  | non : TyOf K H .non (.type "NoneType")
  | bl (x : Bool) : TyOf K H (.bl x) (.type "bool")
  | int (i : Int) : TyOf K H (.int i) (.type "int")
  | str (x : Str) : TyOf K H (.str x) (.type "str")
  | flt (x : UInt64) : TyOf K H (.flt x) (.type "float")
  | lst {a : Addr} {xs : List V} (e : H a = some (.lst xs)) : TyOf K H (.ref a) (.type "list")
  | frz {a : Addr} {o : Obj} {xs : List V} (e : H a = some (.frz o (.lst xs))) : TyOf K H (.ref a) (.type "list")
  | tup {a : Addr} {xs : List V} (e : H a = some (.tup xs)) : TyOf K H (.ref a) (.type "tuple")
  | dK {a : Addr} {kvs : List (Key × V)} (e : H a = some (.dK kvs)) : TyOf K H (.ref a) (.type "dict")
  | dT {a : Addr} {kvs : List (List Key × V)} (e : H a = some (.dT kvs)) : TyOf K H (.ref a) (.type "dict")
  | ins {a C dx : Addr} {fs : List (Str × V)} (e : H a = some (.ins C dx fs)) (cl : Cls K C) (ha : PySem.W.findIn K (.ref C) "__class__" = some (some (.builtin "object.__class__")))
      (hn : PySem.W.specialIn K (.builtin "object.__class__") "__get__" = some (some (.builtin "getset_descriptor.__get__"))) (htk : PySem.W.takesIn K (.builtin "object.__class__") = some true)
      (hm : PySem.W.mroIn K C (.type "object") = some true) : TyOf K H (.ref a) (.ref C)
theorem isinst_ok {x : V} {u t : Value} (I : Inv X pins σ H s) (rx : RelV x u) (ty : TyOf X.K H x t) (e : PySem.W.kitOne X.K t c = some b) (h : ∀ tk, Q (.bool b) { s with toks := tk }) :
    wpAny (model X.prog X.w) A (call (.builtin "isinstance") [u, c]) Q E s := by
  cases ty with
  | non => cases (show u = Value.none from rx); exact PySem.W.kia_one PySem.W.kitx_none I.kIn True.intro e (fun z => nomatch z) h
  | bl y => cases (show u = Value.bool y from rx); exact PySem.W.kia_one PySem.W.kitx_bool I.kIn True.intro e (fun z => nomatch z) h
  | int i => obtain ⟨t, q⟩ := (show ∃ t, u = Value.int i t from rx); cases q; exact PySem.W.kia_one PySem.W.kitx_int I.kIn True.intro e (fun z => nomatch z) h
  | str y => obtain ⟨t, q⟩ := (show ∃ t, u = Value.str y t from rx); cases q; exact PySem.W.kia_one PySem.W.kitx_str I.kIn True.intro e (fun z => nomatch z) h
  | flt y => obtain ⟨t, q⟩ := (show ∃ t, u = Value.float y t from rx); cases q; exact PySem.W.kia_one PySem.W.kitx_float I.kIn True.intro e (fun z => nomatch z) h
  | @lst a xs ea =>
    cases (show u = Value.ref a from rx)
    obtain ⟨_, _, n, _, h1⟩ := (show ObjOk X.prog X.w H s.heap a (.lst xs) from I.hok a _ ea)
    exact PySem.W.kia_one PySem.W.kitx_list I.kIn ⟨_, h1, rfl⟩ e (fun z => nomatch z) h
  | @frz a ob xs ea =>
    cases (show u = Value.ref a from rx)
    obtain ⟨_, _, _, n, _, h1⟩ := (show ObjOk X.prog X.w H s.heap a (.frz ob (.lst xs)) from I.hok a _ ea)
    exact PySem.W.kia_one PySem.W.kitx_list I.kIn ⟨_, h1, rfl⟩ e (fun z => nomatch z) h
  | @tup a xs ea =>
    cases (show u = Value.ref a from rx)
    obtain ⟨_, _, _, p⟩ := (show ObjOk X.prog X.w H s.heap a (.tup xs) from I.hok a _ ea)
    obtain ⟨o, h1, h2, _⟩ := p
    exact PySem.W.kia_one PySem.W.kitx_tuple I.kIn ⟨o, h1, h2⟩ e (fun z => nomatch z) h
  | @dK a kvs ea =>
    cases (show u = Value.ref a from rx)
    obtain ⟨_, _, vs, _, p⟩ := (show ObjOk X.prog X.w H s.heap a (.dK kvs) from I.hok a _ ea)
    obtain ⟨o, es, ep, h1, h2, _⟩ := p
    exact PySem.W.kia_one PySem.W.kitx_dict I.kIn ⟨o, h1, h2.1⟩ e (fun z => nomatch z) h
  | @dT a kvs ea =>
    cases (show u = Value.ref a from rx)
    obtain ⟨_, _, xs, _, o, es, ep, h1, h2, _⟩ := (show ObjOk X.prog X.w H s.heap a (.dT kvs) from I.hok a _ ea)
    exact PySem.W.kia_one PySem.W.kitx_dict I.kIn ⟨o, h1, h2.1⟩ e (fun z => nomatch z) h
  | @ins a C dx fs ea cl ha hn htk hm =>
    cases (show u = Value.ref a from rx)
    obtain ⟨mA, O, _⟩ := ins_get I.hok ea
    obtain ⟨od, J, _⟩ := O.look
    exact PySem.W.kia_one (PySem.W.kitx_own (cl.get _) cl.hd ha hn htk hm) I.kIn J e (fun z => nomatch z) h
end
end L2

namespace L2
open PySem PySem.Spec PyProof.Rows

structure Room (k : Nat) (A : Around) : Prop where
  hd : A.handled = none
  dp : A.depth + 3 * k + 5 < recursionLimit
  un : A.units + 16 * k + 200 < cLine
  gd : A.guards = some []
theorem Room.mono {j k : Nat} {A : Around} (r : Room k A) (h : j ≤ k) : Room j A := ⟨r.hd, by have := r.dp; omega, by have := r.un; omega, r.gd⟩
theorem Room.deeper {k : Nat} {A : Around} (r : Room (k + 1) A) (env : Env) : Room k (A.deeper env) :=
  ⟨r.hd, by have := r.dp; show A.depth + 1 + 3 * k + 5 < _; omega, by have := r.un; show A.units + 3 + 16 * k + 200 < _; omega, r.gd⟩
theorem make_depth {A : Around} {C : Addr} {us : List Value} {kw : List (Str × Value)} : (A.under (.builtin "type.__call__" ⟨.ref C :: us, kw⟩)).depth = A.depth + 1 := by
  first | rfl | simp [Around.under, Code.weight, Code.isCreation, Code.isGuard, Code.isCaller, Code.frames, Code.isFrame, guardIds]
theorem make_units {A : Around} {C : Addr} {us : List Value} {kw : List (Str × Value)} : (A.under (.builtin "type.__call__" ⟨.ref C :: us, kw⟩)).units = A.units + 1 := by
  first | rfl | simp [Around.under, Code.cUnits, Code.frames, Code.isFrame]
theorem make_guards {A : Around} {C : Addr} {us : List Value} {kw : List (Str × Value)} : (A.under (.builtin "type.__call__" ⟨.ref C :: us, kw⟩)).guards = A.guards := by
  have : Code.guards (.builtin "type.__call__" ⟨.ref C :: us, kw⟩) = [] := by first | rfl | simp [Code.guards, Code.isGuard, guardIds]
  show pushGuards (Code.guards (.builtin "type.__call__" ⟨.ref C :: us, kw⟩)) A.guards = A.guards
  rw [this]
  cases A.guards <;> rfl
theorem Room.make {k : Nat} {A : Around} (r : Room (k + 1) A) (C : Addr) (us : List Value) (kw : List (Str × Value)) : Room k (A.under (.builtin "type.__call__" ⟨.ref C :: us, kw⟩)) :=
  ⟨r.hd, by have := r.dp; rw [make_depth]; omega, by have := r.un; rw [make_units]; omega, by rw [make_guards]; exact r.gd⟩
theorem Room.depth {k : Nat} {A : Around} (r : Room k A) : A.depth < recursionLimit := by have := r.dp; omega
theorem Room.units {k : Nat} {A : Around} (r : Room k A) : A.units + 64 < cLine := by have := r.un; omega
noncomputable def tNil : TA := fun _ H Q => Q [] H
noncomputable def tCons (ta : TE) (tr : TA) : TA := fun σ H Q => ta σ H fun x H1 => tr σ H1 fun xs H2 => Q (x :: xs) H2
section
variable {X : Cx} {e : Expr} {es : List Expr} {te : TE} {t : TA} {pos : Pos}
theorem pa_nil : PA X [] tNil := fun _ _ _ _ H Q I h => Calls.spliced_nil ⟨[], H, I, .nil, h⟩
theorem pa_cons (ha : PE X e te) (hr : PA X es t) (hs : starEach (e :: es) X.env = (false, eval e X.env) :: starEach es X.env := by rfl) : PA X (e :: es) (tCons te t) := by
  intro pos pins s σ H Q I h
  rw [hs]
  show wpAny _ _ (spliced ((false, eval e X.env) :: backTo pos (starEach es X.env))) _ _ s
  refine Calls.spliced_cons (thn (ha pins s σ H _ I h) fun u s1 ⟨x, H1, I1, r1, q1⟩ => ?_)
  exact thn (hr pos pins s1 σ H1 _ I1 q1) fun us s2 ⟨xs, H2, I2, r2, q2⟩ => ⟨x :: xs, H2, I2, .cons r1 r2, q2⟩

noncomputable def tTup (t : TA) : TE := fun σ H Q => t σ H fun xs H1 => xs.length ≤ sizeLine ∧ ∀ p, H1 p = none → Q (.ref p) (upd H1 p (.tup xs))
noncomputable def tLst (t : TA) : TE := fun σ H Q => t σ H fun xs H1 => xs.length ≤ sizeLine ∧ ∀ p, H1 p = none → Q (.ref p) (upd H1 p (.lst xs))
theorem pe_tup {x1} (h : PA X es t) : PE X (.Tuple es x1 pos) (tTup t) := by
  intro pins s σ H Q I hq
  refine wpAny_Tuple_spliced (thn (h pos pins s σ H _ I hq) fun us s1 ⟨xs, H1, I1, r, z, q⟩ => ⟨by rw [← r.length]; exact z, ?_⟩)
  have hf : H1 s1.heap.objs.size = none := I1.hok.fresh (Nat.le_refl _)
  refine ⟨.ref s1.heap.objs.size, upd H1 s1.heap.objs.size (.tup xs), I1.laid (t' := s1.toks) (fun b u e => Heap.get?_push_of_some _ e) (Nat.le_refl _) ?_, rfl, q _ hf⟩
  exact ⟨z, us, r, ⟨_, Heap.get?_push_size _ rfl, rfl, ⟨_, rfl⟩, rfl⟩⟩
theorem pe_lst (h : PA X es t) : PE X (.List es pos) (tLst t) := by
  intro pins s σ H Q I hq
  refine wpAny_List_spliced (thn (h pos pins s σ H _ I hq) fun us s1 ⟨xs, H1, I1, r, z, q⟩ => ⟨by rw [← r.length]; exact z, ?_⟩)
  have hf : H1 s1.heap.objs.size = none := I1.hok.fresh (Nat.le_refl _)
  refine ⟨.ref s1.heap.objs.size, upd H1 s1.heap.objs.size (.lst xs), I1.laid (t' := s1.toks) (fun b u e => Heap.get?_push_of_some _ e) (Nat.le_refl _) ?_, rfl, q _ hf⟩
  exact ⟨z, us, 0, r, Heap.get?_push_size _ rfl⟩
end

noncomputable abbrev Sp := List V → Hp → VK → XK → Prop
noncomputable abbrev CXT := List Env → Hp → Shared → XK → Value → Shared → Prop

structure Env0 (P : Program) (w : World) (K : PySem.W.Frag) (mg : Str → Option Value) (base : Heap) (A : Around) (outer : List Env) (s : Shared) (H : Hp) : Prop where
  frames : A.frames = some outer
  mod : Mod K mg base
  bs : ∀ b o, base.get? b = some o → s.heap.get? b = some o ∧ H b = none
  bsz : base.objs.size ≤ s.heap.objs.size
  funs : s.heap.FunFrames base outer
  frf : ∀ b ∈ frs outer, H b = none
  hok : HOk P w H s.heap
  bare : AllBare s.gens
noncomputable def CE (outer : List Env) (P : Program) (w : World) (H : Hp) (s : Shared) (Q : VK) (u : Value) (s' : Shared) : Prop :=
  ∃ v H', s'.os = s.os ∧ AllBare s'.gens ∧ Un (frs outer) [] H H' s.heap s'.heap ∧ HOk P w H' s'.heap ∧ RelV v u ∧ Q v H'
noncomputable def CR (CX : CXT) (outer : List Env) (P : Program) (w : World) (H : Hp) (s : Shared) (Q : VK) (E : XK) (r : Result) (s' : Shared) : Prop :=
  match r with
  | .ok (.ret u) => CE outer P w H s Q u s'
  | .ok _ => False
  | .error e => CX outer H s E e s'
structure FnOk (P : Program) (w : World) (K : PySem.W.Frag) (mg : Str → Option Value) (base : Heap) (CX : CXT) (k : Nat) (f : Addr) (fd : FuncData) (ps : List Str) (sp : Sp) : Prop where
  len : ∀ vs H Q E, sp vs H Q E → vs.length = ps.length
  run : ∀ (A : Around) (outer : List Env) (s : Shared) (H : Hp) (args : Args) (us : List Value) (vs : List V) (Q : VK) (E : XK), Room k A → Env0 P w K mg base A outer s H → BindsTo s fd args (ps.zip us) → Vals vs us → sp vs H Q E →
    codeAny (model P w) A (.call (.ref f) args) (CR CX outer P w H s Q E) s
theorem Env0.make {P : Program} {w : World} {K : PySem.W.Frag} {mg : Str → Option Value} {base : Heap} {A : Around} {outer : List Env} {s : Shared} {H : Hp} (e : Env0 P w K mg base A outer s H) (C : Addr) (us : List Value) (kw : List (Str × Value)) :
    Env0 P w K mg base (A.under (.builtin "type.__call__" ⟨.ref C :: us, kw⟩)) outer s H := ⟨by first | exact e.frames | (simpa [Around.under, Code.envs, Code.isFrame, pushEnvs] using e.frames), e.mod, e.bs, e.bsz, e.funs, e.frf, e.hok, e.bare⟩
section
variable {X : Cx} {pins : List (Addr × Obj)} {σ : St} {H : Hp} {s s' : Shared}
theorem Inv.env0 (I : Inv X pins σ H s) : Env0 X.prog X.w X.K X.mg X.base X.A X.stack s H :=
  ⟨I.ok.frames, I.ok.mod, I.bs, Nat.le_trans I.ok.bsz I.sz, I.stack, I.stkFree, I.hok, I.bare⟩
theorem Inv.after {Q : VK} {u : Value} (I : Inv X pins σ H s) (h : CE X.stack X.prog X.w H s Q u s') : EP X pins σ Q u s' := by
  obtain ⟨v, H', os, bare, un, hok, r, q⟩ := h
  obtain ⟨hh, g, d, t, os'⟩ := s'
  obtain rfl : os' = s.os := os
  exact ⟨v, H', I.call (h' := hh) (g' := g) (d' := d) (t' := t) (ch := []) un hok bare (fun b z => absurd z (by simp)), r, q⟩
end

noncomputable def tCall (sp : Sp) (dvs : List V) (E : XK) (t : TA) : TE := fun σ H Q => t σ H fun vs H1 => sp (vs ++ dvs) H1 Q E
noncomputable def tMeth (C : Addr) (m : Str) (sp : Sp) (dvs : List V) (E : XK) (ta : TE) (t : TA) : TE := fun σ H Q => ta σ H fun x H1 => ∃ a dx fs, x = .ref a ∧ H1 a = some (.ins C dx fs) ∧ fs.lookup m = none ∧
  t σ H1 fun vs H2 => sp (x :: (vs ++ dvs)) H2 Q E
noncomputable def tMake (C : Addr) (sp : Sp) (dvs : List V) (E : XK) (t : TA) : TE := fun σ H Q => t σ H fun vs H1 => ∀ x dx, H1 x = none → H1 dx = none → dx ≠ x →
  sp (.ref x :: (vs ++ dvs)) (upd (upd H1 dx (.own x)) x (.ins C dx [])) (fun v H2 => v = .non ∧ Q (.ref x) H2) E

noncomputable def Binds (K : PySem.W.Frag) (fd : FuncData) (ps : List Str) (ds : List Value) : Prop :=
  ∀ (s : Shared) (us : List Value), K.In s.heap → (us ++ ds).length = ps.length → BindsTo s fd ⟨us, []⟩ (ps.zip (us ++ ds))
theorem Binds.all {K : PySem.W.Frag} {fd : FuncData} {ps : List Str} (h : ∀ us : List Value, us.length = ps.length → bindArgs fd ⟨us, []⟩ = pure (ps.zip us)) : Binds K fd ps [] := fun s us _ hl => by
  rw [List.append_nil] at hl ⊢
  exact .of_eq (h us hl)

noncomputable def Passes (CX : CXT) (X : Cx) (E : XK) : Prop := ∀ (pins : List (Addr × Obj)) (σ : St) (H : Hp) (s : Shared) (e : Value) (s' : Shared), Inv X pins σ H s → CX X.stack H s E e s' → X.xe e s'

section
variable {X : Cx} {CX : CXT} {k : Nat} {f C : Addr} {fd : FuncData} {ps : List Str} {sp : Sp} {dvs : List V} {ds : List Value} {E : XK} {x m : Str} {p pos apos : Pos} {e o : Expr} {es : List Expr} {ta : TE} {t : TA}

theorem run_fn {pins : List (Addr × Obj)} {σ : St} {H : Hp} {s : Shared} {Q : VK} {us : List Value} {vs : List V} (F : FnOk X.prog X.w X.K X.mg X.base CX k f fd ps sp) (hr : Room k X.A) (hb : Binds X.K fd ps ds) (hd : Vals dvs ds) (hx : Passes CX X E)
    (I : Inv X pins σ H s) (r : Vals vs us) (h : sp (vs ++ dvs) H Q E) : wpAny (model X.prog X.w) X.A (call (.ref f) us) (EP X pins σ Q) X.xe s := by
  have r2 : Vals (vs ++ dvs) (us ++ ds) := r.append hd
  have hl : (us ++ ds).length = ps.length := by rw [← r2.length]; exact F.len _ _ _ _ h
  refine wpAny_call (codeAny_mono (F.run X.A X.stack s H ⟨us, []⟩ (us ++ ds) (vs ++ dvs) Q E hr I.env0 (hb s us I.kIn hl) r2 h) fun r s' hq => ?_)
  cases r with
  | error e => exact hx pins σ H s e s' I hq
  | ok fl =>
    cases fl with
    | ret u => exact I.after hq
    | next => exact False.elim hq
    | brk => exact False.elim hq
    | cont => exact False.elim hq

theorem pe_call (F : FnOk X.prog X.w X.K X.mg X.base CX k f fd ps sp) (hr : Room k X.A) (hg : Gl X x) (hm : X.mg x = some (.ref f)) (hk : PySem.W.keepIn X.K (.ref f) = true) (hb : Binds X.K fd ps ds) (hd : Vals dvs ds) (hx : Passes CX X E)
    (ha : PA X (e :: es) t) (hdb : (x == ("__debug__" : Str)) = false := by decide) (he : starEach (e :: es) X.env = (false, eval e X.env) :: starEach es X.env := by rfl) (hpl : (backTo pos (starEach es X.env)).any (·.1) = false := by rfl) :
    PE X (.Call (.Name x p) (e :: es) [] pos) (tCall sp dvs E t) := by
  intro pins s σ H Q I h
  refine wpAny_Call_Name_kw (ld_glob I hg hm ?_ hdb)
  refine PySem.W.callWith_K (h₀ := X.base) I.ok.mod.kin hk (thn (ha pos pins s σ H _ I h) fun us s1 ⟨vs, H1, I1, r, q⟩ => ⟨I1.kIn, ?_⟩) he hpl
  exact run_fn F hr hb hd hx I1 r q
theorem pe_meth {pl : Sem Bool} (he : PE X o ta) (c : Cls X.K C) (hm : Meth X.K C m f) (F : FnOk X.prog X.w X.K X.mg X.base CX k f fd ps sp) (hr : Room k X.A) (hb : Binds X.K fd ps ds) (hd : Vals dvs ds) (hx : Passes CX X E) (ha : PA X (e :: es) t)
    (hst : starEach (e :: es) X.env = (false, eval e X.env) :: starEach es X.env := by rfl) (hpl : (backTo pos (starEach es X.env)).any (·.1) = false := by rfl)
    (ht : eval (.Call (.Attribute o m apos) (e :: es) [] pos) X.env = (do
      let ov ← eval o X.env
      standAt apos.atName
      let (f, first) ← holding [ov] (getMethod ov m pl)
      callWith pos f first (backTo pos (starEach (e :: es) X.env)) (backToKw pos (keywordEach [] X.env))) := by rfl) :
    PE X (.Call (.Attribute o m apos) (e :: es) [] pos) (tMeth C m sp dvs E ta t) := by
  intro pins s σ H Q I h
  refine PySem.W.methodCall_KW (pl := pl) (thn (he pins s σ H _ I h) fun u s1 ⟨x, H1, I1, rx, a, dx, fs, ex, ea, l, q⟩ => ?_) ht
  subst ex
  obtain rfl : u = Value.ref a := rx
  refine getmeth_ok I1 ea c hm l ?_
  refine PySem.W.callWith_K (first := [.ref a]) (h₀ := X.base) I.ok.mod.kin hm.kp (thn (ha pos pins s1 σ H1 _ I1 q) fun us s2 ⟨vs, H2, I2, r, q2⟩ => ⟨I2.kIn, ?_⟩) hst hpl
  exact run_fn (us := .ref a :: us) (vs := .ref a :: vs) F hr hb hd hx I2 (.cons rfl r) q2
theorem pe_meth0 {pl : Sem Bool} (he : PE X o ta) (c : Cls X.K C) (hm : Meth X.K C m f) (F : FnOk X.prog X.w X.K X.mg X.base CX k f fd ps sp) (hr : Room k X.A) (hb : Binds X.K fd ps ds) (hd : Vals dvs ds) (hx : Passes CX X E)
    (ht : eval (.Call (.Attribute o m apos) [] [] pos) X.env = (do
      let ov ← eval o X.env
      standAt apos.atName
      let (f, first) ← holding [ov] (getMethod ov m pl)
      callWith pos f first (backTo pos (starEach [] X.env)) (backToKw pos (keywordEach [] X.env))) := by rfl) :
    PE X (.Call (.Attribute o m apos) [] [] pos) (tMeth C m sp dvs E ta tNil) := by
  intro pins s σ H Q I h
  refine PySem.W.methodCall_KW (pl := pl) (thn (he pins s σ H _ I h) fun u s1 ⟨x, H1, I1, rx, a, dx, fs, ex, ea, l, q⟩ => ?_) ht
  subst ex
  obtain rfl : u = Value.ref a := rx
  refine getmeth_ok I1 ea c hm l ?_
  exact PySem.W.callWith_K0 (first := [.ref a]) I1.kIn hm.kp (run_fn (us := [.ref a]) (vs := [.ref a]) F hr hb hd hx I1 (.cons rfl .nil) q)

structure Mk (K : PySem.W.Frag) (C f : Addr) : Prop where
  makes : PySem.W.makesIn K C = true
  init : PySem.W.findIn K (.ref C) "__init__" = some (some (.ref f))
  fn : PySem.W.isFn K (.ref f) = true
  kp : PySem.W.keepIn K (.ref C) = true

theorem run_make {pins : List (Addr × Obj)} {σ : St} {H : Hp} {s : Shared} {Q : VK} {us : List Value} {vs : List V} (M : Mk X.K C f) (F : FnOk X.prog X.w X.K X.mg X.base CX k f fd ps sp) (hr : Room (k + 1) X.A) (hb : Binds X.K fd ps ds) (hd : Vals dvs ds)
    (hx : Passes CX X E) (I : Inv X pins σ H s) (r : Vals vs us)
    (h : ∀ x dx, H x = none → H dx = none → dx ≠ x → sp (.ref x :: (vs ++ dvs)) (upd (upd H dx (.own x)) x (.ins C dx [])) (fun v H2 => v = .non ∧ Q (.ref x) H2) E) :
    wpAny (model X.prog X.w) X.A (call (.ref C) us) (EP X pins σ Q) X.xe s := by
  have hq := h (s.heap.objs.size + 1) s.heap.objs.size (I.hok.fresh (Nat.le_succ _)) (I.hok.fresh (Nat.le_refl _)) (Nat.ne_of_lt (Nat.lt_succ_self _))
  have I2 := Inv.made (C := C) I
  have r2 : Vals (V.ref (s.heap.objs.size + 1) :: (vs ++ dvs)) (Value.ref (s.heap.objs.size + 1) :: (us ++ ds)) := .cons rfl (r.append hd)
  have hl : (Value.ref (s.heap.objs.size + 1) :: us ++ ds).length = ps.length := by
    have e := r2.length
    rw [F.len _ _ _ _ hq] at e
    exact e.symm
  refine wpAny_call (make_map (f := f) I.kIn M.makes M.init (beq_iff_eq.mp M.fn) (codeAny_mono (F.run _ X.stack _ _ ⟨Value.ref (s.heap.objs.size + 1) :: us, []⟩ (Value.ref (s.heap.objs.size + 1) :: (us ++ ds)) _ _ E (hr.make C us [])
    (I2.env0.make C us []) (hb _ (Value.ref (s.heap.objs.size + 1) :: us) I2.kIn hl) r2 hq) fun r s' hq' => ?_))
  cases r with
  | error e => exact hx pins σ _ _ e s' I2 hq'
  | ok fl =>
    cases fl with
    | ret u =>
      obtain ⟨v, H', I3, rv, ev, q3⟩ := I2.after hq'
      subst ev
      exact ⟨rv, ⟨V.ref (s.heap.objs.size + 1), H', I3, rfl, q3⟩⟩
    | next => exact False.elim hq'
    | brk => exact False.elim hq'
    | cont => exact False.elim hq'
theorem pe_make (M : Mk X.K C f) (F : FnOk X.prog X.w X.K X.mg X.base CX k f fd ps sp) (hr : Room (k + 1) X.A) (hg : Gl X x) (hm : X.mg x = some (.ref C)) (hb : Binds X.K fd ps ds) (hd : Vals dvs ds) (hx : Passes CX X E)
    (ha : PA X (e :: es) t) (hdb : (x == ("__debug__" : Str)) = false := by decide) (he : starEach (e :: es) X.env = (false, eval e X.env) :: starEach es X.env := by rfl) (hpl : (backTo pos (starEach es X.env)).any (·.1) = false := by rfl) :
    PE X (.Call (.Name x p) (e :: es) [] pos) (tMake C sp dvs E t) := by
  intro pins s σ H Q I h
  refine wpAny_Call_Name_kw (ld_glob I hg hm ?_ hdb)
  refine PySem.W.callWith_K (h₀ := X.base) I.ok.mod.kin M.kp (thn (ha pos pins s σ H _ I h) fun us s1 ⟨vs, H1, I1, r, q⟩ => ⟨I1.kIn, ?_⟩) he hpl
  exact run_make M F hr hb hd hx I1 r q
end

section
variable {X : Cx} {CX : CXT} {k : Nat} {f C : Addr} {fd : FuncData} {ps ks : List Str} {sp : Sp} {E : XK} {x m : Str} {p pos apos kpos : Pos} {e o : Expr} {es : List Expr} {kws : List Keyword} {te ta : TE} {t tk : TA} {nm : Option Str}
variable {g : List Value → List Value → List Value} {gV : List V → List V → List V}
end

structure FnScope (N P : List Str) (sc : Scope) : Prop where
  kind : sc.kind = .function
  co : sc.isCoroutine = false
  gen : sc.isGenerator = false
  nd : N.Nodup
  pre : N.take P.length = P
  par : ∀ x ∈ P, sc.names.lookup x = some .local ∨ sc.names.lookup x = some .cell
  nofree : ∀ y ∈ sc.names, y.2 ≠ .free

theorem bindL_out {kindOf : Str → Option NameKind} {x : Str} : ∀ {binds : List (Str × Value)} {m : Str → Option Value}, (∀ v, (x, v) ∉ binds) → bindL kindOf binds m x = m x
  | [], _, _ => rfl
  | (n, v) :: r, m, h => by
    unfold bindL
    rw [bindL_out fun w hw => h w (List.mem_cons_of_mem _ hw)]
    split
    · have : x ≠ n := by rintro rfl; exact h v List.mem_cons_self
      simp [this]
    · rfl
theorem bindC_out {kindOf : Str → Option NameKind} {x : Str} : ∀ {binds : List (Str × Value)} {m : Str → Option Value}, (∀ v, (x, v) ∉ binds) → bindC kindOf binds m x = m x
  | [], _, _ => rfl
  | (n, v) :: r, m, h => by
    unfold bindC
    rw [bindC_out fun w hw => h w (List.mem_cons_of_mem _ hw)]
    split
    · rfl
    · have : x ≠ n := by rintro rfl; exact h v List.mem_cons_self
      simp [this]
theorem bindL_get {kindOf : Str → Option NameKind} {x : Str} {v : Value} : ∀ {P : List Str} {vs : List Value} {i : Nat} {m : Str → Option Value}, P.Nodup → P[i]? = some x → vs[i]? = some v → kindOf x = some .local →
    bindL kindOf (P.zip vs) m x = some v
  | [], _, _, _, _, h, _, _ => by simp at h
  | _ :: _, [], _, _, _, _, h, _ => by simp at h
  | p :: P, w :: vs, 0, m, nd, h1, h2, hk => by
    simp at h1 h2; subst h1; subst h2
    show bindL kindOf ((p, w) :: P.zip vs) m p = _
    unfold bindL
    rw [bindL_out fun v hv => (List.nodup_cons.mp nd).1 (List.of_mem_zip hv).1, if_pos hk]
    simp
  | p :: P, w :: vs, i + 1, m, nd, h1, h2, hk => by
    show bindL kindOf ((p, w) :: P.zip vs) m x = _
    unfold bindL
    exact bindL_get (i := i) (List.nodup_cons.mp nd).2 (by simpa using h1) (by simpa using h2) hk
theorem bindC_get {kindOf : Str → Option NameKind} {x : Str} {v : Value} : ∀ {P : List Str} {vs : List Value} {i : Nat} {m : Str → Option Value}, P.Nodup → P[i]? = some x → vs[i]? = some v → kindOf x ≠ some .local →
    bindC kindOf (P.zip vs) m x = some v
  | [], _, _, _, _, h, _, _ => by simp at h
  | _ :: _, [], _, _, _, _, h, _ => by simp at h
  | p :: P, w :: vs, 0, m, nd, h1, h2, hk => by
    simp at h1 h2; subst h1; subst h2
    show bindC kindOf ((p, w) :: P.zip vs) m p = _
    unfold bindC
    rw [bindC_out fun v hv => (List.nodup_cons.mp nd).1 (List.of_mem_zip hv).1, if_neg hk]
    simp
  | p :: P, w :: vs, i + 1, m, nd, h1, h2, hk => by
    show bindC kindOf ((p, w) :: P.zip vs) m x = _
    unfold bindC
    exact bindC_get (i := i) (List.nodup_cons.mp nd).2 (by simpa using h1) (by simpa using h2) hk

noncomputable def start (N : List Str) (vs : List V) : St := vs.map some ++ List.replicate (N.length - vs.length) none

noncomputable def cxOf (CX : CXT) (P : Program) (w : World) (K : PySem.W.Frag) (mg : Str → Option Value) (base : Heap) (N : List Str) (qual : Str) (scope : Scope) (f : Addr) (cd : Value) (A : Around) (outer : List Env) (s : Shared) (H : Hp) (E : XK) : Cx where
  prog := P
  w := w
  K := K
  mg := mg
  base := base
  A := A.deeper (envOfC qual scope s.heap.objs.size f cd)
  N := N
  s₀ := s
  H₀ := H
  env := envOfC qual scope s.heap.objs.size f cd
  outer := outer
  stack := envOfC qual scope s.heap.objs.size f cd :: outer
  ex := []
  calm := true
  fn := fun _ => true
  pn := []
  xe := fun e s' => wpAny (model P w) (A.deeper (envOfC qual scope s.heap.objs.size f cd)) (leaving (envOfC qual scope s.heap.objs.size f cd) e) (fun _ s'' => CX outer H s E e s'') (fun e' s'' => CX outer H s E e' s'') s'

theorem cell_has {sc : Scope} {n : Nat} {x : Str} (h : sc.names.lookup x = some .cell) : ∃ c, (cellsFrom n sc.names []).lookup x = some c := by
  have q := PySem.W.cellsFrom_some sc.names n [] (.inl h)
  exact Option.isSome_iff_exists.mp q

theorem inv_start {CX : CXT} {P : Program} {w : World} {K : PySem.W.Frag} {mg : Str → Option Value} {base : Heap} {N ps : List Str} {qual : Str} {scope : Scope} {f : Addr} {cd : Value} {A : Around} {outer : List Env} {s s1 : Shared} {H : Hp} {E : XK} {us : List Value} {vs : List V}
    (S : FnScope N ps scope) (hd : A.handled = none) (e0 : Env0 P w K mg base A outer s H) (hl : vs.length = ps.length) (r : Vals vs us)
    (x : InCallC s s.heap.objs.size (bindL (envOfC qual scope s.heap.objs.size f cd).kindOf (ps.zip us) fun _ => none) (cellsFrom (s.heap.objs.size + 1) scope.names []) (bindC (envOfC qual scope s.heap.objs.size f cd).kindOf (ps.zip us) fun _ => none) s1) :
    Inv (cxOf CX P w K mg base N qual scope f cd A outer s H E) [] (start N vs) H s1 := by
  have hpl : ps.length ≤ N.length := by have := congrArg List.length S.pre; rw [List.length_take] at this; omega
  obtain ⟨h1, tk, rfl, hk⟩ := x.done
  have noA : ∀ b : Addr, b ∉ (cxOf CX P w K mg base N qual scope f cd A outer s H E).ex := fun b z => absurd (show b ∈ ([] : List Addr) from z) (by simp)
  refine ⟨⟨e0.mod, S.kind, rfl, rfl, Nat.le_refl _, fun y z c h1 h2 => ?_, fun y hy => ?_, fun y c _ h => ?_, fun _ => hd, Around.frames_deeper e0.frames, .inr ⟨rfl, rfl⟩, fun b z => absurd z (noA b), e0.bs, e0.bsz, fun b _ _ => noA b, fun b z => absurd z (noA b), e0.funs, e0.frf⟩,
    rfl, e0.bare, Un.kept hk, ⟨_, x.toInCall.ns, fun i y v h1 h2 h3 => ?_⟩, fun y c h => ⟨_, x.cell y c h⟩, e0.hok.fresh (Nat.le_refl _), fun y c h => ?_, fun p hp => absurd (show p ∈ ([] : List (Addr × Obj)) from hp) (by simp), e0.hok.kept hk, ?_⟩
  · exact name_of_addr x.apart (PySem.mem_of_lookup h1) (PySem.mem_of_lookup h2)
  · have hy : scope.names.lookup y = some .cell ∨ scope.names.lookup y = some .free := hy
    rcases hy with hy | hy
    · exact cell_has hy
    · exact absurd rfl (S.nofree _ (PySem.mem_of_lookup hy))
  · exact Nat.le_of_lt (x.above y c (PySem.mem_of_lookup h))
  · have hi : i < vs.length := by
      unfold start at h2
      by_cases hi : i < vs.length
      · exact hi
      · rw [List.getElem?_append_right (by simpa using hi)] at h2
        rw [List.getElem?_replicate] at h2
        split at h2 <;> cases h2
    have ha : vs[i]? = some v := by
      unfold start at h2
      rw [List.getElem?_append_left (by simpa using hi), List.getElem?_map] at h2
      cases e : vs[i]? with
      | none => rw [e] at h2; cases h2
      | some a => rw [e] at h2; cases h2; rfl
    obtain ⟨u, hu, rv⟩ := r.get ha
    have hp : ps[i]? = some y := by
      rw [← S.pre, List.getElem?_take_of_lt (by omega)]; exact h1
    have ndP : ps.Nodup := by rw [← S.pre]; exact S.nd.sublist (List.take_sublist _ _)
    refine ⟨u, rv, ?_⟩
    rcases S.par y (List.mem_of_getElem? hp) with k | k
    · exact .inl ⟨k, bindL_get ndP hp hu k⟩
    · obtain ⟨c, e⟩ := cell_has (n := s.heap.objs.size + 1) k
      refine .inr ⟨.inl k, c, e, ?_⟩
      have q := x.cell y c e
      rw [bindC_get ndP hp hu (by show scope.names.lookup y ≠ _; rw [k]; decide)] at q
      exact q
  · exact e0.hok.fresh (Nat.le_of_lt (x.above y c (PySem.mem_of_lookup h)))
  · unfold start
    show _ = N.length
    rw [List.length_append, List.length_map, List.length_replicate]
    omega

theorem fn_of {CX : CXT} {P : Program} {w : World} {K : PySem.W.Frag} {mg : Str → Option Value} {base : Heap} {k : Nat} {f : Addr} {name qual : Str} {params : Arguments} {body : List Stmt} {scope : Scope} {dV kV doc pm cdv ct oc : Value} {an od : Option Addr}
    {osl : Array (Option Value)} {N ps : List Str} {sp : Sp} (lk : K.lookup f = some ⟨oc, od, .func (PySem.W.fnOf name qual params body scope dV kV doc pm an cdv ct), osl⟩) (hcd : PySem.W.codeIn K cdv qual = true) (S : FnScope N ps scope)
    (len : ∀ vs H Q E, sp vs H Q E → vs.length = ps.length)
    (hbody : ∀ (A : Around) (outer : List Env) (s : Shared) (H : Hp) (vs : List V) (Q : VK) (E : XK), Room k (A.deeper (envOfC qual scope s.heap.objs.size f cdv)) → sp vs H Q E →
      ∃ t, PSs (cxOf CX P w K mg base N qual scope f cdv A outer s H E) body t ∧ t { nx := fun _ H' => Q .non H', rt := Q } (start N vs) H) :
    FnOk P w K mg base CX (k + 1) f (PySem.W.fnOf name qual params body scope dV kV doc pm an cdv ct) ps sp := by
  refine ⟨len, fun A outer s H args us vs Q E hr e0 hb r hsp => ?_⟩
  have hl := len _ _ _ _ hsp
  have KX : K.In s.heap := e0.mod.kin.keeps fun b o e => (e0.bs b o e).1
  have lim : s.heap.NoLimit := e0.mod.nolimit.keeps fun b o e => (e0.bs b o e).1
  have hkind : ∀ y ∈ ps.zip us, scope.names.lookup y.1 = some .local ∨ (scope.names.lookup y.1 = some .cell ∧ ((cellsFrom (s.heap.objs.size + 1) scope.names []).lookup y.1).isSome = true) := fun ⟨n, v⟩ hy => by
    rcases S.par n (List.of_mem_zip hy).1 with q | q
    · exact .inl q
    · exact .inr ⟨q, PySem.W.cellsFrom_some _ _ _ (.inl q)⟩
  refine codeAny_call_function hr.depth (KX _ _ lk) rfl S.co S.gen rfl (PySem.W.codeRec_of KX hcd) (hb _ _ _ _ ?_)
  refine wpAny_newFunctionEnv_cells S.kind hkind fun env he s1 x => ?_
  subst he
  refine ⟨lim.keeps x.toInCall.keep, codeAny_func ?_⟩
  obtain ⟨t, ht, hq⟩ := hbody A outer s H vs Q E (hr.deeper _) hsp
  have I : Inv (cxOf CX P w K mg base N qual scope f cdv A outer s H E) [] (start N vs) H s1 := inv_start S hr.hd e0 hl r x
  refine wpAny_mono (ht [] s1 (start N vs) H _ I hq) (fun fl s' hs => ?_) fun e s' hs => hs
  have fin : ∀ {σ' : St} {H' : Hp} {v : V} {u : Value}, Inv (cxOf CX P w K mg base N qual scope f cdv A outer s H E) [] σ' H' s' → RelV v u → Q v H' → CE outer P w H s Q u s' :=
    fun {σ' H' v u} J rv q => ⟨v, H', J.os, J.bare, J.base, J.hok, rv, q⟩
  cases fl with
  | ret u =>
    obtain ⟨v, σ', H', J, rv, q⟩ := hs
    exact fin J rv q
  | next =>
    obtain ⟨σ', H', J, q⟩ := hs
    exact fin (v := V.non) (u := Value.none) J rfl q
  | brk =>
    obtain ⟨_, _, _, q⟩ := hs
    exact False.elim q
  | cont =>
    obtain ⟨_, _, _, q⟩ := hs
    exact False.elim q
end L2

namespace L2
open PySem PySem.Spec PyProof.Rows
section
variable {X : Cx} {x : Str} {p pos : Pos} {e : Expr} {es : List Expr} {t : TA} {id T : String} {r : List V → Hp → VK → Prop}

noncomputable def tCB (r : List V → Hp → VK → Prop) (t : TA) : TE := fun σ H Q => t σ H fun vs H1 => r vs H1 Q
theorem pe_callB (hc : CallR X (.builtin id) r) (hg : Gl X x) (hm : X.mg x = none) (hv : bootBuiltins x = some (.builtin id)) (ha : PA X (e :: es) t) (hn : x ≠ "__name__" := by decide) (hdb : (x == ("__debug__" : Str)) = false := by decide)
    (he : starEach (e :: es) X.env = (false, eval e X.env) :: starEach es X.env := by rfl) (hpl : (backTo pos (starEach es X.env)).any (·.1) = false := by rfl) : PE X (.Call (.Name x p) (e :: es) [] pos) (tCB r t) := by
  intro pins s σ H Q I h
  refine wpAny_Call_Name_kw (ld_blt I hg hm hv ?_ hn hdb)
  exact PyProof.Rows.callWith_builtin1 (thn (ha pos pins s σ H _ I h) fun us s1 ⟨vs, H1, I1, r1, q1⟩ => hc pins s1 σ H1 vs us Q I1 r1 q1) he hpl
theorem pe_callTy (hc : CallR X (.type T) r) (hg : Gl X x) (hm : X.mg x = none) (hv : bootBuiltins x = some (.type T)) (ha : PA X (e :: es) t) (hn : x ≠ "__name__" := by decide) (hdb : (x == ("__debug__" : Str)) = false := by decide)
    (he : starEach (e :: es) X.env = (false, eval e X.env) :: starEach es X.env := by rfl) (hpl : (backTo pos (starEach es X.env)).any (·.1) = false := by rfl) : PE X (.Call (.Name x p) (e :: es) [] pos) (tCB r t) := by
  intro pins s σ H Q I h
  refine wpAny_Call_Name_kw (ld_blt I hg hm hv ?_ hn hdb)
  exact PyProof.Rows.callWith_type1 (thn (ha pos pins s σ H _ I h) fun us s1 ⟨vs, H1, I1, r1, q1⟩ => hc pins s1 σ H1 vs us Q I1 r1 q1) he hpl
end
end L2

namespace HT
open PySem PyProof.Rows

section
open PySem.SeqAt
open PySem.AutoSeq1 (wpAny_loadPart')
open PySem.MeetsSeq PySem.MeetsSeq2 PySem.MeetsSeq3

end

section
variable {prog : Program} {w : World} {A : Around} {E : Value → Shared → Prop} {s : Shared}

noncomputable def sIx (n d : Nat) : Option Int → Nat
  | none => d
  | some v => if v < 0 then (v + (n : Int)).toNat else min v.toNat n
theorem sIx_none (n d : Nat) : sIx n d none = d := rfl
theorem sIx_nat (n d k : Nat) : sIx n d (some (k : Int)) = min k n := by
  show (if (k : Int) < 0 then ((k : Int) + (n : Int)).toNat else min (k : Int).toNat n) = min k n
  rw [if_neg (by omega), Int.toNat_natCast]
theorem sIx_le (n d : Nat) (hd : d ≤ n) (o : Option Int) : sIx n d o ≤ n := by
  cases o with
  | none => exact hd
  | some v =>
    show (if v < 0 then (v + (n : Int)).toNat else min v.toNat n) ≤ n
    by_cases hv : v < 0
    · rw [if_pos hv]; omega
    · rw [if_neg hv]; exact Nat.min_le_right _ _
end
end HT

namespace L2
open PySem PySem.Spec PyProof.Rows

noncomputable abbrev TO := St → Hp → (Option Int → Hp → Prop) → Prop
noncomputable def PO (X : Cx) (e : Option Expr) (t : TO) : Prop :=
  ∀ (pins : List (Addr × Obj)) (s : Shared) (σ : St) (H : Hp) (Q : Option Int → Hp → Prop), Inv X pins σ H s → t σ H Q →
    wpAny (model X.prog X.w) X.A (evalPart e X.env) (fun u s' => ∃ o H', Inv X pins σ H' s' ∧ IsPart u o ∧ Q o H') X.xe s
noncomputable def tNoPart : TO := fun _ H Q => Q none H
noncomputable def tPart (t : TE) : TO := fun σ H Q => t σ H fun x H1 => ∃ i, x = .int i ∧ Q (some i) H1

section
variable {X : Cx} {e : Expr} {te : TE} {lo hi : Option Expr} {tl th : TO} {pos p2 : Pos}

theorem po_none : PO X none tNoPart := by
  intro pins s σ H Q I h
  rw [evalPart_none]
  exact wpAny_pure ⟨none, H, I, .none, h⟩
theorem po_some (h : PE X e te) : PO X (some e) (tPart te) := by
  intro pins s σ H Q I hw
  rw [evalPart_some]
  refine thn (h pins s σ H _ I hw) fun u s1 ⟨x, H1, I1, r1, q1⟩ => ?_
  obtain ⟨i, rfl, q⟩ := q1
  obtain ⟨t, rfl⟩ := r1
  exact ⟨some i, H1, I1, .int i t, q⟩

noncomputable def SlR (X : Cx) (r : V → Option Int → Option Int → Hp → VK → Prop) : Prop :=
  ∀ (pins : List (Addr × Obj)) (s : Shared) (σ : St) (H : Hp) (x : V) (v vl vu : Value) (lo hi : Option Int) (sl : Addr) (Q : VK), Inv X pins σ H s → RelV x v → s.heap.IsSliceOf sl vl vu .none → IsPart vl lo → IsPart vu hi → r x lo hi H Q →
    ∃ T id, typeLookup (.type T) "__getitem__" = pure (some (.builtin id)) ∧ s.TypeIs v T ∧ wpAny (model X.prog X.w) X.A (getItem v (.ref sl)) (EP X pins σ Q) X.xe s
noncomputable def tSl (r : V → Option Int → Option Int → Hp → VK → Prop) (te : TE) (tl th : TO) : TE := fun σ H Q => te σ H fun x H1 => tl σ H1 fun l H2 => th σ H2 fun u H3 => r x l u H3 Q
theorem pe_slice {r : V → Option Int → Option Int → Hp → VK → Prop} (hr : SlR X r) (he : PE X e te) (hl : PO X lo tl) (hu : PO X hi th) : PE X (.Subscript e (.Slice lo hi none p2) pos) (tSl r te tl th) := by
  intro pins s σ H Q I h
  refine Subscript_ (thn (he pins s σ H _ I h) fun v s1 ⟨x, H1, I1, r1, q1⟩ => ?_)
  refine wpAny_Slice (thn (hl pins s1 σ H1 _ I1 q1) fun vl s2 ⟨l, H2, I2, pl, q2⟩ => thn (hu pins s2 σ H2 _ I2 q2) fun vu s3 ⟨u, H3, I3, pu, q3⟩ => ?_)
  rw [evalPart_none]
  refine wpAny_pure ?_
  have I4 : Inv X pins σ H3 { s3 with heap := s3.heap.push { cls := .type "slice", data := .fields #[vl, vu, .none] } } := I3.kept (t' := s3.toks) fun b ob q => Heap.get?_push_of_some _ q
  obtain ⟨T, id, hT, ht, hg⟩ := hr pins { s3 with heap := s3.heap.push { cls := .type "slice", data := .fields #[vl, vu, .none] } } σ H3 x v vl vu l u s3.heap.objs.size Q I4 r1 (Heap.IsSliceOf.new ..) pl pu q3
  show wpAny (model X.prog X.w) X.A (subscriptTail e (.Slice lo hi none p2) v (.ref s3.heap.objs.size)) (EP X pins σ Q) X.xe { s3 with heap := s3.heap.push { cls := .type "slice", data := .fields #[vl, vu, .none] } }
  exact tail_any (ops := [.ref s3.heap.objs.size, v]) ht hT hg (by with_unfolding_all rfl)

noncomputable def cutV (xs : List V) (lo hi : Option Int) : List V := (xs.drop (HT.sIx xs.length 0 lo)).take (HT.sIx xs.length xs.length hi - HT.sIx xs.length 0 lo)
theorem cutV_length (xs : List V) (lo hi : Option Int) : (cutV xs lo hi).length ≤ xs.length := by
  unfold cutV
  rw [List.length_take, List.length_drop]
  omega
end
end L2

namespace L2
open PySem PySem.Spec PyProof.Rows

noncomputable def ixN (n : Nat) (i : Int) : Option Nat := if 0 ≤ i then (if i < n then some i.toNat else none) else if -(n : Int) ≤ i then some (i + n).toNat else none
noncomputable def atI {α : Type} (xs : List α) (i : Int) : Option α := (ixN xs.length i).bind fun j => xs[j]?
theorem ixN_seq {n : Nat} {i : Int} {j : Nat} (h : ixN n i = some j) : seqIndex? i n = some j ∧ j < n ∧ -(n : Int) ≤ i ∧ i < n := by
  unfold ixN at h
  by_cases h0 : 0 ≤ i
  · rw [if_pos h0] at h
    by_cases h1 : i < n
    · rw [if_pos h1] at h
      have e : i.toNat = j := Option.some.inj h
      exact ⟨by rw [seqIndex_of h0 h1, e], by omega, by omega, h1⟩
    · rw [if_neg h1] at h; cases h
  · rw [if_neg h0] at h
    by_cases h1 : -(n : Int) ≤ i
    · rw [if_pos h1] at h
      have e : (i + n).toNat = j := Option.some.inj h
      exact ⟨by rw [seqIndex_neg (by omega) h1, e], by omega, h1, by omega⟩
    · rw [if_neg h1] at h; cases h
theorem atI_get {α : Type} {xs : List α} {i : Int} {v : α} (h : atI xs i = some v) : ∃ j, seqIndex? i xs.length = some j ∧ xs[j]? = some v ∧ j < xs.length ∧ -(xs.length : Int) ≤ i ∧ i < xs.length := by
  unfold atI at h
  cases e : ixN xs.length i with
  | none => rw [e] at h; cases h
  | some j =>
    rw [e] at h
    obtain ⟨h1, h2, h3, h4⟩ := ixN_seq e
    exact ⟨j, h1, h, h2, h3, h4⟩
theorem atI_nat {α : Type} {xs : List α} {j : Nat} {v : α} (h : xs[j]? = some v) : atI xs (j : Int) = some v := by
  have hj : j < xs.length := (List.getElem?_eq_some_iff.mp h).1
  have e : ixN xs.length (j : Int) = some j := by
    unfold ixN
    rw [if_pos (by omega), if_pos (by omega)]; simp
  unfold atI; rw [e]; exact h
noncomputable def PlainIx (b : Expr) : Prop := ∀ o i, subscripted b false o i = operate [o, i] (getItem o i)
noncomputable def IxR (X : Cx) (r : R2) : Prop :=
  ∀ (value slice : Expr) (pins : List (Addr × Obj)) (s : Shared) (σ : St) (H : Hp) (x y : V) (v u : Value) (Q : VK), Inv X pins σ H s → RelV x v → RelV y u → r x y H Q →
    subscripted slice false v u = operate [v, u] (getItem v u) → wpAny (model X.prog X.w) X.A (subscriptTail value slice v u) (EP X pins σ Q) X.xe s
noncomputable def MtR (X : Cx) (id : String) (r : V → List V → Hp → VK → Prop) : Prop :=
  ∀ (pins : List (Addr × Obj)) (s : Shared) (σ : St) (H : Hp) (x : V) (xs : List V) (v : Value) (us : List Value) (Q : VK), Inv X pins σ H s → RelV x v → Vals xs us → r x xs H Q →
    wpAny (model X.prog X.w) X.A (call (.builtin id) (v :: us)) (EP X pins σ Q) X.xe s
section
variable {X : Cx} {a b : Expr} {ta tb : TE} {pos : Pos}
theorem pe_ix {r : R2} (hr : IxR X r) (ha : PE X a ta) (hb : PE X b tb) (hs : PlainIx b) : PE X (.Subscript a b pos) (tOp r ta tb) := by
  intro pins s σ H Q I h
  exact Subscript_ (binT ha hb I h fun v u s2 x y H2 I2 rx ry q => hr a b pins s2 σ H2 x y v u Q I2 rx ry q (hs _ _))

noncomputable def rIxL (K : PySem.W.Frag) : R2 := fun x y H Q => ∃ p xs i v, x = .ref p ∧ y = .int i ∧ SqL K H p xs ∧ atI xs i = some v ∧ Q v H
noncomputable def rIxT (K : PySem.W.Frag) : R2 := fun x y H Q => ∃ p xs i v, x = .ref p ∧ y = .int i ∧ SqT K H p xs ∧ atI xs i = some v ∧ Q v H
noncomputable def rIxS : R2 := fun x y H Q => ∃ z i c, x = .str z ∧ y = .int i ∧ z.length ≤ sizeLine ∧ atI z.cps.toList i = some c ∧ Q (.str ⟨#[c]⟩) H
theorem ix_list : IxR X (rIxL X.K) := by
  intro value slice pins s σ H x y v u Q I rx ry h hs
  obtain ⟨p, xs, i, z, rfl, rfl, hq, he, q⟩ := h
  cases rx
  obtain ⟨t, rfl⟩ := ry
  obtain ⟨its, r, pl, hz⟩ := I.list hq
  obtain ⟨j, h1, h2, h3, h4, h5⟩ := atI_get he
  obtain ⟨w, ew, rw'⟩ := r.get h2
  have hl := r.length
  have hn := line63
  have fin : EP X pins σ Q w s := ⟨z, H, I, rw', q⟩
  by_cases h0 : 0 ≤ i
  · have hj : i.toNat = j := by
      rw [seqIndex_of h0 h5] at h1
      exact Option.some.inj h1
    exact item_listR pl.isList h0 (by omega) (by rw [hj]; simpa using ew) fin hs
  · have hj : (i + (its.toArray.size : Int)).toNat = j := by
      rw [seqIndex_neg (by omega) h4] at h1
      rw [List.size_toArray, ← hl]
      exact Option.some.inj h1
    exact subscriptTail_builtinR (x := w) pl.isList.typeIs slot_list_getitem.lookup
      (wpAny_getItem_list_neg (Q := fun r s' => r = w ∧ EP X pins σ Q r s') pl.isList (by omega) (by rw [List.size_toArray] <;> omega) (by omega) (by rw [hj]; simpa using ew) ⟨rfl, fin⟩) hs
theorem ix_tup : IxR X (rIxT X.K) := by
  intro value slice pins s σ H x y v u Q I rx ry h hs
  obtain ⟨p, xs, i, z, rfl, rfl, hq, he, q⟩ := h
  cases rx
  obtain ⟨t, rfl⟩ := ry
  obtain ⟨its, r, pl, hz⟩ := I.tuple hq
  obtain ⟨j, h1, h2, h3, h4, h5⟩ := atI_get he
  obtain ⟨w, ew, rw'⟩ := r.get h2
  have hl := r.length
  have hn := line63
  have fin : EP X pins σ Q w s := ⟨z, H, I, rw', q⟩
  exact subscriptTail_builtinR (x := w) pl.typeIs slot_tuple_getitem.lookup
    (getItem_tuple (j := j) (Q := fun r s' => r = w ∧ EP X pins σ Q r s') pl (by omega) (by omega) (by rw [List.size_toArray, ← hl]; exact h1) (by simpa using ew) ⟨rfl, fin⟩) hs
theorem ix_str : IxR X rIxS := by
  intro value slice pins s σ H x y v u Q I rx ry h hs
  obtain ⟨z, i, c, rfl, rfl, hz, he, q⟩ := h
  obtain ⟨t, rfl⟩ := rx
  obtain ⟨t', rfl⟩ := ry
  obtain ⟨j, h1, h2, h3, h4, h5⟩ := atI_get he
  have hl : z.cps.toList.length = z.length := by simp [Str.length]
  rw [hl] at h1 h4 h5
  have hn := line63
  exact tail_any (typeIs_str s z t) slot_str_getitem.lookup (getItem_str (c := c) (by
    have e1 : decide (i < -(2 ^ 63 : Int)) = false := decide_eq_false (by omega)
    have e2 : decide (i ≥ 2 ^ 63) = false := decide_eq_false (by omega)
    rw [e1, e2, Bool.or_false]) (by rw [h1]; simpa using h2) ⟨.str ⟨#[c]⟩, H, I.tok _, ⟨_, rfl⟩, q⟩) hs
theorem slice_bounds (lo hi : Option Int) (n : Nat) : (sliceBounds lo hi none n).1 = ((HT.sIx n 0 lo : Nat) : Int) ∧ (sliceBounds lo hi none n).2.1 = ((HT.sIx n n hi : Nat) : Int) ∧ (sliceBounds lo hi none n).2.2 = 1 := by
  refine ⟨?_, ?_, rfl⟩
  · cases lo with
    | none => simp [sliceBounds, HT.sIx]
    | some i =>
      simp only [sliceBounds, HT.sIx, Option.getD_none, show (1 : Int) > 0 by decide, if_true]
      by_cases h : i < 0
      · simp only [h, if_true] <;> omega
      · simp only [h, if_false] <;> omega
  · cases hi with
    | none => simp [sliceBounds, HT.sIx]
    | some i =>
      simp only [sliceBounds, HT.sIx, Option.getD_none, show (1 : Int) > 0 by decide, if_true]
      by_cases h : i < 0
      · simp only [h, if_true] <;> omega
      · simp only [h, if_false] <;> omega
theorem slicePick_cut (its : List Value) (lo hi : Option Int) : slicePick its.toArray lo hi none = ((its.drop (HT.sIx its.length 0 lo)).take (HT.sIx its.length its.length hi - HT.sIx its.length 0 lo)).toArray := by
  obtain ⟨h1, h2, h3⟩ := slice_bounds lo hi its.toArray.size
  unfold slicePick
  rw [h1, h2, h3]
  simp only [sliceRange_one, pick_run, List.size_toArray] <;> rfl
noncomputable def rSlL (K : PySem.W.Frag) : V → Option Int → Option Int → Hp → VK → Prop := fun x lo hi H Q => ∃ a xs, x = .ref a ∧ SqL K H a xs ∧ ∀ p, H p = none → Q (.ref p) (upd H p (.lst (cutV xs lo hi)))
theorem sl_list : SlR X (rSlL X.K) := by
  intro pins s σ H x v vl vu lo hi sl Q I rx hs pl pu h
  obtain ⟨a, xs, rfl, hx, q⟩ := h
  cases rx
  obtain ⟨its, r, ht, hz⟩ := I.list hx
  have hlen := r.length
  refine ⟨"list", _, slot_list_getitem.lookup, ht.isList.typeIs, ?_⟩
  refine wpAny_getItem_list_slice ht.isList hs pl pu .none (by simp) ?_ (by rw [List.size_toArray] <;> omega)
  rw [slicePick_cut, ← hlen]
  refine ⟨.ref s.heap.objs.size, _, I.laid (t' := s.toks) (o := .lst (cutV xs lo hi)) (fun b ob q => Heap.get?_push_of_some _ q) (Nat.le_refl _) ?_, rfl, q _ (I.hok.fresh (Nat.le_refl _))⟩
  exact ⟨Nat.le_trans (cutV_length xs lo hi) hz, _, 0, (r.drop (HT.sIx xs.length 0 lo)).take (HT.sIx xs.length xs.length hi - HT.sIx xs.length 0 lo), Heap.get?_push_size _ rfl⟩

noncomputable def flatV : V → Bool
  | .non => true
  | .bl _ => true
  | .int _ => true
  | .str _ => true
  | _ => false
noncomputable def eqV : V → V → Bool
  | .non, .non => true
  | .bl a, .bl b => a == b
  | .bl a, .int b => (if a then 1 else 0) == b
  | .int a, .bl b => a == (if b then 1 else 0)
  | .int a, .int b => a == b
  | .str a, .str b => a == b
  | _, _ => false
theorem eqAt_V {A : Around} {s : Shared} {y x : V} {u v : Value} (ry : RelV y u) (rx : RelV x v) (fy : flatV y = true) (fx : flatV x = true) : SeqAt.EqAt A s u v (eqV y x) := by
  cases y with
  | non =>
    cases ry
    cases x with
    | non => cases rx; exact SeqAt.EqAt.same _
    | bl b => cases rx; exact SeqAt.EqAt.none_bool b
    | int b => obtain ⟨t, rfl⟩ := rx; exact SeqAt.EqAt.none_int b t
    | str b => obtain ⟨t, rfl⟩ := rx; exact SeqAt.EqAt.none_str b t
    | _ => exact absurd (show false = true from fx) Bool.false_ne_true
  | bl a =>
    cases ry
    cases x with
    | non => cases rx; exact SeqAt.EqAt.bool_none a
    | bl b => cases rx; exact SeqAt.EqAt.bool_bool a b
    | int b => obtain ⟨t, rfl⟩ := rx; exact SeqAt.EqAt.bool_int a b t
    | str b => obtain ⟨t, rfl⟩ := rx; exact SeqAt.EqAt.bool_str a b t
    | _ => exact absurd (show false = true from fx) Bool.false_ne_true
  | int a =>
    obtain ⟨t', rfl⟩ := ry
    cases x with
    | non => cases rx; exact SeqAt.EqAt.int_none a t'
    | bl b => cases rx; exact SeqAt.EqAt.int_bool a t' b
    | int b => obtain ⟨t, rfl⟩ := rx; exact SeqAt.EqAt.int_int a t' b t
    | str b => obtain ⟨t, rfl⟩ := rx; exact SeqAt.EqAt.int_str a t' b t
    | _ => exact absurd (show false = true from fx) Bool.false_ne_true
  | str a =>
    obtain ⟨t', rfl⟩ := ry
    cases x with
    | non => cases rx; exact SeqAt.EqAt.str_none a t'
    | bl b => cases rx; exact SeqAt.EqAt.str_bool a t' b
    | int b => obtain ⟨t, rfl⟩ := rx; exact SeqAt.EqAt.str_int a t' b t
    | str b => obtain ⟨t, rfl⟩ := rx; exact SeqAt.EqAt.str_str a t' b t
    | _ => exact absurd (show false = true from fx) Bool.false_ne_true
  | _ => exact absurd (show false = true from fy) Bool.false_ne_true
noncomputable def eqU (x : V) (u : Value) : Bool := match u with
  | .none => eqV .non x
  | .bool b => eqV (.bl b) x
  | .int i _ => eqV (.int i) x
  | .str z _ => eqV (.str z) x
  | _ => false
theorem eqU_of {x y : V} {u : Value} (r : RelV y u) (f : flatV y = true) : eqU x u = eqV y x := by
  cases y with
  | non => cases r; rfl
  | bl b => cases r; rfl
  | int i => obtain ⟨t, rfl⟩ := r; rfl
  | str z => obtain ⟨t, rfl⟩ := r; rfl
  | _ => exact absurd (show false = true from f) Bool.false_ne_true
theorem any_eqU {x : V} : ∀ {xs : List V} {us : List Value}, Vals xs us → xs.all flatV = true → us.any (eqU x) = xs.any fun y => eqV y x
  | _, _, .nil, _ => rfl
  | y :: xs, u :: us, .cons r t, f => by
    rw [List.all_cons, Bool.and_eq_true] at f
    rw [List.any_cons, List.any_cons, eqU_of r f.1, any_eqU t f.2]
theorem mem_eqAt {A : Around} {s : Shared} {x : V} {v : Value} (rx : RelV x v) (fx : flatV x = true) : ∀ {xs : List V} {us : List Value}, Vals xs us → xs.all flatV = true → ∀ u ∈ us, SeqAt.EqAt A s u v (eqU x u)
  | _, _, .nil, _ => fun u hu => by cases hu
  | y :: xs, u :: us, .cons r t, f => fun u' hu => by
    rw [List.all_cons, Bool.and_eq_true] at f
    rcases List.mem_cons.mp hu with rfl | hu
    · rw [eqU_of r f.1]; exact eqAt_V r rx f.1 fx
    · exact mem_eqAt rx fx t f.2 u' hu
noncomputable def inV (x : V) (xs : List V) : Bool := xs.any fun y => eqV y x
noncomputable def rIn (K : PySem.W.Frag) (neg : Bool) : R2 := fun x y H Q => ∃ p xs, y = .ref p ∧ (SqL K H p xs ∨ SqT K H p xs) ∧ flatV x = true ∧ xs.all flatV = true ∧ Q (.bl (if neg then !inV x xs else inV x xs)) H
theorem op_in_seq : OpR X (compareOp .In) (rIn X.K false) := by
  intro pins s σ H x y v u Q I rx ry h
  obtain ⟨p, xs, rfl, hq, fx, fs, q⟩ := h
  cases ry
  rcases hq with hq | hq
  · obtain ⟨its, r, pl, hz⟩ := I.list hq
    refine SeqAt.in_listAt (eqU x) pl.isList (fun w hw => mem_eqAt rx fx r fs w (by simpa using hw)) ⟨.bl _, H, I, rfl, ?_⟩
    rw [show its.toArray.any (eqU x) = its.any (eqU x) by simp, any_eqU r fs]
    exact q
  · obtain ⟨its, r, pl, hz⟩ := I.tuple hq
    refine SeqAt.in_tupleAt (eqU x) pl (fun w hw => mem_eqAt rx fx r fs w (by simpa using hw)) ⟨.bl _, H, I, rfl, ?_⟩
    rw [show its.toArray.any (eqU x) = its.any (eqU x) by simp, any_eqU r fs]
    exact q
theorem call_len_seq : CallR X (.builtin "len") (fun xs H Q => ∃ p ys, xs = [.ref p] ∧ (SqL X.K H p ys ∨ SqT X.K H p ys) ∧ Q (.int ys.length) H) := by
  intro pins s σ H xs us Q I r h
  obtain ⟨p, ys, rfl, hq, q⟩ := h
  obtain ⟨u, rfl, rx⟩ := vals1 r
  cases rx
  have hn := line63
  rcases hq with hq | hq
  · obtain ⟨its, r', pl, hz⟩ := I.list hq
    have hlen := r'.length
    exact Calls.call_len_list pl.isList (by simp only [List.size_toArray] <;> omega) ⟨.int ys.length, H, I.tok _, ⟨s.toks + 1, by rw [List.size_toArray, hlen]⟩, q⟩
  · obtain ⟨its, r', pl, hz⟩ := I.tuple hq
    have hlen := r'.length
    exact len_tuple pl (by simp only [List.size_toArray] <;> omega) ⟨.int ys.length, H, I.tok _, ⟨s.toks + 1, by rw [List.size_toArray, hlen]⟩, q⟩
theorem call_tuple_of : CallR X (.type "tuple") (fun xs H Q => ∃ p ys, xs = [.ref p] ∧ ((SqL X.K H p ys ∧ ∀ l, H l = none → Q (.ref l) (upd H l (.tup ys))) ∨ (SqT X.K H p ys ∧ Q (.ref p) H))) := by
  intro pins s σ H xs us Q I r h
  obtain ⟨p, ys, rfl, h⟩ := h
  obtain ⟨u, rfl, rx⟩ := vals1 r
  cases rx
  rcases h with ⟨hq, q⟩ | ⟨hq, q⟩
  · obtain ⟨its, r', pl, hz⟩ := I.list hq
    have hlen := r'.length
    refine call_tuple_list pl.isList (fun h' kp => ?_) (by simp only [List.size_toArray] <;> omega)
    have I1 : Inv X pins σ H { s with heap := h' } := I.kept (t' := s.toks) kp
    have I2 : Inv X pins σ (upd H h'.objs.size (.tup ys)) { s with heap := h'.push { cls := .type "tuple", data := .seq its.toArray } } :=
      I1.laid (t' := s.toks) (fun b o e => Heap.get?_push_of_some _ e) (Nat.le_refl _) (show ObjOk X.prog X.w _ _ _ (.tup ys) from ⟨hz, its, r', IsTupN.new _ _⟩)
    exact ⟨.ref h'.objs.size, _, I2, rfl, q _ (I1.hok.fresh (Nat.le_refl _))⟩
  · obtain ⟨its, r', pl, hz⟩ := I.tuple hq
    exact call_tuple_same pl ⟨.ref p, H, I, rfl, q⟩

noncomputable def tyV (K : PySem.W.Frag) (T : String) (x : V) (H : Hp) : Prop := match x with
  | .str _ => T = "str"
  | .int _ => T = "int"
  | .ref p => (T = "list" ∧ ∃ xs, SqL K H p xs) ∨ (T = "tuple" ∧ ∃ o, K.lookup p = some o ∧ o.cls = .type "tuple" ∧ o.dict = none) ∨
      (T = "dict" ∧ ((∃ kvs, H p = some (.dK kvs)) ∨ ∃ kvs, H p = some (.dT kvs))) ∨ (T = "set" ∧ ∃ S n, H p = some (.set S n))
  | _ => False
theorem tyV_is {pins : List (Addr × Obj)} {σ : St} {H : Hp} {s : Shared} {T : String} {x : V} {v : Value} (I : Inv X pins σ H s) (r : RelV x v) (ty : tyV X.K T x H) :
    s.TypeIs v T ∧ ∀ a, v = .ref a → ∃ ob, s.heap.get? a = some ob ∧ ob.dict = none := by
  cases x with
  | str z =>
    obtain ⟨t, rfl⟩ := r
    cases (show T = "str" from ty)
    exact ⟨typeIs_str s z t, fun _ e => nomatch e⟩
  | int i =>
    obtain ⟨t, rfl⟩ := r
    cases (show T = "int" from ty)
    exact ⟨typeIs_int s i t, fun _ e => nomatch e⟩
  | ref p =>
    cases r
    rcases ty with ⟨rfl, xs, hq⟩ | ⟨rfl, o, hk, hc, hd⟩ | ⟨rfl, hk⟩ | ⟨rfl, S, n, hk⟩
    · obtain ⟨its, _, pl, _⟩ := I.list hq
      refine ⟨pl.isList.typeIs, fun a e => ?_⟩
      cases e
      obtain ⟨o, n, e, c, hd, _⟩ := pl
      exact ⟨o, e, hd⟩
    · refine ⟨⟨o, I.kIn p o hk, hc⟩, fun a e => ?_⟩
      cases e
      exact ⟨o, I.kIn _ o hk, hd⟩
    · have z : ∃ o, s.heap.get? p = some o ∧ o.ExactDict := by
        rcases hk with ⟨kvs, hk⟩ | ⟨kvs, hk⟩
        · obtain ⟨_, _, _, _, o, _, _, e, ex, _⟩ := I.hok p _ hk
          exact ⟨o, e, ex⟩
        · obtain ⟨_, _, _, _, o, _, _, e, ex, _⟩ := I.hok p _ hk
          exact ⟨o, e, ex⟩
      obtain ⟨o, e, ex⟩ := z
      refine ⟨⟨o, e, ex.1⟩, fun a e2 => ?_⟩
      cases e2
      exact ⟨o, e, ex.2.1⟩
    · obtain ⟨o, _, _, _, e, ex, _⟩ := I.hok p _ hk
      refine ⟨⟨o, e, ex.1⟩, fun a e2 => ?_⟩
      cases e2
      exact ⟨o, e, ex.2.1⟩
  | _ => exact False.elim ty
noncomputable def tBM0 (K : PySem.W.Frag) (T : String) (r : V → List V → Hp → VK → Prop) (to : TE) : TE := fun σ H Q => to σ H fun x H1 => tyV K T x H1 ∧ r x [] H1 Q
noncomputable def tBM (K : PySem.W.Frag) (T : String) (r : V → List V → Hp → VK → Prop) (to : TE) (t : TA) : TE := fun σ H Q => to σ H fun x H1 => tyV K T x H1 ∧ t σ H1 fun xs H2 => r x xs H2 Q
variable {o e : Expr} {es : List Expr} {to : TE} {t : TA} {name : Str} {apos cpos : Pos} {T id : String} {r : V → List V → Hp → VK → Prop}
theorem pe_bm0 (pa : PlainAttrs T) (slot : Slot T name id) (hty : typeOf (.builtin id) = pure (.type "method_descriptor")) (hm : MtR X id r) (ho : PE X o to)
    (hbase : attributeBase o name X.env (eval o X.env) = eval o X.env := by rfl) (hline : (apos.endLine == cpos.line) = true := by rfl) : PE X (.Call (.Attribute o name apos) [] [] cpos) (tBM0 X.K T r to) := by
  intro pins s σ H Q I h
  refine wpAny_Call_method0_late hbase hline (thn (ho pins s σ H _ I h) fun v s1 ⟨x, H1, I1, r1, ty, q1⟩ => ?_)
  obtain ⟨h1, h2⟩ := tyV_is I1 r1 ty
  exact ⟨T, id, pa, slot, hty, h1, h2, Calls.callWith_builtin rfl (PySem.evalArgs_none (hm pins s1 σ H1 x [] v [] Q I1 r1 .nil q1))⟩
theorem pe_bm (pa : PlainAttrs T) (slot : Slot T name id) (hty : typeOf (.builtin id) = pure (.type "method_descriptor")) (hm : MtR X id r) (ho : PE X o to) (ha : PA X (e :: es) t)
    (hbase : attributeBase o name X.env (eval o X.env) = eval o X.env := by rfl)
    (hfew : ((backTo cpos (starEach (e :: es) X.env)).all (fun x => !x.1) && (backToKw cpos (keywordEach [] X.env)).all (fun x => x.1.isSome)
      && decide ((e :: es).length + ([] : List Keyword).length + (if ([] : List Keyword).isEmpty then 0 else 1) < 30)) = true := by rfl)
    (hline : (apos.endLine == cpos.line) = true := by rfl) (hs : starEach (e :: es) X.env = (false, eval e X.env) :: starEach es X.env := by rfl) (hplain : (backTo cpos (starEach es X.env)).any (·.1) = false := by rfl) :
    PE X (.Call (.Attribute o name apos) (e :: es) [] cpos) (tBM X.K T r to t) := by
  intro pins s σ H Q I h
  refine wpAny_Call_method_late hbase hfew hline rfl (thn (ho pins s σ H _ I h) fun v s1 ⟨x, H1, I1, r1, ty, q1⟩ => ?_)
  obtain ⟨h1, h2⟩ := tyV_is I1 r1 ty
  refine ⟨T, id, pa, slot, hty, h1, h2, ?_⟩
  have hA := ha cpos pins s1 σ H1 _ I1 q1
  rw [hs] at hA ⊢
  refine Calls.callWith_builtin (by show (false || (backTo cpos (starEach es X.env)).any (·.1)) = false; rw [hplain] <;> rfl) (Calls.evalArgs_plain ?_)
  exact thn hA fun us s2 ⟨vs, H2, I2, r2, q2⟩ => hm pins s2 σ H2 x vs v us Q I2 r1 r2 q2
end
end L2

namespace L2
open PySem PySem.Spec PyProof.Rows

noncomputable def MtM (X : Cx) (id : String) (r : V → List V → Hp → VK → Prop) : Prop :=
  ∀ (pins : List (Addr × Obj)) (s : Shared) (σ : St) (H : Hp) (x : V) (xs : List V) (v : Value) (us : List Value) (Q : VK), Inv X pins σ H s → RelV x v → Vals xs us → r x xs H Q →
    wpAny (model X.prog X.w) X.A (call (.builtin id) (v :: us)) (EP X pins σ Q) X.xe s

theorem Vals.one : ∀ {x : V} {us : List Value}, Vals [x] us → ∃ u, us = [u] ∧ RelV x u
  | _, _, .cons r .nil => ⟨_, rfl, r⟩
theorem Vals.two : ∀ {x y : V} {us : List Value}, Vals [x, y] us → ∃ u v, us = [u, v] ∧ RelV x u ∧ RelV y v
  | _, _, _, .cons r (.cons q .nil) => ⟨_, _, rfl, r, q⟩
theorem Vals.zero : ∀ {us : List Value}, Vals [] us → us = []
  | _, .nil => rfl
theorem Vals.dropLast {xs : List V} {us : List Value} (h : Vals xs us) : Vals xs.dropLast us.dropLast := by
  induction h with
  | nil => exact .nil
  | cons r t ih =>
    cases t with
    | nil => exact .nil
    | cons q t' => exact .cons r ih
theorem erase_last {α : Type} (l : List α) : l.eraseIdx (l.length - 1) = l.dropLast := by
  induction l with
  | nil => rfl
  | cons a r ih =>
    cases r with
    | nil => rfl
    | cons b r =>
      have e : (a :: b :: r).length - 1 = ((b :: r).length - 1) + 1 := by
        have h1 : (a :: b :: r).length = r.length + 2 := rfl
        have h2 : (b :: r).length = r.length + 1 := rfl
        omega
      rw [e, List.eraseIdx_cons_succ, ih]
      all_goals rfl
section
variable {X : Cx} {pins : List (Addr × Obj)} {σ : St} {H : Hp} {s : Shared} {l b : Addr} {xs ys zs : List V}

theorem Inv.lset {its its' : List Value} {n : Nat} {f : Array Value → Array Value} {t' : Nat} (I : Inv X pins σ H s) (hH : H l = some (.lst xs))
    (e : s.heap.get? l = some { cls := .type "list", data := .seq its.toArray n }) (hf : f its.toArray = its'.toArray) (hv : Vals ys its') (hz : ys.length ≤ sizeLine) :
    Inv X pins σ (upd H l (.lst ys)) { s with heap := s.heap.update l (Obj.mapSeq f), toks := t' } := by
  have q := PySem.IsL.update e f
  rw [hf] at q
  refine I.write (x := l) (e := l) (by rw [hH]; exact trivial) (.inl rfl) (fun b' u hb hu => (Heap.get?_update_other s.heap (Obj.mapSeq f) (Ne.symm hb)).trans hu) ⟨_, q⟩ ?_
  exact ⟨hz, its', _, hv, q⟩
theorem Inv.lnew {its : List Value} {t' : Nat} (I : Inv X pins σ H s) (hv : Vals ys its) (hz : ys.length ≤ sizeLine) :
    Inv X pins σ (upd H s.heap.objs.size (.lst ys)) { s with heap := s.heap.push { cls := .type "list", data := .seq its.toArray }, toks := t' } :=
  I.laid (fun _ _ q => Heap.get?_push_of_some _ q) (Nat.le_refl _) ⟨hz, its, 0, hv, Heap.get?_push_size _ rfl⟩
theorem Inv.fresh (I : Inv X pins σ H s) : H s.heap.objs.size = none := I.hok.fresh (Nat.le_refl _)
theorem Inv.lstM (I : Inv X pins σ H s) (hH : H l = some (.lst xs)) : xs.length ≤ sizeLine ∧ ∃ (its : List Value) (n : Nat), Vals xs its ∧ xs.length = its.length ∧ s.heap.get? l = some { cls := .type "list", data := .seq its.toArray n } := by
  obtain ⟨z, its, n, r, e⟩ := I.hok l _ hH
  exact ⟨z, its, n, r, r.length, e⟩

end

section
variable {X : Cx}

noncomputable def rAppend : V → List V → Hp → VK → Prop := fun x vs H Q => ∃ l xs y, x = .ref l ∧ vs = [y] ∧ H l = some (.lst xs) ∧ xs.length < sizeLine ∧ Q .non (upd H l (.lst (xs ++ [y])))
theorem mt_append : MtM X "list.append" rAppend := by
  intro pins s σ H x vs v us Q I rx rv h
  obtain ⟨l, xs, y, rfl, rfl, hH, hz, q⟩ := h
  cases rx
  obtain ⟨u, rfl, ru⟩ := rv.one
  obtain ⟨z, its, n, r, hl, e⟩ := I.lstM hH
  refine call_meets F.slot_list_append ⟨_, e, rfl⟩ F.entry_list_append (F.args_list_append_2 _ _) (PySem.list_append l its.toArray n u (by rw [List.size_toArray]; omega)) ⟨e, ?_⟩
  refine ⟨.non, _, I.lset (its' := its ++ [u]) hH e (by simp) (r.append (.cons ru .nil)) ?_, rfl, q⟩
  rw [List.length_append, List.length_singleton]
  omega

noncomputable def rPop : V → List V → Hp → VK → Prop := fun x vs H Q => ∃ l xs y, x = .ref l ∧ vs = [] ∧ H l = some (.lst xs) ∧ xs[xs.length - 1]? = some y ∧ Q y (upd H l (.lst xs.dropLast))
theorem mt_pop : MtM X "list.pop" rPop := by
  intro pins s σ H x vs v us Q I rx rv h
  obtain ⟨l, xs, y, rfl, rfl, hH, hy, q⟩ := h
  cases rx
  have hus := rv.zero
  subst hus
  obtain ⟨z, its, n, r, hl, e⟩ := I.lstM hH
  obtain ⟨u, hu, ru⟩ := r.get hy
  have hy' : its.toArray[its.toArray.size - 1]? = some u := by
    show its.toArray[its.length - 1]? = some u
    rw [← Array.getElem?_toList, ← hl]
    exact hu
  refine call_meets F.slot_list_pop ⟨_, e, rfl⟩ F.entry_list_pop (F.args_list_pop_1 _) (MeetsSeq.list_pop_last l its.toArray n u hy' (by rw [List.size_toArray]; omega)) ⟨e, ?_⟩
  refine ⟨y, _, I.lset (its' := its.dropLast) hH e ?_ r.dropLast ?_, ru, q⟩
  · show its.toArray.eraseIdxIfInBounds (its.toArray.size - 1) = its.dropLast.toArray
    rw [List.size_toArray, List.eraseIdxIfInBounds_toArray, erase_last]
  · rw [List.length_dropLast]
    omega

noncomputable def rClear : V → List V → Hp → VK → Prop := fun x vs H Q => ∃ l xs, x = .ref l ∧ vs = [] ∧ H l = some (.lst xs) ∧ Q .non (upd H l (.lst []))
theorem mt_clear : MtM X "list.clear" rClear := by
  intro pins s σ H x vs v us Q I rx rv h
  obtain ⟨l, xs, rfl, rfl, hH, q⟩ := h
  cases rx
  have hus := rv.zero
  subst hus
  obtain ⟨z, its, n, r, hl, e⟩ := I.lstM hH
  refine call_meets F.slot_list_clear ⟨_, e, rfl⟩ F.entry_list_clear (F.args_list_clear_1 _) (AutoSeq1.list_clear_list_0 l its.toArray n (by rw [List.size_toArray]; omega)) ⟨e, ?_⟩
  exact ⟨.non, _, I.lset (its' := []) (ys := []) hH e rfl .nil (Nat.zero_le _), rfl, q⟩

noncomputable def rCat : R2 := fun x y H Q => ∃ l b xs zs, x = .ref l ∧ y = .ref b ∧ H l = some (.lst xs) ∧ H b = some (.lst zs) ∧ xs.length + zs.length ≤ sizeLine ∧ ∀ p, H p = none → Q (.ref p) (upd H p (.lst (xs ++ zs)))
theorem op_cat : OpR X (binaryOp .Add) rCat := by
  intro pins s σ H x y v u Q I rx ry h
  obtain ⟨l, b, xs, zs, rfl, rfl, hH, hB, hz, q⟩ := h
  cases rx
  cases ry
  obtain ⟨z, its, n, r, hl, e⟩ := I.lstM hH
  obtain ⟨z2, its2, n2, r2, hl2, e2⟩ := I.lstM hB
  refine PySem.P.add_list e e2 ?_ (by rw [List.size_toArray, List.size_toArray]; omega)
  have ea : its.toArray ++ its2.toArray = (its ++ its2).toArray := by simp
  rw [ea]
  exact ⟨.ref _, _, I.lnew (t' := s.toks) (r.append r2) (by rw [List.length_append]; omega), rfl, q _ I.fresh⟩
end

section
variable {prog : Program} {w : World} {A : Around} {E : Value → Shared → Prop} {s : Shared}
set_option maxRecDepth 100000 in
end

section
variable {X : Cx}
end
end L2

namespace L2
open PySem PySem.Spec PyProof.Rows

section
variable {κ : Type} [DecidableEq κ]
noncomputable def valV (kvs : List (κ × V)) (k : κ) : Option V := (kvs.find? fun kv => decide (kv.1 = k)).map (·.2)
noncomputable def putK (kvs : List (κ × V)) (k : κ) (v : V) : List (κ × V) :=
  if (kvs.any fun kv => decide (kv.1 = k)) = true then kvs.map (fun kv => if kv.1 = k then (kv.1, v) else kv) else kvs ++ [(k, v)]
theorem valV_pos {p : κ × V} {r : List (κ × V)} {k : κ} (e : p.1 = k) : valV (p :: r) k = some p.2 := by simp [valV, List.find?_cons, e]
theorem valV_neg {p : κ × V} {r : List (κ × V)} {k : κ} (e : ¬ p.1 = k) : valV (p :: r) k = valV r k := by simp [valV, List.find?_cons, e]
theorem valV_any (k : κ) : ∀ kvs : List (κ × V), (kvs.any fun kv => decide (kv.1 = k)) = (valV kvs k).isSome
  | [] => rfl
  | p :: r => by
    rw [List.any_cons]
    by_cases e : p.1 = k
    · simp only [valV_pos e, decide_eq_true e, Bool.true_or, Option.isSome_some]
    · rw [valV_neg e, decide_eq_false e, Bool.false_or]; exact valV_any k r
theorem length_putK (kvs : List (κ × V)) (k : κ) (v : V) : (putK kvs k v).length ≤ kvs.length + 1 := by
  unfold putK
  split
  · rw [List.length_map]; omega
  · rw [List.length_append, List.length_cons, List.length_nil]; omega
theorem putK_new {kvs : List (κ × V)} {k : κ} (v : V) (h : valV kvs k = none) : putK kvs k v = kvs ++ [(k, v)] := by
  unfold putK
  rw [valV_any, h]
  exact if_neg (by decide)

theorem RelO.isSome_eq {o : Option V} {u : Option Value} (r : RelO o u) : o.isSome = u.isSome := by
  cases o with
  | none => cases u with
    | none => rfl
    | some _ => exact (show False from r).elim
  | some _ => cases u with
    | none => exact (show False from r).elim
    | some _ => rfl
theorem KV.val {kvs : List (κ × V)} {vs : List (κ × Value)} (r : KV kvs vs) (k : κ) : RelO (valV kvs k) (valueAt vs k) := by
  unfold KV at r
  induction r with
  | nil => exact True.intro
  | @cons p q ps qs h t ih =>
    obtain ⟨h1, h2⟩ := h
    by_cases e : p.1 = k
    · have e' : q.1 = k := h1.symm.trans e
      have b : valueAt (q :: qs) k = some q.2 := by simp [valueAt, List.find?_cons, e']
      rw [valV_pos e, b]; exact h2
    · have e' : ¬ q.1 = k := fun z => e (h1.trans z)
      have b : valueAt (q :: qs) k = valueAt qs k := by simp [valueAt, List.find?_cons, e']
      rw [valV_neg e, b]; exact ih
theorem KV.any {kvs : List (κ × V)} {vs : List (κ × Value)} (r : KV kvs vs) (k : κ) : (kvs.any fun kv => decide (kv.1 = k)) = vs.any fun kv => decide (kv.1 = k) := by
  unfold KV at r
  induction r with
  | nil => rfl
  | cons h t ih => rw [List.any_cons, List.any_cons, ih, h.1]
theorem KV.repl {kvs : List (κ × V)} {vs : List (κ × Value)} (r : KV kvs vs) (k : κ) {y : V} {u : Value} (ry : RelV y u) :
    KV (kvs.map fun kv => if kv.1 = k then (kv.1, y) else kv) (vs.map fun kv => if kv.1 = k then (kv.1, u) else kv) := by
  unfold KV at r ⊢
  induction r with
  | nil => exact .nil
  | @cons p q ps qs h t ih =>
    rw [List.map_cons, List.map_cons]
    refine .cons ?_ ih
    obtain ⟨h1, h2⟩ := h
    by_cases e : p.1 = k
    · rw [if_pos e, if_pos (h1.symm.trans e)]; exact ⟨h1, ry⟩
    · rw [if_neg e, if_neg (fun z => e (h1.trans z))]; exact ⟨h1, h2⟩
theorem KV.put {kvs : List (κ × V)} {vs : List (κ × Value)} (r : KV kvs vs) (k : κ) {y : V} {u : Value} (ry : RelV y u) : KV (putK kvs k y) (stored vs k u) := by
  unfold putK stored
  rw [r.any k]
  by_cases e : (vs.any fun kv => decide (kv.1 = k)) = true
  · rw [if_pos e, if_pos e]; exact r.repl k ry
  · rw [if_neg e, if_neg e]; exact Paired.snoc r ⟨rfl, ry⟩
theorem KV.length {kvs : List (κ × V)} {vs : List (κ × Value)} (r : KV kvs vs) : kvs.length = vs.length := Paired.length r
end


theorem kV_is {P : Program} {w : World} {k : Key} {u : Value} (r : RelV (kV k) u) : (mixKind P w).is k u = true := by
  cases k with
  | inl i => obtain ⟨t, e⟩ := (show ∃ t, u = Value.int i t from r); subst e; exact mixKind_int P w i t
  | inr x => obtain ⟨t, e⟩ := (show ∃ t, u = Value.str x t from r); subst e; exact mixKind_str P w x t
theorem items_are {P : Program} {w : World} : ∀ {ks : List Key} {us : List Value}, Vals (ks.map kV) us → ItemsAre (mixKind P w) ks us
  | [], _, r => by rw [List.map_nil] at r; cases r; exact .nil
  | k :: ks, _, r => by
    rw [List.map_cons] at r
    cases r with
    | cons h t => exact .cons (kV_is h) (items_are t)

noncomputable abbrev KT (H : Hp) : List (List Key × V) → List (List Key × Addr × Value) → Prop := Paired fun p q => p.1 = q.1 ∧ H q.2.1 = some (.tup (p.1.map kV)) ∧ RelV p.2 q.2.2
theorem KT.val {H : Hp} {kvs : List (List Key × V)} {xs : List (List Key × Addr × Value)} (r : KT H kvs xs) (k : List Key) : RelO (valV kvs k) ((atKey xs k).map (·.2)) := by
  induction r with
  | nil => exact True.intro
  | @cons p q ps qs h t ih =>
    obtain ⟨h1, _, h2⟩ := h
    by_cases e : p.1 = k
    · have e' : q.1 = k := h1.symm.trans e
      have b : atKey (q :: qs) k = some q.2 := by simp [atKey, List.find?_cons, e']
      rw [valV_pos e, b]; exact h2
    · have e' : ¬ q.1 = k := fun z => e (h1.trans z)
      have b : atKey (q :: qs) k = atKey qs k := by simp [atKey, List.find?_cons, e']
      rw [valV_neg e, b]; exact ih
theorem KT.repl {H : Hp} {kvs : List (List Key × V)} {xs : List (List Key × Addr × Value)} (r : KT H kvs xs) (k : List Key) {y : V} {u : Value} (ry : RelV y u) :
    KT H (kvs.map fun kv => if kv.1 = k then (kv.1, y) else kv) (xs.map (putAt k u)) := by
  induction r with
  | nil => exact .nil
  | @cons p q ps qs h t ih =>
    rw [List.map_cons, List.map_cons]
    refine .cons ?_ ih
    obtain ⟨h1, h2, h3⟩ := h
    unfold putAt
    by_cases e : p.1 = k
    · rw [if_pos e, if_pos (h1.symm.trans e)]; exact ⟨h1, h2, ry⟩
    · rw [if_neg e, if_neg (fun z => e (h1.trans z))]; exact ⟨h1, h2, h3⟩
theorem KT.put {H : Hp} {kvs : List (List Key × V)} {xs : List (List Key × Addr × Value)} (r : KT H kvs xs) (k : List Key) {b : Addr} {y : V} {u : Value} (hb : H b = some (.tup (k.map kV))) (ry : RelV y u) :
    KT H (putK kvs k y) (storedH xs k b u) := by
  have e : (kvs.any fun kv => decide (kv.1 = k)) = (atKey xs k).isSome := by
    rw [valV_any, (r.val k).isSome_eq, Option.isSome_map]
  unfold putK storedH
  rw [e]
  by_cases q : (atKey xs k).isSome = true
  · rw [if_pos q, if_pos q]; exact r.repl k ry
  · rw [if_neg q, if_neg q]; exact Paired.snoc r ⟨rfl, hb, ry⟩
theorem KT.keeps {H H' : Hp} {kvs : List (List Key × V)} {xs : List (List Key × Addr × Value)} (r : KT H kvs xs) (ht : ∀ b ys, H b = some (.tup ys) → H' b = some (.tup ys)) : KT H' kvs xs :=
  Paired.mapP r fun _ _ z => ⟨z.1, ht _ _ z.2.1, z.2.2⟩

section
variable {P : Program} {w : World} {H : Hp} {h : Heap} {a : Addr}
theorem rd_of {u : HO} (ok : HOk P w H h) (e : Rd H a u) : ObjOk P w H h a u := e.ok ok
theorem dk_rd {kvs : List (Key × V)} (ok : HOk P w H h) (e : Rd H a (.dK kvs)) : kvs.length ≤ sizeLine ∧ (a == sysModules) = false ∧ ∃ vs, KV kvs vs ∧ h.DictOf (mixKind P w) a vs :=
  show ObjOk P w H h a (.dK kvs) from rd_of ok e
theorem dk_of {kvs : List (Key × V)} (ok : HOk P w H h) (e : H a = some (.dK kvs)) : kvs.length ≤ sizeLine ∧ (a == sysModules) = false ∧ ∃ vs, KV kvs vs ∧ h.DictOf (mixKind P w) a vs := dk_rd ok (.inl e)
theorem key_of {ks : List Key} (ok : HOk P w H h) (e : H a = some (.tup (ks.map kV))) : (tupleKind (mixKind P w)).is h ks a := by
  obtain ⟨_, its, r, o, h1, h2, ⟨n, h3⟩, _⟩ := (show ObjOk P w H h a (.tup (ks.map kV)) from ok a _ e)
  exact ⟨o, its.toArray, n, h1, h2, h3, by simpa using items_are r⟩
theorem dt_rd {kvs : List (List Key × V)} (ok : HOk P w H h) (e : Rd H a (.dT kvs)) : kvs.length ≤ sizeLine ∧ (a == sysModules) = false ∧
    ∃ xs, KT H kvs xs ∧ h.DictOfH (tupleKind (mixKind P w)) a xs := by
  obtain ⟨z, y, xs, r, o, es, ep, h1, h2, h3, h4, h5⟩ := (show ObjOk P w H h a (.dT kvs) from rd_of ok e)
  refine ⟨z, y, xs, r, o, es, ep, h1, h2, h3, h4, fun x hx => ?_, h5⟩
  have all : ∀ {l : List (List Key × V)} {m : List (List Key × Addr × Value)}, KT H l m → ∀ x ∈ m, (tupleKind (mixKind P w)).is h x.1 x.2.1 := by
    intro l m q
    induction q with
    | nil => intro x hx; exact nomatch hx
    | @cons p q ps qs hq t ih =>
      intro x hx
      rcases List.mem_cons.mp hx with e | hx
      · subst e
        exact key_of ok (by rw [← hq.1]; exact hq.2.1)
      · exact ih x hx
  exact all r x hx
theorem dt_of {kvs : List (List Key × V)} (ok : HOk P w H h) (e : H a = some (.dT kvs)) : kvs.length ≤ sizeLine ∧ (a == sysModules) = false ∧
    ∃ xs, KT H kvs xs ∧ h.DictOfH (tupleKind (mixKind P w)) a xs := dt_rd ok (.inl e)
end

noncomputable def DGet (H : Hp) (a : Addr) (y : V) (r : Option V) : Prop :=
  (∃ kvs k, Rd H a (.dK kvs) ∧ y = kV k ∧ r = valV kvs k) ∨ ∃ kvs k b, Rd H a (.dT kvs) ∧ y = .ref b ∧ H b = some (.tup (k.map kV)) ∧ r = valV kvs k
noncomputable def DPut (H : Hp) (a : Addr) (y v : V) (H' : Hp) : Prop :=
  (∃ kvs k, H a = some (.dK kvs) ∧ y = kV k ∧ kvs.length < sizeLine ∧ H' = upd H a (.dK (putK kvs k v))) ∨
  ∃ kvs k b, H a = some (.dT kvs) ∧ y = .ref b ∧ H b = some (.tup (k.map kV)) ∧ kvs.length < sizeLine ∧ H' = upd H a (.dT (putK kvs k v))
theorem DGet.k {H : Hp} {a : Addr} {kvs : List (Key × V)} {k : Key} (e : H a = some (.dK kvs)) : DGet H a (kV k) (valV kvs k) := .inl ⟨kvs, k, .inl e, rfl, rfl⟩
theorem DPut.k {H : Hp} {a : Addr} {kvs : List (Key × V)} {k : Key} {v : V} (e : H a = some (.dK kvs)) (hl : kvs.length < sizeLine) : DPut H a (kV k) v (upd H a (.dK (putK kvs k v))) := .inl ⟨kvs, k, e, rfl, hl, rfl⟩
section
variable {X : Cx} {pins : List (Addr × Obj)} {σ : St} {H : Hp} {s : Shared} {a : Addr} {y v : V} {u r : Value} {o : Option V} {A : Around} {E : Value → Shared → Prop}

theorem Inv.big (I : Inv X pins σ H s) : sysModules < s.heap.objs.size := by
  have h : mainGlobals < s.heap.objs.size := (I.mod.glob.keeps I.bk).lt
  exact Nat.lt_trans (by decide) h

theorem d_getItem {Q : Value → Shared → Prop} (hu : A.units + 1 < cLine) (I : Inv X pins σ H s) (g : DGet H a y (some v)) (ry : RelV y u) (h : ∀ w' s', Inv X pins σ H s' → RelV v w' → Q w' s') :
    wpAny (model X.prog X.w) A (getItem (.ref a) u) Q E s := by
  rcases g with ⟨kvs, k, e, ey, l⟩ | ⟨kvs, k, b, e, ey, eb, l⟩
  · subst ey
    obtain ⟨z, hd, vs, rel, dd⟩ := dk_rd I.hok e
    obtain ⟨w', hw, rw'⟩ := RelO.some_of (v := v) (o := valueAt vs k) (by rw [l]; exact rel.val k)
    exact wpAny_getItem_of (kV_is ry) dd.mapOf hw (h w' _ (I.tok _) rw')
  · subst ey
    cases (show u = Value.ref b from ry)
    obtain ⟨z, hd, xs, rel, dd⟩ := dt_rd I.hok e
    obtain ⟨w', hw, rw'⟩ := RelO.some_of (v := v) (o := (atKey xs k).map (·.2)) (by rw [l]; exact rel.val k)
    obtain ⟨p, hp, hp2⟩ := Option.map_eq_some_iff.mp hw
    refine wpAny_getItem_heap (tupleKind_room_in1 hu) (key_of I.hok eb) dd hp ?_
    rw [hp2]
    exact h w' _ (I.tok _) rw'
theorem d_write {h' : Heap} {t' : Nat} {ob : HO} (I : Inv X pins σ H s) (mu : Mut (H a)) (hs : Heap.SameBut a s.heap h') (he : ∃ q, h'.get? a = some q) (new : ObjOk X.prog X.w (upd H a ob) h' a ob) :
    Inv X pins σ (upd H a ob) { s with heap := h', toks := t' } :=
  I.write (x := a) (e := a) mu (.inl rfl) (fun b q hb z => (hs.2 b hb).trans z) he new
theorem dk_new {P : Program} {w : World} {H' : Hp} {h' : Heap} {kvs : List (Key × V)} {vs : List (Key × Value)} (z : kvs.length ≤ sizeLine) (hd : (a == sysModules) = false) (rel : KV kvs vs) (dd : h'.DictOf (mixKind P w) a vs) :
    ObjOk P w H' h' a (.dK kvs) := ⟨z, hd, vs, rel, dd⟩
theorem d_setItem {H' : Hp} {Q : Unit → Shared → Prop} (hu : A.units + 1 < cLine) (I : Inv X pins σ H s) (g : DPut H a y v H') (ry : RelV y u) (rv : RelV v r) (h : ∀ s', Inv X pins σ H' s' → Q () s') :
    wpAny (model X.prog X.w) A (setItem (.ref a) u r) Q E s := by
  rcases g with ⟨kvs, k, e, ey, l, eH⟩ | ⟨kvs, k, b, e, ey, eb, l, eH⟩
  · subst ey eH
    obtain ⟨z, hd, vs, rel, dd⟩ := dk_of I.hok e
    have hz : vs.length ≤ sizeLine := by rw [← rel.length]; exact z
    have hl : (putK kvs k v).length ≤ sizeLine := by have := length_putK kvs k v; omega
    refine wpAny_setItem_pairs (hsz := hz) (kV_is ry) dd fun h' dd' hs => h _ ?_
    have he : ∃ q, h'.get? a = some q := let ⟨q, _, _, hq, _⟩ := dd'; ⟨q, hq⟩
    exact d_write I (by rw [e]; exact True.intro) hs he (dk_new hl hd (rel.put k rv) dd')
  · subst ey eH
    cases (show u = Value.ref b from ry)
    obtain ⟨z, hd, xs, rel, dd⟩ := dt_of I.hok e
    have hz : xs.length ≤ sizeLine := by rw [← Paired.length rel]; exact z
    have hl : (putK kvs k v).length ≤ sizeLine := by have := length_putK kvs k v; omega
    refine wpAny_setItem_heap (hsz := hz) (tupleKind_room_in1 hu) (key_of I.hok eb) dd fun h' dd' hs => h _ ?_
    obtain ⟨q, es, ep, hq, h2, h3, h4, _, h5⟩ := dd'
    refine d_write I (by rw [e]; exact True.intro) hs ⟨q, hq⟩ ⟨hl, hd, _, (rel.put k eb rv).keeps fun c ys ec => ?_, q, es, ep, hq, h2, h3, h4, h5⟩
    rw [upd_ne (ne_of ec e (fun z => nomatch z))]
    exact ec
end

section
variable {X : Cx} {pins : List (Addr × Obj)} {σ : St} {H : Hp} {s : Shared} {a : Addr} {kvs : List (Key × V)} {k : Key} {u : Value} {A : Around} {E : Value → Shared → Prop}
end


noncomputable def NoSl (i : Expr) : Prop := ∀ ov iv, subscripted i false ov iv = operate [ov, iv] (getItem ov iv)
theorem subD_of {prog : Program} {w : World} {A : Around} {E : Value → Shared → Prop} {s : Shared} {env : Env} {value slice : Expr} {pos : Pos} {T id : String} {Q : Value → Shared → Prop}
    (hl : typeLookup (.type T) "__getitem__" = pure (some (.builtin id))) (hs : NoSl slice)
    (h : wpAny (model prog w) A (eval value env) (fun o s₁ => wpAny (model prog w) A (eval slice env) (fun i s₂ => s₂.TypeIs o T ∧ wpAny (model prog w) A (getItem o i) Q E s₂) E s₁) E s) :
    wpAny (model prog w) A (eval (.Subscript value slice pos) env) Q E s := by
  refine Subscript_ (wpAny_mono h (fun o s₁ h₁ => wpAny_mono h₁ (fun i s₂ h₂ => ?_) fun _ _ x => x) fun _ _ x => x)
  obtain ⟨hT, h₂⟩ := h₂
  unfold subscriptTail
  refine wpAny_bind ?_
  rw [getitemInPython_of_ne hT.not_modules]
  refine wpAny_bind (wpAny_specialOf hT hl ?_)
  have fin : wpAny (model prog w) A (subscripted slice false o i) (fun r s₃ => wpAny (model prog w) A (letTemporaryGo value o r >>= fun _ => pure r) Q E s₃) E s₂ := by
    rw [hs o i]
    exact wpAny_operating (wpAny_mono h₂ (fun r s₃ h₃ => wpAny_bind (wpAny_letTemporaryGo (wpAny_pure h₃))) fun _ _ x => x)
  first
    | exact wpAny_pure (wpAny_bind fin)
    | exact wpAny_bind (wpAny_pure (wpAny_bind fin))
    | exact wpAny_bind fin

theorem dict_typeIs {X : Cx} {pins : List (Addr × Obj)} {σ : St} {H : Hp} {s : Shared} {a : Addr} {y : V} {o : Option V} (I : Inv X pins σ H s) (g : DGet H a y o) : s.TypeIs (.ref a) "dict" := by
  rcases g with ⟨kvs, k, e, _, _⟩ | ⟨kvs, k, b, e, _, _, _⟩
  · obtain ⟨_, _, vs, _, dd⟩ := dk_rd I.hok e
    exact dd.typeIs
  · obtain ⟨_, _, xs, _, dd⟩ := dt_rd I.hok e
    exact dd.typeIs
noncomputable def tDGet (td ty : TE) : TE := fun σ H Q => td σ H fun x H1 => ty σ H1 fun y H2 => ∃ a v, x = .ref a ∧ DGet H2 a y (some v) ∧ Q v H2
noncomputable def sDPut (td ty tv : TE) : TS := fun D σ H => tv σ H fun v H1 => td σ H1 fun x H2 => ty σ H2 fun y H3 => ∃ a H4, x = .ref a ∧ DPut H3 a y v H4 ∧ D.nx σ H4
section
variable {X : Cx} {o i e value : Expr} {pos pos' tpos : Pos} {td ty tv : TE}
theorem pe_dget (hu : X.A.units + 1 < cLine) (ho : PE X o td) (hi : PE X i ty) (hs : NoSl i) : PE X (.Subscript o i pos) (tDGet td ty) := by
  intro pins s σ H Q I h
  refine subD_of PySem.F.slot_dict_getitem.lookup hs (thn (ho pins s σ H _ I h) fun u s1 ⟨x, H1, I1, rx, q1⟩ => thn (hi pins s1 σ H1 _ I1 q1) fun iv s2 ⟨y, H2, I2, ry, a, v, ex, g, q2⟩ => ?_)
  subst ex
  obtain rfl : u = Value.ref a := rx
  exact ⟨dict_typeIs I2 g, d_getItem hu I2 g ry fun w' s3 I3 rw' => ⟨v, H2, I3, rw', q2⟩⟩
theorem ps_dput (hu : X.A.units + 1 < cLine) (ho : PE X o td) (hi : PE X i ty) (hv : PE X value tv) (hs : swapsWith value (some (.Subscript o i pos')) pos.line X.env = pure false) :
    PS X (.Assign [.Subscript o i pos'] value pos) (sDPut td ty tv) := by
  intro pins s σ H D I h
  refine wpAny_Assign_Subscript (thn (hv pins s σ H _ I h) fun r s1 ⟨v, H1, I1, rv, q1⟩ => thn (ho pins s1 σ H1 _ I1 q1) fun u s2 ⟨x, H2, I2, rx, q2⟩ => thn (hi pins s2 σ H2 _ I2 q2) fun iv s3 ⟨y, H3, I3, ry, a, H4, ex, g, q3⟩ => ?_) hs
  subst ex
  obtain rfl : u = Value.ref a := rx
  exact d_setItem hu I3 g ry rv fun s4 I4 => ⟨σ, H4, I4, q3⟩
end


theorem dk_empty {P : Program} {w : World} {H : Hp} (h : Heap) (hb : sysModules < h.objs.size) : ObjOk P w H (h.push { cls := .type "dict", data := .dict #[] }) h.objs.size (.dK []) :=
  ⟨Nat.zero_le _, beq_eq_false_iff_ne.mpr (Ne.symm (Nat.ne_of_lt hb)), [], .nil, Heap.DictOf.new h⟩
noncomputable def tDNewK : TE := fun _ H Q => ∀ p, H p = none → Q (.ref p) (upd H p (.dK []))
section
variable {X : Cx} {pos : Pos}
theorem pe_dnewK : PE X (.Dict [] [] pos) tDNewK := fun pins s σ H Q I h =>
  wpAny_Dict_empty ⟨.ref s.heap.objs.size, _, I.laid (a := s.heap.objs.size) (o := .dK []) (t' := s.toks) (fun _ _ q => Heap.get?_push_of_some _ q) (Nat.le_refl _) (dk_empty s.heap I.big), rfl, h _ (I.hok.fresh (Nat.le_refl _))⟩
end

section
variable {X : Cx} {pins : List (Addr × Obj)} {σ : St} {H : Hp} {s : Shared} {a : Addr} {y d : V} {u r : Value} {o : Option V} {A : Around} {E : Value → Shared → Prop}
end

section
variable {X : Cx} {o e f : Expr} {apos cpos : Pos} {td ty tx : TE}
end

section
variable {X : Cx} {pins : List (Addr × Obj)} {σ : St} {H : Hp} {s : Shared} {a : Addr} {kvs : List (Key × V)} {A : Around} {E : Value → Shared → Prop}
theorem d_copyOf {Q : Value → Shared → Prop} (I : Inv X pins σ H s) (e : Rd H a (.dK kvs)) (h : ∀ p s', H p = none → Inv X pins σ (upd H p (.dK kvs)) s' → Q (.ref p) s') : wpAny (model X.prog X.w) A (call (.type "dict") [.ref a]) Q E s := by
  obtain ⟨z, hd, vs, rel, dd⟩ := dk_rd I.hok e
  refine kt_call_dict hd dd (by rw [← rel.length]; exact z) fun h' dd' hs => ?_
  refine h _ _ (I.hok.fresh (Nat.le_refl _)) (I.laid (a := s.heap.objs.size) (o := .dK kvs) (t' := s.toks) (fun b q hq => ?_) (Nat.le_refl _) (dk_new z (beq_eq_false_iff_ne.mpr (Ne.symm (Nat.ne_of_lt I.big))) rel dd'))
  exact (hs.2 b (Nat.ne_of_lt (Heap.lt_size hq))).trans (Heap.get?_push_of_some _ hq)
end


section
variable {X : Cx} {pins : List (Addr × Obj)} {σ : St} {H : Hp} {s : Shared} {a : Addr} {y : V} {u : Value} {A : Around} {E : Value → Shared → Prop}
end
end L2

namespace Att
open PySem PySem.W PySem.Calls PyProof.Rows

theorem ints_of_wellAll {P : Params} {h : Heap} : ∀ (ns : List Int) (vs : List Value), WellAll P h vs (ns.map WData.int) → IntsAre vs ns := by
  intro ns
  induction ns with
  | nil =>
    intro vs w
    rw [List.map_nil] at w
    cases w
    exact .nil
  | cons n ns ih =>
    intro vs w
    rw [List.map_cons] at w
    cases w with
    | cons a b =>
      cases a
      exact .cons _ _ (ih _ b)

theorem script_of {l : OpenLaw} {n : Nat} (hn : l.most = some n) {P : Params} {h : Heap} {args : List WData} {vals : List Value}
    (hpre : l.row.toRowW.claim.pre args = true) (hwl : WellAll P h vals args) :
    ∃ a vs ns, vals = [Value.ref a] ∧ args = [WData.list (ns.map WData.int)] ∧ h.get? a = some { cls := .type "list", data := .seq vs.toArray } ∧ IntsAre vs ns ∧ ns.length ≤ n := by
  have hsh : WShape.hasAll [] args [.list .int] = true := (pre_splitW hpre).1
  have hc : l.pre.holds [] { args := args } = true := (pre_splitW hpre).2
  obtain ⟨d, r, rfl, h1, h2⟩ := hasAllW_cons hsh
  obtain rfl := hasAllW_nil h2
  obtain ⟨xs, rfl, h3⟩ := hasW_list h1
  obtain ⟨ns, rfl⟩ := items_int h3
  have hlen : ns.length ≤ n := by
    unfold OpenLaw.pre at hc
    have h4 : (WTm.not (.lt (.lit (.int (n : Int))) (.len (.arg 0)))).holds [] { args := [.list (ns.map .int)] } = true := by
      have h4 := (holds_andW hc).1
      rw [hn] at h4
      exact h4
    have h5 := condW_of h4 (w_not (w_lt w_lit (w_len_list (w_arg rfl))))
    rw [List.length_map] at h5
    refine Nat.le_of_not_lt fun q => ?_
    have q' : (n : Int) < ((ns.length : Nat) : Int) := by omega
    first
      | (rw [decide_eq_true q'] at h5; exact absurd h5 (by decide))
      | (simp at h5; omega)
  cases hwl with
  | cons w1 w2 =>
    cases w2
    cases w1 with
    | list ho hall => exact ⟨_, _, ns, rfl, rfl, ho, ints_of_wellAll ns _ hall, hlen⟩

theorem post_true (l : OpenLaw) (args : List WData) : l.row.toRowW.claim.post args (.bool true) args = true :=
  postW_of (r := l.row.toRowW) (X := (true == true))
    (show WShape.has [] (.bool true) .bool = true by first | rfl | decide | simp [WShape.has, WShape.arms, WShape.armsAll])
    (show (WTm.eq .res (.lit (.bool true))).value [] { args := args, res := some (.bool true), after := args } = some (.bool (true == true)) from w_eq_bool (w_res rfl) w_lit) rfl

theorem attach_call {l : OpenLaw} {n : Nat} {q : Program} {loose : List Str} {XP : (Str → Option Value) → Heap → Prop} {YP : World → Heap → Prop} {d : DefRec}
    (hn : l.most = some n) (hdf : d.params.defaults = [])
    (call : ∀ (w : World) (s₀ s₁ : Shared) (mg mb : Str → Option Value) (fa : Addr) (o : Obj) (pm cd doc : Value) (a : Addr) (vs : List Value) (ns : List Int),
      Ground q loose [] XP w s₀ mg mb s₁.heap → YP w s₁.heap →
      s₁.heap.get? fa = some o → o.data = .func (docDef d.name d.params d.body d.scope pm cd doc) → s₁.heap.CodeRec cd d.name → mg d.name = some (.ref fa) →
      s₁.heap.get? a = some { cls := .type "list", data := .seq vs.toArray } → IntsAre vs ns → ns.length ≤ n → s₁.gens = #[] →
      codeAny (model l.prog w) callerA (.call (.ref fa) ⟨[.ref a], []⟩) (fun r s' => r = .ok (.ret (.bool true)) ∧ OldK s₁.heap s'.heap ∧ s'.os = s₁.os ∧ AllBare s'.gens) s₁) :
    WalkO q loose XP YP l.row.toRowW d [] (fun f vs => PySem.call f vs) := by
  intro w s₀ s₁ mg mb G Y fa o pm cd doc dV kV ho hd hcd hD hmg hg args vals as hpre hlay hrd hwl hlo
  obtain rfl : dV = .none := Dflts.none hD hdf
  obtain rfl : kV = .none := Dflts.noKw hD
  obtain ⟨a, vs, ns, rfl, rfl, hobj, hints, hlen⟩ := script_of hn hpre hwl
  refine enter_call (codeAny_mono (call w s₀ s₁ mg mb fa o pm cd doc a vs ns G Y ho (fd_plain hd) hcd hmg hobj hints hlen hg) fun r s' hq => ?_)
  obtain ⟨rfl, h2, h3, h4⟩ := hq
  exact ⟨.inl ⟨.bool true, .bool true, [], rfl, fun _ => rfl, .bool true, post_true l _, fun _ => ⟨List.Pairwise.nil, fun _ hm => (nomatch hm)⟩⟩, h2, h3, h4⟩

section
variable {prog : Program} {w : World} {A : Around} {E : Value → Shared → Prop} {s : Shared} {K : Frag}

end
end Att

namespace L2
open PySem PySem.Spec PyProof.Rows

theorem vals_ints : ∀ {vs : List Value} {ns : List Int}, IntsAre vs ns → Vals (ns.map V.int) vs
  | _, _, .nil => .nil
  | _, _, .cons n t h => .cons ⟨t, rfl⟩ (vals_ints h)

end L2

namespace L2
open PySem PySem.Spec PyProof.Rows

end L2


namespace L2
open PySem PySem.Spec PyProof.Rows

noncomputable def inClass (s : Stmt) (j : Nat) : Stmt := match s with
  | .ClassDef _ _ _ body _ _ _ _ _ _ _ => body.getD j (.Pass ⟨0, 0, 0, 0⟩)
  | _ => .Pass ⟨0, 0, 0, 0⟩
noncomputable def defArgs (s : Stmt) : Arguments := match s with
  | .FunctionDef _ a _ _ _ _ _ _ _ _ => a
  | _ => { posonlyargs := [], args := [], vararg := none, kwonlyargs := [], kw_defaults := [], kwarg := none, defaults := [] }
noncomputable def defBody (s : Stmt) : List Stmt := match s with
  | .FunctionDef _ _ b _ _ _ _ _ _ _ => b
  | _ => []
noncomputable def defScope (s : Stmt) : Scope := match s with
  | .FunctionDef _ _ _ _ _ _ sc _ _ _ => sc
  | _ => { kind := .function, names := [], isGenerator := false, isCoroutine := false }

noncomputable abbrev CX0 : CXT := fun _ _ _ _ _ _ => False
noncomputable abbrev E0 : XK := fun _ _ _ => False
theorem pass0 {X : Cx} : Passes CX0 X E0 := fun _ _ _ _ _ _ _ h => h.elim

structure Fun (K : PySem.W.Frag) (x qual : Str) (st : Stmt) (f : Addr) (fd : FuncData) : Prop where
  ex : ∃ (oc : Value) (od : Option Addr) (kV doc pm : Value) (an : Option Addr) (cdv ct : Value) (osl : Array (Option Value)),
    fd = PySem.W.fnOf x qual (defArgs st) (defBody st) (defScope st) .none kV doc pm an cdv ct ∧ K.lookup f = some ⟨oc, od, .func fd, osl⟩ ∧ PySem.W.codeIn K cdv qual = true
  kp : PySem.W.keepIn K (.ref f) = true
section
variable {P : Program} {w : World} {K : PySem.W.Frag} {mg : Str → Option Value} {base : Heap}
theorem Fun.ok {x qual : Str} {st : Stmt} {f : Addr} {fd : FuncData} {N ps : List Str} {k : Nat} {sp : Sp} (F : Fun K x qual st f fd) (S : FnScope N ps (defScope st)) (len : ∀ vs H Q E, sp vs H Q E → vs.length = ps.length)
    (hbody : ∀ (cdv : Value) (A : Around) (outer : List Env) (s : Shared) (H : Hp) (vs : List V) (Q : VK) (E : XK), Room k (A.deeper (envOfC qual (defScope st) s.heap.objs.size f cdv)) → sp vs H Q E →
      ∃ t, PSs (cxOf CX0 P w K mg base N qual (defScope st) f cdv A outer s H E).nox (defBody st) t ∧ t { nx := fun _ H' => Q .non H', rt := Q } (start N vs) H) : FnOk P w K mg base CX0 (k + 1) f fd ps sp := by
  obtain ⟨oc, od, kV, doc, pm, an, cdv, ct, osl, rfl, lk, hcd⟩ := F.ex
  refine fn_of lk hcd S len fun A outer s H vs Q E hr hsp => ?_
  obtain ⟨t, h, q⟩ := hbody cdv A outer s H vs Q E hr hsp
  exact ⟨t, h.nox, q⟩
theorem Fun.binds {x qual : Str} {st : Stmt} {f : Addr} {fd : FuncData} {ps : List Str} (F : Fun K x qual st f fd)
    (h : ∀ (kV doc pm : Value) (an : Option Addr) (cdv ct : Value) (us : List Value), us.length = ps.length → bindArgs (PySem.W.fnOf x qual (defArgs st) (defBody st) (defScope st) .none kV doc pm an cdv ct) ⟨us, []⟩ = pure (ps.zip us)) : Binds K fd ps [] := by
  obtain ⟨oc, od, kV, doc, pm, an, cdv, ct, osl, rfl, lk, hcd⟩ := F.ex
  exact .all (h kV doc pm an cdv ct)
theorem fun_mk {x qual : Str} {st : Stmt} {f : Addr} {oc : Value} {od an : Option Addr} {osl : Array (Option Value)} {kV doc pm cdv ct : Value} (l : K.lookup f = some ⟨oc, od, .func (PySem.W.fnOf x qual (defArgs st) (defBody st) (defScope st) .none kV doc pm an cdv ct), osl⟩)
    (c : PySem.W.codeIn K cdv qual = true) (k : PySem.W.keepIn K (.ref f) = true) : Fun K x qual st f (PySem.W.fnOf x qual (defArgs st) (defBody st) (defScope st) .none kV doc pm an cdv ct) := ⟨⟨oc, od, kV, doc, pm, an, cdv, ct, osl, rfl, l, c⟩, k⟩
end
theorem hu_of {A : Around} {k : Nat} (hr : Room k A) : A.units + 1 < cLine := Nat.lt_of_le_of_lt (Nat.add_le_add_left (by decide : 1 ≤ 64) _) hr.units
section
variable {X : Cx}
theorem pv (i : Nat) {x : Str} {pos : Pos} (hN : X.N[i]? = some x := by rfl) (hv : Vis X.env.scope x := by first | exact Or.inl rfl | exact Or.inr (Or.inl rfl) | exact Or.inr (Or.inr rfl)) (hd : (x == ("__debug__" : Str)) = false := by decide)
    (hcd : (x == ("__classdict__" : Str)) = false := by decide) : PE X (.Name x pos) (tVar i) := pe_var hN hv hd hcd
end

theorem iteF {A B : Prop} (h : B) : if false = true then A else B := by
  rw [if_neg Bool.false_ne_true]
  exact h
theorem iteT {A B : Prop} (h : A) : if true = true then A else B := by
  rw [if_pos rfl]
  exact h
theorem ite2 {c A B : Prop} [Decidable c] (h1 : c → A) (h2 : ¬ c → B) : if c then A else B := by
  by_cases h : c
  · rw [if_pos h]
    exact h1 h
  · rw [if_neg h]
    exact h2 h
noncomputable def Same (H H' : Hp) : Prop := ∀ b o, H b = some o → H' b = some o
theorem Same.refl (H : Hp) : Same H H := fun _ _ h => h
theorem Same.trans {H H1 H2 : Hp} (a : Same H H1) (b : Same H1 H2) : Same H H2 := fun c o h => b c o (a c o h)
theorem Same.free {H H' : Hp} (e : Same H H') {l : Addr} (h : H' l = Option.none) : H l = Option.none := by
  cases q : H l with
  | none => rfl
  | some o =>
    rw [e l o q] at h
    cases h
theorem Same.seq {K : PySem.W.Frag} {H H' : Hp} {a : Addr} {xs : List V} (e : Same H H') (h : SqL K H a xs) : SqL K H' a xs := by
  rcases h with (h | ⟨o, h⟩) | h
  · exact .inl (.inl (e _ _ h))
  · exact .inl (.inr ⟨o, e _ _ h⟩)
  · exact .inr h

section
variable {κ : Type} [DecidableEq κ]
end
end L2


set_option Elab.async false
set_option linter.all false
set_option maxRecDepth 100000
set_option maxHeartbeats 4000000
namespace L2
open PySem PySem.Spec PyProof.Rows

theorem clos_aux (env : Env) : ∀ (l : List (Str × NameKind)) (cs : List (Str × Addr)), (∀ n, (n, NameKind.free) ∈ l → ∃ c, env.cells.lookup n = some c) → (∀ x c, cs.lookup x = some c → env.cells.lookup x = some c) →
    ∃ cl, (forIn l cs fun x s => if (x.snd == NameKind.free) = true then do let c ← cellOf env x.fst; pure (ForInStep.yield ((x.fst, c) :: s)) else pure (ForInStep.yield s)) = (pure cl : Sem (List (Str × Addr))) ∧
      (∀ x c, cl.lookup x = some c → env.cells.lookup x = some c) ∧ (∀ n, (n, NameKind.free) ∈ l → ∃ c, cl.lookup n = some c) ∧ ∀ n c, cs.lookup n = some c → ∃ c', cl.lookup n = some c'
  | [], cs, _, h => ⟨cs, rfl, h, (fun _ z => nomatch z), (fun n c e => ⟨c, e⟩)⟩
  | (n, k) :: r, cs, hf, h => by
    by_cases hk : k = .free
    · subst hk
      obtain ⟨c, hc⟩ := hf n List.mem_cons_self
      have e : cellOf env n = pure c := by unfold cellOf; rw [hc]
      obtain ⟨cl, e1, h1, h2, h3⟩ := clos_aux env r ((n, c) :: cs) (fun m hm => hf m (List.mem_cons_of_mem _ hm)) (fun x c' q => by
        rw [List.lookup_cons] at q
        by_cases hx : x = n
        · subst hx; simp at q; subst q; exact hc
        · have : (x == n) = false := by simpa using hx
          rw [this] at q; exact h x c' q)
      refine ⟨cl, ?_, h1, fun m hm => ?_, fun m c' q => ?_⟩
      · rw [List.forIn_cons]
        show ((do let c ← cellOf env n; pure (ForInStep.yield ((n, c) :: cs))) >>= _) = _
        rw [e]
        exact e1
      · rcases List.mem_cons.mp hm with z | z
        · cases z; exact h3 n c (by simp)
        · exact h2 m z
      · by_cases hx : m = n
        · subst hx; exact h3 m c (by simp)
        · have : (m == n) = false := by simpa using hx
          exact h3 m c' (by rw [List.lookup_cons, this]; exact q)
    · have hb : (k == NameKind.free) = false := by simpa using hk
      obtain ⟨cl, e1, h1, h2, h3⟩ := clos_aux env r cs (fun m hm => hf m (List.mem_cons_of_mem _ hm)) h
      refine ⟨cl, ?_, h1, fun m hm => ?_, h3⟩
      · rw [List.forIn_cons]
        dsimp only
        rw [hb]
        exact e1
      · rcases List.mem_cons.mp hm with z | z
        · cases z; exact absurd rfl hk
        · exact h2 m z

theorem closureFor_of {scope : Scope} {env : Env} (h : ∀ n, (n, NameKind.free) ∈ scope.names → ∃ c, env.cells.lookup n = some c) :
    ∃ cl, closureFor scope env = pure cl ∧ (∀ x c, cl.lookup x = some c → env.cells.lookup x = some c) ∧ ∀ n, (n, NameKind.free) ∈ scope.names → ∃ c, cl.lookup n = some c := by
  obtain ⟨cl, e, h1, h2, _⟩ := clos_aux env scope.names [] h (fun _ _ z => by simp at z)
  refine ⟨cl, ?_, h1, h2⟩
  simp only [closureFor]
  rw [e]
  rfl

noncomputable def compCx (X : Cx) (scope : Scope) (N' : List Str) (cl : List (Str × Addr)) (C : Addr) (s : Shared) (H : Hp) (fp : List Addr) (pins : List (Addr × Obj)) : Cx where
  prog := X.prog
  w := X.w
  K := X.K
  mg := X.mg
  base := X.base
  A := X.A
  N := N'
  s₀ := s
  H₀ := H
  env := compEnvC scope cl C X.env
  outer := X.stack
  stack := X.stack
  ex := fp
  calm := X.calm
  fn := fun _ => false
  pn := X.pn ++ pins
  xe := fun _ _ => False

structure CompScope (sc : Scope) (out : Scope) : Prop where
  kind : sc.kind = .function
  cell : ∀ y ∈ sc.names, y.2 ≠ .cell
  loc : ∀ y ∈ sc.names, y.2 = .local → sc.names.lookup y.1 = some .local
  free : ∀ y ∈ sc.names, y.2 = .free → out.names.lookup y.1 = some .cell ∨ out.names.lookup y.1 = some .free

noncomputable def inSt (ρ : List (Option Nat)) (σ : St) : St := ρ.map fun o => match o with | some i => (σ[i]?).getD none | none => none
noncomputable def SlotOk (sc : Scope) (env : Env) (N N' : List Str) (ρ : List (Option Nat)) : Prop :=
  ρ.length = N'.length ∧ ∀ (j i : Nat) (x : Str), ρ[j]? = some (some i) → N'[j]? = some x → N[i]? = some x ∧ Vis env.scope x ∧ (x, NameKind.free) ∈ sc.names

theorem lookup_relabel {names : List (Str × NameKind)} {env : Env} {x : Str} {k : NameKind} (h : (names.map fun (n, k) => if (k == NameKind.free && env.scope.kind == .function && env.kindOf n == some .cell) then (n, NameKind.cell) else (n, k)).lookup x = some k)
    (hk : k = .cell ∨ k = .free) (hc : ∀ y ∈ names, y.2 ≠ .cell) : (x, NameKind.free) ∈ names := by
  induction names with
  | nil => simp at h
  | cons p r ih =>
    obtain ⟨n, k'⟩ := p
    by_cases hx : x = n
    · subst hx
      have hk' : k' = .free := by
        by_cases hc' : (k' == NameKind.free && env.scope.kind == .function && env.kindOf x == some .cell) = true
        · simp only [Bool.and_eq_true, beq_iff_eq] at hc'
          exact hc'.1.1
        · simp only [List.map_cons] at h
          rw [if_neg hc'] at h
          simp at h
          subst h
          rcases hk with z | z
          · exact absurd z (hc (x, k') List.mem_cons_self)
          · exact z
      rw [hk']; exact List.mem_cons_self
    · have hb : (x == n) = false := by simpa using hx
      refine List.mem_cons_of_mem _ (ih ?_ fun y hy => hc y (List.mem_cons_of_mem _ hy))
      simp only [List.map_cons] at h
      by_cases hc' : (k' == NameKind.free && env.scope.kind == .function && env.kindOf n == some .cell) = true
      · rw [if_pos hc', List.lookup_cons, hb] at h; exact h
      · rw [if_neg hc', List.lookup_cons, hb] at h; exact h

theorem lookup_relabel_free : ∀ {names : List (Str × NameKind)} {env : Env} {x : Str}, (x, NameKind.free) ∈ names → (names.map fun (n, k) => if (k == NameKind.free && env.scope.kind == .function && env.kindOf n == some .cell) then (n, NameKind.cell) else (n, k)).lookup x = some .cell ∨
    (names.map fun (n, k) => if (k == NameKind.free && env.scope.kind == .function && env.kindOf n == some .cell) then (n, NameKind.cell) else (n, k)).lookup x = some .free ∨ names.lookup x ≠ some .free := by
  intro names env x hm
  by_cases hl : names.lookup x = some .free
  · induction names with
    | nil => simp at hl
    | cons p r ih =>
      obtain ⟨n, k'⟩ := p
      by_cases hx : x = n
      · subst hx
        simp at hl
        subst hl
        by_cases hc' : (NameKind.free == NameKind.free && env.scope.kind == .function && env.kindOf x == some .cell) = true
        · left; simp only [List.map_cons]; rw [if_pos hc']; simp
        · right; left; simp only [List.map_cons]; rw [if_neg hc']; simp
      · have hb : (x == n) = false := by simpa using hx
        rw [List.lookup_cons, hb] at hl
        have hm' : (x, NameKind.free) ∈ r := by
          rcases List.mem_cons.mp hm with z | z
          · cases z; exact absurd rfl hx
          · exact z
        have q := ih hm' hl
        simp only [List.map_cons]
        by_cases hc' : (k' == NameKind.free && env.scope.kind == .function && env.kindOf n == some .cell) = true
        · rw [if_pos hc', List.lookup_cons, hb, List.lookup_cons, hb]; exact q
        · rw [if_neg hc', List.lookup_cons, hb, List.lookup_cons, hb]; exact q
  · exact .inr (.inr hl)

section
variable {X : Cx} {pins : List (Addr × Obj)} {σ : St} {H : Hp} {s : Shared} {scope : Scope} {N' : List Str} {ρ : List (Option Nat)} {cl : List (Str × Addr)} {fp : List Addr} {C D : Addr}

theorem comp_ok (I : Inv X pins σ H s) (S : CompScope scope X.env.scope) (hf : ∀ b ∈ fp, FpOk X pins H b) (h1 : ∀ x c, cl.lookup x = some c → X.env.cells.lookup x = some c) (h2 : ∀ n, (n, NameKind.free) ∈ scope.names → ∃ c, cl.lookup n = some c)
    (hC : s.heap.objs.size ≤ C) (hfs : ∀ b ∈ fp, b < s.heap.objs.size) : (compCx X scope N' cl C s H fp pins).Ok where
  mod := I.ok.mod
  kind := S.kind
  glob := I.ok.glob
  blt := I.ok.blt
  above := hC
  inj := fun x y c e1 e2 => I.ok.inj x y c (h1 x c e1) (h1 y c e2)
  has := fun x hk => h2 x (by
    rcases hk with hk | hk
    · exact lookup_relabel (env := X.env) hk (.inl rfl) S.cell
    · exact lookup_relabel (env := X.env) hk (.inr rfl) S.cell)
  cab := fun _ _ z => nomatch z
  hd := I.ok.hd
  frames := I.ok.frames
  stk := .inl rfl
  exf := fun b hb => ⟨Nat.ne_of_lt (Nat.lt_of_lt_of_le (hfs b hb) hC), fun x c e => (hf b hb).2.2.2.2.1 x c (h1 x c e)⟩
  bs := I.bs
  bsz := Nat.le_trans I.ok.bsz I.sz
  noex := fun b o e hb => by
    rcases (hf b hb).2.2.2.1 with z | z
    · exact I.ok.noex b o e z
    · exact absurd (Nat.lt_of_lt_of_le (Nat.lt_of_lt_of_le (Heap.lt_size e) I.ok.bsz) z) (Nat.lt_irrefl _)
  exfs := fun b hb z => by
    rcases List.mem_cons.mp (I.stkSub b z) with q | q
    · exact (hf b hb).2.1 q
    · exact (hf b hb).2.2.1 q
  funs := I.stack
  frf := I.stkFree

theorem comp_start {h₁ : Heap} {tk : Nat} (I : Inv X pins σ H s) (S : CompScope scope X.env.scope) (hρ : SlotOk scope X.env X.N N' ρ) (hf : ∀ b ∈ fp, FpOk X pins H b) (h1 : ∀ x c, cl.lookup x = some c → X.env.cells.lookup x = some c)
    (h2 : ∀ n, (n, NameKind.free) ∈ scope.names → ∃ c, cl.lookup n = some c) (hC : s.heap.objs.size ≤ C) (hfs : ∀ b ∈ fp, b < s.heap.objs.size) (hn : h₁.Ns C (fun _ => none)) (hk : ∀ b o, s.heap.get? b = some o → h₁.get? b = some o)
    (hl : ∀ x, (x, NameKind.free) ∈ scope.names → scope.names.lookup x = some .free) :
    Inv (compCx X scope N' cl C s H fp pins) [] (inSt ρ σ) H { s with heap := h₁, toks := tk } where
  ok := comp_ok I S hf h1 h2 hC hfs
  os := rfl
  bare := I.bare
  base := Un.kept hk
  loc := by
    refine ⟨_, hn, fun j x v e1 e2 hv => ?_⟩
    obtain ⟨m, hm, hl'⟩ := I.loc
    unfold inSt at e2
    rw [List.getElem?_map] at e2
    cases hr : ρ[j]? with
    | none => rw [hr] at e2; simp at e2
    | some o =>
      cases o with
      | none => rw [hr] at e2; simp at e2
      | some i =>
        rw [hr] at e2
        obtain ⟨q1, q2, q3⟩ := hρ.2 j i x hr e1
        have e3 : σ[i]? = some (some v) := by
          cases hσ : σ[i]? with
          | none => simp [hσ] at e2
          | some z => simp [hσ] at e2; rw [e2]
        obtain ⟨u, r, lk⟩ := hl' i x v q1 e3 q2
        refine ⟨u, r, ?_⟩
        obtain ⟨c, hc⟩ := h2 x q3
        have hkind : (relabel scope X.env).names.lookup x = some .cell ∨ (relabel scope X.env).names.lookup x = some .free := by
          rcases lookup_relabel_free (env := X.env) q3 with z | z | z
          · exact .inl z
          · exact .inr z
          · exact absurd (hl x q3) z
        refine .inr ⟨hkind, c, hc, ?_⟩
        rcases lk with ⟨k, _⟩ | ⟨_, c', e', z⟩
        · rcases S.free (x, .free) q3 rfl with z | z
          · have k' : X.env.scope.names.lookup x = some .local := k
            rw [z] at k'; cases k'
          · have k' : X.env.scope.names.lookup x = some .local := k
            rw [z] at k'; cases k'
        · have := h1 x c hc
          rw [e'] at this; cases this
          obtain ⟨o, ho, hd⟩ := z
          exact ⟨o, hk _ _ ho, hd⟩
  cell := fun x c e => by
    obtain ⟨v, o, ho, hd⟩ := I.cell x c (h1 x c e)
    exact ⟨v, o, hk _ _ ho, hd⟩
  free := I.hok.fresh hC
  freeC := fun x c e => I.freeC x c (h1 x c e)
  pin := fun p hp => by
    have hp' : p ∈ X.pn ++ pins := by simpa [compCx] using hp
    obtain ⟨e, n, ne, nf, d⟩ := I.pin p hp'
    refine ⟨hk _ _ e, n, Nat.ne_of_lt (Nat.lt_of_lt_of_le (Heap.lt_size e) hC), fun z => ?_, d⟩
    rcases List.mem_cons.mp (I.stkSub p.1 z) with q | q
    · exact ne q
    · exact nf q
  hok := I.hok.kept hk
  len := by
    show (inSt ρ σ).length = N'.length
    unfold inSt
    rw [List.length_map]; exact hρ.1
end

theorem HOk.track {P : Program} {w : World} {H : Hp} {h : Heap} {D : Addr} {o : HO} (x : HOk P w H h) (n : H D = none) (new : ObjOk P w (upd H D o) h D o) : HOk P w (upd H D o) h := fun b u e => by
  by_cases hb : b = D
  · subst hb; rw [upd_same] at e; cases e; exact new
  · rw [upd_ne hb] at e
    exact (x b u e).stay (fun c v _ q => q) (fun c q => by rw [upd_ne (ne_of_none q n)]; exact q) fun c xs q => by rw [upd_ne (ne_of_none q n)]; exact q

section
variable {prog : Program} {w : World} {A : Around} {R : Result → Shared → Prop} {s : Shared}
theorem compLoop_gen {elt target iter : Expr} {ifs : List Expr} {scope : Scope} {pos : Pos} {it acc : Value} {env : Env} (I : Nat → Shared → Prop)
    (turn : ∀ n s, I n s → wpAny (model prog w) A (pyNext it) (fun r s₁ => match r with
      | none => R (.ok .next) s₁
      | some v => wpAny (model prog w) A (letOwnedTupleGo target it v) (fun _ s₁' => wpAny (model prog w) A (assign target env v) (fun _ s₂ =>
          wpAny (model prog w) A (forIn ifs true fun c r => if r = true then do let ok ← isTrue c env (eval c env); pure (ForInStep.yield ok) else pure (ForInStep.yield r)) (fun ok s₃ =>
            if ok = true then wpAny (model prog w) A (eval elt env) (fun x s₄ =>
              wpAny (model prog w) A (call (.builtin "list.append") [acc, x]) (fun _ s₅ => ∃ m, m < n ∧ I m s₅) (fun _ _ => False) s₄) (fun _ _ => False) s₃
            else ∃ m, m < n ∧ I m s₃) (fun _ _ => False) s₂) (fun _ _ => False) s₁') (fun _ _ => False) s₁) (fun _ _ => False) s)
    (n : Nat) (h : I n s) :
    codeAny (model prog w) A (.compLoop (.ListComp elt [⟨target, iter, ifs, 0⟩] scope pos) 0 it acc env) R s := by
  refine codeAny_loop rfl I (fun n s hI => ?_) n h
  show wpAny _ A ((compTurn (.ListComp elt [⟨target, iter, ifs, 0⟩] scope pos) 0 it acc env).onRaise (fun x => do noteFrame x env; theTreesLotGoes x)) _ _ s
  refine wpAny_noted ?_
  rw [compTurn_list]
  refine wpAny_bind (wpAny_standAt (wpAny_bind (wpAny_mono (turn n s hI) (fun r s₁ h₁ => ?_) fun _ _ h' => h'.elim)))
  cases r with
  | none => exact wpAny_pure h₁
  | some v =>
    refine wpAny_bind (wpAny_mono h₁ (fun _ s₁' h₁ => ?_) fun _ _ h' => h'.elim)
    refine wpAny_bind (wpAny_mono h₁ (fun _ s₂ h₂ => wpAny_bind (wpAny_mono h₂ (fun ok s₃ h₃ => ?_) fun _ _ h' => h'.elim)) fun _ _ h' => h'.elim)
    cases ok with
    | false => exact wpAny_pure ⟨rfl, h₃⟩
    | true =>
      exact wpAny_bind (wpAny_bind (wpAny_mono h₃ (fun x s₄ h₄ => wpAny_bind (wpAny_mono h₄ (fun _ s₅ h₅ => wpAny_pure (wpAny_pure ⟨rfl, h₅⟩)) fun _ _ h' => h'.elim)) fun _ _ h' => h'.elim))
end

noncomputable def PTs (X : Cx) (ifs : List Expr) (t : TT) : Prop :=
  ∀ (pins : List (Addr × Obj)) (s : Shared) (σ : St) (H : Hp) (Q : Bool → Hp → Prop), Inv X pins σ H s → t σ H Q →
    wpAny (model X.prog X.w) X.A (forIn ifs true fun c r => if r = true then do let ok ← isTrue c X.env (eval c X.env); pure (ForInStep.yield ok) else pure (ForInStep.yield r)) (TP X pins σ Q) X.xe s
noncomputable def tYes : TT := fun _ H Q => Q true H
theorem pts_nil {X : Cx} : PTs X [] tYes := fun _ _ _ H _ I h => wpAny_tests_nil ⟨H, I, h⟩
theorem pts_one {X : Cx} {c : Expr} {t : TT} (h : PT X c t) : PTs X [c] t := fun pins s σ H Q I hw => wpAny_tests_one (h pins s σ H Q I hw)

noncomputable def Outs (ρ : List (Option Nat)) (σ σ2 : St) : Prop := σ2.length = ρ.length ∧ ∀ (j : Nat) v, (inSt ρ σ)[j]? = some (some v) → σ2[j]? = some (some v)
noncomputable def CompW (ρ : List (Option Nat)) (g : TG) (tt : TT) (te : TE) (σ : St) (Q : VK) (J : It) (H1 : Hp) : Prop := ∃ W : Nat → Nat → List V → Hp → Prop, (∃ m, W 0 m [] H1) ∧ ∀ i m ys H', W i m ys H' →
  (J.stop i H' ∧ ys.length ≤ sizeLine ∧ ∀ p, H' p = none → Q (.ref p) (upd H' p (.lst ys))) ∨
  (J.go i H' ∧ ys.length < sizeLine ∧ ∃ N : List V → Hp → Prop, (∀ ys' H'', N ys' H'' → ∃ m', m' < m ∧ W (i + 1) m' ys' H'') ∧ ∀ x H2, J.yld i H' x H2 → g x (inSt ρ σ) H2 fun σ2 H3 => Outs ρ σ σ2 ∧ tt σ2 H3 fun ok H4 => if ok = true then te σ2 H4 fun v H5 => N (ys ++ [v]) H5 else N ys H4)
noncomputable def tComp (ρ : List (Option Nat)) (wi : TI) (g : TG) (tt : TT) (te : TE) : TE := fun σ H Q => wi σ H fun J H1 => CompW ρ g tt te σ Q J H1

theorem comp_run {X : Cx} {elt iter tg : Expr} {ifs : List Expr} {scope : Scope} {pos : Pos} {N' : List Str} {ρ : List (Option Nat)} {wi : TI} {g : TG} {tt : TT} {te : TE} {cl : List (Str × Addr)} {RR : Value → Addr → Result → Shared → Prop} (hc : X.calm = true) (hi : PI X tg iter wi) (S : CompScope scope X.env.scope) (hρ : SlotOk scope X.env X.N N' ρ)
    (hl : ∀ x, (x, NameKind.free) ∈ scope.names → scope.names.lookup x = some .free)
    (inner : ∀ (cl : List (Str × Addr)) (C : Addr) (s : Shared) (H : Hp) (fp : List Addr) (pins : List (Addr × Obj)), PG (compCx X scope N' cl C s H fp pins) tg g ∧ PTs (compCx X scope N' cl C s H fp pins) ifs tt ∧ PE (compCx X scope N' cl C s H fp pins) elt te)
    {pins : List (Addr × Obj)} {s : Shared} {σ : St} {H : Hp} {Q : VK} (I : Inv X pins σ H s) (h : tComp ρ wi g tt te σ H Q)
    (h1 : ∀ x c, cl.lookup x = some c → X.env.cells.lookup x = some c) (h2 : ∀ n, (n, NameKind.free) ∈ scope.names → ∃ c, cl.lookup n = some c)
    (fin : ∀ D C s' H' m, Inv X pins σ H' s' → Q (.ref D) H' → s'.heap.Ns C m → FpOk X pins H' C → RR (.ref D) C (.ok .next) s') :
    wpAny (model X.prog X.w) X.A (eval iter X.env) (fun x s₁ => wpAny (model X.prog X.w) X.A (pyIter x) (fun it s₂ => wpAny (model X.prog X.w) X.A (newList []) (fun acc s₃ =>
      wpAny (model X.prog X.w) X.A (newFunctionEnv scope X.env.globals cl [] X.env.qual none .none (some X.env)) (fun cenv s₄ =>
        codeAny (model X.prog X.w) X.A (.compStart (.ListComp elt [⟨tg, iter, ifs, 0⟩] scope pos) 0 it acc { cenv with scope := relabel scope X.env }) (RR acc cenv.locals) s₄) X.xe s₃) X.xe s₂) X.xe s₁) X.xe s := by
  refine thn (hi pins s σ H _ I h) fun v s1 h1' => thn h1' fun itv s2 hx => ?_
  obtain ⟨it, fp, tn, J, H2, e, I2, T, st2, f2, W, ⟨m0, w0⟩, turn⟩ := hx
  subst e
  have hfs : ∀ b ∈ fp, b < s2.heap.objs.size := fun b hb => by
    obtain ⟨o, e, _⟩ := T.obj _ _ st2 b hb
    exact Heap.lt_size e
  refine wpAny_newObj_type (wpAny_newFunctionEnv S.cell (by intro y hy; simp at hy) (fun h₁ hns₁ hsb₁ => ?_) S.kind)
  dsimp only at hns₁ hsb₁ ⊢
  generalize hH2 : s2.heap.push { cls := .type "list", dict := none, data := .seq ([] : List Value).toArray } = G at hns₁ hsb₁ ⊢
  have hC : G.objs.size = s2.heap.objs.size + 1 := by rw [← hH2, Heap.size_push]
  have hDC : s2.heap.objs.size ≠ G.objs.size := by rw [hC]; exact Nat.ne_of_lt (Nat.lt_succ_self _)
  have hCle : s2.heap.objs.size ≤ G.objs.size := by rw [hC]; exact Nat.le_succ _
  have old : ∀ b o, s2.heap.get? b = some o → h₁.get? b = some o := fun b o e => hsb₁.extBut b o (Nat.ne_of_lt (Nat.lt_of_lt_of_le (Heap.lt_size e) hCle)) (Heap.get?_push_of_some _ (hH2 ▸ Heap.get?_push_of_some _ e))
  have hacc : h₁.get? s2.heap.objs.size = some { cls := .type "list", dict := none, data := .seq ([] : List Value).toArray } := hsb₁.extBut _ _ hDC (Heap.get?_push_of_some _ (hH2 ▸ Heap.get?_push_size _ rfl))
  have hns₂ : h₁.Ns G.objs.size (fun _ => none) := hns₁
  generalize hXX : compCx X scope N' cl G.objs.size s2 H2 fp pins = XX at *
  have IN : ∀ (tk : Nat), Inv XX [] (inSt ρ σ) H2 { s2 with heap := h₁, toks := tk } := fun tk => hXX ▸ comp_start (N' := N') I2 S hρ f2 h1 h2 hCle hfs hns₂ old hl
  obtain ⟨pg, pt, pe⟩ := inner cl G.objs.size s2 H2 fp pins
  rw [hXX] at pg pt pe
  have eP : XX.prog = X.prog := by rw [← hXX]; rfl
  have eW : XX.w = X.w := by rw [← hXX]; rfl
  have eK : XX.K = X.K := by rw [← hXX]; rfl
  have eA : XX.A = X.A := by rw [← hXX]; rfl
  have eE : XX.env = compEnvC scope cl G.objs.size X.env := by rw [← hXX]; rfl
  have eL : XX.env.locals = G.objs.size := by rw [eE]; rfl
  have ec : XX.calm = true := by rw [← hXX]; exact hc
  have ex : XX.xe = fun _ _ => False := by rw [← hXX]; rfl
  have es0 : XX.s₀ = s2 := by rw [← hXX]; rfl
  have eex : XX.ex = fp := by rw [← hXX]; rfl
  have efs : XX.fs = frs X.stack := by rw [← hXX]; rfl
  have eH0 : XX.H₀ = H2 := by rw [← hXX]; rfl
  have epn : XX.pn = X.pn ++ pins := by rw [← hXX]; rfl
  have ecl : XX.env.cells = cl := by rw [eE]; rfl
  -- what stays true of the iterator's records
  have stat : ∀ {H' : Hp} {ps : List (Addr × Obj)}, (∀ b ∈ fp, H' b = none) → (∀ p ∈ ps, p.1 = s2.heap.objs.size) → ∀ b ∈ fp, FpOk XX ps H' b := fun {H' ps} hn hp b hb => by
    refine ⟨hn b hb, ?_, ?_, ?_, ?_, ?_⟩
    · rw [eL]; exact Nat.ne_of_lt (Nat.lt_of_lt_of_le (hfs b hb) hCle)
    · rw [efs]
      intro z
      rcases List.mem_cons.mp (I2.stkSub b z) with q | q
      · exact (f2 b hb).2.1 q
      · exact (f2 b hb).2.2.1 q
    · rw [eex]; exact .inl hb
    · rw [ecl]; exact fun x c e => (f2 b hb).2.2.2.2.1 x c (h1 x c e)
    · intro p hp' z
      rw [epn] at hp'
      rcases List.mem_append.mp hp' with q | q
      · exact (f2 b hb).2.2.2.2.2 p q z
      · rw [hp p q] at z
        exact absurd (hfs b hb) (by rw [z]; exact Nat.lt_irrefl _)
  have nofsD : s2.heap.objs.size ∉ XX.fs := by
    rw [efs]; intro z
    rcases List.mem_cons.mp (I2.stkSub _ z) with q | q
    · exact absurd I2.lt (by rw [← q]; exact Nat.lt_irrefl _)
    · exact I2.nofs (Nat.le_refl _) q
  have pinD : ∀ {σ' : St} {H' : Hp} {s' : Shared} {its : List Value} {n : Nat}, Inv XX [] σ' H' s' → H' s2.heap.objs.size = none → s'.heap.get? s2.heap.objs.size = some { cls := .type "list", data := .seq its.toArray n } →
      Inv XX [(s2.heap.objs.size, { cls := .type "list", data := .seq its.toArray n })] σ' H' s' := fun {σ' H' s' its n} I' hn ho => I'.pins_of fun p hp => by
    have e : p = (s2.heap.objs.size, { cls := .type "list", data := .seq its.toArray n }) := by simpa using hp
    subst e
    refine ⟨ho, hn, by rw [eL]; exact hDC, nofsD, fun v z => ?_⟩
    have z' : Data.seq its.toArray n = Data.cell v := z
    cases z'
  have loop : ∀ s₃ : Shared, (∃ tk, s₃ = { s2 with heap := h₁, toks := tk }) →
      codeAny (model X.prog X.w) X.A (.compLoop (.ListComp elt [⟨tg, iter, ifs, 0⟩] scope pos) 0 (.ref it) (.ref s2.heap.objs.size) (compEnvC scope cl G.objs.size X.env)) (RR (.ref s2.heap.objs.size) G.objs.size) s₃ := by
    rintro s₃ ⟨tk, rfl⟩
    refine compLoop_gen (fun n s' => ∃ i ys its k H', Inv XX [] (inSt ρ σ) H' s' ∧ tn i s'.heap ∧ (∀ b ∈ fp, H' b = none) ∧ H' s2.heap.objs.size = none ∧ Vals ys its ∧
      s'.heap.get? s2.heap.objs.size = some { cls := .type "list", data := .seq its.toArray k } ∧ W i n ys H') ?_ m0
      ⟨0, [], [], 0, H2, IN tk, T.keep _ _ _ st2 fun b _ o e => old b o e, fun b hb => (f2 b hb).1, I2.hok.fresh (Nat.le_refl _), .nil, hacc, w0⟩
    rintro n s3 ⟨i, ys, its, k, H3, I3, st3, fr3, hD3, rv, ho3, w3⟩
    rcases turn i n ys H3 w3 with ⟨stop, hz, qn⟩ | ⟨go, hz, N, hN, step⟩
    · have I3p := pinD I3 hD3 ho3
      have q := T.done XX eP eW eK ec i _ s3 (inSt ρ σ) H3 (fun _ _ => False) I3p (stat fr3 (by simp)) st3 stop
      rw [eA] at q
      refine thn q fun r s4 ⟨hr, I4⟩ => ?_
      subst hr
      have ho4 := (I4.pin (s2.heap.objs.size, { cls := .type "list", data := .seq its.toArray k }) (by simp)).1
      obtain ⟨m, hm, _⟩ := I4.loc
      rw [eL] at hm
      have hun : Un (frs X.stack) fp H2 (upd H3 s2.heap.objs.size (.lst ys)) s2.heap s4.heap := by
        have u := I4.base
        rw [efs, eex, eH0, es0] at u
        refine ⟨u.keep, u.slot, fun b o e n hx => ?_, u.there, fun b xs e => ?_, fun b o xs e => ?_, fun b ps e => ?_⟩
        · rw [upd_ne (Nat.ne_of_lt (Heap.lt_size e))]; exact u.free b o e n hx
        · have q := u.tups b xs e
          rw [upd_ne (ne_of_none q hD3)]; exact q
        · have q := u.frzs b o xs e
          rw [upd_ne (ne_of_none q hD3)]; exact q
        · obtain ⟨more, q⟩ := u.tbls b ps e
          exact ⟨more, by rw [upd_ne (ne_of_none q hD3)]; exact q⟩
      have hok : HOk X.prog X.w (upd H3 s2.heap.objs.size (.lst ys)) s4.heap := by
        have q := I4.hok
        rw [eP, eW] at q
        exact q.track hD3 ⟨hz, its, k, rv, ho4⟩
      have hfr : ∀ b ∈ fp, (b ∈ X.ex ∨ X.s₀.heap.objs.size ≤ b) ∧ b ≠ X.env.locals ∧ (∀ x c, X.env.cells.lookup x = some c → c ≠ b) ∧ ∀ p ∈ X.pn ++ pins, p.1 ≠ b := fun b hb => ⟨(f2 b hb).2.2.2.1, (f2 b hb).2.1, (f2 b hb).2.2.2.2.1, (f2 b hb).2.2.2.2.2⟩
      have IO : Inv X pins σ (upd H3 s2.heap.objs.size (.lst ys)) s4 := I2.call' (by have := I4.os; rw [es0] at this; exact this) hun hok I4.bare hfr
      refine fin _ _ s4 _ m IO (qn _ hD3) hm (I2.fpOk hCle ?_)
      rw [upd_ne (Ne.symm hDC)]
      have := I4.free
      rw [eL] at this
      exact this
    · have I3p := pinD I3 hD3 ho3
      have q := T.item XX eP eW eK ec i _ s3 (inSt ρ σ) H3 (fun _ _ => False) I3p (stat fr3 (by simp)) st3 go
      rw [eA] at q
      refine thn q fun r s4 ⟨u, hr, h4⟩ => ?_
      subst hr
      refine thn h4 fun _ s5 ⟨x, H5, I5, r5, y5, st5, fr5⟩ => ?_
      have I5' := I5.pinned (stat fr5 (by simp)) (T.obj _ _ st5)
      have qa := pg _ s5 (inSt ρ σ) H5 x u _ I5' r5 (step x H5 y5)
      rw [eP, eW, eA, eE, ex] at qa
      refine thn qa fun _ s6 ⟨σ6, H6, I6, ⟨ou1, ou2⟩, q6⟩ => ?_
      have hw6 : (inSt ρ σ).length = σ6.length := by rw [ou1]; unfold inSt; rw [List.length_map]
      have qt := pt _ s6 σ6 H6 _ I6 q6
      rw [eP, eW, eA, eE, ex] at qt
      refine thn qt fun ok s7 ⟨H7, I7, q7⟩ => ?_
      have back : ∀ {s8 : Shared} {H8 : Hp}, Inv XX ([(s2.heap.objs.size, { cls := .type "list", data := .seq its.toArray k })] ++ pinsAt fp s5.heap) σ6 H8 s8 → tn (i + 1) s8.heap ∧ (∀ b ∈ fp, H8 b = none) ∧ H8 s2.heap.objs.size = none ∧
          s8.heap.get? s2.heap.objs.size = some { cls := .type "list", data := .seq its.toArray k } := fun {s8 H8} I8 => by
        refine ⟨T.keep _ _ _ st5 fun b hb o e => (I8.pin (b, o) (List.mem_append_right _ (List.mem_append_right _ (mem_pinsAt hb e)))).1, fun b hb => ?_, ?_, ?_⟩
        · obtain ⟨o, e, d⟩ := T.obj _ _ st5 b hb
          exact (I8.pin (b, o) (List.mem_append_right _ (List.mem_append_right _ (mem_pinsAt hb e)))).2.1
        · exact (I8.pin (s2.heap.objs.size, { cls := .type "list", data := .seq its.toArray k }) (by simp)).2.1
        · exact (I8.pin (s2.heap.objs.size, { cls := .type "list", data := .seq its.toArray k }) (by simp)).1
      cases ok with
      | false =>
        obtain ⟨m', hm, w7⟩ := hN _ _ q7
        obtain ⟨b1, b2, b3, b4⟩ := back I7
        exact ⟨m', hm, i + 1, ys, its, k, H7, (I7.pins_of (pins' := []) (fun _ z => nomatch z)).weak hw6 ou2, b1, b2, b3, rv, b4, w7⟩
      | true =>
        have qe := pe _ s7 σ6 H7 _ I7 q7
        rw [eP, eW, eA, eE, ex] at qe
        refine thn qe fun y s8 ⟨v8, H8, I8, r8, n8⟩ => ?_
        obtain ⟨m', hm, w8⟩ := hN _ _ n8
        obtain ⟨b1, b2, b3, b4⟩ := back I8
        have hlen := rv.length
        refine call_meets F.slot_list_append ⟨_, b4, rfl⟩ F.entry_list_append (F.args_list_append_2 _ _) (PySem.list_append s2.heap.objs.size its.toArray k y (by rw [List.size_toArray]; omega)) ⟨b4, ?_⟩
        have qL := PySem.IsL.update b4 (fun xs => xs.push y)
        have I8' : Inv XX [] σ6 H8 s8 := I8.pins_of (fun _ z => nomatch z)
        have I9 : Inv XX [] σ6 H8 { s8 with heap := s8.heap.update s2.heap.objs.size (Obj.mapSeq fun xs => xs.push y), toks := s8.toks } := I8'.turned (it := s2.heap.objs.size) (fun b o hb e => (Heap.get?_update_other s8.heap _ (Ne.symm hb)).trans e) b3
          (by rw [eL]; exact hDC) (.inr (by rw [es0]; exact Nat.le_refl _)) (by
            rw [ecl]; intro x c e z
            obtain ⟨v, qc⟩ := I2.cell x c (h1 x c e)
            exact absurd qc.lt (by rw [z]; exact Nat.lt_irrefl _)) (by
            intro p hp z
            have hp' : p ∈ X.pn ++ pins := by rw [epn] at hp; simpa using hp
            exact absurd (Heap.lt_size (I2.pin p hp').1) (by rw [z]; exact Nat.lt_irrefl _))
        have hnd : s2.heap.objs.size ∉ fp := fun z => Nat.lt_irrefl _ (hfs _ z)
        rw [show its.toArray.push y = (its ++ [y]).toArray by simp] at qL
        refine ⟨m', hm, i + 1, ys ++ [v8], its ++ [y], _, H8, I9.weak hw6 ou2, T.keep _ _ _ b1 fun b hb o e => (Heap.get?_update_other s8.heap _ (by rintro rfl; exact hnd hb)).trans e, b2, b3, rv.append (.cons r8 .nil), qL, w8⟩
  refine codeAny_compStart_list (loop _ ⟨_, rfl⟩) (T.self X.A 0 _ _ _ (T.keep _ _ _ st2 fun b _ o e => old b o e) (loop _ ⟨_, rfl⟩))
theorem pe_comp {X : Cx} {elt iter tg : Expr} {ifs : List Expr} {scope : Scope} {pos : Pos} (N' : List Str) (ρ : List (Option Nat)) {wi : TI} {g : TG} {tt : TT} {te : TE} (hc : X.calm = true) (hi : PI X tg iter wi) (S : CompScope scope X.env.scope) (hρ : SlotOk scope X.env X.N N' ρ)
    (hl : ∀ x, (x, NameKind.free) ∈ scope.names → scope.names.lookup x = some .free)
    (inner : ∀ (cl : List (Str × Addr)) (C : Addr) (s : Shared) (H : Hp) (fp : List Addr) (pins : List (Addr × Obj)), PG (compCx X scope N' cl C s H fp pins) tg g ∧ PTs (compCx X scope N' cl C s H fp pins) ifs tt ∧ PE (compCx X scope N' cl C s H fp pins) elt te)
    (hs : ∀ x, foldedSetIterable iter X.env x = pure x := by intro _; rfl) : PE X (.ListComp elt [⟨tg, iter, ifs, 0⟩] scope pos) (tComp ρ wi g tt te) := by
  intro pins s σ H Q I h
  obtain ⟨cl, hcl, h1, h2⟩ := closureFor_of (scope := scope) (env := X.env) (fun n hn => I.ok.has n (S.free (n, .free) hn rfl))
  rw [eval_ListComp]
  refine wpAny_comprehension_free (use := none) rfl hs hcl S.kind S.loc ?_
  refine comp_run (RR := fun acc C => compPost (model X.prog X.w) X.A X.xe none (EP X pins σ Q) acc C) hc hi S hρ hl inner I h h1 h2 ?_
  intro D C s' H' m I' q hm hf
  refine ⟨m, hm, fun h' sb => ⟨.ref D, H', ?_, rfl, q⟩⟩
  exact I'.turned (t' := s'.toks) (fun b o hb e => (sb.2 b hb).trans e) hf.1 hf.2.1 hf.2.2.2.1 hf.2.2.2.2.1 hf.2.2.2.2.2

theorem inSt_cons (σ : St) (o : Option Nat) (ρ : List (Option Nat)) : inSt (o :: ρ) σ = (match o with | some i => (σ[i]?).getD none | none => none) :: inSt ρ σ := rfl
theorem outs1 {ρ : List (Option Nat)} {σ : St} (o : Option V) : Outs (none :: ρ) σ (o :: inSt ρ σ) := by
  refine ⟨by unfold inSt; simp, fun j v e => ?_⟩
  cases j with
  | zero => rw [inSt_cons] at e; simp at e
  | succ j => rw [inSt_cons] at e; simpa using e
theorem comp_by {J : It} {n : Nat} {X : Nat → V → Prop} {ρ : List (Option Nat)} {tt : TT} {te : TE} {σ : St} {H : Hp} {Q : VK} (Pv : Nat → List V → Hp → Prop) (h0 : Pv 0 [] H) (hlen : n ≤ sizeLine)
    (hy : ∀ i ys H, i ≤ n → Pv i ys H → ys.length ≤ i) (hgo : ∀ i ys H, i < n → Pv i ys H → J.go i H) (hyl : ∀ i ys H x H', i < n → Pv i ys H → J.yld i H x H' → H' = H ∧ X i x) (hst : ∀ ys H, Pv n ys H → J.stop n H)
    (hs : ∀ i x ys H, i < n → X i x → Pv i ys H → tt (some x :: inSt ρ σ) H fun ok H4 => if ok = true then te (some x :: inSt ρ σ) H4 fun v H5 => Pv (i + 1) (ys ++ [v]) H5 else Pv (i + 1) ys H4)
    (hd : ∀ ys H, Pv n ys H → ∀ p, H p = none → Q (.ref p) (upd H p (.lst ys))) :
    CompW (none :: ρ) (gName 0) tt te σ Q J H := by
  refine ⟨fun i m ys H => m = n - i ∧ i ≤ n ∧ Pv i ys H, ⟨n, by simp, Nat.zero_le _, h0⟩, ?_⟩
  rintro i m ys H ⟨rfl, hi, p⟩
  have hl := hy i ys H hi p
  by_cases hlt : i < n
  · refine .inr ⟨hgo i ys H hlt p, by omega, Pv (i + 1), fun ys' H'' p' => ⟨n - (i + 1), by omega, rfl, hlt, p'⟩, fun x H' y => ?_⟩
    obtain ⟨e, y2⟩ := hyl i ys H x H' hlt p y
    subst e
    exact ⟨outs1 _, hs i x ys _ hlt y2 p⟩
  · have e : i = n := by omega
    subst e
    exact .inl ⟨hst ys H p, by omega, hd ys H p⟩
theorem comp_tup {K : PySem.W.Frag} {a : Addr} {xs : List V} {ρ : List (Option Nat)} {tt : TT} {te : TE} {σ : St} {H : Hp} {Q : VK} (Pv : Nat → List V → Hp → Prop) (h0 : Pv 0 [] H) (hlen : xs.length ≤ sizeLine) (hl : ∀ i ys H, i ≤ xs.length → Pv i ys H → SqT K H a xs ∧ ys.length ≤ i)
    (hs : ∀ i x ys H, xs[i]? = some x → Pv i ys H → tt (some x :: inSt ρ σ) H fun ok H4 => if ok = true then te (some x :: inSt ρ σ) H4 fun v H5 => Pv (i + 1) (ys ++ [v]) H5 else Pv (i + 1) ys H4)
    (hd : ∀ ys H, Pv xs.length ys H → ∀ p, H p = none → Q (.ref p) (upd H p (.lst ys))) :
    CompW (none :: ρ) (gName 0) tt te σ Q (Itt K a) H :=
  comp_by (n := xs.length) (X := fun i x => xs[i]? = some x) Pv h0 hlen (fun i ys H hi p => (hl i ys H hi p).2) (fun i ys H hi p => ⟨xs, xs[i], (hl i ys H (Nat.le_of_lt hi) p).1, by simp [hi]⟩) (fun i ys H x H' hi p y => ⟨y.1, y.2 xs (hl i ys H (Nat.le_of_lt hi) p).1⟩)
    (fun ys H p => ⟨xs, (hl _ ys H (Nat.le_refl _) p).1, Nat.le_refl _⟩) (fun i x ys H _ e p => hs i x ys H e p) hd
theorem comp_list {K : PySem.W.Frag} {a : Addr} {xs : List V} {ρ : List (Option Nat)} {tt : TT} {te : TE} {σ : St} {H : Hp} {Q : VK} (Pv : Nat → List V → Hp → Prop) (h0 : Pv 0 [] H) (hlen : xs.length ≤ sizeLine) (hl : ∀ i ys H, i ≤ xs.length → Pv i ys H → SqL K H a xs ∧ ys.length ≤ i)
    (hs : ∀ i x ys H, xs[i]? = some x → Pv i ys H → tt (some x :: inSt ρ σ) H fun ok H4 => if ok = true then te (some x :: inSt ρ σ) H4 fun v H5 => Pv (i + 1) (ys ++ [v]) H5 else Pv (i + 1) ys H4)
    (hd : ∀ ys H, Pv xs.length ys H → ∀ p, H p = none → Q (.ref p) (upd H p (.lst ys))) :
    CompW (none :: ρ) (gName 0) tt te σ Q (Itl K a) H :=
  comp_by (n := xs.length) (X := fun i x => xs[i]? = some x) Pv h0 hlen (fun i ys H hi p => (hl i ys H hi p).2) (fun i ys H hi p => ⟨xs, xs[i], (hl i ys H (Nat.le_of_lt hi) p).1, by simp [hi]⟩) (fun i ys H x H' hi p y => ⟨y.1, y.2 xs (hl i ys H (Nat.le_of_lt hi) p).1⟩)
    (fun ys H p => ⟨xs, (hl _ ys H (Nat.le_refl _) p).1, Nat.le_refl _⟩) (fun i x ys H _ e p => hs i x ys H e p) hd
end L2

set_option Elab.async false
set_option linter.all false
set_option maxRecDepth 100000
set_option maxHeartbeats 4000000
namespace L2
open PySem PySem.Spec PyProof.Rows

noncomputable abbrev cds (x : Str) : List Nat := x.cps.toList
theorem cds_len (x : Str) : (cds x).length = x.length := by simp [cds, Str.length]
theorem cds_ext {x y : Str} (h : cds x = cds y) : x = y := StrLaws.mk_of_toList (x := x) h ▸ (StrLaws.mk_of_toList (x := y) rfl).symm
theorem cds_app (x y : Str) : cds (x ++ y) = cds x ++ cds y := by simp [cds, Str.cps_append]
theorem cds_mk (l : List Nat) : cds ⟨l.toArray⟩ = l := by simp [cds]
noncomputable def sOf (l : List Nat) : Str := ⟨l.toArray⟩
theorem cds_sOf (l : List Nat) : cds (sOf l) = l := by simp [cds, sOf]
theorem sOf_cds (x : Str) : sOf (cds x) = x := cds_ext (cds_sOf _)

noncomputable def cutC {α : Type} (xs : List α) (lo hi : Option Int) : List α := (xs.drop (HT.sIx xs.length 0 lo)).take (HT.sIx xs.length xs.length hi - HT.sIx xs.length 0 lo)
theorem clip_str (n : Nat) (i : Int) (k : Nat) : max 0 (min (if i < 0 then i + (n : Int) else i) (n : Int)) = ((HT.sIx n k (some i) : Nat) : Int) := by
  unfold HT.sIx
  dsimp only
  split <;> omega
theorem slice_ix (lo hi : Option Int) (n : Nat) : Builtin.Str.strSliceIndices lo hi 1 n = (List.range (HT.sIx n n hi - HT.sIx n 0 lo)).map (fun k => HT.sIx n 0 lo + k) := by
  have e : Builtin.Str.strSliceIndices lo hi 1 n = sliceRange ((HT.sIx n 0 lo : Nat) : Int) ((HT.sIx n n hi : Nat) : Int) 1 := by
    unfold Builtin.Str.strSliceIndices
    simp only [show ((1 : Int) > 0) = True by simp, if_true]
    congr 1
    · cases lo with
      | none => rfl
      | some i => exact clip_str n i 0
    · cases hi with
      | none => rfl
      | some i => exact clip_str n i n
  rw [e]
  unfold sliceRange
  simp only [show ((1 : Int) > 0) = True by simp, if_true]
  generalize HT.sIx n 0 lo = a
  generalize HT.sIx n n hi = b
  by_cases h : (a : Int) < b
  · rw [if_pos h, show (((b : Int) - a + 1 - 1) / 1).toNat = b - a by simp <;> omega]
    refine List.map_congr_left fun k _ => ?_
    omega
  · rw [if_neg h, show b - a = 0 by omega]
    rfl
theorem cds_slice (x : Str) (lo hi : Option Int) : cds (Txt.slice x lo hi) = cutC (cds x) lo hi := by
  unfold Txt.slice cutC
  have hl := cds_len x
  rw [hl, slice_ix]
  have b1 := HT.sIx_le x.length 0 (Nat.zero_le _) lo
  have b2 := HT.sIx_le x.length x.length (Nat.le_refl _) hi
  generalize HT.sIx x.length 0 lo = a at *
  generalize HT.sIx x.length x.length hi = b at *
  split
  · rename_i h
    have hb : b - a = x.length := by simpa using h
    have ha : a = 0 := by omega
    subst ha
    rw [List.drop_zero, hb, ← hl, List.take_length]
  · by_cases hab : a ≤ b
    · have q := StrLaws.picks (cds x) (b - a) a (by omega)
      have q2 : (List.filterMap (fun x_1 => x.cps[x_1]?) (List.map (fun k => a + k) (List.range (b - a)))) = List.filterMap (fun x_1 => (cds x)[x_1]?) (List.map (fun k => a + k) (List.range (b - a))) := by
        simp [cds]
      rw [cds_mk, q2, q]
    · rw [show b - a = 0 by omega]
      simp [cds]
section
variable {X : Cx}
noncomputable def rSlS : V → Option Int → Option Int → Hp → VK → Prop := fun x lo hi H Q => ∃ z, x = .str z ∧ z.length ≤ sizeLine ∧ Q (.str (sOf (cutC (cds z) lo hi))) H
theorem sl_str : SlR X rSlS := by
  intro pins s σ H x v vl vu lo hi sl Q I rx hs pl pu h
  obtain ⟨z, rfl, hz, q⟩ := h
  obtain ⟨t, rfl⟩ := rx
  rw [← cds_slice, sOf_cds] at q
  refine ⟨"str", _, F.slot_str_getitem.lookup, typeIs_str _ _ _, ?_⟩
  have go : ∀ (l u : Option (Int × Tok)), l.map (·.1) = lo → u.map (·.1) = hi → s.heap.IsSlice sl l u none → wpAny (model X.prog X.w) X.A (getItem (.str z t) (.ref sl)) (EP X pins σ Q) X.xe s := fun l u e1 e2 hS => by
    subst e1 e2
    exact wpAny_getItem_str_slice hS rfl (post_val_or_str ⟨Nat.le_trans (Txt.slice_le z _ _) hz, fun t' k => ⟨.str _, H, I.tok _, ⟨_, rfl⟩, q⟩⟩)
  cases pl with
  | none =>
    cases pu with
    | none => exact go none none rfl rfl hs
    | int j u => exact go none (some (j, u)) rfl rfl hs
  | int i t' =>
    cases pu with
    | none => exact go (some (i, t')) none rfl rfl hs
    | int j u => exact go (some (i, t')) (some (j, u)) rfl rfl hs

noncomputable def rJoin (K : PySem.W.Frag) : V → List V → Hp → VK → Prop := fun x xs H Q => ∃ z p ys, x = .str z ∧ xs = [.ref p] ∧ (SqL K H p (ys.map V.str) ∨ SqT K H p (ys.map V.str)) ∧ (ys.map (·.length)).sum + ys.length * z.length ≤ 16777216 ∧ Q (.str (Txt.join z ys)) H
theorem strsAre_of : ∀ {ys : List Str} {us : List Value}, Vals (ys.map V.str) us → StrsAre us ys
  | [], _, .nil => .nil
  | y :: ys, _, .cons r t => by
    obtain ⟨k, rfl⟩ := r
    exact .cons y k (strsAre_of t)
theorem mt_join : MtR X "str.join" (rJoin X.K) := by
  intro pins s σ H x xs v us Q I rx rv h
  obtain ⟨z, p, ys, rfl, rfl, hq, hz, q⟩ := h
  obtain ⟨t, rfl⟩ := rx
  obtain ⟨u, rfl, ru⟩ := rv.one
  cases ru
  rcases hq with hq | hq
  · obtain ⟨its, r, pl, _⟩ := I.list hq
    exact join_list pl.isList (by simpa using strsAre_of r) hz fun t' k => ⟨.str _, H, I.tok _, ⟨_, rfl⟩, q⟩
  · obtain ⟨its, r, pl, _⟩ := I.tuple hq
    exact join_tuple pl (by simpa using strsAre_of r) hz fun t' k => ⟨.str _, H, I.tok _, ⟨_, rfl⟩, q⟩
end

noncomputable def Its (z : Str) : It := ⟨fun i _ => i < (cds z).length, fun i H x H' => H' = H ∧ ∃ c, (cds z)[i]? = some c ∧ x = .str ⟨#[c]⟩, fun i _ => (cds z).length ≤ i⟩
theorem turn_str {P : Program} {w : World} {K : PySem.W.Frag} {tg : Expr} (it : Addr) (z : Str) (t : Tok) (ty : String) (hty : ty = "str_ascii_iterator" ∨ ty = "str_iterator") : Turn P w K tg (Its z) [it] it (fun i h => h.IsStrIter it ty z t i) where
  mem := by simp
  obj := fun i h st b hb => by
    have e : b = it := by simpa using hb
    subst e
    obtain ⟨o, e, c, d⟩ := st
    exact ⟨o, e, fun v z => by rw [d] at z; cases z⟩
  keep := fun i h h' st k => let ⟨o, ho, r⟩ := st; ⟨o, k it (by simp) o ho, r⟩
  item := by
    intro X hP hw hK hc i pins s σ H E I hf st hg
    subst hP hw hK
    obtain ⟨f0, f1, f2, f3, f4, f5⟩ := hf it (by simp)
    have hlt : i < z.cps.size := by have : i < (cds z).length := hg; simpa [cds] using this
    have W : Walks X.prog X.w X.A it [it] [it] z.cps.size (SignAt z) (fun i h => h.IsStrIter it ty z t i) := by
      rcases hty with rfl | rfl
      · exact Walks.strAscii (I.ok.hd hc) it z t
      · exact Walks.strWide (I.ok.hd hc) it z t
    refine W.item i s _ _ hlt st fun v h' tk hv st' kk => ?_
    obtain ⟨c, u, hcu, rfl⟩ := hv
    have I1 : Inv X pins σ H { s with heap := h', toks := tk } := I.turned (fun b o hb e => kk b o (by simpa using hb) e) f0 f1 f3 f4 f5
    obtain ⟨o, e, c1, d⟩ := id st'
    refine ⟨_, rfl, go_of (s := { s with heap := h', toks := tk }) e c1 d (by rcases hty with rfl | rfl <;> decide) ⟨.str ⟨#[c]⟩, H, I1, ⟨u, rfl⟩, ⟨rfl, c, by simpa [cds] using hcu, rfl⟩, st', fun b hb => (hf b hb).1⟩⟩
  done := by
    intro X hP hw hK hc i pins s σ H E I hf st hg
    subst hP hw hK
    obtain ⟨f0, f1, f2, f3, f4, f5⟩ := hf it (by simp)
    have hle : z.cps.size ≤ i := by have : (cds z).length ≤ i := hg; simpa [cds] using this
    have hn : z.cps[i]? = none := by simp [hle]
    rcases hty with rfl | rfl
    · exact wpAny_pyNext_ascii_end (I.ok.hd hc) st hn fun h' he' => ⟨rfl, I.turned (t' := s.toks) (fun b o hb e => he' b o hb e) f0 f1 f3 f4 f5⟩
    · exact wpAny_pyNext_wide_end (I.ok.hd hc) st hn fun h' he' => ⟨rfl, I.turned (t' := s.toks) (fun b o hb e => he' b o hb e) f0 f1 f3 f4 f5⟩
  self := fun _ _ _ _ _ st h => by
    rcases hty with rfl | rfl
    · exact wpAny_pyIter_striter_ascii st h
    · exact wpAny_pyIter_striter_wide st h
noncomputable def iStr (tl : TE) : TI := fun σ H R => tl σ H fun x H1 => ∃ z, x = .str z ∧ R (Its z) H1
theorem pi_str {X : Cx} {tg l : Expr} {tl : TE} (hl : PE X l tl) : PI X tg l (iStr tl) := by
  intro pins s σ H R I h
  refine thn (hl pins s σ H _ I h) fun v s1 ⟨x, H1, I1, r1, q1⟩ => ?_
  obtain ⟨z, e, q⟩ := q1
  subst e
  obtain ⟨t, rfl⟩ := r1
  have fin : ∀ b ∈ [s1.heap.objs.size], FpOk X pins H1 b := fun b hb => by
    have e : b = s1.heap.objs.size := by simpa using hb
    subst e
    exact I1.fpOk (Nat.le_refl _) (I1.hok.fresh (Nat.le_refl _))
  cases ha : z.cps.all (· < 128)
  · refine wpAny_pyIter_wide ha ?_
    exact ⟨s1.heap.objs.size, [s1.heap.objs.size], _, _, H1, rfl, I1.kept (t' := s1.toks) fun b o e => Heap.get?_push_of_some _ e, turn_str _ z t _ (.inr rfl), ⟨_, Heap.get?_push_size _ rfl, rfl, rfl⟩, fin, q⟩
  · refine wpAny_pyIter_ascii ha ?_
    exact ⟨s1.heap.objs.size, [s1.heap.objs.size], _, _, H1, rfl, I1.kept (t' := s1.toks) fun b o e => Heap.get?_push_of_some _ e, turn_str _ z t _ (.inl rfl), ⟨_, Heap.get?_push_size _ rfl, rfl, rfl⟩, fin, q⟩
theorem for_str {z : Str} {g : TG} {tb : TS} {D : Ends} {σ : St} {H : Hp} (Pv : Nat → St → Hp → Prop) (h0 : Pv 0 σ H)
    (hs : ∀ i c σ H, (cds z)[i]? = some c → Pv i σ H → g (.str ⟨#[c]⟩) σ H fun σ2 H2 => tb { D with nx := Pv (i + 1), ct := Pv (i + 1), bk := D.nx } σ2 H2) (hd : ∀ σ H, Pv (cds z).length σ H → D.nx σ H) :
    ∃ W : Nat → Nat → St → Hp → Prop, (∃ m, W 0 m σ H) ∧ ∀ i m σ H, W i m σ H →
      ((Its z).stop i H ∧ D.nx σ H) ∨ ((Its z).go i H ∧ ∃ N : St → Hp → Prop, (∀ σ' H', N σ' H' → ∃ m', m' < m ∧ W (i + 1) m' σ' H') ∧ ∀ x H', (Its z).yld i H x H' → g x σ H' fun σ2 H2 => tb { D with nx := N, ct := N, bk := D.nx } σ2 H2) := by
  refine ⟨fun i m σ H => m = (cds z).length - i ∧ i ≤ (cds z).length ∧ Pv i σ H, ⟨(cds z).length, by simp, Nat.zero_le _, h0⟩, ?_⟩
  rintro i m σ H ⟨rfl, hi, p⟩
  by_cases hlt : i < (cds z).length
  · refine .inr ⟨hlt, Pv (i + 1), fun σ' H' p' => ⟨(cds z).length - (i + 1), by omega, rfl, hlt, p'⟩, fun x H' y => ?_⟩
    obtain ⟨e, c, hc, rfl⟩ := y
    subst e
    exact hs i c σ _ hc p
  · have e : i = (cds z).length := by omega
    subst e
    exact .inl ⟨Nat.le_refl _, hd σ H p⟩
section
variable {X : Cx}
noncomputable def clsV : V → Option Value
  | .ty n => some (.type n)
  | .ref a => some (.ref a)
  | _ => none
theorem call_isi : CallR X (.builtin "isinstance") (fun xs H Q => ∃ x c t cv b, xs = [x, c] ∧ clsV c = some cv ∧ TyOf X.K H x t ∧ PySem.W.kitOne X.K t cv = some b ∧ Q (.bl b) H) := by
  intro pins s σ H xs us Q I r h
  obtain ⟨x, c, t, cv, b, rfl, rc, ty, e, q⟩ := h
  obtain ⟨u, w', rfl, rx, rw'⟩ := r.two
  have : w' = cv := by
    cases c with
    | ref a => cases rc; exact rw'
    | ty a => cases rc; exact rw'
    | _ => cases rc
  subst this
  exact isinst_ok I rx ty e fun tk => ⟨.bl b, H, I.tok _, rfl, q⟩
end
end L2

set_option Elab.async false
set_option linter.all false
set_option maxRecDepth 100000
set_option maxHeartbeats 4000000
namespace L2
open PySem PySem.Spec PyProof.Rows

noncomputable def compB (sc out : Scope) (N N' : List Str) (ρ : List (Option Nat)) : Bool :=
  decide (sc.kind = .function) && sc.names.all (fun y => decide (y.2 ≠ .cell)) && sc.names.all (fun y => decide (y.2 = .local → sc.names.lookup y.1 = some .local)) &&
  sc.names.all (fun y => decide (y.2 = .free → sc.names.lookup y.1 = some .free ∧ (out.names.lookup y.1 = some .cell ∨ out.names.lookup y.1 = some .free))) &&
  decide (ρ.length = N'.length) && decide N'.Nodup &&
  (ρ.zip N').all (fun p => match p.1 with | none => true | some i => decide (N[i]? = some p.2) && decide (out.names.lookup p.2 = some .local ∨ out.names.lookup p.2 = some .cell ∨ out.names.lookup p.2 = some .free) && sc.names.any (fun y => decide (y = (p.2, NameKind.free))))
structure CompF (sc : Scope) (env : Env) (N N' : List Str) (ρ : List (Option Nat)) : Prop where
  S : CompScope sc env.scope
  sl : SlotOk sc env N N' ρ
  hl : ∀ x, (x, NameKind.free) ∈ sc.names → sc.names.lookup x = some .free
  nd : N'.Nodup
theorem compF_of {sc : Scope} {env : Env} {N N' : List Str} {ρ : List (Option Nat)} (h : compB sc env.scope N N' ρ = true) : CompF sc env N N' ρ := by
  unfold compB at h
  simp only [Bool.and_eq_true, decide_eq_true_eq, List.all_eq_true] at h
  obtain ⟨⟨⟨⟨⟨⟨h1, h2⟩, h3⟩, h4⟩, h5⟩, h6⟩, h7⟩ := h
  refine ⟨⟨h1, h2, h3, fun y hy e => (h4 y hy e).2⟩, ⟨h5, fun j i x e1 e2 => ?_⟩, fun x hx => (h4 _ hx rfl).1, h6⟩
  have hm : (some i, x) ∈ ρ.zip N' := by
    refine List.mem_of_getElem? (i := j) ?_
    rw [List.getElem?_zip_eq_some]
    exact ⟨e1, e2⟩
  have q := h7 _ hm
  simp only [Bool.and_eq_true, decide_eq_true_eq, List.any_eq_true] at q
  obtain ⟨⟨q1, q2⟩, y, hy, e⟩ := q
  exact ⟨q1, q2, e ▸ hy⟩

theorem pe_compB {X : Cx} {elt iter tg : Expr} {ifs : List Expr} {scope : Scope} {pos : Pos} (N' : List Str) (ρ : List (Option Nat)) {wi : TI} {g : TG} {tt : TT} {te : TE} (hc : X.calm = true) (hi : PI X tg iter wi) (h : compB scope X.env.scope X.N N' ρ = true)
    (inner : ∀ (cl : List (Str × Addr)) (C : Addr) (s : Shared) (H : Hp) (fp : List Addr) (pins : List (Addr × Obj)), PG (compCx X scope N' cl C s H fp pins) tg g ∧ PTs (compCx X scope N' cl C s H fp pins) ifs tt ∧ PE (compCx X scope N' cl C s H fp pins) elt te)
    (hs : ∀ x, foldedSetIterable iter X.env x = pure x := by intro _; rfl) : PE X (.ListComp elt [⟨tg, iter, ifs, 0⟩] scope pos) (tComp ρ wi g tt te) :=
  have F := compF_of h
  pe_comp N' ρ hc hi F.S F.sl F.hl inner hs
end L2
namespace L2
open PySem
noncomputable def mkSc (l : List (Str × NameKind)) : Scope := { kind := .function, names := l, isGenerator := false, isCoroutine := false, more := [] }
end L2

namespace L2
open PySem
theorem bt_len : bootBuiltins "len" = some (.builtin "len") := by decide +kernel
theorem bt_isinstance : bootBuiltins "isinstance" = some (.builtin "isinstance") := by decide +kernel
theorem bt_abs : bootBuiltins "abs" = some (.builtin "abs") := by decide +kernel
theorem bt_ord : bootBuiltins "ord" = some (.builtin "ord") := by decide +kernel
theorem bt_int : bootBuiltins "int" = some (.type "int") := by decide +kernel
theorem bt_str : bootBuiltins "str" = some (.type "str") := by decide +kernel
theorem bt_bool : bootBuiltins "bool" = some (.type "bool") := by decide +kernel
theorem bt_list : bootBuiltins "list" = some (.type "list") := by decide +kernel
theorem bt_tuple : bootBuiltins "tuple" = some (.type "tuple") := by decide +kernel
theorem bt_dict : bootBuiltins "dict" = some (.type "dict") := by decide +kernel
end L2

set_option Elab.async false
set_option linter.all false
set_option maxRecDepth 100000
set_option maxHeartbeats 4000000
namespace L2
open PySem PySem.Spec PyProof.Rows

theorem szl {n : Nat} (h : n ≤ 1000000) : n ≤ sizeLine := by rw [sizeLine_eq]; omega
theorem szlt {n : Nat} (h : n < 1000000) : n < sizeLine := by rw [sizeLine_eq]; omega
theorem same_new {H : Hp} {p : Addr} (h : H p = none) (o : HO) : Same H (upd H p o) := fun b u q => by rw [upd_ne (ne_of_none q h)]; exact q
theorem dT {p : Prop} [Decidable p] (h : decide p = true) : p := of_decide_eq_true h
theorem dF {p : Prop} [Decidable p] (h : ¬ decide p = true) : ¬ p := fun z => h (decide_eq_true z)

noncomputable def spCell (K : PySem.W.Frag) : Sp := fun vs H Q _ => ∃ (a : Addr) (ns : List Int) (k : Int), vs = [.ref a, .int k] ∧ SqL K H a (ns.map V.int) ∧ 0 ≤ k ∧ Q (.int (ns.getD k.toNat 0)) H
theorem cell_in {ns : List Int} {k : Int} (h0 : 0 ≤ k) (h : k < (ns.length : Int)) : atI (ns.map V.int) k = some (.int (ns.getD k.toNat 0)) := by
  have hk : k.toNat < ns.length := by omega
  have ek : k = ((k.toNat : Nat) : Int) := by omega
  have q : atI (ns.map V.int) ((k.toNat : Nat) : Int) = some (.int (ns.getD k.toNat 0)) := atI_nat (by rw [List.getElem?_map, List.getElem?_eq_getElem hk]; simp [List.getD_eq_getElem?_getD, hk])
  rw [← ek] at q
  exact q
theorem cell_out {ns : List Int} {k : Int} (h : ¬ k < (ns.length : Int)) : ns.getD k.toNat 0 = 0 := by rw [List.getD_eq_getElem?_getD, List.getElem?_eq_none (by omega)]; rfl
noncomputable def isInt : V → Bool
  | .int _ => true
  | _ => false
noncomputable def plainV : V → Bool
  | .int _ => true
  | .bl _ => true
  | .non => true
  | .str _ => true
  | _ => false
noncomputable def spWhole : Sp := fun vs H Q _ => ∃ x, vs = [x] ∧ plainV x = true ∧ Q (.bl (isInt x)) H
theorem take_snoc {α : Type} {l : List α} {i : Nat} {c : α} (h : l[i]? = some c) : l.take (i + 1) = l.take i ++ [c] := by
  rw [List.take_succ, h]; rfl
end L2
namespace L2
open PySem
end L2
namespace L2
open PySem
theorem seq_any {t u : TS} {D : Ends} {σ : St} {H : Hp} (M : St → Hp → Prop) (hu : ∀ σ' H', M σ' H' → u D σ' H') (ht : (∀ σ' H', M σ' H' → u D σ' H') → t { D with nx := u D } σ H) : tSeq t u D σ H := ht hu
theorem ndF {p : Prop} [Decidable p] (h : p) : (!decide p) = false := by rw [decide_eq_true h]; rfl
theorem iteE {b : Bool} {A B : Prop} {v : Bool} (e : b = v) (h : if v = true then A else B) : if b = true then A else B := by rw [e]; exact h
end L2
namespace L2
open PySem
theorem len_sOf (l : List Nat) : (sOf l).length = l.length := by rw [← cds_len, cds_sOf]
theorem len_app (x y : Str) : (x ++ y).length = x.length + y.length := Str.length_append x y
end L2

set_option Elab.async false
set_option linter.all false
set_option maxRecDepth 100000
set_option maxHeartbeats 4000000
namespace L2
open PySem PySem.Spec PyProof.Rows

inductive Tr where
  | v (x : V)
  | lst (l : List Tr)
  | tup (l : List Tr)
mutual
inductive TrIs (K : PySem.W.Frag) (H : Hp) : V → Tr → Prop
  | flat {x : V} : flatV x = true → TrIs K H x (.v x)
  | lst {p : Addr} {xs : List V} {l : List Tr} : SqL K H p xs → TrsIs K H xs l → TrIs K H (.ref p) (.lst l)
  | tup {p : Addr} {xs : List V} {l : List Tr} : SqT K H p xs → TrsIs K H xs l → TrIs K H (.ref p) (.tup l)
inductive TrsIs (K : PySem.W.Frag) (H : Hp) : List V → List Tr → Prop
  | nil : TrsIs K H [] []
  | cons {x : V} {t : Tr} {xs : List V} {l : List Tr} : TrIs K H x t → TrsIs K H xs l → TrsIs K H (x :: xs) (t :: l)
end
mutual
noncomputable def eqT : Tr → Tr → Bool
  | .v x, .v y => eqV x y
  | .lst l, .lst m => eqTs l m
  | .tup l, .tup m => eqTs l m
  | _, _ => false
noncomputable def eqTs : List Tr → List Tr → Bool
  | [], [] => true
  | x :: l, y :: m => eqT x y && eqTs l m
  | _, _ => false
end
mutual
noncomputable def simT : Tr → Tr → Bool
  | .v _, .v _ => true
  | .lst l, .lst m => simTs l m
  | .tup l, .tup m => simTs l m
  | _, _ => false
noncomputable def simTs : List Tr → List Tr → Bool
  | x :: l, y :: m => simT x y && simTs l m
  | _, _ => true
end
mutual
noncomputable def depT : Tr → Nat
  | .v _ => 0
  | .lst l => depTs l + 1
  | .tup l => depTs l + 1
noncomputable def depTs : List Tr → Nat
  | [] => 0
  | x :: l => max (depT x) (depTs l)
end
theorem eqV_refl {x : V} (h : flatV x = true) : eqV x x = true := by
  cases x <;> first | rfl | (simp [eqV]; done) | (simp [flatV] at h)
mutual
/-- a tree of flat values -/
noncomputable def okT : Tr → Bool
  | .v x => flatV x
  | .lst l => okTs l
  | .tup l => okTs l
noncomputable def okTs : List Tr → Bool
  | [] => true
  | x :: l => okT x && okTs l
end
mutual
theorem eqT_refl : ∀ t : Tr, okT t = true → eqT t t = true
  | .v x, h => by rw [eqT]; exact eqV_refl (by simpa [okT] using h)
  | .lst l, h => by rw [eqT]; exact eqTs_refl l (by simpa [okT] using h)
  | .tup l, h => by rw [eqT]; exact eqTs_refl l (by simpa [okT] using h)
theorem eqTs_refl : ∀ l : List Tr, okTs l = true → eqTs l l = true
  | [], _ => by rw [eqTs]
  | x :: l, h => by
    rw [okTs, Bool.and_eq_true] at h
    rw [eqTs, eqT_refl x h.1, eqTs_refl l h.2]; rfl
end
mutual
theorem simT_refl : ∀ t : Tr, simT t t = true
  | .v x => by rw [simT]
  | .lst l => by rw [simT]; exact simTs_refl l
  | .tup l => by rw [simT]; exact simTs_refl l
theorem simTs_refl : ∀ l : List Tr, simTs l l = true
  | [] => by simp [simTs]
  | x :: l => by rw [simTs, simT_refl x, simTs_refl l]; rfl
end
mutual
theorem TrIs.ok {K : PySem.W.Frag} {H : Hp} : ∀ {x : V} {t : Tr}, TrIs K H x t → okT t = true
  | _, _, .flat h => by rw [okT]; exact h
  | _, _, .lst _ h => by rw [okT]; exact h.ok
  | _, _, .tup _ h => by rw [okT]; exact h.ok
theorem TrsIs.ok {K : PySem.W.Frag} {H : Hp} : ∀ {xs : List V} {l : List Tr}, TrsIs K H xs l → okTs l = true
  | _, _, .nil => by rw [okTs]
  | _, _, .cons h r => by rw [okTs, h.ok, r.ok]; rfl
end
theorem TrsIs.length {K : PySem.W.Frag} {H : Hp} : ∀ {xs : List V} {l : List Tr}, TrsIs K H xs l → xs.length = l.length
  | _, _, .nil => rfl
  | _, _, .cons _ r => by simp [r.length]
theorem eqTs_len : ∀ {l m : List Tr}, l.length ≠ m.length → eqTs l m = false
  | [], [], h => absurd rfl h
  | [], _ :: _, _ => by rw [eqTs] <;> simp
  | _ :: _, [], _ => by rw [eqTs] <;> simp
  | x :: l, y :: m, h => by
    rw [eqTs, eqTs_len (l := l) (m := m) (fun e => h (by simp [e])), Bool.and_false]
section
variable {X : Cx} {pins : List (Addr × Obj)} {σ : St} {H : Hp} {s : Shared}
mutual
theorem TrIs.inj (I : Inv X pins σ H s) : ∀ {t t' : Tr} {x : V}, TrIs X.K H x t → TrIs X.K H x t' → t = t'
  | .v x, t', _, .flat h, h' => by
    cases h' with
    | flat _ => rfl
    | lst _ _ => cases h
    | tup _ _ => cases h
  | .lst l, t', _, .lst (p := p) (xs := xs) hq hr, h' => by
    cases h' with
    | flat h => cases h
    | lst hq' hr' =>
      have e := I.list_inj hq hq'
      subst e
      rw [TrsIs.inj I hr hr']
    | tup hq' hr' =>
      obtain ⟨_, _, ⟨o, n, e1, c1, _⟩, _⟩ := I.list hq
      obtain ⟨_, _, ⟨o', e2, c2, _⟩, _⟩ := I.tuple hq'
      rw [e1] at e2; cases e2
      rw [c1] at c2; simp at c2
  | .tup l, t', _, .tup (p := p) (xs := xs) hq hr, h' => by
    cases h' with
    | flat h => cases h
    | tup hq' hr' =>
      have e := I.tuple_inj hq hq'
      subst e
      rw [TrsIs.inj I hr hr']
    | lst hq' hr' =>
      obtain ⟨_, _, ⟨o, n, e1, c1, _⟩, _⟩ := I.list hq'
      obtain ⟨_, _, ⟨o', e2, c2, _⟩, _⟩ := I.tuple hq
      rw [e1] at e2; cases e2
      rw [c1] at c2; simp at c2
theorem TrsIs.inj (I : Inv X pins σ H s) : ∀ {l l' : List Tr} {xs : List V}, TrsIs X.K H xs l → TrsIs X.K H xs l' → l = l'
  | [], _, _, .nil, h' => by cases h'; rfl
  | t :: l, _, _, .cons h r, h' => by
    cases h' with
    | cons h2 r2 => rw [TrIs.inj I h h2, TrsIs.inj I r r2]
end
theorem range_all_eq {α : Type} {e : Nat → Bool} {f : α → Bool} : ∀ {l : List α}, (∀ j x, l[j]? = some x → e j = f x) → (List.range l.length).all e = l.all f := by
  intro l h
  rw [Bool.eq_iff_iff]
  simp only [List.all_eq_true, List.mem_range]
  constructor
  · intro q x hx
    obtain ⟨i, hi, hx⟩ := List.mem_iff_getElem.mp hx
    rw [← h i x (by rw [List.getElem?_eq_getElem hi, hx])]
    exact q i hi
  · intro q i hi
    rw [h i l[i] (List.getElem?_eq_getElem hi)]
    exact q _ (List.getElem_mem hi)
theorem eqTs_zip : ∀ {l m : List Tr}, l.length = m.length → eqTs l m = (l.zip m).all fun p => eqT p.1 p.2
  | [], [], _ => by rw [eqTs]; rfl
  | [], _ :: _, h => by simp at h
  | _ :: _, [], h => by simp at h
  | x :: l, y :: m, h => by
    rw [eqTs, eqTs_zip (l := l) (m := m) (by simpa using h)]
    rfl
theorem TrsIs.at {K : PySem.W.Frag} {H : Hp} : ∀ {xs : List V} {l : List Tr} {j : Nat} {t : Tr}, TrsIs K H xs l → l[j]? = some t → ∃ x, xs[j]? = some x ∧ TrIs K H x t
  | _, _, _, _, .nil, h => by simp at h
  | _, _, 0, _, .cons h _, e => by simp at e; subst e; exact ⟨_, rfl, h⟩
  | _, _, j + 1, _, .cons _ r, e => by
    obtain ⟨x, h1, h2⟩ := r.at (j := j) (by simpa using e)
    exact ⟨x, by simpa using h1, h2⟩
theorem simTs_at : ∀ {l m : List Tr} {j : Nat} {t t' : Tr}, simTs l m = true → l[j]? = some t → m[j]? = some t' → simT t t' = true
  | [], _, _, _, _, _, h, _ => by simp at h
  | _ :: _, [], _, _, _, _, _, h => by simp at h
  | x :: l, y :: m, 0, t, t', h, e1, e2 => by
    simp at e1 e2; subst e1 e2
    rw [simTs, Bool.and_eq_true] at h; exact h.1
  | x :: l, y :: m, j + 1, t, t', h, e1, e2 => by
    rw [simTs, Bool.and_eq_true] at h
    exact simTs_at (j := j) h.2 (by simpa using e1) (by simpa using e2)
theorem depTs_at : ∀ {l : List Tr} {j : Nat} {t : Tr}, l[j]? = some t → depT t ≤ depTs l
  | [], _, _, h => by simp at h
  | x :: l, 0, t, h => by simp at h; subst h; rw [depTs]; omega
  | x :: l, j + 1, t, h => by
    have := depTs_at (l := l) (j := j) (t := t) (by simpa using h)
    rw [depTs]; omega
theorem items_eq {A : Around} {l m : List Tr} {xs ys : List V} {its jts : List Value} (hr : TrsIs X.K H xs l) (hr' : TrsIs X.K H ys m) (rv : Vals xs its) (rv' : Vals ys jts)
    (ih : ∀ (j : Nat) (t t' : Tr) (x y : V) (u v : Value), l[j]? = some t → m[j]? = some t' → TrIs X.K H x t → RelV x u → TrIs X.K H y t' → RelV y v → SeqAt.EqAt A.in1 s u v (eqT t t')) :
    ∀ j (h1 : j < its.toArray.size) (h2 : j < jts.toArray.size), SeqAt.EqAt A.in1 s its.toArray[j] jts.toArray[j] (match l[j]?, m[j]? with | some t, some t' => eqT t t' | _, _ => true) := by
  intro j h1 h2
  have l1 := hr.length; have l2 := hr'.length; have l3 := rv.length; have l4 := rv'.length
  rw [List.size_toArray] at h1 h2
  obtain ⟨t, ht⟩ : ∃ t, l[j]? = some t := ⟨l[j]'(by omega), List.getElem?_eq_getElem (by omega)⟩
  obtain ⟨t', ht'⟩ : ∃ t', m[j]? = some t' := ⟨m[j]'(by omega), List.getElem?_eq_getElem (by omega)⟩
  obtain ⟨x, hx, hxt⟩ := hr.at ht
  obtain ⟨y, hy, hyt⟩ := hr'.at ht'
  obtain ⟨u, hu, ru⟩ := rv.get hx
  obtain ⟨v, hv, rw'⟩ := rv'.get hy
  rw [ht, ht']
  have e1 : its.toArray[j] = u := by
    have := List.getElem?_eq_getElem (l := its) (i := j) h1
    rw [hu] at this
    simpa using (Option.some.inj this).symm
  have e2 : jts.toArray[j] = v := by
    have := List.getElem?_eq_getElem (l := jts) (i := j) h2
    rw [hv] at this
    simpa using (Option.some.inj this).symm
  rw [e1, e2]
  exact ih j t t' x y u v ht ht' hxt ru hyt rw'
theorem all_items {l m : List Tr} (h : l.length = m.length) : (List.range l.length).all (fun j => match l[j]?, m[j]? with | some t, some t' => eqT t t' | _, _ => true) = eqTs l m := by
  rw [eqTs_zip h]
  have e : l.length = (l.zip m).length := by rw [List.length_zip]; omega
  rw [e]
  refine range_all_eq fun j p hp => ?_
  obtain ⟨h1, h2⟩ := List.getElem?_zip_eq_some.mp hp
  rw [h1, h2]
theorem RcAt_lists {A : Around} {p q : Addr} {xs ys : List V} {l m : List Tr} (I : Inv X pins σ H s) (hu : A.units < cLine) (hq : SqL X.K H p xs) (hr : TrsIs X.K H xs l) (hq' : SqL X.K H q ys) (hr' : TrsIs X.K H ys m)
    (ih : ∀ (j : Nat) (t t' : Tr) (x y : V) (u v : Value), l[j]? = some t → m[j]? = some t' → TrIs X.K H x t → RelV x u → TrIs X.K H y t' → RelV y v → SeqAt.EqAt A.in1 s u v (eqT t t')) :
    SeqAt.RcAt A s (.ref p) (.ref q) (eqTs l m) ∧ SeqAt.RcNeAt A s (.ref p) (.ref q) (!eqTs l m) := by
  obtain ⟨its, rv, pl, _⟩ := I.list hq
  obtain ⟨jts, rv', pl', _⟩ := I.list hq'
  have l1 := hr.length; have l2 := hr'.length; have l3 := rv.length; have l4 := rv'.length
  by_cases hl : l.length = m.length
  · have e : its.toArray.size = l.length := by rw [List.size_toArray]; omega
    have a := SeqAt.RcAt.lists (A := A) pl.isList pl'.isList (by rw [List.size_toArray, List.size_toArray]; omega) hu (items_eq hr hr' rv rv' ih)
    have b := SeqAt.RcNeAt.lists (A := A) pl.isList pl'.isList (by rw [List.size_toArray, List.size_toArray]; omega) hu (items_eq hr hr' rv rv' ih)
    rw [e, all_items hl] at a b
    exact ⟨a, b⟩
  · rw [eqTs_len hl]
    have hne : (its.toArray.size != jts.toArray.size) = true := by
      rw [List.size_toArray, List.size_toArray]
      simp only [bne_iff_ne, ne_eq]; omega
    exact ⟨SeqAt.RcAt.lists_lengths pl.isList pl'.isList hne hu, SeqAt.RcNeAt.lists_lengths pl.isList pl'.isList hne hu⟩
theorem RcAt_tuples {A : Around} {p q : Addr} {xs ys : List V} {l m : List Tr} (I : Inv X pins σ H s) (hu : A.units < cLine) (hq : SqT X.K H p xs) (hr : TrsIs X.K H xs l) (hq' : SqT X.K H q ys) (hr' : TrsIs X.K H ys m)
    (ih : ∀ (j : Nat) (t t' : Tr) (x y : V) (u v : Value), l[j]? = some t → m[j]? = some t' → TrIs X.K H x t → RelV x u → TrIs X.K H y t' → RelV y v → SeqAt.EqAt A.in1 s u v (eqT t t')) :
    SeqAt.RcAt A s (.ref p) (.ref q) (eqTs l m) ∧ SeqAt.RcNeAt A s (.ref p) (.ref q) (!eqTs l m) := by
  obtain ⟨its, rv, pl, _⟩ := I.tuple hq
  obtain ⟨jts, rv', pl', _⟩ := I.tuple hq'
  have l1 := hr.length; have l2 := hr'.length; have l3 := rv.length; have l4 := rv'.length
  have a := SeqAt.RcAt.tuples (A := A) (show s.heap.IsTuple p its.toArray from pl) (show s.heap.IsTuple q jts.toArray from pl') hu (items_eq hr hr' rv rv' ih)
  have b := SeqAt.RcNeAt.tuples (A := A) (show s.heap.IsTuple p its.toArray from pl) (show s.heap.IsTuple q jts.toArray from pl') hu (items_eq hr hr' rv rv' ih)
  have e : ((List.range (min its.toArray.size jts.toArray.size)).all (fun j => match l[j]?, m[j]? with | some t, some t' => eqT t t' | _, _ => true) && its.toArray.size == jts.toArray.size) = eqTs l m := by
    by_cases hl : l.length = m.length
    · have e1 : min its.toArray.size jts.toArray.size = l.length := by rw [List.size_toArray, List.size_toArray]; omega
      have e2 : (its.toArray.size == jts.toArray.size) = true := by rw [List.size_toArray, List.size_toArray]; simp; omega
      rw [e1, e2, all_items hl, Bool.and_true]
    · have e2 : (its.toArray.size == jts.toArray.size) = false := by rw [List.size_toArray, List.size_toArray]; simp; omega
      rw [e2, eqTs_len hl, Bool.and_false]
  rw [e] at a b
  exact ⟨a, b⟩
theorem eqAt_T (I : Inv X pins σ H s) (n : Nat) : ∀ (A : Around) (t t' : Tr) (x y : V) (u v : Value), depT t ≤ n → A.units + n < cLine → simT t t' = true → TrIs X.K H x t → RelV x u → TrIs X.K H y t' → RelV y v → SeqAt.EqAt A s u v (eqT t t') := by
  induction n with
  | zero =>
    intro A t t' x y u v hd hu hs hx rx hy ry
    cases hx with
    | flat fx =>
      cases hy with
      | flat fy => rw [eqT]; exact eqAt_V rx ry fx fy
      | lst _ _ => simp [simT] at hs
      | tup _ _ => simp [simT] at hs
    | lst _ _ => simp [depT] at hd
    | tup _ _ => simp [depT] at hd
  | succ n ih =>
    intro A t t' x y u v hd hu hs hx rx hy ry
    cases hx with
    | flat fx =>
      cases hy with
      | flat fy => rw [eqT]; exact eqAt_V rx ry fx fy
      | lst _ _ => simp [simT] at hs
      | tup _ _ => simp [simT] at hs
    | @lst p xs l hq hr =>
      cases hy with
      | flat fy => simp [simT] at hs
      | tup _ _ => simp [simT] at hs
      | @lst q ys m hq' hr' =>
        cases rx; cases ry
        rw [depT] at hd
        rw [simT] at hs
        by_cases e : p = q
        · subst e
          have e1 := TrIs.inj I (TrIs.lst hq hr) (TrIs.lst hq' hr')
          rw [← e1, eqT_refl _ (TrIs.lst hq hr).ok]
          exact SeqAt.EqAt.same _
        · rw [eqT]
          refine SeqAt.EqAt.of_refs e (RcAt_lists I (by omega) hq hr hq' hr' fun j t t' x y u v h1 h2 h3 h4 h5 h6 => ?_).1
          exact ih A.in1 t t' x y u v (by have := depTs_at h1; omega) (by show A.units + 1 + n < cLine; omega) (simTs_at hs h1 h2) h3 h4 h5 h6
    | @tup p xs l hq hr =>
      cases hy with
      | flat fy => simp [simT] at hs
      | lst _ _ => simp [simT] at hs
      | @tup q ys m hq' hr' =>
        cases rx; cases ry
        rw [depT] at hd
        rw [simT] at hs
        by_cases e : p = q
        · subst e
          have e1 := TrIs.inj I (TrIs.tup hq hr) (TrIs.tup hq' hr')
          rw [← e1, eqT_refl _ (TrIs.tup hq hr).ok]
          exact SeqAt.EqAt.same _
        · rw [eqT]
          refine SeqAt.EqAt.of_refs e (RcAt_tuples I (by omega) hq hr hq' hr' fun j t t' x y u v h1 h2 h3 h4 h5 h6 => ?_).1
          exact ih A.in1 t t' x y u v (by have := depTs_at h1; omega) (by show A.units + 1 + n < cLine; omega) (simTs_at hs h1 h2) h3 h4 h5 h6
end

section
variable {X : Cx}
noncomputable def rEqX (K : PySem.W.Frag) (neg : Bool) : R2 := fun x y H Q => ∃ t t', TrIs K H x t ∧ TrIs K H y t' ∧ (∃ p, x = .ref p) ∧ (∃ p, y = .ref p) ∧ simT t t' = true ∧ depT t ≤ 60 ∧ Q (.bl (if neg then !eqT t t' else eqT t t')) H
theorem eqX_aux {neg : Bool} (hu : X.A.units + 64 < cLine) : OpR X (compareOp (if neg then .NotEq else .Eq)) (rEqX X.K neg) := by
  intro pins s σ H x y v u Q I rx ry h
  obtain ⟨t, t', hx, hy, ⟨p, rfl⟩, ⟨q, rfl⟩, hs, hd, q'⟩ := h
  cases rx; cases ry
  have done : ∀ l m, SeqAt.RcAt X.A s (.ref p) (.ref q) (eqTs l m) ∧ SeqAt.RcNeAt X.A s (.ref p) (.ref q) (!eqTs l m) → Q (.bl (if neg then !eqTs l m else eqTs l m)) H →
      wpAny (model X.prog X.w) X.A (compareOp (if neg then .NotEq else .Eq) (.ref p) (.ref q)) (EP X pins σ Q) X.xe s := fun l m hb hq => by
    cases neg with
    | false => exact hb.1 X.prog X.w X.xe _ ⟨.bl _, H, I, rfl, hq⟩
    | true => exact hb.2 X.prog X.w X.xe _ ⟨.bl _, H, I, rfl, hq⟩
  cases hx with
  | flat fx => cases fx
  | @lst _ xs l hq hr =>
    cases hy with
    | flat fy => cases fy
    | tup _ _ => simp [simT] at hs
    | @lst _ ys m hq' hr' =>
      rw [depT] at hd
      rw [simT] at hs
      rw [eqT] at q'
      refine done l m (RcAt_lists I (by omega) hq hr hq' hr' fun j t t' x y u v h1 h2 h3 h4 h5 h6 => ?_) q'
      exact eqAt_T I 60 X.A.in1 t t' x y u v (by have := depTs_at h1; omega) (by show X.A.units + 1 + 60 < cLine; omega) (simTs_at hs h1 h2) h3 h4 h5 h6
  | @tup _ xs l hq hr =>
    cases hy with
    | flat fy => cases fy
    | lst _ _ => simp [simT] at hs
    | @tup _ ys m hq' hr' =>
      rw [depT] at hd
      rw [simT] at hs
      rw [eqT] at q'
      refine done l m (RcAt_tuples I (by omega) hq hr hq' hr' fun j t t' x y u v h1 h2 h3 h4 h5 h6 => ?_) q'
      exact eqAt_T I 60 X.A.in1 t t' x y u v (by have := depTs_at h1; omega) (by show X.A.units + 1 + 60 < cLine; omega) (simTs_at hs h1 h2) h3 h4 h5 h6
theorem op_neS (hu : X.A.units + 64 < cLine) : OpR X (compareOp .NotEq) (rEqX X.K true) := eqX_aux (neg := true) hu
theorem hu64 {A : Around} {k : Nat} (hr : Room k A) : A.units + 64 < cLine := by have := hr.un; omega
end
end L2

set_option Elab.async false
set_option linter.all false
set_option maxRecDepth 100000
set_option maxHeartbeats 4000000
namespace L2
open PySem PySem.Spec PyProof.Rows

section
variable {X : Cx}
theorem call_dict_of : CallR X (.type "dict") (fun xs H Q => ∃ (p : Addr) (kvs : List (Key × V)), xs = [.ref p] ∧ H p = some (.dK kvs) ∧ ∀ l, H l = none → Q (.ref l) (upd H l (.dK kvs))) := by
  intro pins s σ H xs us Q I r h
  obtain ⟨p, kvs, rfl, hp, q⟩ := h
  obtain ⟨u, rfl, ru⟩ := vals1 r
  cases ru
  exact d_copyOf I (.inl hp) fun l s' hl I' => ⟨.ref l, _, I', rfl, q l hl⟩
end

end L2

set_option Elab.async false
set_option linter.all false
set_option maxRecDepth 100000
set_option maxHeartbeats 4000000
namespace L2
open PySem PySem.Spec PyProof.Rows

noncomputable def stepS (x : Int) (k : Int) : Int := (x * x + 48271 * x + k) % 2147483647
noncomputable def seqS (x k : Int) : Nat → List Int
  | 0 => []
  | n + 1 => stepS x k :: seqS (stepS x k) (k + 1) n
theorem seqS_len (x k : Int) (n : Nat) : (seqS x k n).length = n := by
  induction n generalizing x k with
  | zero => rfl
  | succ n ih => simp [seqS, ih]
theorem seqS_mem {x k y : Int} {n : Nat} (h : y ∈ seqS x k n) : 0 ≤ y ∧ y < 2147483647 := by
  induction n generalizing x k with
  | zero => cases h
  | succ n ih =>
    rcases List.mem_cons.mp h with rfl | h
    · exact ⟨Int.emod_nonneg _ (by decide), Int.emod_lt_of_pos _ (by decide)⟩
    · exact ih h
noncomputable def lastS (x k : Int) : Nat → Int
  | 0 => x
  | n + 1 => lastS (stepS x k) (k + 1) n
theorem lastS_succ (x k : Int) (n : Nat) : lastS x k (n + 1) = stepS (lastS x k n) (k + n) := by
  induction n generalizing x k with
  | zero => simp [lastS]
  | succ n ih =>
    rw [lastS, ih, lastS]
    congr 1
    omega
theorem seqS_snoc (x k : Int) (n : Nat) : seqS x k (n + 1) = seqS x k n ++ [lastS x k (n + 1)] := by
  induction n generalizing x k with
  | zero => simp [seqS, lastS]
  | succ n ih =>
    rw [seqS, ih, seqS, List.cons_append]
    rfl
noncomputable def seedS (c : Int) : Int := c % 2147483647 + 48271
noncomputable def strm (c : Int) (n : Nat) : List Int := (seqS (seedS c) 0 (n + 1)).drop 1
theorem strm_len (c : Int) (n : Nat) : (strm c n).length = n := by unfold strm; rw [List.length_drop, seqS_len]; omega
theorem strm_mem {c y : Int} {n : Nat} (h : y ∈ strm c n) : 0 ≤ y ∧ y < 2147483647 := seqS_mem (List.mem_of_mem_drop h)
noncomputable def spStream : Sp := fun vs H Q _ => ∃ (c n : Int), vs = [.int c, .int n] ∧ 0 ≤ n ∧ n ≤ 1000 ∧ ∀ (r : Addr) (H' : Hp), Same H H' → H' r = some (.lst ((strm c n.toNat).map V.int)) → Q (.ref r) H'
theorem step_bound {x : Int} (h0 : 0 ≤ x) (h1 : x < 2147531918) : -(2 ^ 64 : Int) < x ∧ x < 2 ^ 64 := by
  have : (2 : Int) ^ 64 = 18446744073709551616 := by decide
  omega
theorem seed_bound (c : Int) : 0 ≤ seedS c ∧ seedS c < 2147531918 := by
  have h0 := Int.emod_nonneg c (show (2147483647 : Int) ≠ 0 by decide)
  have h1 := Int.emod_lt_of_pos c (show (0 : Int) < 2147483647 by decide)
  unfold seedS; omega
theorem last_bound (c : Int) (n : Nat) : 0 ≤ lastS (seedS c) 0 n ∧ lastS (seedS c) 0 n < 2147531918 := by
  cases n with
  | zero => exact seed_bound c
  | succ n =>
    rw [lastS_succ]
    unfold stepS
    have h0 := Int.emod_nonneg (lastS (seedS c) 0 n * lastS (seedS c) 0 n + 48271 * lastS (seedS c) 0 n + (0 + (n : Int))) (show (2147483647 : Int) ≠ 0 by decide)
    have h1 := Int.emod_lt_of_pos (lastS (seedS c) 0 n * lastS (seedS c) 0 n + 48271 * lastS (seedS c) 0 n + (0 + (n : Int))) (show (0 : Int) < 2147483647 by decide)
    omega
theorem cut1 {α : Type} (l : List α) : (l.drop (HT.sIx l.length 0 (some 1))).take (HT.sIx l.length l.length none - HT.sIx l.length 0 (some 1)) = l.drop 1 := by
  rw [show HT.sIx l.length 0 (some (1 : Int)) = min 1 l.length from HT.sIx_nat _ _ 1, HT.sIx_none]
  cases l with
  | nil => rfl
  | cons a r =>
    have e : min 1 (a :: r).length = 1 := by simp
    rw [e]
    simp
theorem cutV_1 (xs : List Int) : cutV (xs.map V.int) (some 1) none = (xs.drop 1).map V.int := by
  unfold cutV
  rw [cut1, List.map_drop]

theorem cds_join0 : ∀ ys : List Str, cds (Txt.join "" ys) = (ys.map cds).flatten := by
  intro ys
  show cds (Builtin.Str.glued "" ys) = _
  rw [StrLaws.glued_eq_join]
  induction ys with
  | nil => rfl
  | cons y r ih =>
    cases r with
    | nil => simp [Str.join]
    | cons z r =>
      show cds (y ++ "" ++ Str.join "" (z :: r)) = _
      rw [cds_app, cds_app, ih]
      have : cds ("" : Str) = [] := by decide +kernel
      rw [this, List.append_nil]
      rfl
noncomputable abbrev abc : Str := "abcdefghijklmnopqrstuvwxyz"
theorem cds_abc : cds abc = (List.range 26).map (97 + ·) := by decide +kernel
noncomputable def letC (x : Int) : Nat := 97 + (x % 26).toNat
theorem abc_at (x : Int) : atI (cds abc) (x % 26) = some (letC x) := by
  have h0 := Int.emod_nonneg x (show (26 : Int) ≠ 0 by decide)
  have h1 := Int.emod_lt_of_pos x (show (0 : Int) < 26 by decide)
  have e : x % 26 = (((x % 26).toNat : Nat) : Int) := by omega
  rw [e]
  refine atI_nat ?_
  rw [cds_abc, List.getElem?_map, List.getElem?_range (by omega)]
  rfl
theorem abc_len : abc.length ≤ sizeLine := szl (by decide +kernel)
noncomputable def nameW (xs : List Int) : List Nat := (xs.drop 2).map letC
noncomputable def nameLong (xs : List Int) : Int := 1 + xs.getD 1 0 % 8
noncomputable def nameAt (xs : List Int) : Int := xs.getD 1 0 / 8 % nameLong xs
noncomputable def nameA (xs : List Int) (w : List Nat) (k : Int) : List Nat := w.take (nameAt xs).toNat ++ [letC (xs.getD (2 + nameAt xs).toNat 0 + k)] ++ (w.drop (nameAt xs + 1).toNat).take ((nameLong xs).toNat - (nameAt xs + 1).toNat)
noncomputable def nameB (xs : List Int) (w : List Nat) (k : Int) : List Nat := w.take (1 + (nameLong xs + 3 * k) % 8).toNat
noncomputable def nameRaw (xs : List Int) (w : List Nat) (k : Int) : List Nat := if xs.getD 0 0 % 2 = 0 then nameB xs w k else nameA xs w k
noncomputable def resv : List (List Nat) := [cds "for", cds "end", cds "size"]
noncomputable def nameC (xs : List Int) (w : List Nat) (k : Int) : List Nat := if nameRaw xs w k ∈ resv then [122, 122] ++ nameRaw xs w k else nameRaw xs w k
noncomputable def namesF (c : Int) (many : Nat) : List (List Nat) := (List.range many).map fun k : Nat => nameC (strm c 10) (nameW (strm c 10)) (k : Int)
noncomputable def strsV (l : List (List Nat)) : List V := l.map fun x => V.str (sOf x)
noncomputable def spNames : Sp := fun vs H Q _ => ∃ (c n : Int), vs = [.int c, .int n] ∧ 0 ≤ n ∧ n ≤ 100 ∧ ∀ (r : Addr) (H' : Hp), Same H H' → H' r = some (.lst (strsV (namesF c n.toNat))) → Q (.ref r) H'
theorem long_b (xs : List Int) : 1 ≤ nameLong xs ∧ nameLong xs ≤ 8 := by
  have h0 := Int.emod_nonneg (xs.getD 1 0) (show (8 : Int) ≠ 0 by decide)
  have h1 := Int.emod_lt_of_pos (xs.getD 1 0) (show (0 : Int) < 8 by decide)
  unfold nameLong; omega
theorem at_b (xs : List Int) : 0 ≤ nameAt xs ∧ nameAt xs < nameLong xs := by
  have := long_b xs
  exact ⟨Int.emod_nonneg _ (by omega), Int.emod_lt_of_pos _ (by omega)⟩
theorem nameW_len {xs : List Int} (h : xs.length = 10) : (nameW xs).length = 8 := by unfold nameW; rw [List.length_map, List.length_drop, h]
theorem in_resv (z : List Nat) : inV (.str (sOf z)) [.str "for", .str "end", .str "size"] = decide (z ∈ resv) := by
  have key : ∀ y : Str, eqV (.str y) (.str (sOf z)) = decide (z = cds y) := fun y => by
    show (y == sOf z) = _
    rw [Bool.eq_iff_iff]
    simp only [beq_iff_eq, decide_eq_true_eq]
    exact ⟨fun e => by rw [e, cds_sOf], fun e => by rw [e, sOf_cds]⟩
  unfold inV resv
  simp only [List.any_cons, List.any_nil, key, Bool.or_false]
  rw [Bool.eq_iff_iff]
  simp
theorem cut_to {α : Type} (l : List α) {k : Int} (h : 0 ≤ k) : cutC l none (some k) = l.take k.toNat := by
  unfold cutC
  have e : k = ((k.toNat : Nat) : Int) := by omega
  rw [HT.sIx_none, e, HT.sIx_nat, List.drop_zero, Nat.sub_zero]
  rw [show (((k.toNat : Nat) : Int)).toNat = k.toNat by omega]
  by_cases h : k.toNat ≤ l.length
  · rw [Nat.min_eq_left h]
  · rw [Nat.min_eq_right (by omega), List.take_of_length_le (by omega), List.take_of_length_le (by omega)]
theorem cut_mid {α : Type} (l : List α) {i j : Int} (hi : 0 ≤ i) (hj : 0 ≤ j) (hl : j ≤ (l.length : Int)) (hij : i ≤ j) : cutC l (some i) (some j) = (l.drop i.toNat).take (j.toNat - i.toNat) := by
  unfold cutC
  have e1 : i = ((i.toNat : Nat) : Int) := by omega
  have e2 : j = ((j.toNat : Nat) : Int) := by omega
  rw [e1, e2, HT.sIx_nat, HT.sIx_nat]
  rw [show (((i.toNat : Nat) : Int)).toNat = i.toNat by omega, show (((j.toNat : Nat) : Int)).toNat = j.toNat by omega, Nat.min_eq_left (by omega), Nat.min_eq_left (by omega)]
theorem cut_from {α : Type} (l : List α) {i : Int} (hi : 0 ≤ i) : cutC l (some i) none = l.drop i.toNat := by
  unfold cutC
  have e1 : i = ((i.toNat : Nat) : Int) := by omega
  rw [e1, HT.sIx_nat, HT.sIx_none, show (((i.toNat : Nat) : Int)).toNat = i.toNat by omega]
  by_cases h : i.toNat ≤ l.length
  · rw [Nat.min_eq_left h, List.take_of_length_le (by rw [List.length_drop]; omega)]
  · rw [Nat.min_eq_right (by omega), Nat.sub_self, List.take_zero, List.drop_eq_nil_of_le (by omega)]
theorem len_nameC {xs : List Int} {w : List Nat} (hw : w.length = 8) (k : Int) : (nameC xs w k).length ≤ 10 := by
  have hr : (nameRaw xs w k).length ≤ 8 := by
    unfold nameRaw
    split
    · unfold nameB; rw [List.length_take]; omega
    · have := long_b xs; have := at_b xs
      unfold nameA
      rw [List.length_append, List.length_append, List.length_take, List.length_take, List.length_drop, List.length_singleton]
      omega
  unfold nameC
  split
  · rw [List.length_append]; simp; omega
  · omega
theorem namesF_len (c : Int) (n : Nat) : (namesF c n).length = n := by unfold namesF; rw [List.length_map, List.length_range]
noncomputable abbrev nst (c n : Int) (rx : Addr) (xs : List Int) (l : Addr) (o1 o2 : Option V) (z : Str) : St := [some (.int c), some (.int n), some (.str abc), some (.ref rx), some (.str (sOf (nameW xs))), some (.int (nameLong xs)), some (.int (nameAt xs)), some (.ref l), o1, o2, some (.str z)]

noncomputable def numZ (c far : Int) : Int := if c % 3 = 0 then c / 3 % 7 - 3 else c / 3 % (2 * far + 1) - far
noncomputable def spNumber : Sp := fun vs H Q _ => ∃ (c far : Int), vs = [.int c, .int far] ∧ 0 ≤ far ∧ far < 2 ^ 63 ∧ Q (.int (numZ c far)) H
end L2
namespace L2
open PySem
end L2
namespace L2
open PySem
end L2
namespace L2
open PySem
end L2

set_option Elab.async false
set_option linter.all false
set_option maxRecDepth 100000
set_option maxHeartbeats 4000000
namespace L2
open PySem PySem.Spec PyProof.Rows

end L2

set_option Elab.async false
set_option linter.all false
set_option maxRecDepth 100000
set_option maxHeartbeats 4000000
namespace L2
open PySem PySem.Spec PyProof.Rows
theorem if_any {tt : TT} {ta tb : TS} {D : Ends} {σ : St} {H : Hp} (M : Hp → Prop) (hb : ∀ H', M H' → tb D σ H') (h : (∀ H', M H' → tb D σ H') → tIfS tt ta tb D σ H) : tIfS tt ta tb D σ H := h hb
theorem snoc_of {α : Type} {l : List α} {n : Nat} (h : l.length = n + 1) : ∃ p x, l = p ++ [x] ∧ p.length = n := by
  have hne : l ≠ [] := fun e => by rw [e] at h; cases h
  exact ⟨l.dropLast, l.getLast hne, (List.dropLast_concat_getLast hne).symm, by rw [List.length_dropLast]; omega⟩
theorem made_same {H H2 : Hp} {x dx C : Addr} (hx : H x = none) (hdx : H dx = none) (k : ∀ b o, (upd (upd H dx (.own x)) x (.ins C dx [])) b = some o → b ≠ x → H2 b = some o) : Same H H2 := fun b o e => by
  have n1 := ne_of_none e hx
  have n2 := ne_of_none e hdx
  exact k b o (by rw [upd_ne n1, upd_ne n2]; exact e) n1
theorem cutV_map (ns : List Int) (lo hi : Option Int) : cutV (ns.map V.int) lo hi = (cutC ns lo hi).map V.int := by
  unfold cutV cutC
  rw [List.length_map, List.map_take, List.map_drop]
end L2

set_option Elab.async false
set_option linter.all false
set_option maxRecDepth 100000
set_option maxHeartbeats 4000000
namespace L2
open PySem PySem.Spec PyProof.Rows
section
variable {X : Cx} {pins : List (Addr × Obj)} {σ : St} {H : Hp} {s : Shared} {h' : Heap}
theorem Inv.turnedL {t' : Nat} {ch : List Addr} (I : Inv X pins σ H s) (k : ∀ b o, b ∉ ch → s.heap.get? b = some o → h'.get? b = some o) (hf : ∀ b ∈ ch, FpOk X pins H b) : Inv X pins σ H { s with heap := h', toks := t' } := by
  have nit : ∀ b u, H b = some u → b ∉ ch := fun b u e z => by rw [(hf b z).1] at e; cases e
  have hL : X.env.locals ∉ ch := fun z => (hf _ z).2.1 rfl
  refine I.step (g' := s.gens) (d' := s.drawn) (ch := ch) (fun b hb => ?_) (fun b o _ _ hc e _ => k b o hc e) (fun b o _ _ hc e _ => ⟨o.slots, k b o hc e⟩) (fun _ _ _ _ n => n)
    (fun b o hc e => ⟨o, k b o hc e⟩) (fun _ _ e => e) (fun _ _ _ e => e) (fun b ps e => ⟨#[], by rw [e]; simp⟩) (fun m hm => ?_) (fun b u e => ?_) I.bare
  · obtain ⟨f0, f1, f2, f3, f4, f5⟩ := hf b hb
    exact ⟨f3, f1, f4, f5⟩
  · obtain ⟨o, es, ep, ho, r⟩ := hm
    exact ⟨o, es, ep, k _ o hL ho, r⟩
  · refine (I.hok b u e).stay (fun c v hc q => k c v ?_ q) (fun _ q => q) fun _ _ q => q
    rcases hc with z | z
    · rw [z]; exact nit b u e
    · exact nit c _ z
end
noncomputable def Itz (K : PySem.W.Frag) (a b : Addr) : It :=
  ⟨fun i H => ∃ xs ys x y, SqL K H a xs ∧ SqL K H b ys ∧ xs[i]? = some x ∧ ys[i]? = some y, fun i H v H' => ∃ x y T, (∀ xs, SqL K H a xs → xs[i]? = some x) ∧ (∀ ys, SqL K H b ys → ys[i]? = some y) ∧ H T = none ∧ v = .ref T ∧ H' = upd H T (.tup [x, y]),
    fun i H => ∃ xs ys, SqL K H a xs ∧ SqL K H b ys ∧ (xs.length ≤ i ∨ ys.length ≤ i)⟩
theorem turn_zip {P : Program} {w : World} {K : PySem.W.Frag} {elts : List Expr} {x1 : Nat} {pos : Pos} (a b z TI TO i1 i2 : Addr) (D : ZipApart z TI TO i1 i2 a b) :
    Turn P w K (.Tuple elts x1 pos) (Itz K a b) [z, TI, TO, i1, i2] z (fun i h => IsZip h z TI TO .none ∧ IsPair h TI (.ref i1) (.ref i2) ∧ (∃ p q, IsPair h TO p q) ∧ h.IsListIter i1 a i ∧ h.IsListIter i2 b i) where
  mem := by simp
  obj := fun i h st c hc => by
    obtain ⟨hz, hTI, ⟨p, q, hTO⟩, h1, h2⟩ := st
    simp only [List.mem_cons, List.not_mem_nil, or_false] at hc
    rcases hc with rfl | rfl | rfl | rfl | rfl
    · exact ⟨_, hz, fun v z => by cases z⟩
    · exact ⟨_, hTI, fun v z => by cases z⟩
    · exact ⟨_, hTO, fun v z => by cases z⟩
    · obtain ⟨o, e, c, d⟩ := h1
      exact ⟨o, e, fun v z => by rw [d] at z; cases z⟩
    · obtain ⟨o, e, c, d⟩ := h2
      exact ⟨o, e, fun v z => by rw [d] at z; cases z⟩
  keep := fun i h h' st k => by
    obtain ⟨hz, hTI, ⟨p, q, hTO⟩, h1, h2⟩ := st
    exact ⟨k z (by simp) _ hz, k TI (by simp) _ hTI, ⟨p, q, k TO (by simp) _ hTO⟩, h1.at fun o e => k i1 (by simp) o e, h2.at fun o e => k i2 (by simp) o e⟩
  item := by
    intro X hP hw hK hc i pins s σ H E I hf st hg
    subst hP hw hK
    obtain ⟨xs, ys, x, y, hq1, hq2, hx, hy⟩ := hg
    obtain ⟨its1, rv1, p1, _⟩ := I.list hq1
    obtain ⟨its2, rv2, p2, _⟩ := I.list hq2
    obtain ⟨u, hu, ru⟩ := rv1.get hx
    obtain ⟨v, hv, rv⟩ := rv2.get hy
    obtain ⟨hz, hTI, ⟨pa, qa, hTO⟩, h1, h2⟩ := st
    refine wpAny_pyNext_zip_item D hz hTI hTO h1 h2 p1.isList p2.isList (x := u) (y := v) (by simpa using hu) (by simpa using hv) fun hh hz' hTO' h1' h2' hT hsz hk => ⟨_, rfl, ?_⟩
    refine wpAny_letOwnedTupleGo_zip hz' fun h3 hz3 hs3 => ?_
    have hTn : H s.heap.objs.size = none := I.hok.fresh (Nat.le_refl _)
    have lts : ∀ c ∈ [z, TI, TO, i1, i2], c < s.heap.objs.size := fun c hc => by
      simp only [List.mem_cons, List.not_mem_nil, or_false] at hc
      rcases hc with rfl | rfl | rfl | rfl | rfl
      · exact Heap.lt_size hz
      · exact Heap.lt_size hTI
      · exact Heap.lt_size hTO
      · obtain ⟨_, e, _⟩ := h1; exact Heap.lt_size e
      · obtain ⟨_, e, _⟩ := h2; exact Heap.lt_size e
    have I1 : Inv X pins σ (upd H s.heap.objs.size (.tup [x, y])) { s with heap := s.heap.push { cls := .type "tuple", data := .seq #[u, v] } } := I.laid (t' := s.toks) (o := .tup [x, y]) (fun b o e => Heap.get?_push_of_some _ e) (Nat.le_refl _) ⟨szl (by show 2 ≤ 1000000; decide), [u, v], .cons ru (.cons rv .nil), IsTupN.new _ _⟩
    have I2 : Inv X pins σ (upd H s.heap.objs.size (.tup [x, y])) { s with heap := h3 } := by
      refine Inv.turnedL (s := { s with heap := s.heap.push { cls := .type "tuple", data := .seq #[u, v] } }) (h' := h3) (ch := [z, TI, TO, i1, i2]) (t' := s.toks) I1 (fun b o hb q => ?_) (fun b hb => ?_)
      · simp only [List.mem_cons, List.not_mem_nil, or_false, not_or] at hb
        obtain ⟨n1, n2, n3, n4, n5⟩ := hb
        show h3.get? b = some o
        rw [hs3.2 b n1]
        rcases Heap.get?_push_cases q with ⟨rfl, rfl⟩ | q
        · exact hT
        · exact hk b o n1 n3 n4 n5 q
      · obtain ⟨f0, f1, f2, f3, f4, f5⟩ := hf b hb
        exact ⟨by rw [upd_ne (Nat.ne_of_lt (lts b hb))]; exact f0, f1, f2, f3, f4, f5⟩
    have k3 : ∀ c, c ≠ z → ∀ o, hh.get? c = some o → h3.get? c = some o := fun c hc o e => (hs3.2 c hc).trans e
    refine ⟨.ref s.heap.objs.size, _, I2, rfl, ⟨x, y, _, fun zs hy => by rw [I.list_inj hy hq1]; exact hx, fun zs hy' => by rw [I.list_inj hy' hq2]; exact hy, hTn, rfl, rfl⟩, ⟨hz3, k3 TI D.TIz _ (hk TI _ D.TIz D.TITO D.TIi1 D.TIi2 hTI), ⟨u, v, k3 TO D.TOz _ hTO'⟩, h1'.at (k3 i1 D.i1z), h2'.at (k3 i2 D.i2z)⟩, fun b hb => ?_⟩
    rw [upd_ne (Nat.ne_of_lt (lts b hb))]
    exact (hf b hb).1
  done := by
    intro X hP hw hK hc i pins s σ H E I hf st hg
    subst hP hw hK
    obtain ⟨xs, ys, hq1, hq2, hl⟩ := hg
    obtain ⟨its1, rv1, p1, _⟩ := I.list hq1
    obtain ⟨its2, rv2, p2, _⟩ := I.list hq2
    obtain ⟨hz, hTI, ⟨pa, qa, hTO⟩, h1, h2⟩ := st
    have hl1 := rv1.length
    have hl2 := rv2.length
    refine wpAny_pyNext_zip_end (I.ok.hd hc) D hz hTI hTO h1 h2 p1.isList p2.isList (hl.imp (fun z => by simp; omega) (fun z => by simp; omega)) fun h' hk => ⟨rfl, ?_⟩
    refine I.turnedL (ch := [z, TI, TO, i1, i2]) (t' := s.toks) (fun b o hb q => ?_) hf
    simp only [List.mem_cons, List.not_mem_nil, or_false, not_or] at hb
    obtain ⟨n1, n2, n3, n4, n5⟩ := hb
    exact hk b o n1 n3 n4 n5 q
  self := fun _ _ _ _ _ st h => by
    obtain ⟨hz, _⟩ := st
    exact wpAny_pyIter_zip hz h
noncomputable def iZip (K : PySem.W.Frag) (ta : TA) : TI := fun σ H R => ta σ H fun vs H1 => ∃ a b : Addr, vs = [.ref a, .ref b] ∧ (∃ xs, SqL K H1 a xs) ∧ (∃ ys, SqL K H1 b ys) ∧ R (Itz K a b) H1
theorem pi_zip2 {X : Cx} {a b : Expr} {ta : TA} {p pos : Pos} {elts : List Expr} {x1 : Nat} {pos2 : Pos} (hg : Gl X "zip") (hm : X.mg "zip" = none) (ha : PA X [a, b] ta) (hs : starEach [a, b] X.env = [(false, eval a X.env), (false, eval b X.env)] := by rfl) (hs2 : starEach [b] X.env = [(false, eval b X.env)] := by rfl) :
    PI X (.Tuple elts x1 pos2) (.Call (.Name "zip" p) [a, b] [] pos) (iZip X.K ta) := by
  intro pins s σ H R I h
  refine Call_ (ld_blt I hg hm boot_zip (PyProof.Rows.callWith_type1 (thn (ha pos pins s σ H _ I h) fun us s1 ⟨vs, H1, I1, r1, q1⟩ => ?_) (by rw [hs, hs2]) (by rw [hs2]; rfl)))
  obtain ⟨l1, l2, rfl, ⟨xs, hq1⟩, ⟨ys, hq2⟩, q⟩ := q1
  cases r1 with
  | cons r rr =>
    cases rr with
    | cons r' rr =>
      cases rr
      cases r
      cases r'
      obtain ⟨its1, rv1, p1, _⟩ := I1.list hq1
      obtain ⟨its2, rv2, p2, _⟩ := I1.list hq2
      have lt1 : l1 < s1.heap.objs.size := by obtain ⟨_, e, _⟩ := p1.isList; exact Heap.lt_size e
      have lt2 : l2 < s1.heap.objs.size := by obtain ⟨_, e, _⟩ := p2.isList; exact Heap.lt_size e
      refine call_zip_2 p1.isList p2.isList fun h' hz hTI hTO h1 h2 hsz hk => ?_
      refine wpAny_pyIter_zip hz ?_
      have ne : ∀ {m n : Nat}, m < n → (m : Nat) ≠ n := fun h => Nat.ne_of_lt h
      refine ⟨_, [s1.heap.objs.size + 4, s1.heap.objs.size + 2, s1.heap.objs.size + 3, s1.heap.objs.size, s1.heap.objs.size + 1], _, _, H1, rfl, I1.kept (t' := s1.toks) hk, turn_zip l1 l2 _ _ _ _ _ ⟨?_, ?_, ?_, ?_, ?_, ?_, ?_, ?_, ?_, ?_, ?_, ?_, ?_, ?_, ?_, ?_, ?_, ?_⟩, ⟨hz, hTI, ⟨_, _, hTO⟩, h1, h2⟩, fun b hb => ?_, q⟩
      case refine_19 =>
        simp only [List.mem_cons, List.not_mem_nil, or_false] at hb
        have hb' : s1.heap.objs.size ≤ b := by
          rcases hb with rfl | rfl | rfl | rfl | rfl
          · exact Nat.le_add_right _ 4
          · exact Nat.le_add_right _ 2
          · exact Nat.le_add_right _ 3
          · exact Nat.le_refl _
          · exact Nat.le_add_right _ 1
        exact I1.fpOk hb' (I1.hok.fresh hb')
      all_goals first
        | exact Nat.ne_of_lt lt1
        | exact Nat.ne_of_lt lt2
        | exact Nat.ne_of_lt (Nat.lt_of_lt_of_le lt1 (Nat.le_add_right _ _))
        | exact Nat.ne_of_lt (Nat.lt_of_lt_of_le lt2 (Nat.le_add_right _ _))
        | (show (_ : Nat) ≠ _; omega)
theorem for_zip {K : PySem.W.Frag} {a b : Addr} {xs ys : List V} {g : TG} {tb : TS} {D : Ends} {σ : St} {H : Hp} (hlen : xs.length = ys.length) (Pv : Nat → St → Hp → Prop) (h0 : Pv 0 σ H) (hl : ∀ i σ H, i ≤ xs.length → Pv i σ H → SqL K H a xs ∧ SqL K H b ys)
    (hs : ∀ i x y T σ H, xs[i]? = some x → ys[i]? = some y → Pv i σ H → H T = none → g (.ref T) σ (upd H T (.tup [x, y])) fun σ2 H2 => tb { D with nx := Pv (i + 1), ct := Pv (i + 1), bk := D.nx } σ2 H2) (hd : ∀ σ H, Pv xs.length σ H → D.nx σ H) :
    ∃ W : Nat → Nat → St → Hp → Prop, (∃ m, W 0 m σ H) ∧ ∀ i m σ H, W i m σ H →
      ((Itz K a b).stop i H ∧ D.nx σ H) ∨ ((Itz K a b).go i H ∧ ∃ N : St → Hp → Prop, (∀ σ' H', N σ' H' → ∃ m', m' < m ∧ W (i + 1) m' σ' H') ∧ ∀ x H', (Itz K a b).yld i H x H' → g x σ H' fun σ2 H2 => tb { D with nx := N, ct := N, bk := D.nx } σ2 H2) := by
  refine ⟨fun i m σ H => m = xs.length - i ∧ i ≤ xs.length ∧ Pv i σ H, ⟨xs.length, by simp, Nat.zero_le _, h0⟩, ?_⟩
  rintro i m σ H ⟨rfl, hi, p⟩
  obtain ⟨q1, q2⟩ := hl i σ H hi p
  by_cases hlt : i < xs.length
  · refine .inr ⟨⟨xs, ys, xs[i], ys[i], q1, q2, List.getElem?_eq_getElem hlt, List.getElem?_eq_getElem (by omega)⟩, Pv (i + 1), fun σ' H' p' => ⟨xs.length - (i + 1), by omega, rfl, hlt, p'⟩, fun v H' yy => ?_⟩
    obtain ⟨x, y, T, hx, hy, hT, rfl, rfl⟩ := yy
    exact hs i x y T σ H (hx xs q1) (hy ys q2) p hT
  · have e : i = xs.length := by omega
    subst e
    exact .inl ⟨⟨xs, ys, q1, q2, .inl (Nat.le_refl _)⟩, hd σ H p⟩
theorem pe_alt {X : Cx} {e : Expr} {t u : TE} (h1 : PE X e t) (h2 : PE X e u) : PE X e (fun σ H Q => t σ H Q ∨ u σ H Q) := by
  intro pins s σ H Q I h
  exact h.elim (h1 pins s σ H Q I) (h2 pins s σ H Q I)
end L2

set_option Elab.async false
set_option linter.all false
set_option maxRecDepth 100000
set_option maxHeartbeats 4000000
namespace Bd
end Bd
namespace L2
open PySem PySem.Spec PyProof.Rows Bd
section
variable {es : List Expr} {env : Env} {p : Pos}
theorem star_C {c : Const} {n : Nat} : starEach (.Constant c n p :: es) env = (false, eval (.Constant c n p) env) :: starEach es env := rfl
theorem star_N {x : Str} : starEach (.Name x p :: es) env = (false, eval (.Name x p) env) :: starEach es env := rfl
theorem star_B {a b : Expr} {o : Operator} : starEach (.BinOp a o b p :: es) env = (false, eval (.BinOp a o b p) env) :: starEach es env := rfl
theorem star_K {f : Expr} {as : List Expr} {ks : List Keyword} : starEach (.Call f as ks p :: es) env = (false, eval (.Call f as ks p) env) :: starEach es env := rfl
theorem star_S {a b : Expr} : starEach (.Subscript a b p :: es) env = (false, eval (.Subscript a b p) env) :: starEach es env := rfl
theorem star_L {as : List Expr} : starEach (.List as p :: es) env = (false, eval (.List as p) env) :: starEach es env := rfl
end
@[irreducible] def PAq (X : Cx) (es : List Expr) (t : TA) : Prop := PA X es t
section
variable {X : Cx} {e : Expr} {es : List Expr} {te : TE} {t : TA} {pos : Pos}
theorem paq_nil : PAq X [] tNil := by unfold PAq; exact pa_nil
theorem paq_cons (ha : PE X e te) (hr : PAq X es t) (hs : starEach (e :: es) X.env = (false, eval e X.env) :: starEach es X.env) : PAq X (e :: es) (tCons te t) := by unfold PAq at *; exact pa_cons ha hr hs
theorem pe_tupq {x1 : Nat} (h : PAq X es t) : PE X (.Tuple es x1 pos) (tTup t) := by unfold PAq at h; exact pe_tup h
end
theorem while_ix {c : TT} {tb : TS} {D : Ends} {σ : St} {H : Hp} (k : Nat) (Pv : Nat → St → Hp → Prop) (h0 : Pv 0 σ H)
    (hs : ∀ i σ H, i ≤ k → Pv i σ H → c σ H fun b H1 => if b = true then i < k ∧ tb { D with nx := Pv (i + 1), ct := Pv (i + 1), bk := D.nx } σ H1 else D.nx σ H1)
    (mono : ∀ σ H Q Q', (∀ b H1, Q b H1 → Q' b H1) → c σ H Q → c σ H Q') : tWhile c tb D σ H := by
  refine ⟨fun m σ H => ∃ i, i ≤ k ∧ m = k - i ∧ Pv i σ H, ⟨_, 0, Nat.zero_le _, rfl, h0⟩, ?_⟩
  rintro m σ H ⟨i, hi, rfl, p⟩
  refine mono σ H _ _ (fun b H1 q => ?_) (hs i σ H hi p)
  cases b with
  | true => exact ⟨Pv (i + 1), fun σ' H' p' => ⟨k - (i + 1), by have := q.1; omega, i + 1, by have := q.1; omega, rfl, p'⟩, q.2⟩
  | false => exact q
end L2

set_option Elab.async false
set_option linter.all false
set_option maxRecDepth 100000
set_option maxHeartbeats 4000000
namespace Bd
end Bd
namespace L2
open PySem PySem.Spec PyProof.Rows Bd
end L2

set_option Elab.async false
set_option linter.all false
set_option maxRecDepth 100000
set_option maxHeartbeats 4000000
namespace L2
open PySem PySem.Spec PyProof.Rows
open Bd
end L2

set_option Elab.async false
set_option linter.all false
set_option maxRecDepth 100000
set_option maxHeartbeats 4000000
namespace L2
open PySem PySem.Spec PyProof.Rows
noncomputable def spIni (C : Addr) (fs : List Str) : Sp := fun as H Q _ => ∃ (x dx : Addr) (vs : List V), as = .ref x :: vs ∧ vs.length = fs.length ∧ H x = some (.ins C dx []) ∧ ∀ H', (∀ b o, H b = some o → b ≠ x → H' b = some o) → (∃ dx, H' x = some (.ins C dx (fs.zip vs))) → Q .non H'
structure Cs where
  n : Addr
  v : Addr
  c : Addr
  j : Addr
end L2

set_option Elab.async false
set_option linter.all false
set_option maxRecDepth 100000
set_option maxHeartbeats 4000000
namespace PySem
open Builtin
open AutoSeq1 (wpAny_loadPart')
end PySem
namespace L2
open PySem PySem.Spec PyProof.Rows
section
variable {X : Cx}
end
end L2

set_option Elab.async false
set_option linter.all false
set_option maxRecDepth 100000
set_option maxHeartbeats 4000000
namespace L2
open PySem PySem.Spec PyProof.Rows Bd
end L2

set_option Elab.async false
set_option linter.all false
set_option maxRecDepth 100000
set_option maxHeartbeats 4000000
namespace L2
open PySem PySem.Spec PyProof.Rows
section
open PySem.SeqAt
open PySem.AutoSeq1 (wpAny_loadPart')
open PySem.MeetsSeq PySem.MeetsSeq2 PySem.MeetsSeq3
end
end L2

set_option Elab.async false
set_option linter.all false
set_option maxRecDepth 100000
set_option maxHeartbeats 4000000
namespace L2
open PySem PySem.Spec PyProof.Rows
section
variable {prog : Program} {w : World} {A : Around} {E : Value → Shared → Prop} {s : Shared}
end
section
variable {prog : Program} {w : World} {A : Around} {E : Value → Shared → Prop} {s : Shared}
end
end L2

set_option Elab.async false
set_option linter.all false
set_option maxRecDepth 100000
set_option maxHeartbeats 4000000
namespace L2
open PySem PySem.Spec PyProof.Rows
end L2
namespace L2
open PySem PySem.Spec PyProof.Rows
end L2
namespace L2
open PySem PySem.Spec PyProof.Rows
end L2

set_option linter.all false
namespace Fo
variable {W L : Type}
section
variable (hdr : Nat → Bool → W → L) (dl : Nat → Int → List (Int × Int) → L)
end
end Fo
namespace Fo
variable {W L : Type}
end Fo

set_option Elab.async false
set_option linter.all false
set_option maxRecDepth 100000
set_option maxHeartbeats 4000000
namespace L2
open PySem PySem.Spec PyProof.Rows
noncomputable def All2 {α : Type} (R : V → α → Prop) (xs : List V) (as : List α) : Prop := xs.length = as.length ∧ ∀ (i : Nat) (x : V) (a : α), xs[i]? = some x → as[i]? = some a → R x a
theorem All2.nil {α : Type} {R : V → α → Prop} : All2 R [] [] := ⟨rfl, fun i x a h => by simp at h⟩
theorem All2.mono {α : Type} {R S : V → α → Prop} {xs : List V} {as : List α} (h : All2 R xs as) (m : ∀ x a, R x a → S x a) : All2 S xs as := ⟨h.1, fun i x a p q => m _ _ (h.2 i x a p q)⟩
theorem All2.get' {α : Type} {R : V → α → Prop} {xs : List V} {as : List α} {i : Nat} {x : V} (h : All2 R xs as) (hx : xs[i]? = some x) : ∃ a, as[i]? = some a ∧ R x a := by
  have hi : i < as.length := by rw [← h.1]; exact (List.getElem?_eq_some_iff.mp hx).1
  exact ⟨_, List.getElem?_eq_getElem hi, h.2 i x _ hx (List.getElem?_eq_getElem hi)⟩
theorem All2.app {α : Type} {R : V → α → Prop} {xs ys : List V} {as bs : List α} (h : All2 R xs as) (g : All2 R ys bs) : All2 R (xs ++ ys) (as ++ bs) := by
  refine ⟨by rw [List.length_append, List.length_append, h.1, g.1], fun i x a p q => ?_⟩
  by_cases l : i < xs.length
  · rw [List.getElem?_append_left l] at p
    rw [List.getElem?_append_left (by rw [← h.1]; exact l)] at q
    exact h.2 i x a p q
  · rw [List.getElem?_append_right (by omega)] at p
    rw [List.getElem?_append_right (by have := h.1; omega)] at q
    rw [h.1] at p
    exact g.2 _ x a p q
theorem All2.one {α : Type} {R : V → α → Prop} {x : V} {a : α} (h : R x a) : All2 R [x] [a] := ⟨rfl, fun i y b p q => by
  cases i with
  | zero => cases p; cases q; exact h
  | succ i => simp at p⟩
theorem All2.snoc {α : Type} {R : V → α → Prop} {xs : List V} {as : List α} {x : V} {a : α} (h : All2 R xs as) (g : R x a) : All2 R (xs ++ [x]) (as ++ [a]) := h.app (.one g)
end L2

set_option Elab.async false
set_option linter.all false
set_option maxRecDepth 100000
set_option maxHeartbeats 4000000
namespace L2
open PySem PySem.Spec PyProof.Rows
noncomputable def TK (H H' : Hp) : Prop := ∀ (b : Addr) (xs : List V), H b = some (.tup xs) → H' b = some (.tup xs)
theorem Same.tk {H H' : Hp} (e : Same H H') : TK H H' := fun b xs h => e b _ h
noncomputable def ME (t : TE) : Prop := ∀ (σ : St) (H : Hp) (Q Q' : VK), (∀ v H1, Q v H1 → Q' v H1) → t σ H Q → t σ H Q'
noncomputable def MT (t : TT) : Prop := ∀ σ H Q Q', (∀ b H1, Q b H1 → Q' b H1) → t σ H Q → t σ H Q'
noncomputable def MA (t : TA) : Prop := ∀ σ H Q Q', (∀ b H1, Q b H1 → Q' b H1) → t σ H Q → t σ H Q'
noncomputable def MR (r : R2) : Prop := ∀ (x y : V) (H : Hp) (Q Q' : VK), (∀ v H1, Q v H1 → Q' v H1) → r x y H Q → r x y H Q'
noncomputable def MB (r : List V → Hp → VK → Prop) : Prop := ∀ (vs : List V) (H : Hp) (Q Q' : VK), (∀ v H1, Q v H1 → Q' v H1) → r vs H Q → r vs H Q'
theorem ME.var (i : Nat) : ME (tVar i) := fun σ H Q Q' hq ⟨v, h, k⟩ => ⟨v, h, hq _ _ k⟩
theorem ME.c (v : V) : ME (tC v) := fun σ H Q Q' hq h => hq _ _ h
theorem ME.op {r : R2} {a b : TE} (hr : MR r) (ha : ME a) (hb : ME b) : ME (tOp r a b) := fun σ H Q Q' hq h => ha _ _ _ _ (fun x H1 k => hb _ _ _ _ (fun y H2 k => hr _ _ _ _ _ hq k) k) h
theorem ME.cb {r : List V → Hp → VK → Prop} {t : TA} (hr : MB r) (h : MA t) : ME (tCB r t) := fun σ H Q Q' hq k => h _ _ _ _ (fun xs H1 m => hr _ _ _ _ hq m) k
theorem MA.nil : MA tNil := fun σ H Q Q' hq h => hq _ _ h
theorem MA.cons {t : TE} {u : TA} (ht : ME t) (hu : MA u) : MA (tCons t u) := fun σ H Q Q' hq h => ht _ _ _ _ (fun x H1 k => hu _ _ _ _ (fun xs H2 m => hq _ _ m) k) h
theorem MT.test {t : TE} (h : ME t) : MT (tTest t) := fun σ H Q Q' hq k => h _ _ _ _ (fun x H1 ⟨b, e, m⟩ => ⟨b, e, hq _ _ m⟩) k
theorem MR.i0 (g : Int → Int → V) : MR (rI0 g) := fun x y H Q Q' hq ⟨i, j, a, b, d⟩ => ⟨i, j, a, b, hq _ _ d⟩
theorem MB.len {P R : Hp → Addr → List V → Prop} : MB (fun xs H Q => ∃ p ys, xs = [V.ref p] ∧ (P H p ys ∨ R H p ys) ∧ Q (V.int (ys.length : Int)) H) := fun vs H Q Q' hq ⟨p, ys, a, b, c⟩ => ⟨p, ys, a, b, hq _ _ c⟩
end L2

set_option Elab.async false
set_option linter.all false
set_option maxRecDepth 100000
set_option maxHeartbeats 4000000
namespace EX
open PySem PySem.Spec PyProof.Rows
end EX
namespace L2
open PySem PySem.Spec PyProof.Rows EX

section
variable {P : Program} {w : World} {H : Hp} {h : Heap} {a C : Addr} {d : Option Addr}
end
section
variable {X : Cx} {pins : List (Addr × Obj)} {σ : St} {H : Hp} {s : Shared} {a C : Addr} {d : Option Addr}
end

section
variable {X : Cx}
variable {P : Program} {w : World} {K : PySem.W.Frag} {mg : Str → Option Value} {base : Heap} {N : List Str} {qual : Str} {scope : Scope} {f : Addr} {cd : Value} {A : Around} {outer : List Env} {s₀ : Shared} {H₀ : Hp} {E : XK}
end

section
variable {P : Program} {w : World} {K : PySem.W.Frag} {mg : Str → Option Value} {base : Heap}
end

section
variable {X : Cx} {Ek : St → XK} {e : Expr} {te : TE} {pos : Pos}
end
end L2

set_option Elab.async false
set_option linter.all false
set_option maxRecDepth 100000
set_option maxHeartbeats 4000000
namespace EX
open PySem PySem.Spec PyProof.Rows
end EX
namespace L2
open PySem PySem.Spec PyProof.Rows EX

section
variable {X : Cx} {pins pins' : List (Addr × Obj)} {σ : St} {H : Hp} {s : Shared} {a : Addr} {xe : Value → Shared → Prop} {pn : List (Addr × Obj)}
end

section
variable {X : Cx} {x n : Str} {np pos : Pos} {Dc : Addr} {b₀ : Stmt} {suite : List Stmt} {rest : List ExceptHandler} {ts : Addr → TS} {th : Addr → Addr → Option Addr → TS}

end

section
variable {X : Cx} {k : Nat} {f C : Addr} {fd : FuncData} {ps : List Str} {sp : Sp} {dvs : List V} {ds : List Value} {Ek : St → XK} {x : Str} {p pos : Pos} {e : Expr} {es : List Expr} {t : TA}
end
end L2

set_option Elab.async false
set_option linter.all false
set_option maxRecDepth 100000
set_option maxHeartbeats 4000000
namespace EX
open PySem PySem.Spec PySem.Calls PyProof.Rows PySem.W
section
variable {prog : Program} {w : World} {A : Around} {h : Heap} {g : Array GenState} {d : Drawn} {t : Nat} {os : OsState} {R : Result → Shared → Prop} {C N : Addr} {bm : List Value}
end
end EX
namespace L2
open PySem PySem.Spec PyProof.Rows EX

section
variable {X : Cx} {pins : List (Addr × Obj)} {σ : St} {H : Hp} {s : Shared} {M : Model} {A : Around} {E : Value → Shared → Prop}
end

section
variable {X : Cx} {x n : Str} {np pos : Pos} {Dc : Addr} {b₀ : Stmt} {suite : List Stmt} {rest : List ExceptHandler} {ts : Addr → TS} {th : Addr → Addr → Option Addr → TS} {i : Nat}
end

section
variable {X : Cx} {k : Nat} {f C : Addr} {fd : FuncData} {ps : List Str} {sp : Sp} {CX : CXT} {E : XK} {x : Str} {p pos : Pos} {e : Expr} {es : List Expr} {t : TA}
end
end L2

set_option Elab.async false
set_option linter.all false
set_option maxRecDepth 100000
set_option maxHeartbeats 4000000
namespace L2
open PySem PySem.Spec PyProof.Rows EX

section
variable {X : Cx} {e o : Expr} {ta tv : TE} {f x : Str} {pos pos' p apos : Pos}
end
end L2

set_option Elab.async false
set_option linter.all false
set_option maxRecDepth 100000
set_option maxHeartbeats 4000000
namespace L2
open PySem PySem.Spec PyProof.Rows
end L2
namespace HT
open PySem PySem.Spec PyProof.Rows L2
section
variable {prog : Program} {w : World} {A : Around} {E : Value → Shared → Prop} {s : Shared}
end
end HT
namespace L2
open PySem PySem.Spec PyProof.Rows
end L2

set_option Elab.async false
set_option linter.all false
set_option maxRecDepth 100000
set_option maxHeartbeats 4000000
namespace L2
open PySem PySem.Spec PyProof.Rows

end L2

set_option Elab.async false
set_option linter.all false
set_option maxRecDepth 100000
set_option maxHeartbeats 4000000
namespace L2
open PySem PySem.Spec PyProof.Rows
section
variable {X : Cx} {pins : List (Addr × Obj)} {s : Shared} {σ : St} {H : Hp}
end
end L2

set_option linter.all false
namespace Wv
variable {α : Type}
end Wv
set_option Elab.async false
set_option linter.all false
set_option maxRecDepth 100000
set_option maxHeartbeats 4000000
namespace L2
open PySem PySem.Spec PyProof.Rows
section
variable {X : Cx} {es : List Expr} {env : Env} {p : Pos}
end
section
variable {X : Cx} {pins : List (Addr × Obj)} {σ : St} {H : Hp} {s : Shared}
end
end L2

set_option Elab.async false
set_option linter.all false
set_option maxRecDepth 100000
set_option maxHeartbeats 4000000
namespace L2
open PySem PySem.Spec PyProof.Rows EX

section
variable {P : Program} {w : World} {K : PySem.W.Frag} {mg : Str → Option Value} {base : Heap}
end
section
variable {X : Cx} {k : Nat} {f : Addr} {fd : FuncData} {ps : List Str} {sp : Sp} {x : Str} {p pos : Pos} {e : Expr} {es : List Expr} {t : TA}
end
end L2

set_option Elab.async false
set_option linter.all false
set_option maxRecDepth 100000
set_option maxHeartbeats 4000000
namespace L2
open PySem PySem.Spec PyProof.Rows
end L2

set_option Elab.async false
set_option linter.all false
set_option maxRecDepth 100000
set_option maxHeartbeats 4000000
namespace L2
open PySem PySem.Spec PyProof.Rows EX

end L2

set_option Elab.async false
set_option linter.all false
set_option maxRecDepth 100000
set_option maxHeartbeats 4000000
namespace L2
open PySem PySem.Spec PyProof.Rows
structure LawTab (base : Heap) (mg : Str → Option Value) (c Pt : Addr) : Prop where
  hd : PySem.W.CodeHd base c Pt
  bm : ∃ bm ob, mg "__builtins__" = some (.ref bm) ∧ bm ≠ builtinsNs ∧ base.get? bm = some ob ∧ ob.cls = .type "module" ∧ ob.dict = some builtinsNs ∧ ob.data = .plain
theorem law_callT {P : Program} {w : World} {K : PySem.W.Frag} {mg mb : Str → Option Value} {CX : CXT} {k : Nat} {fa a c Pt : Addr} {fd : FuncData} {x : Str} {sp : Sp} {s₁ : Shared} {vs : List Value} {ns : List Int}
    (KX : K.In s₁.heap) (hns : s₁.heap.Ns mainGlobals mg) (hb : s₁.heap.Ns builtinsNs mb) (hbb : ∀ x : Str, x ≠ "__name__" → mb x = bootBuiltins x) (hlim : s₁.heap.NoLimit) (hg : s₁.gens = #[])
    (hC : PySem.W.CodeHd s₁.heap c Pt) (hP : s₁.heap.get? Pt = some (PySem.W.tabObj #[])) (hKP : K.lookup Pt = none)
    (ha : s₁.heap.get? a = some { cls := .type "list", data := .seq vs.toArray }) (hi : IntsAre vs ns) (hl : ns.length ≤ sizeLine) (hr : Room k callerA)
    (hbm : ∃ bm ob, mg "__builtins__" = some (.ref bm) ∧ bm ≠ builtinsNs ∧ s₁.heap.get? bm = some ob ∧ ob.cls = .type "module" ∧ ob.dict = some builtinsNs ∧ ob.data = .plain)
    (F : ∀ base : Heap, K.In base → base.Ns mainGlobals mg → LawTab base mg c Pt → FnOk P w K mg base CX k fa fd [x] sp) (hbind : ∀ (s : Shared) (u : Value), BindsTo s fd ⟨[u], []⟩ [(x, u)])
    (hsp : ∀ H : Hp, H Pt = some (.tbl #[]) → SqL K H a (ns.map V.int) → sp [.ref a] H (fun v _ => v = .bl true) fun _ _ _ => False)
    (hCX : ∀ H e s', CX [] H s₁ (fun _ _ _ => False) e s' → False) :
    codeAny (model P w) callerA (.call (.ref fa) ⟨[.ref a], []⟩) (fun r s' => r = .ok (.ret (.bool true)) ∧ OldK s₁.heap s'.heap ∧ s'.os = s₁.os ∧ AllBare s'.gens) s₁ := by
  have rv := vals_ints hi
  have lenV := hi.length
  have naP : a ≠ Pt := fun z => by rw [z, hP] at ha; cases ha
  have core : ∀ H : Hp, (∀ b, H b = none ∨ (∃ o xs, H b = some (.frz o (.lst xs))) ∨ b = Pt) → H Pt = some (.tbl #[]) → SqL K H a (ns.map V.int) → HOk P w H s₁.heap → (∀ b, H b ≠ none → b = a ∨ b = Pt) → (H a ≠ none → K.lookup a = none) →
      codeAny (model P w) callerA (.call (.ref fa) ⟨[.ref a], []⟩) (fun r s' => r = .ok (.ret (.bool true)) ∧ OldK s₁.heap s'.heap ∧ s'.os = s₁.os ∧ AllBare s'.gens) s₁ := by
    intro H hO hT hS hok hA hK
    have base_of : ∀ {b : Addr} {o : Obj}, s₁.heap.get? b = some o → H b = none → (hidT s₁.heap H).get? b = some o := fun e n => hidT_get e n
    have noA : ∀ {b : Addr} {o : Obj}, s₁.heap.get? b = some o → o.cls ≠ .none → o.cls ≠ .type "list" → H b = none := fun {b o} e d1 d2 => by
      cases q : H b with
      | none => rfl
      | some u =>
        rcases hA b (by rw [q]; simp) with e' | e'
        · subst e'
          rw [ha] at e; cases e
          exact absurd rfl d2
        · subst e'
          rw [hP] at e; cases e
          exact absurd rfl d1
    have noD : ∀ {b : Addr} {o : Obj} {es : Array DictEntry} {ep : Nat}, s₁.heap.get? b = some o → o.data = .dict es ep → H b = none := fun {b o es ep} e d => by
      cases q : H b with
      | none => rfl
      | some u =>
        rcases hA b (by rw [q]; simp) with e' | e'
        · subst e'
          rw [ha] at e; cases e
          have d' : Data.seq vs.toArray _ = Data.dict es ep := d
          cases d'
        · subst e'
          rw [hP] at e; cases e
          have d' : Data.fields #[] = Data.dict es ep := d
          cases d'
    have nsK : ∀ {b : Addr} {m : Str → Option Value}, s₁.heap.Ns b m → (hidT s₁.heap H).Ns b m := fun {b m} ⟨o, es, ep, e, d, r⟩ => ⟨o, es, ep, base_of e (noD e d), d, r⟩
    have hKb : K.In (hidT s₁.heap H) := fun b o e => base_of (KX b o e) (by
      cases q : H b with
      | none => rfl
      | some u =>
        rcases hA b (by rw [q]; simp) with e' | e'
        · subst e'
          rw [hK (by rw [q]; simp)] at e; cases e
        · subst e'
          rw [hKP] at e; cases e)
    have hM : Mod K mg (hidT s₁.heap H) := ⟨hKb, nsK hns, ⟨mb, nsK hb, hbb⟩, let ⟨mc, h1, h2⟩ := hlim; ⟨mc, nsK h1, h2⟩⟩
    have hCb : PySem.W.CodeHd (hidT s₁.heap H) c Pt := by
      obtain ⟨o, vs', file, tf, flags, tg, inF, text, tt, e1, e2, r⟩ := hC
      exact ⟨o, vs', file, tf, flags, tg, inF, text, tt, base_of e1 (noA e1 (by rw [e2]; nofun) (by rw [e2]; decide)), e2, r⟩
    have hLT : LawTab (hidT s₁.heap H) mg c Pt := ⟨hCb, let ⟨bm, ob, b1, b2, b3, b4, r⟩ := hbm; ⟨bm, ob, b1, b2, base_of b3 (noA b3 (by rw [b4]; nofun) (by rw [b4]; decide)), b4, r⟩⟩
    have e0 : Env0 P w K mg (hidT s₁.heap H) callerA [] s₁ H := ⟨rfl, hM, fun b o e => of_hidT e, Nat.le_of_eq (hidT_size _ _), trivial, fun b hb => absurd (show b ∈ ([] : List Addr) from hb) (by simp), hok, .of_eq hg⟩
    refine codeAny_mono ((F _ hKb (nsK hns) hLT).run callerA [] s₁ H ⟨[.ref a], []⟩ [.ref a] [.ref a] _ _ hr e0 (hbind s₁ (.ref a)) (.cons rfl .nil) (hsp H hT hS)) fun r s' h => ?_
    cases r with
    | error e => exact (hCX H e s' h).elim
    | ok fl =>
      cases fl with
      | next => exact False.elim h
      | brk => exact False.elim h
      | cont => exact False.elim h
      | ret u =>
        obtain ⟨v, H', os, bare, un, hok', r', q⟩ := h
        have q' : v = .bl true := q
        subst q'
        obtain rfl : u = Value.bool true := r'
        have kp : ∀ b o, b ≠ Pt → s₁.heap.get? b = some o → s'.heap.get? b = some o := fun b o nb e => by
          cases q : H b with
          | none => exact un.keep b o e q (by intro z; exact absurd (show b ∈ ([] : List Addr) from z) (by simp)) (by simp)
          | some u =>
            rcases hO b with z | ⟨ob, xs, z⟩ | z
            · rw [q] at z; cases z
            · have z2 := un.frzs b ob _ z
              obtain ⟨e1, _⟩ := hok b _ z
              obtain ⟨e2, _⟩ := hok' b _ z2
              rw [e] at e1; cases e1
              exact e2
            · exact absurd z nb
        obtain ⟨more, hm⟩ := un.tbls Pt _ hT
        have hP' : s'.heap.get? Pt = some (PySem.W.tabObj (#[] ++ more)) := hok' Pt _ hm
        refine ⟨rfl, ⟨fun b o e => ?_, fun b o e => ?_⟩, os, bare⟩
        · by_cases hb : b = Pt
          · subst hb
            rw [hP] at e
            cases e
            exact .inr (.inl ⟨(hC.tab hP).isCodeTable, rfl, #[], more, rfl, hP'⟩)
          · exact .inl (kp b o hb e)
        · by_cases hb : b = Pt
          · exact ⟨_, hb ▸ hP'⟩
          · exact ⟨o, kp b o hb e⟩
  have okT : ∀ H : Hp, ObjOk P w H s₁.heap Pt (.tbl #[]) := fun H => hP
  cases hk : K.lookup a with
  | some o =>
    have e := KX a o hk
    rw [ha] at e
    cases e
    refine core (fun b => if b = Pt then some (.tbl #[]) else none) (fun b => ?_) (if_pos rfl) (.inr ⟨_, vs.toArray, _, hk, rfl, rfl, rfl, by rw [List.size_toArray, lenV]; exact hl, by simpa using rv⟩) (fun b u z => ?_) (fun b z => ?_) fun z => absurd (if_neg naP) z
    · by_cases hb : b = Pt
      · exact .inr (.inr hb)
      · exact .inl (if_neg hb)
    · by_cases hb : b = Pt
      · have z' := (if_pos hb).symm.trans z
        cases z'
        subst hb
        exact okT _
      · have z' := (if_neg hb).symm.trans z
        cases z'
    · by_cases hb : b = Pt
      · exact .inr hb
      · exact absurd (if_neg hb) z
  | none =>
    refine core (fun b => if b = Pt then some (.tbl #[]) else if b = a then some (.frz { cls := .type "list", data := .seq vs.toArray } (.lst (ns.map V.int))) else none) (fun b => ?_) (if_pos rfl) (.inl (.inr ⟨{ cls := .type "list", data := .seq vs.toArray }, (if_neg naP).trans (if_pos rfl)⟩)) (fun b u z => ?_) (fun b z => ?_) fun _ => hk
    · by_cases hp : b = Pt
      · exact .inr (.inr hp)
      · by_cases hb : b = a
        · exact .inr (.inl ⟨_, _, (if_neg hp).trans (if_pos hb)⟩)
        · exact .inl ((if_neg hp).trans (if_neg hb))
    · by_cases hp : b = Pt
      · have z' := (if_pos hp).symm.trans z
        cases z'
        subst hp
        exact okT _
      · by_cases hb : b = a
        · have z' := ((if_neg hp).trans (if_pos hb)).symm.trans z
          cases z'
          subst hb
          exact ⟨ha, by rw [List.length_map]; exact hl, vs, _, rv, ha⟩
        · have z' := ((if_neg hp).trans (if_neg hb)).symm.trans z
          cases z'
    · by_cases hp : b = Pt
      · exact .inr hp
      · by_cases hb : b = a
        · exact .inl hb
        · exact absurd ((if_neg hp).trans (if_neg hb)) z
noncomputable def spLawT (K : PySem.W.Frag) (Pt : Addr) : Sp := fun vs H Q _ => ∃ (a : Addr) (ns : List Int), vs = [.ref a] ∧ SqL K H a (ns.map V.int) ∧ ns.length ≤ 63 ∧ H Pt = some (.tbl #[]) ∧ ∀ H', Q (.bl true) H'
theorem law_walkT {l : PySem.W.OpenLaw} {q : Program} {loose : List Str} {XP : (Str → Option Value) → Heap → Prop} {YP : World → Heap → Prop} {d : DefRec} {K : Params → PySem.W.Frag} {x : Str} (k : Nat) (hk : k ≤ 200) (hn : l.most = some 63) (hdf : d.params.defaults = [])
    (hrec : (recsOf q).find? (fun e => e.name == d.name) = some d)
    (hY : ∀ (w : World) (h : Heap), YP w h → (K w.params).In h)
    (F : ∀ (w : World) (mg : Str → Option Value) (fa : Addr) (h : Heap), (K w.params).In h → h.Ns mainGlobals mg → mg d.name = some (.ref fa) →
      ∃ (fd : FuncData) (c Pt : Addr), PySem.W.tabIn (K w.params) d.name = some (c, Pt) ∧ (K w.params).lookup Pt = none ∧ (∀ (s : Shared) (u : Value), BindsTo s fd ⟨[u], []⟩ [(x, u)]) ∧ ∀ base : Heap, (K w.params).In base → base.Ns mainGlobals mg → LawTab base mg c Pt → FnOk l.prog w (K w.params) mg base CX0 k fa fd [x] (spLawT (K w.params) Pt)) :
    PySem.W.WalkO q loose XP YP l.row.toRowW d [] (fun f vs => PySem.call f vs) := by
  refine Att.attach_call hn hdf fun w s₀ s₁ mg mb fa o pm cd doc a vs ns G Y ho hd hcd hmg hobj hints hlen hg => ?_
  have KX := hY w _ Y
  obtain ⟨fd, c, Pt, ht, hkp, hb, hF⟩ := F w mg fa _ KX G.T.g hmg
  obtain ⟨hC, hP⟩ := PySem.W.tab_of G.T KX hrec ht
  have hr : Room k callerA := ⟨rfl, by have : callerA.depth + 605 < recursionLimit := by decide
                                       omega, by have : callerA.units + 3400 < cLine := by decide
                                                 omega, rfl⟩
  exact law_callT KX G.T.g G.T.b G.T.builtins G.T.nolimit hg hC hP hkp hobj hints (Nat.le_trans hlen (by decide)) hr G.T.bmain hF hb (fun H hT hS => ⟨a, ns, rfl, hS, hlen, hT, fun _ => rfl⟩) fun _ _ _ z => z
end L2

set_option Elab.async false
set_option linter.all false
set_option maxRecDepth 100000
set_option maxHeartbeats 4000000
namespace L2
open PySem PySem.Spec PyProof.Rows
section
variable {X : Cx} {pins : List (Addr × Obj)} {σ : St} {H : Hp} {s : Shared} {h' : Heap} {c Pt : Addr} {ps : Array Value}
theorem Inv.grown {t' : Nat} {more : Array Value} (I : Inv X pins σ H s) (hT : H Pt = some (.tbl ps)) (k : ∀ b u, b ≠ Pt → s.heap.get? b = some u → h'.get? b = some u) (hp : h'.get? Pt = some (PySem.W.tabObj (ps ++ more))) :
    Inv X pins σ (upd H Pt (.tbl (ps ++ more))) { s with heap := h', toks := t' } := by
  have nP : ∀ b u, H b = some u → (∀ z, u ≠ .tbl z) → b ≠ Pt := fun b u e n z => by rw [z, hT] at e; cases e; exact n _ rfl
  have n0 : ∀ b, H b = none → b ≠ Pt := fun b e z => by rw [z, hT] at e; cases e
  refine I.un ⟨fun b o e n _ _ => k b o (n0 b n) e, fun b o e n _ _ => ⟨o.slots, k b o (n0 b n) e⟩, fun b o e n _ => by rw [upd_ne (n0 b n)]; exact n, fun b o e _ => ?_, fun b xs e => by rw [upd_ne (nP b _ e fun _ => by simp)]; exact e, fun b o u e => by rw [upd_ne (nP b _ e fun _ => by simp)]; exact e, fun b qs e => ?_⟩ fun b u e => ?_
  · by_cases hb : b = Pt
    · exact ⟨_, hb ▸ hp⟩
    · exact ⟨o, k b o hb e⟩
  · by_cases hb : b = Pt
    · subst hb
      rw [hT] at e
      cases e
      exact ⟨more, upd_same⟩
    · exact ⟨#[], by rw [upd_ne hb, e]; simp⟩
  · by_cases hb : b = Pt
    · subst hb
      rw [upd_same] at e
      cases e
      exact hp
    · rw [upd_ne hb] at e
      refine (I.hok b u e).stay (fun c v hc q => k c v ?_ q) (fun c q => ?_) fun c xs q => ?_
      · rcases hc with z | z
        · rw [z]; exact hb
        · exact nP _ _ z fun _ => by simp
      · rw [upd_ne (nP _ _ q fun _ => by simp)]; exact q
      · rw [upd_ne (nP _ _ q fun _ => by simp)]; exact q
end
end L2

set_option Elab.async false
set_option linter.all false
set_option maxRecDepth 100000
set_option maxHeartbeats 4000000
namespace L2
open PySem PySem.Spec PyProof.Rows EX
end L2

set_option Elab.async false
set_option linter.all false
set_option maxRecDepth 100000
set_option maxHeartbeats 4000000
namespace Bd
open PySem L2
end Bd
namespace L2
open PySem PySem.Spec PyProof.Rows EX Bd
end L2

set_option Elab.async false
set_option linter.all false
set_option maxRecDepth 100000
set_option maxHeartbeats 4000000
namespace L2
open PySem PySem.Spec PyProof.Rows Bd
section
variable {X : Cx} {x : Str} {p pos : Pos} {e : Expr} {te : TE}
end
end L2

set_option Elab.async false
set_option linter.all false
set_option maxRecDepth 100000
set_option maxHeartbeats 4000000
namespace L2
open PySem PySem.Spec PyProof.Rows Bd
section
variable {P : Program} {w : World} {K : PySem.W.Frag} {mg : Str → Option Value} {base : Heap}
theorem Fun.okT {x qual : Str} {st : Stmt} {f c Pt : Addr} {fd : FuncData} {N ps : List Str} {k : Nat} {sp : Sp} (F : Fun K x qual st f fd) (hn : PySem.W.nsIn K mainGlobals x = some (some (.ref f))) (ht : PySem.W.tabIn K x = some (c, Pt)) (S : FnScope N ps (defScope st)) (len : ∀ vs H Q E, sp vs H Q E → vs.length = ps.length)
    (hbody : ∀ (A : Around) (outer : List Env) (s : Shared) (H : Hp) (vs : List V) (Q : VK) (E : XK), Room k (A.deeper (envOfC qual (defScope st) s.heap.objs.size f (.ref c))) → sp vs H Q E →
      ∃ t, PSs (cxOf CX0 P w K mg base N qual (defScope st) f (.ref c) A outer s H E).nox (defBody st) t ∧ t { nx := fun _ H' => Q .non H', rt := Q } (start N vs) H) : FnOk P w K mg base CX0 (k + 1) f fd ps sp := by
  obtain ⟨oc, od, kV, doc, pm, an, cdv, ct, osl, rfl, lk, hcd⟩ := F.ex
  have e : cdv = .ref c := by
    unfold PySem.W.tabIn at ht
    rw [hn] at ht
    dsimp only at ht
    rw [lk] at ht
    dsimp only at ht
    split at ht
    · split at ht
      · split at ht
        · cases ht; rfl
        · cases ht
      · cases ht
    · cases ht
  subst e
  refine fn_of lk hcd S len fun A outer s H vs Q E hr hsp => ?_
  obtain ⟨t, h, q⟩ := hbody A outer s H vs Q E hr hsp
  exact ⟨t, h.nox, q⟩
noncomputable def tabP (o : Obj) : Option Addr := match o.data with
  | .fields vs => (match (vs[11]? : Option Value) with
    | some (.ref P) => some P
    | _ => none)
  | _ => none
theorem tab_mk {x : Str} {f c Pt : Addr} {oc : Value} {od : Option Addr} {fd : FuncData} {sl : Array (Option Value)} {o : Obj} (a : PySem.W.nsIn K mainGlobals x = some (some (.ref f))) (l : K.lookup f = some ⟨oc, od, .func fd, sl⟩) (hc : fd.code = .ref c) (lc : K.lookup c = some o) (v : tabP o = some Pt) : PySem.W.tabIn K x = some (c, Pt) := by
  unfold PySem.W.tabIn
  rw [a]
  dsimp only
  rw [l]
  dsimp only
  rw [hc]
  dsimp only
  rw [lc]
  obtain ⟨o1, o2, o3, o4⟩ := o
  unfold tabP at v
  dsimp only at v
  split at v
  · rename_i vs hv
    split at v
    · rename_i P2 hP
      cases v
      dsimp only
      rw [hP]
    · cases v
  · cases v
noncomputable def hasNo (K : PySem.W.Frag) (b : Addr) : Bool := (K.lookup b).isNone
theorem hasNo_of {b : Addr} (h : hasNo K b = true) : K.lookup b = none := Option.isNone_iff_eq_none.mp h
end
end L2

set_option Elab.async false
set_option linter.all false
set_option maxRecDepth 100000
set_option maxHeartbeats 4000000
namespace L2
open PySem PySem.Spec PyProof.Rows
noncomputable def bigB (h : Heap) (H : Hp) (l : List Env) : Heap := PySem.W.hideAll h (trk h H ++ frs l)
theorem bigB_get {h : Heap} {H : Hp} {l : List Env} {b : Addr} {o : Obj} (e : h.get? b = some o) (n : H b = none) (hf : b ∉ frs l) : (bigB h H l).get? b = some o :=
  PySem.W.hideAll_get _ e fun hm => by
    rcases List.mem_append.mp hm with z | z
    · have q : (H b).isSome = true := (List.mem_filter.mp z).2
      rw [n] at q; simp at q
    · exact hf z
theorem of_bigB {h : Heap} {H : Hp} {l : List Env} {b : Addr} {o : Obj} (e : (bigB h H l).get? b = some o) : h.get? b = some o ∧ H b = none ∧ b ∉ frs l := by
  have e' : h.get? b = some o := PySem.W.of_hideAll _ e
  have no : ∀ {z}, z ∈ trk h H ++ frs l → b ≠ z := fun {z} hz q => by
    subst q
    have := PySem.W.hideAll_none (h := h) _ hz
    unfold bigB at e
    rw [this] at e
    cases e
  refine ⟨e', ?_, fun z => no (List.mem_append_right _ z) rfl⟩
  cases q : H b with
  | none => rfl
  | some x => exact absurd rfl (no (List.mem_append_left _ (List.mem_filter.mpr ⟨List.mem_range.mpr (Heap.lt_size e'), by simp [q]⟩)))
theorem bigB_frames {h base : Heap} {H : Hp} (l0 : List Env) : ∀ {l : List Env}, h.FunFrames base l → (∀ b ∈ frs l, b ∈ frs l0) → h.FunFrames (bigB h H l0) l
  | [], _, _ => trivial
  | env :: r, hl, hs => by
    obtain ⟨hk, ⟨L, o, hf, hn, ho, hd⟩, hr⟩ := hl
    have hL : L ∈ frs l0 := hs L (by unfold frs; rw [List.filterMap_cons, hf]; exact List.mem_cons_self)
    refine ⟨hk, ⟨L, o, hf, PySem.W.hideAll_none _ (List.mem_append_right _ hL), ho, hd⟩, bigB_frames l0 hr fun b hb => hs b ?_⟩
    unfold frs
    rw [List.filterMap_cons, hf]
    exact List.mem_cons_of_mem _ hb
section
variable {X : Cx} {pins : List (Addr × Obj)} {σ : St} {H : Hp} {s : Shared}
theorem Inv.bigs (I : Inv X pins σ H s) : ∀ b o, X.base.get? b = some o → (bigB s.heap H X.stack).get? b = some o := fun b o e => by
  obtain ⟨e1, e2⟩ := I.bs b o e
  refine bigB_get e1 e2 fun z => ?_
  have := (I.stack.mem z).1
  rw [e] at this
  cases this
theorem Inv.envB (I : Inv X pins σ H s) : Env0 X.prog X.w X.K X.mg (bigB s.heap H X.stack) X.A X.stack s H :=
  ⟨I.ok.frames, ⟨I.ok.mod.kin.keeps I.bigs, I.ok.mod.glob.keeps I.bigs, let ⟨mb, h1, h2⟩ := I.ok.mod.blt; ⟨mb, h1.keeps I.bigs, h2⟩, I.ok.mod.nolimit.keeps I.bigs⟩,
    fun b o e => ⟨(of_bigB e).1, (of_bigB e).2.1⟩, Nat.le_of_eq (PySem.W.hideAll_size _ _), bigB_frames X.stack I.stack fun _ z => z, I.stkFree, I.hok, I.bare⟩
end
end L2

set_option Elab.async false
set_option linter.all false
set_option maxRecDepth 100000
set_option maxHeartbeats 4000000
namespace L2
open PySem PySem.Spec PyProof.Rows
structure CloScope (ps fns : List Str) (sc : Scope) : Prop where
  kind : sc.kind = .function
  co : sc.isCoroutine = false
  gen : sc.isGenerator = false
  nd : (ps ++ fns).Nodup
  par : ∀ x ∈ ps, sc.names.lookup x = some .local
  fre : ∀ x ∈ fns, sc.names.lookup x = some .free
  nocell : ∀ y ∈ sc.names, y.2 ≠ .cell
noncomputable def cloCx (P : Program) (w : World) (K : PySem.W.Frag) (mg : Str → Option Value) (base : Heap) (N : List Str) (qual : Str) (scope : Scope) (f : Addr) (cd : Value) (clos : List (Str × Addr)) (A : Around) (outer : List Env) (s : Shared) (H : Hp) (E : XK) : Cx where
  prog := P
  w := w
  K := K
  mg := mg
  base := base
  A := A.deeper (PySem.W.envX qual scope s.heap.objs.size f cd clos)
  N := N
  s₀ := s
  H₀ := H
  env := PySem.W.envX qual scope s.heap.objs.size f cd clos
  outer := outer
  stack := PySem.W.envX qual scope s.heap.objs.size f cd clos :: outer
  ex := []
  calm := true
  fn := fun _ => false
  pn := []
  xe := fun e s' => wpAny (model P w) (A.deeper (PySem.W.envX qual scope s.heap.objs.size f cd clos)) (leaving (PySem.W.envX qual scope s.heap.objs.size f cd clos) e) (fun _ s'' => CX0 outer H s E e s'') (fun e' s'' => CX0 outer H s E e' s'') s'
structure CloOk (base : Heap) (scope : Scope) (clos : List (Str × Addr)) (fns : List Str) (fvs : List V) : Prop where
  len : fvs.length = fns.length
  val : ∀ (j : Nat) x v, fns[j]? = some x → fvs[j]? = some v → ∃ c u, clos.lookup x = some c ∧ base.IsCell c (some u) ∧ RelV v u
  cell : ∀ x c, clos.lookup x = some c → ∃ v, base.IsCell c v
  inj : ∀ x y c, clos.lookup x = some c → clos.lookup y = some c → x = y
  has : ∀ x, scope.names.lookup x = some .free → ∃ c, clos.lookup x = some c
theorem mem_of_lookup' {α : Type} {x : Str} {a : α} : ∀ {l : List (Str × α)}, l.lookup x = some a → (x, a) ∈ l
  | (y, b) :: l, h => by
    rw [List.lookup_cons] at h
    cases e : (x == y) with
    | true => rw [e] at h; cases h; rw [eq_of_beq e]; exact List.mem_cons_self
    | false => rw [e] at h; exact List.mem_cons_of_mem _ (mem_of_lookup' h)
theorem zip_rev_lookup {ps : List Str} {us : List Value} (nd : ps.Nodup) (hl : us.length = ps.length) {i : Nat} {x : Str} {u : Value} (h1 : ps[i]? = some x) (h2 : us[i]? = some u) : (ps.zip us).reverse.lookup x = some u := by
  have nd2 : ((ps.zip us).reverse.map Prod.fst).Nodup := by
    rw [List.map_reverse, List.map_fst_zip (by omega)]
    exact (List.reverse_perm _).nodup_iff.mpr nd
  have mem : (x, u) ∈ (ps.zip us).reverse := by
    rw [List.mem_reverse]
    exact List.mem_of_getElem? (i := i) (by rw [List.getElem?_zip_eq_some]; exact ⟨h1, h2⟩)
  generalize (ps.zip us).reverse = l at nd2 mem
  induction l with
  | nil => cases mem
  | cons p l ih =>
    rw [List.map_cons, List.nodup_cons] at nd2
    rw [List.lookup_cons]
    rcases List.mem_cons.mp mem with e | e
    · rw [← e]; simp
    · have ne : (x == p.1) = false := by
        rw [beq_eq_false_iff_ne]
        intro z
        exact nd2.1 (by rw [← z]; exact List.mem_map.mpr ⟨_, e, rfl⟩)
      rw [ne]
      exact ih nd2.2 e
theorem clo_fn {P : Program} {w : World} {K : PySem.W.Frag} {mg : Str → Option Value} {base : Heap} {k : Nat} {f c' : Addr} {name qual : Str} {params : Arguments} {body : List Stmt} {scope : Scope} {clos : List (Str × Addr)} {doc pm ctv : Value} {ps fns : List Str} {fvs : List V} {sp : Sp}
    (hf : base.get? f = some (PySem.W.fnMade name qual params body scope clos doc pm c' ctv)) (hcd : base.CodeRec (.ref c') qual) (S : CloScope ps fns scope) (hc : CloOk base scope clos fns fvs) (len : ∀ vs H Q E, sp vs H Q E → vs.length = ps.length)
    (hbody : ∀ (A : Around) (outer : List Env) (s : Shared) (H : Hp) (vs : List V) (Q : VK) (E : XK), Room k (A.deeper (PySem.W.envX qual scope s.heap.objs.size f (.ref c') clos)) → sp vs H Q E →
      ∃ t, PSs (cloCx P w K mg base (ps ++ fns) qual scope f (.ref c') clos A outer s H E) body t ∧ t { nx := fun _ H' => Q .non H', rt := Q } (vs.map some ++ fvs.map some) H) :
    FnOk P w K mg base CX0 (k + 1) f (PySem.W.fnX name qual params body scope clos .none .none doc pm none (.ref c') ctv) ps sp := by
  refine ⟨len, fun A outer s H args us vs Q E hr e0 hb r hsp => ?_⟩
  have hl := len _ _ _ _ hsp
  have ul : us.length = ps.length := by rw [← r.length]; exact hl
  have lim : s.heap.NoLimit := e0.mod.nolimit.keeps fun b o e => (e0.bs b o e).1
  have bk : ∀ b o, base.get? b = some o → s.heap.get? b = some o := fun b o e => (e0.bs b o e).1
  have ndP : ps.Nodup := S.nd.sublist (List.sublist_append_left _ _)
  have hcd' : s.heap.CodeRec (.ref c') qual := let ⟨a1, a2, a3, a4, a5, a6, a7⟩ := hcd; ⟨a1, a2, a3, a4, a5, bk _ _ a6, a7⟩
  refine codeAny_call_function hr.depth (bk _ _ hf) rfl S.co S.gen rfl hcd' (hb _ _ _ _ ?_)
  refine wpAny_newFunctionEnv S.nocell (fun y hy => ?_) (fun h₁ hns hsb => ?_) S.kind
  · exact S.par y.1 (List.of_mem_zip hy).1
  have hk₁ : ∀ b u, s.heap.get? b = some u → h₁.get? b = some u := fun b u e => hsb.extBut b u (Nat.ne_of_lt (Heap.lt_size e)) (Heap.get?_push_of_some _ e)
  refine ⟨lim.keeps hk₁, codeAny_func ?_⟩
  obtain ⟨t, ht, hq⟩ := hbody A outer s H vs Q E (hr.deeper _) hsp
  have cellk : ∀ c v, base.IsCell c v → h₁.IsCell c v := fun c v ⟨o, ho, hd⟩ => ⟨o, hk₁ _ _ (bk _ _ ho), hd⟩
  have I : Inv (cloCx P w K mg base (ps ++ fns) qual scope f (.ref c') clos A outer s H E) [] (vs.map some ++ fvs.map some) H { s with heap := h₁, toks := s.toks + (ps.zip us).length } := by
    have noA : ∀ b : Addr, b ∉ (cloCx P w K mg base (ps ++ fns) qual scope f (.ref c') clos A outer s H E).ex := fun b z => absurd (show b ∈ ([] : List Addr) from z) (by simp)
    refine ⟨⟨e0.mod, S.kind, rfl, rfl, Nat.le_refl _, hc.inj, fun y hy => ?_, fun y c z _ => (by cases z), fun _ => hr.hd, Around.frames_deeper e0.frames, .inr ⟨rfl, rfl⟩, fun b z => absurd z (noA b), e0.bs, e0.bsz, fun b _ _ => noA b, fun b z => absurd z (noA b), e0.funs, e0.frf⟩,
      rfl, e0.bare, Un.kept hk₁, ⟨_, hns, fun i y v h1 h2 h3 => ?_⟩, fun y c h => ?_, e0.hok.fresh (Nat.le_refl _), fun y c h => ?_, fun p hp => absurd (show p ∈ ([] : List (Addr × Obj)) from hp) (by simp), e0.hok.kept hk₁, ?_⟩
    · have hy : scope.names.lookup y = some .cell ∨ scope.names.lookup y = some .free := hy
      rcases hy with hy | hy
      · exact absurd rfl (S.nocell _ (mem_of_lookup' hy))
      · exact hc.has y hy
    · have h1 : (ps ++ fns)[i]? = some y := h1
      by_cases ci : i < ps.length
      · rw [List.getElem?_append_left ci] at h1
        rw [List.getElem?_append_left (by rw [List.length_map]; omega), List.getElem?_map] at h2
        cases e : vs[i]? with
        | none => rw [e] at h2; cases h2
        | some a =>
          rw [e] at h2
          cases h2
          obtain ⟨u, hu, rv⟩ := r.get e
          exact ⟨u, rv, .inl ⟨S.par y (List.mem_of_getElem? h1), zip_rev_lookup ndP ul h1 hu⟩⟩
      · rw [List.getElem?_append_right (by omega)] at h1
        rw [List.getElem?_append_right (by rw [List.length_map]; omega), List.length_map, List.getElem?_map, hl] at h2
        cases e : fvs[i - ps.length]? with
        | none => rw [e] at h2; cases h2
        | some a =>
          rw [e] at h2
          cases h2
          obtain ⟨c, u, k1, k2, k3⟩ := hc.val _ y v h1 e
          exact ⟨u, k3, .inr ⟨.inr (S.fre y (List.mem_of_getElem? h1)), c, k1, cellk _ _ k2⟩⟩
    · obtain ⟨v, hv⟩ := hc.cell y c h
      exact ⟨v, cellk _ _ hv⟩
    · obtain ⟨v, o, ho, _⟩ := hc.cell y c h
      exact (e0.bs c o ho).2
    · show _ = (ps ++ fns).length
      rw [List.length_append, List.length_append, List.length_map, List.length_map, hl, hc.len]
  refine wpAny_mono (ht [] _ _ H _ I hq) (fun fl s' hs => ?_) fun e s' hs => hs
  have fin : ∀ {σ' : St} {H' : Hp} {v : V} {u : Value}, Inv (cloCx P w K mg base (ps ++ fns) qual scope f (.ref c') clos A outer s H E) [] σ' H' s' → RelV v u → Q v H' → CE outer P w H s Q u s' :=
    fun {σ' H' v u} J rv q => ⟨v, H', J.os, J.bare, J.base, J.hok, rv, q⟩
  cases fl with
  | ret u =>
    obtain ⟨v, σ', H', J, rv, q⟩ := hs
    exact fin J rv q
  | next =>
    obtain ⟨σ', H', J, q⟩ := hs
    exact fin (v := V.non) (u := Value.none) J rfl q
  | brk =>
    obtain ⟨_, _, _, q⟩ := hs
    exact False.elim q
  | cont =>
    obtain ⟨_, _, _, q⟩ := hs
    exact False.elim q
end L2

set_option Elab.async false
set_option linter.all false
set_option maxRecDepth 100000
set_option maxHeartbeats 4000000
namespace L2
open PySem PySem.Spec PyProof.Rows
noncomputable def Cx.pinned (X : Cx) (ps : List (Addr × Obj)) : Cx := { X with pn := X.pn ++ ps }
section
variable {X : Cx} {pins ps : List (Addr × Obj)} {σ : St} {H : Hp} {s : Shared}
theorem Inv.toPinned (I : Inv X (ps ++ pins) σ H s) : Inv (X.pinned ps) pins σ H s :=
  ⟨⟨I.ok.mod, I.ok.kind, I.ok.glob, I.ok.blt, I.ok.above, I.ok.inj, I.ok.has, I.ok.cab, I.ok.hd, I.ok.frames, I.ok.stk, I.ok.exf, I.ok.bs, I.ok.bsz, I.ok.noex, I.ok.exfs, I.ok.funs, I.ok.frf⟩, I.os, I.bare, I.base, I.loc, I.cell, I.free, I.freeC,
    fun p hp => I.pin p (by rw [← List.append_assoc]; exact hp), I.hok, I.len⟩
theorem Inv.ofPinned (I : Inv (X.pinned ps) pins σ H s) : Inv X (ps ++ pins) σ H s :=
  ⟨⟨I.ok.mod, I.ok.kind, I.ok.glob, I.ok.blt, I.ok.above, I.ok.inj, I.ok.has, I.ok.cab, I.ok.hd, I.ok.frames, I.ok.stk, I.ok.exf, I.ok.bs, I.ok.bsz, I.ok.noex, I.ok.exfs, I.ok.funs, I.ok.frf⟩, I.os, I.bare, I.base, I.loc, I.cell, I.free, I.freeC,
    fun p hp => I.pin p (by show p ∈ (X.pn ++ ps) ++ pins; rw [List.append_assoc]; exact hp), I.hok, I.len⟩
theorem Inv.dropPins (I : Inv X (ps ++ pins) σ H s) : Inv X pins σ H s :=
  ⟨I.ok, I.os, I.bare, I.base, I.loc, I.cell, I.free, I.freeC, fun p hp => I.pin p ((List.mem_append.mp hp).elim (fun z => List.mem_append_left _ z) fun z => List.mem_append_right _ (List.mem_append_right _ z)), I.hok, I.len⟩
theorem SP.unpin {D : Ends} {fl : Flow} (h : SP (X.pinned ps) pins D fl s) : SP X pins D fl s := by
  cases fl with
  | ret u => obtain ⟨v, σ', H', J, rv, q⟩ := h; exact ⟨v, σ', H', J.ofPinned.dropPins, rv, q⟩
  | next => obtain ⟨σ', H', J, q⟩ := h; exact ⟨σ', H', J.ofPinned.dropPins, q⟩
  | brk => obtain ⟨σ', H', J, q⟩ := h; exact ⟨σ', H', J.ofPinned.dropPins, q⟩
  | cont => obtain ⟨σ', H', J, q⟩ := h; exact ⟨σ', H', J.ofPinned.dropPins, q⟩
end
noncomputable def tDef (Pt : Addr) (i : Nat) (pos : Pos) (qn : Str) (u : Addr → Addr → Obj → Value → Value → TS) : TS := fun D σ H => ∃ ps : Array Value, H Pt = some (.tbl ps) ∧ TriplesOk ps.toList ∧ codeAmong pos ps.toList = none ∧
  ∀ (f c' : Addr) (oc : Obj) (doc ctv : Value), (∃ vs t, oc.data = .fields vs ∧ vs[1]? = some (.str qn t)) → H f = none → H c' = none → f ≠ c' → u f c' oc doc ctv D (σ.set i (some (.ref f))) (upd H Pt (.tbl (ps ++ #[rawInt pos.line, rawInt pos.col, .ref c'])))
theorem pss_def {X : Cx} {name : Str} {params : Arguments} {body : List Stmt} {scope : Scope} {pos : Pos} {rest : List Stmt} {clos : List (Str × Addr)} {c Pt : Addr} {i : Nat} {u : Addr → Addr → Obj → Value → Value → TS}
    (hd0 : params.defaults = []) (hk0 : params.kw_defaults = []) (ha : annTrees params none X.env = []) (hcode : X.env.code = .ref c) (LT : LawTab X.base X.mg c Pt) (hcl : closureFor scope X.env = pure clos)
    (hN : X.N.Nodup) (hi : X.N[i]? = some name) (hx : Loc X.env.scope name) (hf : X.fn name = true ∨ X.env.scope.names.lookup name = some .local)
    (hrest : ∀ f c' oc doc ctv, (∃ vs t, oc.data = .fields vs ∧ vs[1]? = some (.str (qualnameIn X.env name name) t)) → PSs (X.pinned [(f, PySem.W.fnMade name (qualnameIn X.env name name) params body scope clos doc ((X.mg "__name__").getD .none) c' ctv), (c', oc)]) rest (u f c' oc doc ctv)) :
    PSs X (.FunctionDef name params body [] none [] scope none name pos :: rest) (tDef Pt i pos (qualnameIn X.env name name) u) := by
  intro pins s σ H D I h
  obtain ⟨ps, hT, ht, hnf, q⟩ := h
  have hP : s.heap.get? Pt = some (PySem.W.tabObj ps) := I.hok Pt _ hT
  have hgs := I.mod.glob.keeps I.bk
  obtain ⟨bm, ob, b1, b2, b3, b4, b5, b6⟩ := LT.bm
  have b3 := I.bk _ _ b3
  have hgP : mainGlobals ≠ Pt := fun q => by
    obtain ⟨o, es, ep, e, hd, _⟩ := hgs
    rw [q, hP] at e; cases e; cases hd
  have hbP : bm ≠ Pt := fun q => by rw [q, hP] at b3; cases b3; cases b4
  have hbG : bm ≠ mainGlobals := fun q => by
    obtain ⟨o, es, ep, e, hd, _⟩ := hgs
    rw [q, e] at b3; cases b3; rw [hd] at b6; cases b6
  refine wpAny_execs_cons (PySem.W.nestDef_K hd0 hk0 ha ?_)
  refine PySem.W.makeFunction_K (mg := X.mg) hcl I.ok.glob hgs hcode (LT.hd.keeps I.bk) hP ht hnf hgP ⟨bm, ob, b1, b2, hbG, hbP, b3, b4, b5, b6⟩ fun c' ctv doc h' tk hx' hge hlt hrec htb => ?_
  have sz : s.heap.objs.size ≤ h'.objs.size := Nat.le_trans hge (Nat.le_of_lt hlt)
  obtain ⟨c₂, oc, vs, t, e2, hoc, hdv, hv⟩ := hrec
  cases e2
  have J := I.grown (h' := h'.push (PySem.W.fnMade name (qualnameIn X.env name name) params body scope clos doc ((X.mg "__name__").getD .none) c' ctv)) (t' := tk) hT (fun b u hb e => Heap.get?_push_of_some _ (hx' b u hb e)) (Heap.get?_push_of_some _ htb)
  have nf : H h'.objs.size = none := I.hok.fresh sz
  have nc : H c' = none := I.hok.fresh hge
  have nfp : h'.objs.size ≠ Pt := fun z => by rw [z, hT] at nf; cases nf
  have ncp : c' ≠ Pt := fun z => by rw [z, hT] at nc; cases nc
  have Lf : h'.objs.size ≠ X.env.locals := Nat.ne_of_gt (Nat.lt_of_lt_of_le I.lt sz)
  have Lc : c' ≠ X.env.locals := Nat.ne_of_gt (Nat.lt_of_lt_of_le I.lt hge)
  have J2 : Inv X ([(h'.objs.size, PySem.W.fnMade name (qualnameIn X.env name name) params body scope clos doc ((X.mg "__name__").getD .none) c' ctv), (c', oc)] ++ pins) σ (upd H Pt (.tbl (ps ++ #[rawInt pos.line, rawInt pos.col, .ref c']))) _ := J.pins_of fun p hp => by
    rcases List.mem_append.mp hp with z | z
    · rcases List.mem_cons.mp z with rfl | z
      · exact ⟨Heap.get?_push_size _ rfl, by rw [upd_ne nfp]; exact nf, Lf, I.nofs sz, fun v => by simp⟩
      · rw [List.mem_singleton.mp z]
        exact ⟨Heap.get?_push_of_some _ hoc, by rw [upd_ne ncp]; exact nc, Lc, I.nofs hge, fun v => by rw [hdv]; simp⟩
    · exact J.pin p (List.mem_append_right _ z)
  refine store_ok2 (v := .ref h'.objs.size) (u := .ref h'.objs.size) J2 hN hi hx rfl (fun s2 J3 _ => ?_) hf
  refine thn (hrest h'.objs.size c' oc doc ctv ⟨vs, t, hdv, hv⟩ pins s2 _ _ D J3.toPinned (q _ _ oc doc ctv ⟨vs, t, hdv, hv⟩ nf nc (Nat.ne_of_gt hlt))) fun fl s3 h3 => h3.unpin
section
variable {X : Cx} {k : Nat} {f C : Addr} {fd : FuncData} {ps : List Str} {sp : Sp} {e o : Expr} {es : List Expr} {t : TA} {ta : TE} {pos apos p : Pos} {m x : Str} {i : Nat}
theorem run_fnB {pins : List (Addr × Obj)} {σ : St} {H : Hp} {s : Shared} {Q : VK} {us : List Value} {vs : List V} (F : FnOk X.prog X.w X.K X.mg (bigB s.heap H X.stack) CX0 k f fd ps sp) (hr : Room k X.A) (hb : BindsTo s fd ⟨us, []⟩ (ps.zip us))
    (I : Inv X pins σ H s) (r : Vals vs us) (h : sp vs H Q E0) : wpAny (model X.prog X.w) X.A (call (.ref f) us) (EP X pins σ Q) X.xe s := by
  refine wpAny_call (codeAny_mono (F.run X.A X.stack s H ⟨us, []⟩ us vs Q E0 hr I.envB hb r h) fun r s' hq => ?_)
  cases r with
  | error e => exact hq.elim
  | ok fl =>
    cases fl with
    | ret u => exact I.after hq
    | next => exact False.elim hq
    | brk => exact False.elim hq
    | cont => exact False.elim hq
theorem Inv.pinB {pins : List (Addr × Obj)} {σ : St} {H : Hp} {s : Shared} (I : Inv X pins σ H s) {b : Addr} {ob : Obj} (hp : (b, ob) ∈ X.pn ++ pins) : (bigB s.heap H X.stack).get? b = some ob := by
  obtain ⟨e, n, nl, nf, _⟩ := I.pin _ hp
  refine bigB_get e n fun z => ?_
  rcases List.mem_cons.mp (I.stkSub b z) with q | q
  · exact nl q
  · exact nf q
theorem Inv.cellB {pins : List (Addr × Obj)} {σ : St} {H : Hp} {s : Shared} (I : Inv X pins σ H s) {n : Str} {v : V} (hi : X.N[i]? = some n) (hv : σ[i]? = some (some v)) (hk : X.env.scope.names.lookup n = some .cell) (hfn : X.fn n = true) : ∃ c u, X.env.cells.lookup n = some c ∧ (bigB s.heap H X.stack).IsCell c (some u) ∧ RelV v u := by
  obtain ⟨m, hn, hl⟩ := I.loc
  obtain ⟨u, r, l⟩ := hl i n v hi hv (.inr (.inl hk))
  rcases l with ⟨z, _⟩ | ⟨_, c, e, oc, ho, hd⟩
  · exact absurd (z.symm.trans hk) (by decide)
  · refine ⟨c, u, e, ⟨oc, bigB_get ho (I.freeC n c e) fun z => ?_, hd⟩, r⟩
    obtain ⟨_, o', e', nd⟩ := I.stack.mem z
    rcases List.mem_cons.mp (I.stkSub c z) with q | q
    · exact I.cne n c e q
    · obtain ⟨_, o2, e2, k2⟩ := I.ok.funs.mem q
      exact absurd (Nat.lt_of_lt_of_le (Heap.lt_size e2) (I.ok.cab n c hfn e)) (Nat.lt_irrefl _)
end
end L2

set_option Elab.async false
set_option linter.all false
set_option maxRecDepth 100000
set_option maxHeartbeats 4000000
namespace L2
open PySem PySem.Spec PyProof.Rows
section
variable {X : Cx} {k : Nat} {f g C : Addr} {fd : FuncData} {ps : List Str} {sp : Sp} {e o : Expr} {es : List Expr} {t : TA} {ta : TE} {pos apos p : Pos} {m x : Str} {i : Nat}
noncomputable def tMethB (X : Cx) (k : Nat) (f : Addr) (fd : FuncData) (ps : List Str) (C : Addr) (m : Str) (ta : TE) (t : TA) : TE := fun σ H Q => ta σ H fun x H1 => ∃ a dx fs, x = .ref a ∧ H1 a = some (.ins C dx fs) ∧ fs.lookup m = none ∧
  t σ H1 fun vs H2 => ∃ sp : Sp, (∀ pins s, Inv X pins σ H2 s → FnOk X.prog X.w X.K X.mg (bigB s.heap H2 X.stack) CX0 k f fd ps sp) ∧ sp (x :: vs) H2 Q E0
theorem pe_methB {pl : Sem Bool} (he : PE X o ta) (c : Cls X.K C) (hm : Meth X.K C m f) (hr : Room k X.A) (hb : Binds X.K fd ps []) (ha : PA X (e :: es) t)
    (hst : starEach (e :: es) X.env = (false, eval e X.env) :: starEach es X.env := by rfl) (hpl : (backTo pos (starEach es X.env)).any (·.1) = false := by rfl)
    (ht : eval (.Call (.Attribute o m apos) (e :: es) [] pos) X.env = (do
      let ov ← eval o X.env
      standAt apos.atName
      let (f, first) ← holding [ov] (getMethod ov m pl)
      callWith pos f first (backTo pos (starEach (e :: es) X.env)) (backToKw pos (keywordEach [] X.env))) := by rfl) :
    PE X (.Call (.Attribute o m apos) (e :: es) [] pos) (tMethB X k f fd ps C m ta t) := by
  intro pins s σ H Q I h
  refine PySem.W.methodCall_KW (pl := pl) (thn (he pins s σ H _ I h) fun u s1 ⟨x, H1, I1, rx, a, dx, fs, ex, ea, l, q⟩ => ?_) ht
  subst ex
  obtain rfl : u = Value.ref a := rx
  refine getmeth_ok I1 ea c hm l ?_
  refine PySem.W.callWith_K (first := [.ref a]) (h₀ := X.base) I.ok.mod.kin hm.kp (thn (ha pos pins s1 σ H1 _ I1 q) fun us s2 ⟨vs, H2, I2, r, sp, F, q2⟩ => ⟨I2.kIn, ?_⟩) hst hpl
  have F := F pins s2 I2
  have r2 : Vals (.ref a :: vs) (.ref a :: us) := .cons rfl r
  have hl : (Value.ref a :: us).length = ps.length := by rw [← r2.length]; exact F.len _ _ _ _ q2
  have hb2 := hb s2 (.ref a :: us) I2.kIn (by rw [List.append_nil]; exact hl)
  rw [List.append_nil] at hb2
  exact run_fnB F hr hb2 I2 r2 q2
noncomputable def tCallV (i : Nat) (g : Addr) (sp : Sp) (t : TA) : TE := fun σ H Q => σ[i]? = some (some (.ref g)) ∧ t σ H fun vs H1 => sp vs H1 Q E0
theorem pe_callV (F : FnOk X.prog X.w X.K X.mg X.base CX0 k g fd ps sp) (hga : PySem.W.FnAt g X.base) (hr : Room k X.A) (hb : ∀ (s : Shared) (us : List Value), us.length = ps.length → BindsTo s fd ⟨us, []⟩ (ps.zip us)) (hN : X.N[i]? = some x) (hv : Vis X.env.scope x) (ha : PA X (e :: es) t)
    (hd : (x == ("__debug__" : Str)) = false := by decide) (hcd : (x == ("__classdict__" : Str)) = false := by decide) (he : starEach (e :: es) X.env = (false, eval e X.env) :: starEach es X.env := by rfl) (hpl : (backTo pos (starEach es X.env)).any (·.1) = false := by rfl) :
    PE X (.Call (.Name x p) (e :: es) [] pos) (tCallV i g sp t) := by
  intro pins s σ H Q I h
  obtain ⟨hσ, h⟩ := h
  have fnat : ∀ {pins : List (Addr × Obj)} {σ : St} {H : Hp} {s : Shared}, Inv X pins σ H s → PySem.W.FnAt g s.heap := fun I => let ⟨oc, od, fd, sl, e⟩ := hga; ⟨oc, od, fd, sl, I.bk _ _ e⟩
  have go : wpAny (model X.prog X.w) X.A (callWith pos (.ref g) [] (backTo pos (starEach (e :: es) X.env)) (backToKw pos (keywordEach [] X.env))) (EP X pins σ Q) X.xe s := by
    refine PySem.W.callWith_F (fnat I) (thn (ha pos pins s σ H _ I h) fun us s1 ⟨vs, H1, I1, r, q⟩ => ⟨fnat I1, ?_⟩) he hpl
    have hl : us.length = ps.length := by rw [← r.length]; exact F.len _ _ _ _ q
    refine wpAny_call (codeAny_mono (F.run X.A X.stack s1 H1 ⟨us, []⟩ us vs Q E0 hr I1.env0 (hb s1 us hl) r q) fun r s' hq => ?_)
    cases r with
    | error e => exact hq.elim
    | ok fl =>
      cases fl with
      | ret u => exact I1.after hq
      | next => exact False.elim hq
      | brk => exact False.elim hq
      | cont => exact False.elim hq
  obtain ⟨m, hn, hl⟩ := id I.loc
  obtain ⟨u, r, l⟩ := hl i x (.ref g) hN hσ hv
  cases r
  refine wpAny_Call_Name_kw ?_
  rcases l with ⟨hk, hm⟩ | ⟨hk, c, hc, hcell⟩
  · exact wpAny_Name (wpAny_loadName_local I.ok.kind hk hn hm go) hd
  · rcases hk with hk | hk
    · exact wpAny_Name (wpAny_loadName_cell I.ok.kind hk hc hcell go) hd
    · exact wpAny_Name (wpAny_loadName_free I.ok.kind hk hc hcell go hcd) hd
end
end L2

set_option Elab.async false
set_option linter.all false
set_option maxRecDepth 100000
set_option maxHeartbeats 4000000
namespace L2
open PySem PySem.Spec PyProof.Rows
inductive Tw where
  | n (i : Int)
  | v (z : Str)
  | c (z : Str) (sp : List (Str × Int))
  | j (z : Str) (l r : Tw)
namespace Tw
noncomputable def sz : Tw → Nat
  | .j _ l r => sz l + sz r
  | _ => 1
end Tw
noncomputable def sgn3 : List Str := ["+", "-", "*"]
theorem Tw.sz_pos : ∀ t : Tw, 1 ≤ t.sz
  | .n _ => Nat.le_refl _
  | .v _ => Nat.le_refl _
  | .c _ _ => Nat.le_refl _
  | .j _ l r => Nat.le_trans (Tw.sz_pos l) (Nat.le_add_right _ _)
noncomputable def SpoAt (H : Hp) (x : V) (s : Str × Int) : Prop := ∃ t, x = .ref t ∧ H t = some (.tup [.str s.1, .int s.2])
noncomputable def SpsAt (H : Hp) (p : Addr) (sp : List (Str × Int)) : Prop := ∃ xs, H p = some (.tup xs) ∧ All2 (SpoAt H) xs sp
theorem SpoAt.tk {H H' : Hp} {x : V} {s : Str × Int} (k : TK H H') (h : SpoAt H x s) : SpoAt H' x s := let ⟨t, e, h⟩ := h; ⟨t, e, k _ _ h⟩
theorem SpsAt.tk {H H' : Hp} {p : Addr} {sp : List (Str × Int)} (k : TK H H') (h : SpsAt H p sp) : SpsAt H' p sp := let ⟨xs, e, h⟩ := h; ⟨xs, k _ _ e, h.mono fun _ _ z => z.tk k⟩
noncomputable def TbAt (c : Cs) (H : Hp) : Tw → V → Prop
  | .n i, x => ∃ t dx, x = .ref t ∧ H t = some (.ins c.n dx [("n", .int i)])
  | .v z, x => ∃ t dx, x = .ref t ∧ H t = some (.ins c.v dx [("name", .str z)])
  | .c z sp, x => ∃ t dx p, x = .ref t ∧ H t = some (.ins c.c dx [("table", .str z), ("spots", .ref p)]) ∧ SpsAt H p sp
  | .j z l r, x => ∃ t dx a b, x = .ref t ∧ H t = some (.ins c.j dx [("sign", .str z), ("left", a), ("right", b)]) ∧ TbAt c H l a ∧ TbAt c H r b
theorem TbAt.over {c : Cs} {H H' : Hp} (e : Same H H') : ∀ {t : Tw} {x : V}, TbAt c H t x → TbAt c H' t x
  | .n i, x, h => let ⟨t, dx, r, h⟩ := h; ⟨t, dx, r, e _ _ h⟩
  | .v z, x, h => let ⟨t, dx, r, h⟩ := h; ⟨t, dx, r, e _ _ h⟩
  | .c z sp, x, h => let ⟨t, dx, p, r, h, g⟩ := h; ⟨t, dx, p, r, e _ _ h, g.tk (Same.tk e)⟩
  | .j z l r, x, h => let ⟨t, dx, a, b, r, h, g1, g2⟩ := h; ⟨t, dx, a, b, r, e _ _ h, TbAt.over e g1, TbAt.over e g2⟩
noncomputable def StrsAt (H : Hp) (l : Addr) (zs : List Str) (n : Nat) : Prop := H l = some (.lst (zs.map V.str)) ∧ zs.length = n ∧ ∀ z ∈ zs, z.length ≤ 20
theorem StrsAt.over {H H' : Hp} {l : Addr} {zs : List Str} {n : Nat} (e : Same H H') (h : StrsAt H l zs n) : StrsAt H' l zs n := ⟨e _ _ h.1, h.2⟩
theorem pop_last {ys : List V} {x : V} : (ys ++ [x])[(ys ++ [x]).length - 1]? = some x ∧ (ys ++ [x]).dropLast = ys := by
  refine ⟨?_, List.dropLast_concat⟩
  rw [List.length_append, List.length_singleton, Nat.add_sub_cancel, List.getElem?_append_right (Nat.le_refl _), Nat.sub_self]
  rfl
end L2
namespace L2
open PySem
end L2
namespace L2
open PySem
end L2
namespace L2
open PySem
end L2
namespace L2
open PySem
end L2

set_option Elab.async false
set_option linter.all false
set_option maxRecDepth 100000
set_option maxHeartbeats 4000000
namespace L2
open PySem PySem.Spec PyProof.Rows
section
variable {prog : Program} {w : World} {A : Around} {E : Value → Shared → Prop} {s : Shared}
end
end L2

set_option Elab.async false
set_option linter.all false
set_option maxRecDepth 100000
set_option maxHeartbeats 4000000
namespace L2
open PySem PySem.Spec PyProof.Rows
section
variable {prog : Program} {w : World} {A : Around} {E : Value → Shared → Prop} {s : Shared}
end
end L2

set_option Elab.async false
set_option linter.all false
set_option maxRecDepth 100000
set_option maxHeartbeats 4000000
namespace L2
open PySem PySem.Spec PyProof.Rows
end L2

set_option Elab.async false
set_option linter.all false
set_option maxRecDepth 100000
set_option maxHeartbeats 4000000
namespace L2
open PySem PySem.Spec PyProof.Rows
section
variable {prog : Program} {w : World} {A : Around} {E : Value → Shared → Prop} {s : Shared}
end
end L2

set_option Elab.async false
set_option linter.all false
set_option maxRecDepth 100000
set_option maxHeartbeats 4000000
namespace L2
open PySem PySem.Spec PyProof.Rows
end L2

set_option Elab.async false
set_option linter.all false
set_option maxRecDepth 100000
set_option maxHeartbeats 4000000
namespace L2
open PySem PySem.Spec PyProof.Rows
end L2

set_option Elab.async false
set_option linter.all false
set_option maxRecDepth 100000
set_option maxHeartbeats 4000000
namespace L2
open PySem PySem.Spec PyProof.Rows
noncomputable def kvOf (kn : List (Str × Int)) : List (Key × V) := kn.map fun p => (Sum.inr p.1, V.int p.2)
noncomputable def lkN (kn : List (Str × Int)) (z : Str) : Int := match kn.find? fun p => decide (p.1 = z) with
  | some p => p.2
  | none => 0
noncomputable def stW (kn : List (Str × Int)) (s : Str × Int) : Int := if s.1 = "" then s.2 else lkN kn s.1 + s.2
theorem kv_get {kn : List (Str × Int)} {z : Str} (h : z ∈ kn.map (·.1)) : valV (kvOf kn) (Sum.inr z) = some (.int (lkN kn z)) := by
  induction kn with
  | nil => cases h
  | cons p kn ih =>
    by_cases e : p.1 = z
    · have l : lkN (p :: kn) z = p.2 := by unfold lkN; rw [List.find?_cons_of_pos (by simpa using e)]
      rw [l]
      exact valV_pos (κ := Key) (p := (Sum.inr p.1, V.int p.2)) (r := kvOf kn) (congrArg Sum.inr e)
    · have l : lkN (p :: kn) z = lkN kn z := by unfold lkN; rw [List.find?_cons_of_neg (by simpa using e)]
      have h' : z ∈ kn.map (·.1) := by
        rcases List.mem_cons.mp h with c | c
        · exact absurd c.symm e
        · exact c
      rw [l, ← ih h']
      unfold valV kvOf
      rw [List.map_cons, List.find?_cons_of_neg (by simpa using e)]
theorem kv_none {kn : List (Str × Int)} {z : Str} (h : z ∉ kn.map (·.1)) : valV (kvOf kn) (Sum.inr z) = none := by
  unfold valV kvOf
  rw [Option.map_eq_none_iff, List.find?_eq_none]
  intro x hx
  obtain ⟨p, hp, rfl⟩ := List.mem_map.mp hx
  have : p.1 ≠ z := fun e => h (e ▸ List.mem_map.mpr ⟨p, hp, rfl⟩)
  simpa using this
noncomputable def spStood14 : Sp := fun vs H Q _ => ∃ (x : V) (d : Addr) (s : Str × Int) (kn : List (Str × Int)), vs = [x, .ref d] ∧ SpoAt H x s ∧ H d = some (.dK (kvOf kn)) ∧ (s.1 = "" ∨ s.1 ∈ kn.map (·.1)) ∧ Q (.int (stW kn s)) H
noncomputable def spPlaced14 : Sp := fun vs H Q _ => ∃ (t d : Addr) (xs : List V) (sp : List (Str × Int)) (kn : List (Str × Int)), vs = [.ref t, .ref d] ∧ H t = some (.tup xs) ∧ All2 (SpoAt H) xs sp ∧ H d = some (.dK (kvOf kn)) ∧ (∀ s ∈ sp, s.1 = "" ∨ s.1 ∈ kn.map (·.1)) ∧ sp.length ≤ 10 ∧ ∀ (r : Addr) (H' : Hp), Same H H' → H' r = some (.tup ((sp.map (stW kn)).map V.int)) → Q (.ref r) H'
theorem kv_snoc {kn : List (Str × Int)} {z : Str} {v : Int} (h : z ∉ kn.map (·.1)) : putK (kvOf kn) (Sum.inr z) (V.int v) = kvOf (kn ++ [(z, v)]) := by
  rw [putK_new _ (kv_none h)]
  unfold kvOf
  rw [List.map_append]
  rfl
end L2

set_option Elab.async false
set_option linter.all false
set_option maxRecDepth 100000
set_option maxHeartbeats 4000000
namespace L2
open PySem PySem.Spec PyProof.Rows
noncomputable def hdF (salt : Int) (tb : Str) (pl : List Int) : Int :=
  pl.foldl (fun a n => (a * 1009 + n) % 1000000000000000003) ((cds tb).foldl (fun (a : Int) (c : Nat) => (a * 131 + (c : Int)) % 1000000000000000003) salt) - 10 ^ 17
noncomputable def wth (kn : List (Str × Int)) (hd : Str → List Int → Int) : Tw → Int
  | .n i => i
  | .v z => lkN kn z
  | .c z sp => hd z (sp.map (stW kn))
  | .j z l r => if z = "+" then wth kn hd l + wth kn hd r else if z = "-" then wth kn hd l - wth kn hd r else wth kn hd l * wth kn hd r
noncomputable def Tk (ks : List Str) : Tw → Prop
  | .n i => -(2 ^ 64) < i ∧ i < 2 ^ 64
  | .v z => z ∈ ks
  | .c _ sp => sp.length ≤ 3 ∧ ∀ s ∈ sp, (s.1 = "" ∨ s.1 ∈ ks) ∧ -(2 ^ 64) < s.2 ∧ s.2 < 2 ^ 64
  | .j z l r => z ∈ sgn3 ∧ Tk ks l ∧ Tk ks r
theorem wo_bound {kn : List (Str × Int)} {hd : Str → List Int → Int} {ks : List Str} (hk : ∀ z, (lkN kn z).natAbs < 2 ^ 64) (hh : ∀ z pl, (hd z pl).natAbs < 2 ^ 64) : ∀ {t : Tw}, Tk ks t → (wth kn hd t).natAbs < 2 ^ (64 * t.sz)
  | .n i, h => by
    have h : -(2 ^ 64) < i ∧ i < 2 ^ 64 := h
    show i.natAbs < 2 ^ (64 * 1)
    omega
  | .v z, _ => by show (lkN kn z).natAbs < 2 ^ (64 * 1); exact hk z
  | .c z sp, _ => by show (hd z (sp.map (stW kn))).natAbs < 2 ^ (64 * 1); exact hh _ _
  | .j z l r, h => by
    obtain ⟨_, hl, hr⟩ := h
    have b1 := wo_bound hk hh hl
    have b2 := wo_bound hk hh hr
    have s1 := Tw.sz_pos l
    have s2 := Tw.sz_pos r
    have e : 2 ^ (64 * (l.sz + r.sz)) = 2 ^ (64 * l.sz) * 2 ^ (64 * r.sz) := by rw [Nat.mul_add, Nat.pow_add]
    have p1 : 2 ≤ 2 ^ (64 * l.sz) := Nat.le_trans (by decide : 2 ≤ 2 ^ 1) (Nat.pow_le_pow_right (by decide) (by omega))
    have p2 : 2 ≤ 2 ^ (64 * r.sz) := Nat.le_trans (by decide : 2 ≤ 2 ^ 1) (Nat.pow_le_pow_right (by decide) (by omega))
    have big : (wth kn hd l).natAbs + (wth kn hd r).natAbs < 2 ^ (64 * l.sz) * 2 ^ (64 * r.sz) := by
      generalize 2 ^ (64 * l.sz) = A at b1 p1
      generalize 2 ^ (64 * r.sz) = B at b2 p2
      have m1 : 2 * B ≤ A * B := Nat.mul_le_mul_right _ p1
      have m2 : A * 2 ≤ A * B := Nat.mul_le_mul_left _ p2
      omega
    show (if z = "+" then wth kn hd l + wth kn hd r else if z = "-" then wth kn hd l - wth kn hd r else wth kn hd l * wth kn hd r).natAbs < 2 ^ (64 * (l.sz + r.sz))
    rw [e]
    split
    · omega
    · split
      · omega
      · rw [Int.natAbs_mul]
        exact Nat.mul_lt_mul'' b1 b2
theorem op_mulH {X : Cx} : OpR X (binaryOp .Mult) (rI (fun i j => i.natAbs < 2 ^ 6400 ∧ j.natAbs < 2 ^ 6400) fun i j => .int (i * j)) := opI fun i j _ _ _ _ _ hc q => by
  refine mul_int q ?_
  have bits : ∀ {k : Int}, k.natAbs < 2 ^ 6400 → Builtin.Int.intBits k ≤ 6400 := fun {k} h => by
    unfold Builtin.Int.intBits
    split
    · exact Nat.zero_le _
    · have : k.natAbs.log2 < 6400 := by
        rcases Nat.eq_zero_or_pos k.natAbs with h0 | hp
        · rw [h0]; decide
        · exact (Nat.log2_lt (Nat.ne_of_gt hp)).mpr h
      omega
  have b1 := bits hc.1
  have b2 := bits hc.2
  unfold IntMulOk
  have nb : Builtin.Int.intTooBig (Builtin.Int.intBits i + Builtin.Int.intBits j) = false := by
    unfold Builtin.Int.intTooBig
    exact decide_eq_false (by
      have : (12800 : Int) ≤ bitsLine := by decide
      omega)
  rw [nb, Bool.and_false]
  simp
end L2

set_option Elab.async false
set_option linter.all false
set_option maxRecDepth 100000
set_option maxHeartbeats 4000000
namespace L2
open PySem PySem.Spec PyProof.Rows
noncomputable def leafF (c : Int) (zs : List Str) : Tw :=
  let x := fun i => (strm (c / 3) 8).getD i 0
  if c % 3 = 0 then .n ((numZ (x 0 * x 1) (10 ^ 18 - 1)).natAbs : Int)
  else if c % 3 = 1 then .v (zs.getD (x 0 % 3).toNat "")
  else .c (zs.getD (x 1 % 2 + 2 * (1 + x 0 / 3 % 3) - 1).toNat "") ((List.range (1 + x 0 / 3 % 3).toNat).map fun k => ((zs.take 3 ++ [("" : Str)]).getD (x (2 + k) % 4).toNat "", numZ (x (2 + k) * x (5 + k)) (10 ^ 18 - 1)))
noncomputable def sgF (i : Int) : Str := (sgn3.getD i.toNat "")
noncomputable def stepF (zs : List Str) (seed : Int) (st : List Tw) (c : Int) : List Tw :=
  if c % 5 < 2 ∧ 1 < st.length then st.dropLast.dropLast ++ [.j (sgF (c / 5 % 3)) (st.dropLast.getLast?.getD (.n 0)) (st.getLast?.getD (.n 0))]
  else st ++ [leafF (if c / 5 % 4 / 3 = 1 then seed else c / 5) zs]
noncomputable def joinF (seed : Int) : Nat → List Tw → List Tw
  | 0, st => st
  | n + 1, st => if 1 < st.length then joinF seed n (st.dropLast.dropLast ++ [.j (sgF (((st.length - 2 : Nat) + seed) % 3)) (st.dropLast.getLast?.getD (.n 0)) (st.getLast?.getD (.n 0))]) else st
noncomputable def treeF (cs : List Int) (zs : List Str) (seed : Int) : Tw := let st := cs.foldl (stepF zs seed) [leafF seed zs]; ((joinF seed st.length st).head?).getD (.n 0)
noncomputable def rdT : Tw → List (Str × List (Str × Int))
  | .n _ => []
  | .v _ => []
  | .c z sp => [(z, sp)]
  | .j _ l r => rdT l ++ rdT r
noncomputable def plT (kn : List (Str × Int)) : Tw → List (Str × List Int)
  | .n _ => []
  | .v _ => []
  | .c z sp => [(z, sp.map (stW kn))]
  | .j _ l r => plT kn l ++ plT kn r
theorem rdT_len : ∀ t : Tw, (rdT t).length ≤ t.sz
  | .n _ => Nat.zero_le _
  | .v _ => Nat.zero_le _
  | .c _ _ => Nat.le_refl _
  | .j _ l r => by
    have h1 := rdT_len l
    have h2 := rdT_len r
    show (rdT l ++ rdT r).length ≤ l.sz + r.sz
    rw [List.length_append]; omega
theorem plT_len (kn : List (Str × Int)) : ∀ t : Tw, (plT kn t).length ≤ t.sz
  | .n _ => Nat.zero_le _
  | .v _ => Nat.zero_le _
  | .c _ _ => Nat.le_refl _
  | .j _ l r => by
    have h1 := plT_len kn l
    have h2 := plT_len kn r
    show (plT kn l ++ plT kn r).length ≤ l.sz + r.sz
    rw [List.length_append]; omega
noncomputable def RdAt (H : Hp) (x : V) (r : Str × List (Str × Int)) : Prop := ∃ t p, x = .ref t ∧ H t = some (.tup [.str r.1, .ref p]) ∧ SpsAt H p r.2
noncomputable def PcAt (H : Hp) (x : V) (r : Str × List Int) : Prop := ∃ t p, x = .ref t ∧ H t = some (.tup [.str r.1, .ref p]) ∧ H p = some (.tup (r.2.map V.int))
theorem RdAt.tk {H H' : Hp} {x : V} {r : Str × List (Str × Int)} (k : TK H H') (h : RdAt H x r) : RdAt H' x r := let ⟨t, p, e, h, g⟩ := h; ⟨t, p, e, k _ _ h, g.tk k⟩
theorem PcAt.tk {H H' : Hp} {x : V} {r : Str × List Int} (k : TK H H') (h : PcAt H x r) : PcAt H' x r := let ⟨t, p, e, h, g⟩ := h; ⟨t, p, e, k _ _ h, k _ _ g⟩
theorem Same.some {H H' : Hp} (e : Same H H') {b : Addr} (h : H b ≠ none) : H' b ≠ none := by
  cases q : H b with
  | none => exact absurd q h
  | some o => rw [e _ _ q]; simp
noncomputable def Bar (l : Addr) (H H' : Hp) : Prop := (∃ xs, H l = some (.lst xs)) ∧ ∀ b ob, b ≠ l → H b = some ob → H' b = some ob
theorem Bar.tk {l : Addr} {H H' : Hp} (h : Bar l H H') : TK H H' := fun b ys e => h.2 _ _ (fun z => by obtain ⟨xs, hx⟩ := h.1; rw [z, hx] at e; cases e) e
theorem Bar.upd {l : Addr} {H : Hp} {xs : List V} {o : HO} (h : H l = some (.lst xs)) : Bar l H (L2.upd H l o) := ⟨⟨xs, h⟩, fun b ob n e => by rw [upd_ne n]; exact e⟩
theorem Bar.same {l : Addr} {H H' : Hp} {xs : List V} (h : H l = some (.lst xs)) (e : Same H H') : Bar l H H' := ⟨⟨xs, h⟩, fun b ob _ eb => e _ _ eb⟩
theorem TbAt.bar {c : Cs} {l : Addr} {H H' : Hp} (e : Bar l H H') : ∀ {t : Tw} {x : V}, TbAt c H t x → TbAt c H' t x := by
  have go : ∀ {b : Addr} {C dx : Addr} {fs : List (Str × V)}, H b = some (.ins C dx fs) → H' b = some (.ins C dx fs) := fun {b C dx fs} h => e.2 _ _ (fun z => by obtain ⟨xs, hx⟩ := e.1; rw [z, hx] at h; cases h) h
  intro t
  induction t with
  | n i => exact fun h => let ⟨t, dx, r, h⟩ := h; ⟨t, dx, r, go h⟩
  | v z => exact fun h => let ⟨t, dx, r, h⟩ := h; ⟨t, dx, r, go h⟩
  | c z sp => exact fun h => let ⟨t, dx, p, r, h, g⟩ := h; ⟨t, dx, p, r, go h, g.tk e.tk⟩
  | j z l r i1 i2 => exact fun h => let ⟨t, dx, a, b, r, h, g1, g2⟩ := h; ⟨t, dx, a, b, r, go h, i1 g1, i2 g2⟩
noncomputable def TqAt (c : Cs) (kn : List (Str × Int)) (salt : Int) (av : Addr → Prop) (H : Hp) (x : V) (t : Tw) : Prop := ∃ (p rl pl : Addr) (tm : V) (xs ys : List V), x = .ref p ∧ H p = some (.tup [tm, .int (wth kn (hdF salt) t), .ref rl, .ref pl]) ∧ TbAt c H t tm ∧ H rl = some (.lst xs) ∧ H pl = some (.lst ys) ∧ All2 (RdAt H) xs (rdT t) ∧ All2 (PcAt H) ys (plT kn t) ∧ ¬ av rl ∧ ¬ av pl
section
variable {c : Cs} {kn : List (Str × Int)} {salt : Int} {av av' : Addr → Prop} {H H' : Hp} {x : V} {t : Tw}
theorem TqAt.over (e : Same H H') (h : TqAt c kn salt av H x t) : TqAt c kn salt av H' x t := by
  obtain ⟨p, rl, pl, tm, xs, ys, r, h1, h2, h3, h4, h5, h6, h7⟩ := h
  exact ⟨p, rl, pl, tm, xs, ys, r, e _ _ h1, h2.over e, e _ _ h3, e _ _ h4, h5.mono fun _ _ z => z.tk (Same.tk e), h6.mono fun _ _ z => z.tk (Same.tk e), h7⟩
theorem TqAt.less (a : ∀ b, av' b → av b) (h : TqAt c kn salt av H x t) : TqAt c kn salt av' H x t := by
  obtain ⟨p, rl, pl, tm, xs, ys, r, h1, h2, h3, h4, h5, h6, h7, h8⟩ := h
  exact ⟨p, rl, pl, tm, xs, ys, r, h1, h2, h3, h4, h5, h6, fun z => h7 (a _ z), fun z => h8 (a _ z)⟩
theorem TqAt.new {l : Addr} (n : H l = none) (h : TqAt c kn salt av H x t) : TqAt c kn salt (fun b => b = l ∨ av b) H x t := by
  obtain ⟨p, rl, pl, tm, xs, ys, r, h1, h2, h3, h4, h5, h6, h7, h8⟩ := h
  exact ⟨p, rl, pl, tm, xs, ys, r, h1, h2, h3, h4, h5, h6, fun z => z.elim (ne_of_none h3 n) h7, fun z => z.elim (ne_of_none h4 n) h8⟩
theorem TqAt.bar {l : Addr} (hl : av l) (e : Bar l H H') (h : TqAt c kn salt av H x t) : TqAt c kn salt av H' x t := by
  obtain ⟨p, rl, pl, tm, xs, ys, r, h1, h2, h3, h4, h5, h6, h7, h8⟩ := h
  exact ⟨p, rl, pl, tm, xs, ys, r, e.tk _ _ h1, h2.bar e, e.2 _ _ (fun z => h7 (z ▸ hl)) h3, e.2 _ _ (fun z => h8 (z ▸ hl)) h4, h5.mono fun _ _ z => z.tk e.tk, h6.mono fun _ _ z => z.tk e.tk, h7, h8⟩
end
structure SqAt (c : Cs) (kn : List (Str × Int)) (salt : Int) (ks : List Str) (av : Addr → Prop) (H : Hp) (xs : List V) (ts : List Tw) (N : Nat) : Prop where
  at' : All2 (TqAt c kn salt av H) xs ts
  ok : ∀ t ∈ ts, Tk ks t
  sum : (ts.map Tw.sz).sum ≤ N
section
variable {c : Cs} {kn : List (Str × Int)} {salt : Int} {ks : List Str} {av : Addr → Prop} {H H' : Hp} {xs : List V} {ts : List Tw} {N : Nat}
theorem SqAt.bar {l : Addr} (hl : av l) (e : Bar l H H') (h : SqAt c kn salt ks av H xs ts N) : SqAt c kn salt ks av H' xs ts N := ⟨h.at'.mono fun _ _ z => z.bar hl e, h.ok, h.sum⟩
theorem SqAt.over (e : Same H H') (h : SqAt c kn salt ks av H xs ts N) : SqAt c kn salt ks av H' xs ts N := ⟨h.at'.mono fun _ _ z => z.over e, h.ok, h.sum⟩
theorem SqAt.len (h : SqAt c kn salt ks av H xs ts N) : xs.length ≤ N := by
  have a : ts.length ≤ (ts.map Tw.sz).sum := by
    clear h
    induction ts with
    | nil => exact Nat.le_refl _
    | cons t l ih => have := t.sz_pos; rw [List.map_cons, List.sum_cons, List.length_cons]; omega
  have := h.sum
  rw [h.at'.1]
  omega
theorem SqAt.push {x : V} {t : Tw} (h : SqAt c kn salt ks av H xs ts N) (hx : TqAt c kn salt av H x t) (ht : Tk ks t) {M : Nat} (hM : N + t.sz ≤ M) : SqAt c kn salt ks av H (xs ++ [x]) (ts ++ [t]) M := ⟨h.at'.snoc hx, fun u hu => by
    rcases List.mem_append.mp hu with z | z
    · exact h.ok u z
    · rw [List.mem_singleton.mp z]; exact ht, by
    have := h.sum
    rw [List.map_append, List.sum_append, List.map_cons, List.map_nil, List.sum_cons, List.sum_nil]
    omega⟩
theorem SqAt.pop (h : SqAt c kn salt ks av H xs ts N) (hl : 0 < xs.length) : ∃ ys x us t M, xs = ys ++ [x] ∧ ts = us ++ [t] ∧ SqAt c kn salt ks av H ys us M ∧ TqAt c kn salt av H x t ∧ Tk ks t ∧ M + t.sz ≤ N := by
  obtain ⟨n, hn⟩ : ∃ n, xs.length = n + 1 := ⟨xs.length - 1, by omega⟩
  obtain ⟨ys, x, rfl, yl⟩ := snoc_of hn
  obtain ⟨us, t, rfl, ul⟩ := snoc_of (h.at'.1.symm.trans hn)
  have hs := h.sum
  rw [List.map_append, List.sum_append] at hs
  have hs : (us.map Tw.sz).sum + (t.sz + 0) ≤ N := hs
  refine ⟨ys, x, us, t, (us.map Tw.sz).sum, rfl, rfl, ⟨⟨by omega, fun i x' t' a b => ?_⟩, fun u hu => h.ok u (List.mem_append_left _ hu), Nat.le_refl _⟩, ?_, h.ok t (by simp), by omega⟩
  · exact h.at'.2 i x' t' (by rw [List.getElem?_append_left (List.getElem?_eq_some_iff.mp a).1]; exact a) (by rw [List.getElem?_append_left (List.getElem?_eq_some_iff.mp b).1]; exact b)
  · exact h.at'.2 ys.length x t (by rw [List.getElem?_append_right (Nat.le_refl _), Nat.sub_self]; rfl) (by rw [yl, ← ul, List.getElem?_append_right (Nat.le_refl _), Nat.sub_self]; rfl)
end
theorem pick2 {a b j : Int} (h0 : 0 ≤ j) (h1 : j < 2) : atI [V.int a, V.int b] j = some (.int (if j = 1 then b else a)) := by
  have : j = 0 ∨ j = 1 := by omega
  rcases this with rfl | rfl <;> rfl
theorem stepF_join {zs : List Str} {seed c : Int} {us : List Tw} {l r : Tw} (h : c % 5 < 2) : stepF zs seed (us ++ [l] ++ [r]) c = us ++ [.j (sgF (c / 5 % 3)) l r] := by
  unfold stepF
  rw [if_pos ⟨h, by rw [List.length_append, List.length_append, List.length_singleton, List.length_singleton]; omega⟩, List.dropLast_concat, List.dropLast_concat, List.getLast?_concat, List.getLast?_concat]
  rfl
theorem stepF_leaf {zs : List Str} {seed c : Int} {st : List Tw} (h : ¬ (c % 5 < 2 ∧ 1 < st.length)) : stepF zs seed st c = st ++ [leafF (if c / 5 % 4 / 3 = 1 then seed else c / 5) zs] := by
  unfold stepF
  rw [if_neg h]
theorem joinF_step {seed : Int} {n : Nat} {us : List Tw} {l r : Tw} : joinF seed (n + 1) (us ++ [l] ++ [r]) = joinF seed n (us ++ [.j (sgF (((us.length : Nat) + seed) % 3)) l r]) := by
  show (if 1 < (us ++ [l] ++ [r]).length then _ else _) = _
  rw [if_pos (by rw [List.length_append, List.length_append, List.length_singleton, List.length_singleton]; omega), List.dropLast_concat, List.dropLast_concat, List.getLast?_concat, List.getLast?_concat, List.length_append, List.length_append, List.length_singleton, List.length_singleton]
  rfl
theorem joinF_one {seed : Int} {n : Nat} {t : Tw} : joinF seed n [t] = [t] := by
  cases n with
  | zero => rfl
  | succ n => exact if_neg (Nat.lt_irrefl 1)
theorem sgF_at {i : Int} (h0 : 0 ≤ i) (h1 : i < 3) : ∃ c : Nat, atI (cds (Str.ofString "+-*")) i = some c ∧ (⟨#[c]⟩ : Str) = sgF i ∧ sgF i ∈ sgn3 := by
  have : i = 0 ∨ i = 1 ∨ i = 2 := by omega
  rcases this with rfl | rfl | rfl
  · exact ⟨43, by decide +kernel, by decide +kernel, by decide +kernel⟩
  · exact ⟨45, by decide +kernel, by decide +kernel, by decide +kernel⟩
  · exact ⟨42, by decide +kernel, by decide +kernel, by decide +kernel⟩
theorem leafF_sz (c : Int) (zs : List Str) : (leafF c zs).sz = 1 := by
  unfold leafF
  dsimp only
  split
  · rfl
  · split <;> rfl
noncomputable def spHeld12 : Sp := fun vs H Q _ => ∃ (tb : Str) (pt : Addr) (pl : List Int) (salt : Int), vs = [.str tb, .ref pt, .int salt] ∧ H pt = some (.tup (pl.map V.int)) ∧ Q (.int (hdF salt tb pl)) H
noncomputable def spBoth12 (c : Cs) (kn : List (Str × Int)) (salt : Int) : Sp := fun vs H Q _ => ∃ (z : Str) (x y : V) (l r : Tw) (ks : List Str) (av : Addr → Prop), vs = [.str z, x, y] ∧ z ∈ sgn3 ∧ TqAt c kn salt av H x l ∧ TqAt c kn salt av H y r ∧ Tk ks l ∧ Tk ks r ∧ (∀ z, (lkN kn z).natAbs < 2 ^ 64) ∧ salt.natAbs < 2 ^ 62 ∧ l.sz + r.sz ≤ 100 ∧ ∀ (v : V) (H' : Hp), Same H H' → TqAt c kn salt (fun b => H b ≠ none) H' v (.j z l r) → Q v H'
noncomputable def spLeaf12 (c : Cs) (kn : List (Str × Int)) (salt : Int) : Sp := fun vs H Q _ => ∃ (cl : Int) (nl d : Addr) (zs : List Str), vs = [.int cl, .ref nl, .ref d, .int salt] ∧ StrsAt H nl zs 8 ∧ H d = some (.dK (kvOf kn)) ∧ (∀ z ∈ zs.take 3, z ∈ kn.map (·.1)) ∧ ∀ (v : V) (H' : Hp), Same H H' → TqAt c kn salt (fun b => H b ≠ none) H' v (leafF cl zs) → Tk (zs.take 3) (leafF cl zs) → Q v H'
noncomputable def spTree12 (K : PySem.W.Frag) (c : Cs) (kn : List (Str × Int)) (salt : Int) : Sp := fun vs H Q _ => ∃ (cl nl d : Addr) (cs : List Int) (zs : List Str) (seed : Int), vs = [.ref cl, .ref nl, .ref d, .int seed, .int salt] ∧ SqL K H cl (cs.map V.int) ∧ cs.length ≤ 39 ∧ StrsAt H nl zs 8 ∧ H d = some (.dK (kvOf kn)) ∧ (∀ z ∈ zs.take 3, z ∈ kn.map (·.1)) ∧ (∀ z, (lkN kn z).natAbs < 2 ^ 64) ∧ salt.natAbs < 2 ^ 62 ∧ ∀ (v : V) (H' : Hp), Same H H' → TqAt c kn salt (fun b => H b ≠ none) H' v (treeF cs zs seed) → Tk (zs.take 3) (treeF cs zs seed) → (treeF cs zs seed).sz ≤ 40 → Q v H'
theorem Tk.mono {ks ks' : List Str} (h : ∀ z ∈ ks, z ∈ ks') : ∀ {t : Tw}, Tk ks t → Tk ks' t
  | .n _, g => g
  | .v _, g => h _ g
  | .c _ _, g => ⟨g.1, fun s hs => ⟨(g.2 s hs).1.imp id (h _), (g.2 s hs).2⟩⟩
  | .j _ _ _, g => ⟨g.1, Tk.mono h g.2.1, Tk.mono h g.2.2⟩
noncomputable def spValues12 (K : PySem.W.Frag) : Sp := fun vs H Q _ => ∃ (cl nl : Addr) (cs : List Int) (zs : List Str) (more : Int), vs = [.ref cl, .ref nl, .int more] ∧ SqL K H cl (cs.map V.int) ∧ StrsAt H nl zs 8 ∧ ∀ (r : Addr) (H' : Hp) (kn : List (Str × Int)), Same H H' → H r = none → H' r = some (.dK (kvOf kn)) → (∀ z ∈ zs.take 3, z ∈ kn.map (·.1)) → (kn.map (·.1)).Nodup → (∀ z, (lkN kn z).natAbs < 2 ^ 64) → Q (.ref r) H'
theorem kv_put (kn : List (Str × Int)) (z : Str) (v : Int) : ∃ kn' : List (Str × Int), putK (kvOf kn) (Sum.inr z) (V.int v) = kvOf kn' ∧ kn'.length ≤ kn.length + 1 ∧ (∀ y ∈ kn.map (·.1), y ∈ kn'.map (·.1)) ∧ z ∈ kn'.map (·.1) ∧ ((kn.map (·.1)).Nodup → (kn'.map (·.1)).Nodup) ∧ ∀ B : Nat, (∀ p ∈ kn, p.2.natAbs < B) → v.natAbs < B → ∀ p ∈ kn', p.2.natAbs < B := by
  by_cases h : z ∈ kn.map (·.1)
  · have ek : (kn.map fun p => if p.1 = z then (p.1, v) else p).map (·.1) = kn.map (·.1) := by
      rw [List.map_map]
      refine List.map_congr_left fun p _ => ?_
      show (if p.1 = z then (p.1, v) else p).1 = p.1
      split <;> rfl
    refine ⟨kn.map fun p => if p.1 = z then (p.1, v) else p, ?_, ?_, ?_, ?_, ?_, ?_⟩
    · unfold putK
      have a : ((kvOf kn).any fun kv => decide (kv.1 = (Sum.inr z : Key))) = true := by
        obtain ⟨p, hp, e⟩ := List.mem_map.mp h
        refine List.any_eq_true.mpr ⟨_, List.mem_map.mpr ⟨p, hp, rfl⟩, decide_eq_true ?_⟩
        show (Sum.inr p.1 : Key) = Sum.inr z
        rw [e]
      rw [if_pos a]
      unfold kvOf
      rw [List.map_map, List.map_map]
      refine List.map_congr_left fun p _ => ?_
      show (if (Sum.inr p.1 : Key) = Sum.inr z then ((Sum.inr p.1 : Key), V.int v) else (Sum.inr p.1, V.int p.2)) = ((Sum.inr (if p.1 = z then (p.1, v) else p).1 : Key), V.int (if p.1 = z then (p.1, v) else p).2)
      by_cases c : p.1 = z
      · rw [if_pos (congrArg _ c), if_pos c]
      · rw [if_neg (fun e => c (Sum.inr.inj e)), if_neg c]
    · rw [List.length_map]; omega
    · rw [ek]; exact fun _ h => h
    · rw [ek]; exact h
    · rw [ek]; exact id
    · intro B hB hv p hp
      obtain ⟨q, hq, rfl⟩ := List.mem_map.mp hp
      split
      · exact hv
      · exact hB q hq
  · refine ⟨kn ++ [(z, v)], kv_snoc h, by rw [List.length_append]; exact Nat.le_refl _, fun y hy => by rw [List.map_append]; exact List.mem_append_left _ hy, by rw [List.map_append]; exact List.mem_append_right _ List.mem_cons_self, fun nd => ?_, fun B hB hv p hp => ?_⟩
    · rw [List.map_append, List.nodup_append]
      refine ⟨nd, by simp, fun a ha b hb e => h ?_⟩
      rw [List.map_cons, List.map_nil, List.mem_singleton] at hb
      have hb : b = z := hb
      rw [← hb, ← e]; exact ha
    · rcases List.mem_append.mp hp with e | e
      · exact hB p e
      · rw [List.mem_singleton.mp e]; exact hv
theorem lkN_lt {kn : List (Str × Int)} {B : Nat} (h0 : 0 < B) (h : ∀ p ∈ kn, p.2.natAbs < B) (z : Str) : (lkN kn z).natAbs < B := by
  unfold lkN
  cases e : kn.find? fun p => decide (p.1 = z) with
  | none => exact h0
  | some p => exact h p (List.mem_of_find?_eq_some e)
theorem cutV_3 (zs : List Str) (h : 3 ≤ zs.length) : cutV (zs.map V.str) none (some 3) = (zs.take 3).map V.str := by
  unfold cutV
  have e0 : HT.sIx (zs.map V.str).length 0 none = 0 := rfl
  have e1 : HT.sIx (zs.map V.str).length (zs.map V.str).length (some ((3 : Nat) : Int)) = min 3 (zs.map V.str).length := HT.sIx_nat ..
  have e1 : HT.sIx (zs.map V.str).length (zs.map V.str).length (some 3) = min 3 (zs.map V.str).length := e1
  rw [e0, e1, List.length_map, Nat.min_eq_left h, List.drop_zero, Nat.sub_zero, List.map_take]
theorem hdF_small (salt : Int) (tb : Str) (pl : List Int) (hs : salt.natAbs < 2 ^ 62) : (hdF salt tb pl).natAbs < 2 ^ 64 := by
  have g : ∀ (pl : List Int) (a : Int), a.natAbs < 2 ^ 62 → (pl.foldl (fun a n => (a * 1009 + n) % 1000000000000000003) a).natAbs < 2 ^ 62 := fun pl => by
    induction pl with
    | nil => exact fun a h => h
    | cons n pl ih =>
      intro a _
      have h0 := Int.emod_nonneg (a * 1009 + n) (show (1000000000000000003 : Int) ≠ 0 by decide)
      have h1 := Int.emod_lt_of_pos (a * 1009 + n) (show (0 : Int) < 1000000000000000003 by decide)
      exact ih _ (by show ((a * 1009 + n) % 1000000000000000003).natAbs < 2 ^ 62; omega)
  have f : ∀ (cs : List Nat) (a : Int), a.natAbs < 2 ^ 62 → (cs.foldl (fun (a : Int) (c : Nat) => (a * 131 + (c : Int)) % 1000000000000000003) a).natAbs < 2 ^ 62 := fun cs => by
    induction cs with
    | nil => exact fun a h => h
    | cons n cs ih =>
      intro a _
      have h0 := Int.emod_nonneg (a * 131 + (n : Int)) (show (1000000000000000003 : Int) ≠ 0 by decide)
      have h1 := Int.emod_lt_of_pos (a * 131 + (n : Int)) (show (0 : Int) < 1000000000000000003 by decide)
      exact ih _ (by show ((a * 131 + (n : Int)) % 1000000000000000003).natAbs < 2 ^ 62; omega)
  have := g pl _ (f (cds tb) salt hs)
  unfold hdF
  omega
end L2

set_option Elab.async false
set_option linter.all false
set_option maxRecDepth 100000
set_option maxHeartbeats 4000000
namespace L2
open PySem PySem.Spec PyProof.Rows
theorem keepTb {H : Hp} {Pt : Addr} {q pt : Array Value} (hT : H Pt = some (.tbl q)) {a : Addr} {u : HO} (e : H a = some u) (n : ∀ z, u ≠ .tbl z) : (upd H Pt (.tbl pt)) a = some u := by
  rw [upd_ne (fun z => by rw [z, hT] at e; cases e; exact n _ rfl)]
  exact e
theorem FnOk.ex {P : Program} {w : World} {K : PySem.W.Frag} {mg : Str → Option Value} {base : Heap} {k : Nat} {f : Addr} {fd : FuncData} {ps : List Str} {ι : Type} {sp : ι → Sp} (h : ∀ i, FnOk P w K mg base CX0 k f fd ps (sp i)) : FnOk P w K mg base CX0 k f fd ps (fun vs H Q E => ∃ i, sp i vs H Q E) :=
  ⟨fun vs H Q E ⟨i, g⟩ => (h i).len vs H Q E g, fun A outer s H args us vs Q E r e b v ⟨i, g⟩ => (h i).run A outer s H args us vs Q E r e b v g⟩
theorem names_strs {H : Hp} {nl : Addr} {c : Int} (h : H nl = some (.lst (strsV (namesF c 8)))) : StrsAt H nl ((namesF c 8).map sOf) 8 := by
  refine ⟨?_, by rw [List.length_map, namesF_len], fun z hz => ?_⟩
  · rw [h, List.map_map]; rfl
  · obtain ⟨x, hx, rfl⟩ := List.mem_map.mp hz
    obtain ⟨k, _, rfl⟩ := List.mem_map.mp hx
    rw [len_sOf]
    refine Nat.le_trans (len_nameC ?_ _) (by decide)
    unfold nameW
    rw [List.length_map, List.length_drop, strm_len]
theorem tDef_go {Pt : Addr} {i : Nat} {pos : Pos} {qn : Str} {u : Addr → Addr → Obj → Value → Value → TS} {D : Ends} {σ : St} {H : Hp} {ps : Array Value} (hT : H Pt = some (.tbl ps)) (h1 : TriplesOk ps.toList) (h2 : codeAmong pos ps.toList = none)
    (k : ∀ (f c' : Addr) (oc : Obj) (doc ctv : Value) (H' : Hp), (∃ vs t, oc.data = .fields vs ∧ vs[1]? = some (.str qn t)) → (∀ b o, H b = some o → (∀ z, o ≠ .tbl z) → H' b = some o) → H' Pt = some (.tbl (ps ++ #[rawInt pos.line, rawInt pos.col, .ref c'])) → u f c' oc doc ctv D (σ.set i (some (.ref f))) H') : tDef Pt i pos qn u D σ H :=
  ⟨ps, hT, h1, h2, fun f c' oc doc ctv ho _ _ _ => k f c' oc doc ctv _ ho (fun b o e n => keepTb hT e n) upd_same⟩
theorem SqL.kp {K : PySem.W.Frag} {H H' : Hp} {p : Addr} {xs : List V} (h : SqL K H p xs) (k : ∀ b o, H b = some o → (∀ z, o ≠ .tbl z) → H' b = some o) : SqL K H' p xs := by
  rcases h with (h | ⟨o', h⟩) | h
  · exact .inl (.inl (k _ _ h fun _ => by simp))
  · exact .inl (.inr ⟨o', k _ _ h fun _ => by simp⟩)
  · exact .inr h
theorem cut544 (ns : List Int) : (cutC ns (some 5) (some 44)).length ≤ 39 := by
  by_cases c : 44 ≤ ns.length
  · rw [cut_mid ns (by decide) (by decide) (by omega) (by decide), List.length_take]
    exact Nat.min_le_left _ _
  · unfold cutC
    have e0 : HT.sIx ns.length 0 (some ((5 : Nat) : Int)) = min 5 ns.length := HT.sIx_nat ..
    have e1 : HT.sIx ns.length ns.length (some ((44 : Nat) : Int)) = min 44 ns.length := HT.sIx_nat ..
    have e0 : HT.sIx ns.length 0 (some 5) = min 5 ns.length := e0
    have e1 : HT.sIx ns.length ns.length (some 44) = min 44 ns.length := e1
    rw [e0, e1, List.length_take]
    omega
noncomputable def isN : Tw → Prop | .n _ => True | _ => False
noncomputable def isV : Tw → Prop | .v _ => True | _ => False
noncomputable def isC : Tw → Prop | .c _ _ => True | _ => False
noncomputable def isJ : Tw → Prop | .j _ _ _ => True | _ => False
section
variable {c : Cs} {kn : List (Str × Int)} {hd : Str → List Int → Int} {g d : Addr} {n : Nat} {ta : TE} {t : TA} {σ : St} {H : Hp} {Q : VK} {l : Tw} {lv : V}
end
end L2

set_option Elab.async false
set_option linter.all false
set_option maxRecDepth 100000
set_option maxHeartbeats 4000000
namespace L2
open PySem PySem.Spec PyProof.Rows
theorem Bar.trans {l : Addr} {H H' H'' : Hp} (h : Bar l H H') (g : Bar l H' H'') : Bar l H H'' := ⟨h.1, fun b ob n e => g.2 _ _ n (h.2 _ _ n e)⟩
theorem Bar.rfl {l : Addr} {H : Hp} {xs : List V} (h : H l = some (.lst xs)) : Bar l H H := ⟨⟨xs, h⟩, fun _ _ _ e => e⟩
theorem Bar.dk {l d : Addr} {H H' : Hp} {kvs : List (Key × V)} (h : Bar l H H') (e : H d = some (.dK kvs)) : H' d = some (.dK kvs) := h.2 _ _ (fun z => by obtain ⟨xs, hx⟩ := h.1; rw [z, hx] at e; cases e) e
theorem Bar.ins {l x : Addr} {H H' : Hp} {C dx : Addr} {fs : List (Str × V)} (h : Bar l H H') (e : H x = some (.ins C dx fs)) : H' x = some (.ins C dx fs) := h.2 _ _ (fun z => by obtain ⟨xs, hx⟩ := h.1; rw [z, hx] at e; cases e) e
noncomputable def spTr (s : Str × Int) : Tr := .tup [.v (.str s.1), .v (.int s.2)]
noncomputable def rdTr (r : Str × List (Str × Int)) : Tr := .tup [.v (.str r.1), .tup (r.2.map spTr)]
noncomputable def pcTr (r : Str × List Int) : Tr := .tup [.v (.str r.1), .tup (r.2.map fun i => .v (.int i))]
section
variable {K : PySem.W.Frag} {H : Hp}
theorem trs_all {α : Type} {R : V → α → Prop} {f : α → Tr} (h : ∀ x a, R x a → TrIs K H x (f a)) : ∀ {xs : List V} {as : List α}, All2 R xs as → TrsIs K H xs (as.map f)
  | [], [], _ => .nil
  | [], _ :: _, g => absurd g.1 (by simp)
  | _ :: _, [], g => absurd g.1 (by simp)
  | x :: xs, a :: as, g => .cons (h x a (g.2 0 x a rfl rfl)) (trs_all h ⟨Nat.succ.inj g.1, fun i y b p q => g.2 (i + 1) y b p q⟩)
theorem SpoAt.tr {x : V} {s : Str × Int} (h : SpoAt H x s) : TrIs K H x (spTr s) := by
  obtain ⟨t, rfl, e⟩ := h
  exact .tup (SqT.of e) (.cons (.flat rfl) (.cons (.flat rfl) .nil))
theorem RdAt.tr {x : V} {r : Str × List (Str × Int)} (h : RdAt H x r) : TrIs K H x (rdTr r) := by
  obtain ⟨t, p, rfl, e, xs, hp, ax⟩ := h
  exact .tup (SqT.of e) (.cons (.flat rfl) (.cons (.tup (SqT.of hp) (trs_all (fun _ _ z => z.tr) ax)) .nil))
theorem ints_trA : ∀ l : List Int, TrsIs K H (l.map V.int) (l.map fun i => Tr.v (.int i))
  | [] => .nil
  | _ :: l => .cons (.flat rfl) (ints_trA l)
theorem PcAt.tr {x : V} {r : Str × List Int} (h : PcAt H x r) : TrIs K H x (pcTr r) := by
  obtain ⟨t, p, rfl, e, hp⟩ := h
  exact .tup (SqT.of e) (.cons (.flat rfl) (.cons (.tup (SqT.of hp) (ints_trA _)) .nil))
end
theorem dep_map {α : Type} {f : α → Tr} {n : Nat} (h : ∀ a, depT (f a) ≤ n) : ∀ as : List α, depTs (as.map f) ≤ n
  | [] => by rw [List.map_nil, depTs]; exact Nat.zero_le _
  | a :: as => by
    have h1 := h a
    have h2 := dep_map h as
    rw [List.map_cons, depTs]
    omega
theorem spTr_dep (s : Str × Int) : depT (spTr s) ≤ 1 := by
  unfold spTr
  rw [depT, depTs, depTs, depTs, depT, depT]
  decide
theorem rdTr_dep (r : Str × List (Str × Int)) : depT (rdTr r) ≤ 3 := by
  have h := dep_map spTr_dep r.2
  unfold rdTr
  rw [depT, depTs, depTs, depTs, depT, depT]
  omega
theorem pcTr_dep (r : Str × List Int) : depT (pcTr r) ≤ 3 := by
  have h := dep_map (f := fun i => Tr.v (.int i)) (n := 0) (fun a => by rw [depT]; exact Nat.le_refl _) r.2
  unfold pcTr
  rw [depT, depTs, depTs, depTs, depT, depT]
  omega
noncomputable def spAlike13 : Sp := fun vs H Q _ => ∃ (f d : Addr) (xs ys : List V) (rs : List (Str × List (Str × Int))), vs = [.ref f, .ref d] ∧ H f = some (.lst xs) ∧ H d = some (.lst ys) ∧ All2 (RdAt H) xs rs ∧ All2 (RdAt H) ys rs ∧ rs.length ≤ 100 ∧ ∀ H', Same H H' → Q (.bl true) H'
noncomputable def spPlaces13 : Sp := fun vs H Q _ => ∃ (f d : Addr) (xs ys : List V) (rs : List (Str × List Int)), vs = [.ref f, .ref d] ∧ H f = some (.lst xs) ∧ H d = some (.lst ys) ∧ All2 (PcAt H) xs rs ∧ All2 (PcAt H) ys rs ∧ rs.length ≤ 100 ∧ (∀ r ∈ rs, r.2.length ≤ 100) ∧ ∀ H', Same H H' → Q (.bl true) H'
noncomputable def spRdsA (c : Cs) (p : Tw → Prop) : Sp := fun vs H Q _ => ∃ (x : V) (t : Tw), vs = [x] ∧ TbAt c H t x ∧ p t ∧ t.sz ≤ 100 ∧ ∀ (r : Addr) (H' : Hp) (xs : List V), Same H H' → H r = none → H' r = some (.lst xs) → All2 (RdAt H') xs (rdT t) → Q (.ref r) H'
section
variable {c : Cs} {n : Nat} {ta : TE} {σ : St} {H : Hp} {Q : VK} {l : Tw} {lv : V}
theorem alt_rds (hta : ∀ Q' : VK, Q' lv H → ta σ H Q') (tb : TbAt c H l lv) (sz : l.sz ≤ n) (sz1 : l.sz ≤ 100) (q : ∀ (r : Addr) (H' : Hp) (xs : List V), Same H H' → H r = none → H' r = some (.lst xs) → All2 (RdAt H') xs (rdT l) → Q (.ref r) H') :
    tMeth c.n "reads" (spRdsA c isN) [] E0 ta tNil σ H Q ∨ tMeth c.v "reads" (spRdsA c isV) [] E0 ta tNil σ H Q ∨ tMeth c.c "reads" (spRdsA c isC) [] E0 ta tNil σ H Q ∨ tMeth c.j "reads" (spRdsA c fun t => isJ t ∧ t.sz ≤ n) [] E0 ta tNil σ H Q := by
  cases l with
  | n i =>
    obtain ⟨x, dx, rfl, hx⟩ := id tb
    exact .inl (hta _ ⟨x, dx, _, rfl, hx, rfl, ⟨_, .n i, rfl, tb, trivial, sz1, q⟩⟩)
  | v z =>
    obtain ⟨x, dx, rfl, hx⟩ := id tb
    exact .inr (.inl (hta _ ⟨x, dx, _, rfl, hx, rfl, ⟨_, .v z, rfl, tb, trivial, sz1, q⟩⟩))
  | c z sp =>
    obtain ⟨x, dx, p, rfl, hx, _⟩ := id tb
    exact .inr (.inr (.inl (hta _ ⟨x, dx, _, rfl, hx, rfl, ⟨_, .c z sp, rfl, tb, trivial, sz1, q⟩⟩)))
  | j z l r =>
    obtain ⟨x, dx, a, b, rfl, hx, _⟩ := id tb
    exact .inr (.inr (.inr (hta _ ⟨x, dx, _, rfl, hx, rfl, ⟨_, .j z l r, rfl, tb, ⟨trivial, sz⟩, sz1, q⟩⟩)))
end
noncomputable def spHdA (hd : Str → List Int → Int) (q : Addr) : Sp := fun vs H Q _ => ∃ (tb : Str) (pt : Addr) (pl : List Int) (xs : List V), vs = [.str tb, .ref pt] ∧ H pt = some (.tup (pl.map V.int)) ∧ H q = some (.lst xs) ∧ xs.length ≤ 1000 ∧ ∀ (t : Addr) (H' : Hp), Bar q H H' → H' q = some (.lst (xs ++ [.ref t])) → H' t = some (.tup [.str tb, .ref pt]) → Q (.int (hd tb pl)) H'
structure HdA (P : Program) (w : World) (K : PySem.W.Frag) (mg : Str → Option Value) (base : Heap) (g : Addr) (hd : Str → List Int → Int) (q : Addr) : Prop where
  ok : ∃ (gd : FuncData) (ps : List Str), FnOk P w K mg base CX0 2 g gd ps (spHdA hd q) ∧ PySem.W.FnAt g base ∧ ∀ (s : Shared) (us : List Value), us.length = ps.length → BindsTo s gd ⟨us, []⟩ (ps.zip us)
noncomputable def spWthA (c : Cs) (kn : List (Str × Int)) (hd : Str → List Int → Int) (g q : Addr) (p : Tw → Prop) : Sp := fun vs H Q _ => ∃ (x : V) (d : Addr) (t : Tw) (xs : List V), vs = [x, .ref d, .ref g] ∧ TbAt c H t x ∧ p t ∧ H d = some (.dK (kvOf kn)) ∧ Tk (kn.map (·.1)) t ∧ H q = some (.lst xs) ∧ xs.length + t.sz ≤ 1000 ∧ ∀ (H' : Hp) (ys : List V), Bar q H H' → H' q = some (.lst (xs ++ ys)) → All2 (PcAt H') ys (plT kn t) → Q (.int (wth kn hd t)) H'
section
variable {c : Cs} {kn : List (Str × Int)} {hd : Str → List Int → Int} {g d qa : Addr} {n : Nat} {ta : TE} {t : TA} {σ : St} {H : Hp} {Q : VK} {l : Tw} {lv : V} {xs : List V}
theorem alt_wthA (hta : ∀ Q' : VK, Q' lv H → ta σ H Q') (ht : ∀ Q' : List V → Hp → Prop, Q' [.ref d, .ref g] H → t σ H Q') (tb : TbAt c H l lv) (hdk : H d = some (.dK (kvOf kn))) (tk : Tk (kn.map (·.1)) l) (sz : l.sz ≤ n) (hq : H qa = some (.lst xs)) (hl : xs.length + l.sz ≤ 1000)
    (q : ∀ (H' : Hp) (ys : List V), Bar qa H H' → H' qa = some (.lst (xs ++ ys)) → All2 (PcAt H') ys (plT kn l) → Q (.int (wth kn hd l)) H') :
    tMeth c.n "worth" (spWthA c kn hd g qa isN) [] E0 ta t σ H Q ∨ tMeth c.v "worth" (spWthA c kn hd g qa isV) [] E0 ta t σ H Q ∨ tMeth c.c "worth" (spWthA c kn hd g qa isC) [] E0 ta t σ H Q ∨ tMeth c.j "worth" (spWthA c kn hd g qa fun t => isJ t ∧ t.sz ≤ n) [] E0 ta t σ H Q := by
  cases l with
  | n i =>
    obtain ⟨x, dx, rfl, hx⟩ := id tb
    exact .inl (hta _ ⟨x, dx, _, rfl, hx, rfl, ht _ ⟨_, d, .n i, xs, rfl, tb, trivial, hdk, tk, hq, hl, q⟩⟩)
  | v z =>
    obtain ⟨x, dx, rfl, hx⟩ := id tb
    exact .inr (.inl (hta _ ⟨x, dx, _, rfl, hx, rfl, ht _ ⟨_, d, .v z, xs, rfl, tb, trivial, hdk, tk, hq, hl, q⟩⟩))
  | c z sp =>
    obtain ⟨x, dx, p, rfl, hx, _⟩ := id tb
    exact .inr (.inr (.inl (hta _ ⟨x, dx, _, rfl, hx, rfl, ht _ ⟨_, d, .c z sp, xs, rfl, tb, trivial, hdk, tk, hq, hl, q⟩⟩)))
  | j z l r =>
    obtain ⟨x, dx, a, b, rfl, hx, _⟩ := id tb
    exact .inr (.inr (.inr (hta _ ⟨x, dx, _, rfl, hx, rfl, ht _ ⟨_, d, .j z l r, xs, rfl, tb, ⟨trivial, sz⟩, hdk, tk, hq, hl, q⟩⟩)))
theorem alt_wthAB {X : Cx} {kN kV kC kJ : Nat} {fN fV fC fJ : Addr} {dN dV dC dJ : FuncData} {pN pV pC pJ : List Str} (hG : ∀ H2 pins s, Inv X pins σ H2 s → HdA X.prog X.w X.K X.mg (bigB s.heap H2 X.stack) g hd qa)
    (oN : ∀ base, HdA X.prog X.w X.K X.mg base g hd qa → FnOk X.prog X.w X.K X.mg base CX0 kN fN dN pN (spWthA c kn hd g qa isN)) (oV : ∀ base, HdA X.prog X.w X.K X.mg base g hd qa → FnOk X.prog X.w X.K X.mg base CX0 kV fV dV pV (spWthA c kn hd g qa isV))
    (oC : ∀ base, HdA X.prog X.w X.K X.mg base g hd qa → FnOk X.prog X.w X.K X.mg base CX0 kC fC dC pC (spWthA c kn hd g qa isC)) (oJ : ∀ base, HdA X.prog X.w X.K X.mg base g hd qa → FnOk X.prog X.w X.K X.mg base CX0 kJ fJ dJ pJ (spWthA c kn hd g qa fun t => isJ t ∧ t.sz ≤ n))
    (hta : ∀ Q' : VK, Q' lv H → ta σ H Q') (ht : ∀ Q' : List V → Hp → Prop, (∀ d H2, Same H H2 → H2 d = some (.dK (kvOf kn)) → Q' [.ref d, .ref g] H2) → t σ H Q') (tb : TbAt c H l lv) (tk : Tk (kn.map (·.1)) l) (sz : l.sz ≤ n) (hq : H qa = some (.lst xs)) (hl : xs.length + l.sz ≤ 1000)
    (q : ∀ (H' : Hp) (ys : List V), Bar qa H H' → H' qa = some (.lst (xs ++ ys)) → All2 (PcAt H') ys (plT kn l) → Q (.int (wth kn hd l)) H') :
    tMethB X kN fN dN pN c.n "worth" ta t σ H Q ∨ tMethB X kV fV dV pV c.v "worth" ta t σ H Q ∨ tMethB X kC fC dC pC c.c "worth" ta t σ H Q ∨ tMethB X kJ fJ dJ pJ c.j "worth" ta t σ H Q := by
  have q2 : ∀ H2, Same H H2 → ∀ (H' : Hp) (ys : List V), Bar qa H2 H' → H' qa = some (.lst (xs ++ ys)) → All2 (PcAt H') ys (plT kn l) → Q (.int (wth kn hd l)) H' := fun H2 e2 H' ys b => q H' ys ((Bar.same hq e2).trans b)
  cases l with
  | n i =>
    obtain ⟨x, dx, rfl, hx⟩ := id tb
    exact .inl (hta _ ⟨x, dx, _, rfl, hx, rfl, ht _ fun d H2 e2 hdk => ⟨_, fun pins s I => oN _ (hG H2 pins s I), _, d, .n i, xs, rfl, tb.over e2, trivial, hdk, tk, e2 _ _ hq, hl, q2 H2 e2⟩⟩)
  | v z =>
    obtain ⟨x, dx, rfl, hx⟩ := id tb
    exact .inr (.inl (hta _ ⟨x, dx, _, rfl, hx, rfl, ht _ fun d H2 e2 hdk => ⟨_, fun pins s I => oV _ (hG H2 pins s I), _, d, .v z, xs, rfl, tb.over e2, trivial, hdk, tk, e2 _ _ hq, hl, q2 H2 e2⟩⟩))
  | c z sp =>
    obtain ⟨x, dx, p, rfl, hx, _⟩ := id tb
    exact .inr (.inr (.inl (hta _ ⟨x, dx, _, rfl, hx, rfl, ht _ fun d H2 e2 hdk => ⟨_, fun pins s I => oC _ (hG H2 pins s I), _, d, .c z sp, xs, rfl, tb.over e2, trivial, hdk, tk, e2 _ _ hq, hl, q2 H2 e2⟩⟩)))
  | j z l r =>
    obtain ⟨x, dx, a, b, rfl, hx, _⟩ := id tb
    exact .inr (.inr (.inr (hta _ ⟨x, dx, _, rfl, hx, rfl, ht _ fun d H2 e2 hdk => ⟨_, fun pins s I => oJ _ (hG H2 pins s I), _, d, .j z l r, xs, rfl, tb.over e2, ⟨trivial, sz⟩, hdk, tk, e2 _ _ hq, hl, q2 H2 e2⟩⟩)))
end
theorem clo2 {base : Heap} {scope : Scope} {n m : Str} {c d : Addr} {v y : V} {u z : Value} (hf : ∀ y ∈ scope.names, y.2 = .free → y.1 = n ∨ y.1 = m) (nm : n ≠ m) (cd : c ≠ d) (hc : base.IsCell c (some u)) (rv : RelV v u) (hd : base.IsCell d (some z)) (ry : RelV y z) : CloOk base scope [(n, c), (m, d)] [n, m] [v, y] := by
  have one : ∀ x c', ([(n, c), (m, d)] : List (Str × Addr)).lookup x = some c' → (x = n ∧ c' = c) ∨ (x = m ∧ c' = d) := fun x c' h => by
    have := mem_of_lookup' h
    rcases List.mem_cons.mp this with e | e
    · cases e; exact .inl ⟨rfl, rfl⟩
    · cases List.mem_singleton.mp e; exact .inr ⟨rfl, rfl⟩
  have lk : ([(n, c), (m, d)] : List (Str × Addr)).lookup n = some c := by rw [List.lookup_cons, beq_self_eq_true]
  have lm : ([(n, c), (m, d)] : List (Str × Addr)).lookup m = some d := by
    rw [List.lookup_cons, beq_eq_false_iff_ne.mpr (Ne.symm nm)]
    show ([(m, d)] : List (Str × Addr)).lookup m = some d
    rw [List.lookup_cons, beq_self_eq_true]
  refine ⟨rfl, fun j x v' h1 h2 => ?_, fun x c' h => ?_, fun x y c' h1 h2 => ?_, fun x h => ?_⟩
  · match j, h1, h2 with
    | 0, h1, h2 => cases h1; cases h2; exact ⟨c, u, lk, hc, rv⟩
    | 1, h1, h2 => cases h1; cases h2; exact ⟨d, z, lm, hd, ry⟩
    | j + 2, h1, _ => cases h1
  · rcases one x c' h with e | e
    · rw [e.2]; exact ⟨_, hc⟩
    · rw [e.2]; exact ⟨_, hd⟩
  · rcases one x c' h1 with e | e <;> rcases one y c' h2 with f | f
    · exact e.1.trans f.1.symm
    · exact absurd (e.2.symm.trans f.2) cd
    · exact absurd (f.2.symm.trans e.2) cd
    · exact e.1.trans f.1.symm
  · rcases hf _ (mem_of_lookup' h) rfl with e | e
    · have e : x = n := e
      rw [e]; exact ⟨_, lk⟩
    · have e : x = m := e
      rw [e]; exact ⟨_, lm⟩
structure S13 (c : Cs) (kn : List (Str × Int)) (t : Tw) (tm : V) (rl pl d : Addr) (xs ys : List V) (H : Hp) : Prop where
  tb : TbAt c H t tm
  hrl : H rl = some (.lst xs)
  hpl : H pl = some (.lst ys)
  ax : All2 (RdAt H) xs (rdT t)
  ay : All2 (PcAt H) ys (plT kn t)
  hd : H d = some (.dK (kvOf kn))
section
variable {c : Cs} {kn : List (Str × Int)} {t : Tw} {tm : V} {rl pl d l : Addr} {xs ys : List V} {H H' : Hp}
theorem S13.over (h : S13 c kn t tm rl pl d xs ys H) (e : Same H H') : S13 c kn t tm rl pl d xs ys H' := ⟨h.tb.over e, e _ _ h.hrl, e _ _ h.hpl, h.ax.mono fun _ _ z => z.tk (Same.tk e), h.ay.mono fun _ _ z => z.tk (Same.tk e), e _ _ h.hd⟩
theorem S13.bar (h : S13 c kn t tm rl pl d xs ys H) (e : Bar l H H') (n1 : rl ≠ l) (n2 : pl ≠ l) : S13 c kn t tm rl pl d xs ys H' := ⟨h.tb.bar e, e.2 _ _ n1 h.hrl, e.2 _ _ n2 h.hpl, h.ax.mono fun _ _ z => z.tk e.tk, h.ay.mono fun _ _ z => z.tk e.tk, e.dk h.hd⟩
end
theorem plT_small {ks : List Str} {kn : List (Str × Int)} : ∀ {t : Tw}, Tk ks t → ∀ r ∈ plT kn t, r.2.length ≤ 100
  | .n _, _, r, h => by cases h
  | .v _, _, r, h => by cases h
  | .c z sp, k, r, h => by
    have h : r ∈ [(z, sp.map (stW kn))] := h
    rw [List.mem_singleton.mp h]
    show (sp.map (stW kn)).length ≤ 100
    have := k.1
    rw [List.length_map]; omega
  | .j z l r', k, r, h => by
    have h : r ∈ plT kn l ++ plT kn r' := h
    rcases List.mem_append.mp h with e | e
    · exact plT_small k.2.1 r e
    · exact plT_small k.2.2 r e
end L2

set_option Elab.async false
set_option linter.all false
set_option maxRecDepth 100000
set_option maxHeartbeats 4000000

namespace Fw
open PySem L2


noncomputable def top (i : Nat) : Stmt := PySem.Challenge.pw_furrow_k13_cells_from_left_to_right.main.body.getD i (.Pass ⟨0, 0, 0, 0⟩)
noncomputable abbrev s_Number_init : Stmt := inClass (top 4) 0
noncomputable abbrev s_Value_init : Stmt := inClass (top 5) 0
noncomputable abbrev s_Cell_init : Stmt := inClass (top 6) 0
noncomputable abbrev s_Joined_init : Stmt := inClass (top 7) 0
noncomputable abbrev s_l_cell_at : Stmt := top 9
noncomputable abbrev s_l_whole : Stmt := top 10
noncomputable abbrev s_l_stream : Stmt := top 11
noncomputable abbrev s_l_number : Stmt := top 13
noncomputable abbrev s_l_held : Stmt := top 14
noncomputable abbrev s_l_leaf : Stmt := top 15
noncomputable abbrev s_l_both : Stmt := top 16
noncomputable abbrev s_l_tree : Stmt := top 17
noncomputable abbrev s_l_values : Stmt := top 18
noncomputable abbrev s_stood_for : Stmt := top 2
noncomputable abbrev s_placed : Stmt := top 1
noncomputable abbrev s_l_names : Stmt := top 12
noncomputable abbrev s_Number_worth : Stmt := inClass (top 4) 1
noncomputable abbrev s_Value_worth : Stmt := inClass (top 5) 1
noncomputable abbrev s_Cell_worth : Stmt := inClass (top 6) 1
noncomputable abbrev s_Joined_worth : Stmt := inClass (top 7) 1
noncomputable abbrev s_Number_reads : Stmt := inClass (top 4) 2
noncomputable abbrev s_Value_reads : Stmt := inClass (top 5) 2
noncomputable abbrev s_Cell_reads : Stmt := inClass (top 6) 2
noncomputable abbrev s_Joined_reads : Stmt := inClass (top 7) 2
noncomputable abbrev s_l_alike : Stmt := top 19
noncomputable abbrev s_l_places : Stmt := top 20
noncomputable abbrev s_law : Stmt := top 21
theorem sc_Number_init : FnScope ["self", "n"] ["self", "n"] (defScope s_Number_init) := ⟨rfl, rfl, rfl, by decide +kernel, rfl, by decide +kernel, by decide +kernel⟩
theorem sc_Value_init : FnScope ["self", "name"] ["self", "name"] (defScope s_Value_init) := ⟨rfl, rfl, rfl, by decide +kernel, rfl, by decide +kernel, by decide +kernel⟩
theorem sc_Cell_init : FnScope ["self", "table", "spots"] ["self", "table", "spots"] (defScope s_Cell_init) := ⟨rfl, rfl, rfl, by decide +kernel, rfl, by decide +kernel, by decide +kernel⟩
theorem sc_Joined_init : FnScope ["self", "sign", "left", "right"] ["self", "sign", "left", "right"] (defScope s_Joined_init) := ⟨rfl, rfl, rfl, by decide +kernel, rfl, by decide +kernel, by decide +kernel⟩
theorem sc_l_cell_at : FnScope ["_law_script", "_law_k"] ["_law_script", "_law_k"] (defScope s_l_cell_at) := ⟨rfl, rfl, rfl, by decide +kernel, rfl, by decide +kernel, by decide +kernel⟩
theorem sc_l_whole : FnScope ["_law_found"] ["_law_found"] (defScope s_l_whole) := ⟨rfl, rfl, rfl, by decide +kernel, rfl, by decide +kernel, by decide +kernel⟩
theorem sc_l_stream : FnScope ["_law_cell", "_law_many", "_law_found", "_law_number_here", "_law_k"] ["_law_cell", "_law_many"] (defScope s_l_stream) := ⟨rfl, rfl, rfl, by decide +kernel, rfl, by decide +kernel, by decide +kernel⟩
theorem sc_l_number : FnScope ["_law_cell", "_law_far"] ["_law_cell", "_law_far"] (defScope s_l_number) := ⟨rfl, rfl, rfl, by decide +kernel, rfl, by decide +kernel, by decide +kernel⟩
theorem sc_l_held : FnScope ["_law_table", "_law_place", "_law_salt", "_law_number_here", "_law_sign", "_law_n"] ["_law_table", "_law_place", "_law_salt"] (defScope s_l_held) := ⟨rfl, rfl, rfl, by decide +kernel, rfl, by decide +kernel, by decide +kernel⟩
theorem sc_l_leaf : FnScope ["_law_cell", "_law_names_here", "_law_values_here", "_law_salt", "_law_xs", "_law_number_here", "_law_name", "_law_spots", "_law_place", "_law_k", "_law_n", "_law_table", "_law_held_here"] ["_law_cell", "_law_names_here", "_law_values_here", "_law_salt"] (defScope s_l_leaf) := ⟨rfl, rfl, rfl, by decide +kernel, rfl, by decide +kernel, by decide +kernel⟩
theorem sc_l_both : FnScope ["_law_sign", "_law_left", "_law_right", "_law_found"] ["_law_sign", "_law_left", "_law_right"] (defScope s_l_both) := ⟨rfl, rfl, rfl, by decide +kernel, rfl, by decide +kernel, by decide +kernel⟩
theorem sc_l_tree : FnScope ["_law_cells", "_law_names_here", "_law_values_here", "_law_seed", "_law_salt", "_law_stack", "_law_cell", "_law_right", "_law_left"] ["_law_cells", "_law_names_here", "_law_values_here", "_law_seed", "_law_salt"] (defScope s_l_tree) := ⟨rfl, rfl, rfl, by decide +kernel, rfl, by decide +kernel, by decide +kernel⟩
theorem sc_l_values : FnScope ["_law_script", "_law_names_here", "_law_more", "_law_values_here", "_law_k"] ["_law_script", "_law_names_here", "_law_more"] (defScope s_l_values) := ⟨rfl, rfl, rfl, by decide +kernel, rfl, by decide +kernel, by decide +kernel⟩
theorem sc_stood_for : FnScope ["spot", "values"] ["spot", "values"] (defScope s_stood_for) := ⟨rfl, rfl, rfl, by decide +kernel, rfl, by decide +kernel, by decide +kernel⟩
theorem sc_placed : FnScope ["spots", "values"] ["spots", "values"] (defScope s_placed) := ⟨rfl, rfl, rfl, by decide +kernel, rfl, by decide +kernel, by decide +kernel⟩
theorem sc_l_names : FnScope ["_law_cell", "_law_many", "_law_letters", "_law_xs", "_law_word", "_law_long", "_law_at", "_law_found", "_law_k", "_law_sign", "_law_name"] ["_law_cell", "_law_many"] (defScope s_l_names) := ⟨rfl, rfl, rfl, by decide +kernel, rfl, by decide +kernel, by decide +kernel⟩
theorem sc_Number_worth : FnScope ["self", "values", "cells"] ["self", "values", "cells"] (defScope s_Number_worth) := ⟨rfl, rfl, rfl, by decide +kernel, rfl, by decide +kernel, by decide +kernel⟩
theorem sc_Value_worth : FnScope ["self", "values", "cells"] ["self", "values", "cells"] (defScope s_Value_worth) := ⟨rfl, rfl, rfl, by decide +kernel, rfl, by decide +kernel, by decide +kernel⟩
theorem sc_Cell_worth : FnScope ["self", "values", "cells"] ["self", "values", "cells"] (defScope s_Cell_worth) := ⟨rfl, rfl, rfl, by decide +kernel, rfl, by decide +kernel, by decide +kernel⟩
theorem sc_Joined_worth : FnScope ["self", "values", "cells", "left", "right"] ["self", "values", "cells"] (defScope s_Joined_worth) := ⟨rfl, rfl, rfl, by decide +kernel, rfl, by decide +kernel, by decide +kernel⟩
theorem sc_Number_reads : FnScope ["self"] ["self"] (defScope s_Number_reads) := ⟨rfl, rfl, rfl, by decide +kernel, rfl, by decide +kernel, by decide +kernel⟩
theorem sc_Value_reads : FnScope ["self"] ["self"] (defScope s_Value_reads) := ⟨rfl, rfl, rfl, by decide +kernel, rfl, by decide +kernel, by decide +kernel⟩
theorem sc_Cell_reads : FnScope ["self"] ["self"] (defScope s_Cell_reads) := ⟨rfl, rfl, rfl, by decide +kernel, rfl, by decide +kernel, by decide +kernel⟩
theorem sc_Joined_reads : FnScope ["self"] ["self"] (defScope s_Joined_reads) := ⟨rfl, rfl, rfl, by decide +kernel, rfl, by decide +kernel, by decide +kernel⟩
theorem sc_l_alike : FnScope ["_law_found", "_law_due", "_law_one", "_law_other"] ["_law_found", "_law_due"] (defScope s_l_alike) := ⟨rfl, rfl, rfl, by decide +kernel, rfl, by decide +kernel, by decide +kernel⟩
theorem sc_l_places : FnScope ["_law_found", "_law_due", "_law_table", "_law_place"] ["_law_found", "_law_due"] (defScope s_l_places) := ⟨rfl, rfl, rfl, by decide +kernel, rfl, by decide +kernel, by decide +kernel⟩
theorem sc_law : FnScope ["_law_script", "_law_names_here", "_law_seed", "_law_salt", "_law_values_here", "_law_asked", "_law_held_here", "_law_term", "_law_due", "_law_reads", "_law_places_here", "_law_told"] ["_law_script"] (defScope s_law) := ⟨rfl, rfl, rfl, by decide +kernel, rfl, by decide +kernel, by decide +kernel⟩
theorem c_placed_0 : compB (mkSc [(".0", .local), ("spot", .local), ("stood_for", .globalImplicit), ("values", .free)]) (defScope s_placed) ["spots", "values"] ["spot", "values"] [none, some 1] = true := by decide +kernel
theorem c_placed_0n : (["spot", "values"] : List Str).Nodup := by decide +kernel
theorem c_l_names_0 : compB (mkSc [(".0", .local), ("_law_x", .local), ("_law_letters", .free)]) (defScope s_l_names) ["_law_cell", "_law_many", "_law_letters", "_law_xs", "_law_word", "_law_long", "_law_at", "_law_found", "_law_k", "_law_sign", "_law_name"] ["_law_x", "_law_letters"] [none, some 2] = true := by decide +kernel
theorem c_l_names_0n : (["_law_x", "_law_letters"] : List Str).Nodup := by decide +kernel
theorem c_l_places_0 : compB (mkSc [(".0", .local), ("_law_n", .local), ("_law_whole", .globalImplicit)]) (defScope s_l_places) ["_law_found", "_law_due", "_law_table", "_law_place"] ["_law_n"] [none] = true := by decide +kernel
theorem c_l_places_0n : (["_law_n"] : List Str).Nodup := by decide +kernel
structure Ad where
  f_Number_init : Addr
  d_Number_init : FuncData
  f_Value_init : Addr
  d_Value_init : FuncData
  f_Cell_init : Addr
  d_Cell_init : FuncData
  f_Joined_init : Addr
  d_Joined_init : FuncData
  f_l_cell_at : Addr
  d_l_cell_at : FuncData
  f_l_whole : Addr
  d_l_whole : FuncData
  f_l_stream : Addr
  d_l_stream : FuncData
  f_l_number : Addr
  d_l_number : FuncData
  f_l_held : Addr
  d_l_held : FuncData
  f_l_leaf : Addr
  d_l_leaf : FuncData
  f_l_both : Addr
  d_l_both : FuncData
  f_l_tree : Addr
  d_l_tree : FuncData
  f_l_values : Addr
  d_l_values : FuncData
  f_stood_for : Addr
  d_stood_for : FuncData
  f_placed : Addr
  d_placed : FuncData
  f_l_names : Addr
  d_l_names : FuncData
  f_Number_worth : Addr
  d_Number_worth : FuncData
  f_Value_worth : Addr
  d_Value_worth : FuncData
  f_Cell_worth : Addr
  d_Cell_worth : FuncData
  f_Joined_worth : Addr
  d_Joined_worth : FuncData
  f_Number_reads : Addr
  d_Number_reads : FuncData
  f_Value_reads : Addr
  d_Value_reads : FuncData
  f_Cell_reads : Addr
  d_Cell_reads : FuncData
  f_Joined_reads : Addr
  d_Joined_reads : FuncData
  f_l_alike : Addr
  d_l_alike : FuncData
  f_l_places : Addr
  d_l_places : FuncData
  f_law : Addr
  d_law : FuncData
  c_Term : Addr
  c_Number : Addr
  c_Value : Addr
  c_Cell : Addr
  c_Joined : Addr
  c_tab : Addr
  p_tab : Addr
structure Tx (K : PySem.W.Frag) (mg : Str → Option Value) (a : Ad) : Prop where
  F_Number_init : Fun K "__init__" "Number.__init__" s_Number_init a.f_Number_init a.d_Number_init
  b_Number_init : Binds K a.d_Number_init ["self", "n"] []
  F_Value_init : Fun K "__init__" "Value.__init__" s_Value_init a.f_Value_init a.d_Value_init
  b_Value_init : Binds K a.d_Value_init ["self", "name"] []
  F_Cell_init : Fun K "__init__" "Cell.__init__" s_Cell_init a.f_Cell_init a.d_Cell_init
  b_Cell_init : Binds K a.d_Cell_init ["self", "table", "spots"] []
  F_Joined_init : Fun K "__init__" "Joined.__init__" s_Joined_init a.f_Joined_init a.d_Joined_init
  b_Joined_init : Binds K a.d_Joined_init ["self", "sign", "left", "right"] []
  F_l_cell_at : Fun K "_law_cell_at" "_law_cell_at" s_l_cell_at a.f_l_cell_at a.d_l_cell_at
  b_l_cell_at : Binds K a.d_l_cell_at ["_law_script", "_law_k"] []
  m_l_cell_at : mg "_law_cell_at" = some (.ref a.f_l_cell_at)
  F_l_whole : Fun K "_law_whole" "_law_whole" s_l_whole a.f_l_whole a.d_l_whole
  b_l_whole : Binds K a.d_l_whole ["_law_found"] []
  m_l_whole : mg "_law_whole" = some (.ref a.f_l_whole)
  F_l_stream : Fun K "_law_stream" "_law_stream" s_l_stream a.f_l_stream a.d_l_stream
  b_l_stream : Binds K a.d_l_stream ["_law_cell", "_law_many"] []
  m_l_stream : mg "_law_stream" = some (.ref a.f_l_stream)
  F_l_number : Fun K "_law_number" "_law_number" s_l_number a.f_l_number a.d_l_number
  b_l_number : Binds K a.d_l_number ["_law_cell", "_law_far"] []
  m_l_number : mg "_law_number" = some (.ref a.f_l_number)
  F_l_held : Fun K "_law_held" "_law_held" s_l_held a.f_l_held a.d_l_held
  b_l_held : Binds K a.d_l_held ["_law_table", "_law_place", "_law_salt"] []
  m_l_held : mg "_law_held" = some (.ref a.f_l_held)
  F_l_leaf : Fun K "_law_leaf" "_law_leaf" s_l_leaf a.f_l_leaf a.d_l_leaf
  b_l_leaf : Binds K a.d_l_leaf ["_law_cell", "_law_names_here", "_law_values_here", "_law_salt"] []
  m_l_leaf : mg "_law_leaf" = some (.ref a.f_l_leaf)
  F_l_both : Fun K "_law_both" "_law_both" s_l_both a.f_l_both a.d_l_both
  b_l_both : Binds K a.d_l_both ["_law_sign", "_law_left", "_law_right"] []
  m_l_both : mg "_law_both" = some (.ref a.f_l_both)
  F_l_tree : Fun K "_law_tree" "_law_tree" s_l_tree a.f_l_tree a.d_l_tree
  b_l_tree : Binds K a.d_l_tree ["_law_cells", "_law_names_here", "_law_values_here", "_law_seed", "_law_salt"] []
  m_l_tree : mg "_law_tree" = some (.ref a.f_l_tree)
  F_l_values : Fun K "_law_values" "_law_values" s_l_values a.f_l_values a.d_l_values
  b_l_values : Binds K a.d_l_values ["_law_script", "_law_names_here", "_law_more"] []
  m_l_values : mg "_law_values" = some (.ref a.f_l_values)
  F_stood_for : Fun K "stood_for" "stood_for" s_stood_for a.f_stood_for a.d_stood_for
  b_stood_for : Binds K a.d_stood_for ["spot", "values"] []
  m_stood_for : mg "stood_for" = some (.ref a.f_stood_for)
  F_placed : Fun K "placed" "placed" s_placed a.f_placed a.d_placed
  b_placed : Binds K a.d_placed ["spots", "values"] []
  m_placed : mg "placed" = some (.ref a.f_placed)
  F_l_names : Fun K "_law_names" "_law_names" s_l_names a.f_l_names a.d_l_names
  b_l_names : Binds K a.d_l_names ["_law_cell", "_law_many"] []
  m_l_names : mg "_law_names" = some (.ref a.f_l_names)
  F_Number_worth : Fun K "worth" "Number.worth" s_Number_worth a.f_Number_worth a.d_Number_worth
  b_Number_worth : Binds K a.d_Number_worth ["self", "values", "cells"] []
  F_Value_worth : Fun K "worth" "Value.worth" s_Value_worth a.f_Value_worth a.d_Value_worth
  b_Value_worth : Binds K a.d_Value_worth ["self", "values", "cells"] []
  F_Cell_worth : Fun K "worth" "Cell.worth" s_Cell_worth a.f_Cell_worth a.d_Cell_worth
  b_Cell_worth : Binds K a.d_Cell_worth ["self", "values", "cells"] []
  F_Joined_worth : Fun K "worth" "Joined.worth" s_Joined_worth a.f_Joined_worth a.d_Joined_worth
  b_Joined_worth : Binds K a.d_Joined_worth ["self", "values", "cells"] []
  F_Number_reads : Fun K "reads" "Number.reads" s_Number_reads a.f_Number_reads a.d_Number_reads
  b_Number_reads : Binds K a.d_Number_reads ["self"] []
  F_Value_reads : Fun K "reads" "Value.reads" s_Value_reads a.f_Value_reads a.d_Value_reads
  b_Value_reads : Binds K a.d_Value_reads ["self"] []
  F_Cell_reads : Fun K "reads" "Cell.reads" s_Cell_reads a.f_Cell_reads a.d_Cell_reads
  b_Cell_reads : Binds K a.d_Cell_reads ["self"] []
  F_Joined_reads : Fun K "reads" "Joined.reads" s_Joined_reads a.f_Joined_reads a.d_Joined_reads
  b_Joined_reads : Binds K a.d_Joined_reads ["self"] []
  F_l_alike : Fun K "_law_alike" "_law_alike" s_l_alike a.f_l_alike a.d_l_alike
  b_l_alike : Binds K a.d_l_alike ["_law_found", "_law_due"] []
  m_l_alike : mg "_law_alike" = some (.ref a.f_l_alike)
  F_l_places : Fun K "_law_places" "_law_places" s_l_places a.f_l_places a.d_l_places
  b_l_places : Binds K a.d_l_places ["_law_found", "_law_due"] []
  m_l_places : mg "_law_places" = some (.ref a.f_l_places)
  F_law : Fun K "law" "law" s_law a.f_law a.d_law
  b_law : Binds K a.d_law ["_law_script"] []
  m_law : mg "law" = some (.ref a.f_law)
  cl_Term : Cls K a.c_Term
  mc_Term : mg "Term" = some (.ref a.c_Term)
  cl_Number : Cls K a.c_Number
  mc_Number : mg "Number" = some (.ref a.c_Number)
  mk_Number : Mk K a.c_Number a.f_Number_init
  me_Number_worth : Meth K a.c_Number "worth" a.f_Number_worth
  me_Number_reads : Meth K a.c_Number "reads" a.f_Number_reads
  n_Number_n : NoAttr K a.c_Number "n"
  cl_Value : Cls K a.c_Value
  mc_Value : mg "Value" = some (.ref a.c_Value)
  mk_Value : Mk K a.c_Value a.f_Value_init
  me_Value_worth : Meth K a.c_Value "worth" a.f_Value_worth
  me_Value_reads : Meth K a.c_Value "reads" a.f_Value_reads
  n_Value_name : NoAttr K a.c_Value "name"
  cl_Cell : Cls K a.c_Cell
  mc_Cell : mg "Cell" = some (.ref a.c_Cell)
  mk_Cell : Mk K a.c_Cell a.f_Cell_init
  me_Cell_worth : Meth K a.c_Cell "worth" a.f_Cell_worth
  me_Cell_reads : Meth K a.c_Cell "reads" a.f_Cell_reads
  n_Cell_table : NoAttr K a.c_Cell "table"
  n_Cell_spots : NoAttr K a.c_Cell "spots"
  cl_Joined : Cls K a.c_Joined
  mc_Joined : mg "Joined" = some (.ref a.c_Joined)
  mk_Joined : Mk K a.c_Joined a.f_Joined_init
  me_Joined_worth : Meth K a.c_Joined "worth" a.f_Joined_worth
  me_Joined_reads : Meth K a.c_Joined "reads" a.f_Joined_reads
  n_Joined_sign : NoAttr K a.c_Joined "sign"
  n_Joined_left : NoAttr K a.c_Joined "left"
  n_Joined_right : NoAttr K a.c_Joined "right"
  ty_Number : ∀ (H : Hp) (x dx : Addr) (fs : List (Str × V)), H x = some (.ins a.c_Number dx fs) → TyOf K H (.ref x) (.ref a.c_Number)
  is_Number_Term : PySem.W.kitOne K (.ref a.c_Number) (.ref a.c_Term) = some true
  is_Number_Number : PySem.W.kitOne K (.ref a.c_Number) (.ref a.c_Number) = some true
  is_Number_Value : PySem.W.kitOne K (.ref a.c_Number) (.ref a.c_Value) = some false
  is_Number_Cell : PySem.W.kitOne K (.ref a.c_Number) (.ref a.c_Cell) = some false
  is_Number_Joined : PySem.W.kitOne K (.ref a.c_Number) (.ref a.c_Joined) = some false
  ty_Value : ∀ (H : Hp) (x dx : Addr) (fs : List (Str × V)), H x = some (.ins a.c_Value dx fs) → TyOf K H (.ref x) (.ref a.c_Value)
  is_Value_Term : PySem.W.kitOne K (.ref a.c_Value) (.ref a.c_Term) = some true
  is_Value_Number : PySem.W.kitOne K (.ref a.c_Value) (.ref a.c_Number) = some false
  is_Value_Value : PySem.W.kitOne K (.ref a.c_Value) (.ref a.c_Value) = some true
  is_Value_Cell : PySem.W.kitOne K (.ref a.c_Value) (.ref a.c_Cell) = some false
  is_Value_Joined : PySem.W.kitOne K (.ref a.c_Value) (.ref a.c_Joined) = some false
  ty_Cell : ∀ (H : Hp) (x dx : Addr) (fs : List (Str × V)), H x = some (.ins a.c_Cell dx fs) → TyOf K H (.ref x) (.ref a.c_Cell)
  is_Cell_Term : PySem.W.kitOne K (.ref a.c_Cell) (.ref a.c_Term) = some true
  is_Cell_Number : PySem.W.kitOne K (.ref a.c_Cell) (.ref a.c_Number) = some false
  is_Cell_Value : PySem.W.kitOne K (.ref a.c_Cell) (.ref a.c_Value) = some false
  is_Cell_Cell : PySem.W.kitOne K (.ref a.c_Cell) (.ref a.c_Cell) = some true
  is_Cell_Joined : PySem.W.kitOne K (.ref a.c_Cell) (.ref a.c_Joined) = some false
  ty_Joined : ∀ (H : Hp) (x dx : Addr) (fs : List (Str × V)), H x = some (.ins a.c_Joined dx fs) → TyOf K H (.ref x) (.ref a.c_Joined)
  is_Joined_Term : PySem.W.kitOne K (.ref a.c_Joined) (.ref a.c_Term) = some true
  is_Joined_Number : PySem.W.kitOne K (.ref a.c_Joined) (.ref a.c_Number) = some false
  is_Joined_Value : PySem.W.kitOne K (.ref a.c_Joined) (.ref a.c_Value) = some false
  is_Joined_Cell : PySem.W.kitOne K (.ref a.c_Joined) (.ref a.c_Cell) = some false
  is_Joined_Joined : PySem.W.kitOne K (.ref a.c_Joined) (.ref a.c_Joined) = some true
  z_abs : mg "abs" = none
  z_bool : mg "bool" = none
  z_dict : mg "dict" = none
  z_int : mg "int" = none
  z_isinstance : mg "isinstance" = none
  z_len : mg "len" = none
  z_list : mg "list" = none
  z_ord : mg "ord" = none
  z_range : mg "range" = none
  z_str : mg "str" = none
  z_tuple : mg "tuple" = none
  z_zip : mg "zip" = none
  nl : PySem.W.nsIn K mainGlobals "law" = some (some (.ref a.f_law))
  tb : PySem.W.tabIn K "law" = some (a.c_tab, a.p_tab)
  np : K.lookup a.p_tab = none
noncomputable def csOf (a : Ad) : Cs := ⟨a.c_Number, a.c_Value, a.c_Cell, a.c_Joined⟩
noncomputable abbrev n_here : Stmt := (defBody s_law).getD 5 (.Pass ⟨0, 0, 0, 0⟩)
theorem cs_here : CloScope ["_law_table", "_law_place"] ["_law_salt", "_law_asked"] (defScope n_here) := ⟨rfl, rfl, rfl, by decide +kernel, by decide +kernel, by decide +kernel, by decide +kernel⟩
theorem fr_here : ∀ y ∈ (defScope n_here).names, y.2 = .free → y.1 = "_law_salt" ∨ y.1 = "_law_asked" := by decide +kernel
theorem bd_here {qual : Str} {clos : List (Str × Addr)} {doc pm cdv ct : Value} {us : List Value} (h : us.length = 2) : bindArgs (PySem.W.fnX "_law_held_here" qual (defArgs n_here) (defBody n_here) (defScope n_here) clos .none .none doc pm none cdv ct) ⟨us, []⟩ = pure ((["_law_table", "_law_place"] : List Str).zip us) := by
  obtain ⟨u, v, rfl⟩ : ∃ u v, us = [u, v] := by
    cases us with
    | nil => cases h
    | cons u us => cases us with
      | nil => cases h
      | cons v us => cases us with
        | nil => exact ⟨u, v, rfl⟩
        | cons _ _ => simp at h
  rfl
section
variable {P : Program} {w : World} {K : PySem.W.Frag} {mg : Str → Option Value} {base : Heap} {a : Ad}
theorem ok_cell_at (T : Tx K mg a) : FnOk P w K mg base CX0 1 a.f_l_cell_at a.d_l_cell_at ["_law_script", "_law_k"] (spCell K) := by
  refine T.F_l_cell_at.ok sc_l_cell_at (fun vs H Q E h => ?_) (fun cdv A outer s H vs Q E hr h => ?_)
  · obtain ⟨_, _, _, rfl, _⟩ := h; rfl
  obtain ⟨p, ns, k, rfl, hS, h0, q⟩ := h
  refine ⟨_, (@pss_cons _ _ _ _ _ (@ps_if _ _ _ _ _ _ _ _ (@pt_cmpR _ _ _ _ _ _ _ _ op_lt (pv 1) (@pe_callB _ _ _ _ _ _ _ _ _ call_len_seq (by rfl) T.z_len bt_len (@pa_cons _ _ _ _ _ (pv 0) pa_nil (by rfl)) (by decide) (by decide) (by rfl) (by rfl)) (@nomark _ _ (by decide) (by decide))) (@pss_one _ _ _ (@ps_ret _ _ _ _ (@pe_ix _ _ _ _ _ _ _ ix_list (pv 0) (pv 1) (fun _ _ => rfl)))) pss_nil) (@pss_one _ _ _ (@ps_ret _ _ _ _ pe_int))), ?_⟩
  have hl : (ns.map V.int).length = ns.length := List.length_map _
  refine ⟨_, rfl, _, rfl, p, _, rfl, .inl hS, _, _, rfl, rfl, _, rfl, ?_⟩
  refine ite2 (fun c => ?_) (fun c => ?_)
  · have c' := dT c
    rw [hl] at c'
    exact ⟨_, rfl, _, rfl, p, _, _, _, rfl, rfl, hS, cell_in h0 c', q⟩
  · have c' := dF c
    rw [hl] at c'
    rw [cell_out c'] at q
    exact q

theorem ok_whole (T : Tx K mg a) : FnOk P w K mg base CX0 1 a.f_l_whole a.d_l_whole ["_law_found"] spWhole := by
  refine T.F_l_whole.ok sc_l_whole (fun vs H Q E h => ?_) (fun cdv A outer s H vs Q E hr h => ?_)
  · obtain ⟨_, rfl, _⟩ := h; rfl
  obtain ⟨x, rfl, hx, q⟩ := h
  refine ⟨_, (@pss_one _ _ _ (@ps_ret _ _ _ _ (@pe_and _ _ _ _ _ _ _ (@pe_callB _ _ _ _ _ _ _ _ _ call_isi (by rfl) T.z_isinstance bt_isinstance (@pa_cons _ _ _ _ _ (pv 0) (@pa_cons _ _ _ _ _ (@pe_bltn _ _ (.ty "int") _ _ (by rfl) T.z_int bt_int rfl (by decide) (by decide)) pa_nil (by rfl)) (by rfl)) (by decide) (by decide) (by rfl) (by rfl)) (@pe_one _ _ _ _ _ (@pe_not _ _ _ _ (@pe_callB _ _ _ _ _ _ _ _ _ call_isi (by rfl) T.z_isinstance bt_isinstance (@pa_cons _ _ _ _ _ (pv 0) (@pa_cons _ _ _ _ _ (@pe_bltn _ _ (.ty "bool") _ _ (by rfl) T.z_bool bt_bool rfl (by decide) (by decide)) pa_nil (by rfl)) (by rfl)) (by decide) (by decide) (by rfl) (by rfl))))))), ?_⟩
  cases x with
  | int i => exact ⟨_, rfl, _, _, _, _, _, rfl, rfl, .int i, rfl, _, rfl, _, rfl, _, _, _, _, _, rfl, rfl, .int i, rfl, _, rfl, q⟩
  | bl b => exact ⟨_, rfl, _, _, _, _, _, rfl, rfl, .bl b, rfl, _, rfl, _, rfl, _, _, _, _, _, rfl, rfl, .bl b, rfl, _, rfl, q⟩
  | non => exact ⟨_, rfl, _, _, _, _, _, rfl, rfl, .non, rfl, _, rfl, q⟩
  | str z => exact ⟨_, rfl, _, _, _, _, _, rfl, rfl, .str z, rfl, _, rfl, q⟩
  | _ => cases hx

theorem ok_stream (T : Tx K mg a) : FnOk P w K mg base CX0 1 a.f_l_stream a.d_l_stream ["_law_cell", "_law_many"] spStream := by
  refine T.F_l_stream.ok sc_l_stream (fun vs H Q E h => ?_) (fun cdv A outer s H vs Q E hr h => ?_)
  · obtain ⟨_, _, rfl, _⟩ := h; rfl
  obtain ⟨c, n, rfl, h0, h1, q⟩ := h
  refine ⟨_, (@pss_cons _ _ _ _ _ (@ps_set _ _ (2) _ _ _ _ sc_l_stream.nd rfl (Or.inl rfl) (@pe_lst _ _ _ _ pa_nil) (by rfl) (by first | exact .inl rfl | exact .inr rfl | assumption)) (@pss_cons _ _ _ _ _ (@ps_set _ _ (3) _ _ _ _ sc_l_stream.nd rfl (Or.inl rfl) (@pe_op _ _ _ _ _ _ _ _ op_add (@pe_op _ _ _ _ _ _ _ _ op_mod (pv 0) pe_int) pe_int) (by rfl) (by first | exact .inl rfl | exact .inr rfl | assumption)) (@pss_cons _ _ _ _ _ (@ps_for _ _ _ _ _ _ _ _ PassesOwn.never rfl (@pi_range1 _ _ _ _ _ _ (by rfl) T.z_range (@pa_cons _ _ _ _ _ (@pe_op _ _ _ _ _ _ _ _ op_add (pv 1) pe_int) pa_nil (by rfl)) (by rfl)) (pg_name (i := 4) sc_l_stream.nd rfl (Or.inl rfl)) (@pss_cons _ _ _ _ _ (@ps_set _ _ (3) _ _ _ _ sc_l_stream.nd rfl (Or.inl rfl) (@pe_op _ _ _ _ _ _ _ _ op_mod (@pe_op _ _ _ _ _ _ _ _ op_add (@pe_op _ _ _ _ _ _ _ _ op_add (@pe_op _ _ _ _ _ _ _ _ op_mul (pv 3) (pv 3)) (@pe_op _ _ _ _ _ _ _ _ op_mul pe_int (pv 3))) (pv 4)) pe_int) (by rfl) (by first | exact .inl rfl | exact .inr rfl | assumption)) (@pss_one _ _ _ (@ps_expr _ _ _ _ (@pe_bm _ _ _ _ _ _ _ _ _ _ _ _ PySem.F.plainAttrs_list PySem.F.slot_list_append PySem.F.type_list_append mt_append (pv 2) (@pa_cons _ _ _ _ _ (pv 3) pa_nil (by rfl)) (by rfl) (by rfl) (by rfl) (by rfl) (by rfl)) (by rfl)))) (by intro _ ; rfl)) (@pss_one _ _ _ (@ps_ret _ _ _ _ (@pe_slice _ _ _ _ _ _ _ _ _ _ sl_list (pv 2) (@po_some _ _ _ pe_int) po_none)))))), ?_⟩
  refine ⟨szl (by show 0 ≤ 1000000; decide), fun l hl => ?_⟩
  refine ⟨_, rfl, _, _, rfl, rfl, (by show (0 : Int) < 2147483647; decide), _, _, rfl, rfl, ?_⟩
  refine ⟨_, rfl, _, _, rfl, rfl, n + 1, rfl, by omega, by omega, ?_⟩
  refine for_range (lo := 0) (n := (n + 1).toNat) (fun i σ' H' => (∃ o1, σ' = [some (.int c), some (.int n), some (.ref l), some (.int (lastS (seedS c) 0 i)), o1]) ∧ Same H H' ∧ H' l = some (.lst ((seqS (seedS c) 0 i).map V.int))) ?_ (fun i σ' H' hi p => ?_) (fun σ' H' p => ?_)
  · exact ⟨⟨_, rfl⟩, same_new hl _, upd_same⟩
  · obtain ⟨⟨o1, rfl⟩, hs, hH⟩ := p
    obtain ⟨b0, b1⟩ := last_bound c i
    have bb := step_bound b0 b1
    have e1 : (lastS (seedS c) 0 i * lastS (seedS c) 0 i + 48271 * lastS (seedS c) 0 i + (0 + (i : Int))) % 2147483647 = lastS (seedS c) 0 (i + 1) := by rw [lastS_succ]; rfl
    have hz : ((seqS (seedS c) 0 i).map V.int).length < sizeLine := by rw [List.length_map, seqS_len]; exact szlt (by omega)
    refine ⟨_, rfl, _, rfl, _, _, rfl, rfl, .inl bb, _, rfl, _, _, rfl, rfl, .inl ⟨by decide, by decide⟩, _, _, rfl, rfl, _, rfl, _, _, rfl, rfl, _, _, rfl, rfl, (by show (0 : Int) < 2147483647; decide), ?_⟩
    refine ⟨_, rfl, .inl ⟨rfl, _, SqL.of hH⟩, _, rfl, l, _, _, rfl, rfl, hH, hz, ⟨_, congrArg (fun v => [some (V.int c), some (V.int n), some (V.ref l), some (V.int v), some (V.int (0 + (i : Int)))]) e1⟩, ?_, ?_⟩
    · exact fun b o e => by rw [upd_ne (ne_of_none e hl)]; exact hs b o e
    · rw [upd_same, seqS_snoc, List.map_append]
      show some (HO.lst (_ ++ [V.int _])) = _
      rw [e1]; rfl
  · obtain ⟨⟨o1, rfl⟩, hs, hH⟩ := p
    refine ⟨_, rfl, _, rfl, l, _, rfl, SqL.of hH, fun r hr' => ?_⟩
    rw [cutV_1]
    refine q r _ (hs.trans (same_new hr' _)) ?_
    rw [upd_same]
    unfold strm
    rw [show (n + 1).toNat = n.toNat + 1 by omega]

theorem ok_number (T : Tx K mg a) : FnOk P w K mg base CX0 1 a.f_l_number a.d_l_number ["_law_cell", "_law_far"] spNumber := by
  refine T.F_l_number.ok sc_l_number (fun vs H Q E h => ?_) (fun cdv A outer s H vs Q E hr h => ?_)
  · obtain ⟨_, _, rfl, _⟩ := h; rfl
  obtain ⟨c, far, rfl, h0, h1, q⟩ := h
  refine ⟨_, (@pss_cons _ _ _ _ _ (@ps_if _ _ _ _ _ _ _ _ (@pt_cmpR _ _ _ _ _ _ _ _ op_eq (@pe_op _ _ _ _ _ _ _ _ op_mod (pv 0) pe_int) pe_int (@nomark _ _ (by decide) (by decide))) (@pss_one _ _ _ (@ps_ret _ _ _ _ (@pe_op _ _ _ _ _ _ _ _ op_sub (@pe_op _ _ _ _ _ _ _ _ op_mod (@pe_op _ _ _ _ _ _ _ _ op_fdiv (pv 0) pe_int) pe_int) pe_int))) pss_nil) (@pss_one _ _ _ (@ps_ret _ _ _ _ (@pe_op _ _ _ _ _ _ _ _ op_sub (@pe_op _ _ _ _ _ _ _ _ op_mod (@pe_op _ _ _ _ _ _ _ _ op_fdiv (pv 0) pe_int) (@pe_op _ _ _ _ _ _ _ _ op_add (@pe_op _ _ _ _ _ _ _ _ op_mul pe_int (pv 1)) pe_int)) (pv 1))))), ?_⟩
  have key : (V.int (c % 3) = V.int 0) ↔ c % 3 = 0 := ⟨fun e => V.int.inj e, fun e => by rw [e]⟩
  refine ⟨_, rfl, _, _, rfl, rfl, (by show (0 : Int) < 3; decide), rfl, _, rfl, ?_⟩
  refine ite2 (fun cc => ?_) (fun cc => ?_)
  · refine ⟨_, rfl, _, _, rfl, rfl, ⟨by decide, by decide⟩, _, _, rfl, rfl, (by show (0 : Int) < 7; decide), _, _, rfl, rfl, ?_⟩
    unfold numZ at q
    rw [if_pos (key.mp (dT cc))] at q
    exact q
  · refine ⟨_, rfl, _, _, rfl, rfl, ⟨by decide, by decide⟩, _, rfl, _, _, rfl, rfl, .inl ⟨by decide, by decide⟩, _, _, rfl, rfl, _, _, rfl, rfl, (by show (0 : Int) < 2 * far + 1; omega), _, rfl, _, _, rfl, rfl, ?_⟩
    unfold numZ at q
    rw [if_neg (fun z => dF cc (key.mpr z))] at q
    exact q

theorem ok_inin (T : Tx K mg a) : FnOk P w K mg base CX0 1 a.f_Number_init a.d_Number_init ["self", "n"] (spIni a.c_Number ["n"]) := by
  refine T.F_Number_init.ok sc_Number_init (fun vs H Q E h => ?_) (fun cdv A outer s H vs Q E hr h => ?_)
  · obtain ⟨_, _, vs, rfl, hl, _⟩ := h; rw [List.length_cons, hl]; rfl
  obtain ⟨x, dx, vs, rfl, hl, hx, q⟩ := h
  obtain ⟨n, rfl⟩ : ∃ n, vs = [n] := by match vs, hl with | [n], _ => exact ⟨n, rfl⟩
  refine ⟨_, (@pss_one _ _ _ (@ps_fld _ _ _ _ _ _ _ _ (pv 0) (pv 1) rfl)), ?_⟩
  exact ⟨_, rfl, _, rfl, x, _, dx, _, rfl, hx, T.cl_Number, T.n_Number_n, (by show 0 < 1000; decide), q _ (fun b o e hb => by rw [upd_ne hb]; exact e) ⟨dx, upd_same⟩⟩
theorem ok_iniv (T : Tx K mg a) : FnOk P w K mg base CX0 1 a.f_Value_init a.d_Value_init ["self", "name"] (spIni a.c_Value ["name"]) := by
  refine T.F_Value_init.ok sc_Value_init (fun vs H Q E h => ?_) (fun cdv A outer s H vs Q E hr h => ?_)
  · obtain ⟨_, _, vs, rfl, hl, _⟩ := h; rw [List.length_cons, hl]; rfl
  obtain ⟨x, dx, vs, rfl, hl, hx, q⟩ := h
  obtain ⟨n, rfl⟩ : ∃ n, vs = [n] := by match vs, hl with | [n], _ => exact ⟨n, rfl⟩
  refine ⟨_, (@pss_one _ _ _ (@ps_fld _ _ _ _ _ _ _ _ (pv 0) (pv 1) rfl)), ?_⟩
  exact ⟨_, rfl, _, rfl, x, _, dx, _, rfl, hx, T.cl_Value, T.n_Value_name, (by show 0 < 1000; decide), q _ (fun b o e hb => by rw [upd_ne hb]; exact e) ⟨dx, upd_same⟩⟩
theorem ok_inic (T : Tx K mg a) : FnOk P w K mg base CX0 1 a.f_Cell_init a.d_Cell_init ["self", "table", "spots"] (spIni a.c_Cell ["table", "spots"]) := by
  refine T.F_Cell_init.ok sc_Cell_init (fun vs H Q E h => ?_) (fun cdv A outer s H vs Q E hr h => ?_)
  · obtain ⟨_, _, vs, rfl, hl, _⟩ := h; rw [List.length_cons, hl]; rfl
  obtain ⟨x, dx, vs, rfl, hl, hx, q⟩ := h
  obtain ⟨n, m, rfl⟩ : ∃ n m, vs = [n, m] := by match vs, hl with | [n, m], _ => exact ⟨n, m, rfl⟩
  refine ⟨_, (@pss_cons _ _ _ _ _ (@ps_fld _ _ _ _ _ _ _ _ (pv 0) (pv 1) rfl) (@pss_one _ _ _ (@ps_fld _ _ _ _ _ _ _ _ (pv 0) (pv 2) rfl))), ?_⟩
  refine ⟨_, rfl, _, rfl, x, _, dx, _, rfl, hx, T.cl_Cell, T.n_Cell_table, (by show 0 < 1000; decide), ?_⟩
  refine ⟨_, rfl, _, rfl, x, _, dx, _, rfl, upd_same, T.cl_Cell, T.n_Cell_spots, (by show 1 < 1000; decide), ?_⟩
  exact q _ (fun b o e hb => by repeat rw [upd_ne hb]
                                exact e) ⟨dx, upd_same⟩
theorem ok_inij (T : Tx K mg a) : FnOk P w K mg base CX0 1 a.f_Joined_init a.d_Joined_init ["self", "sign", "left", "right"] (spIni a.c_Joined ["sign", "left", "right"]) := by
  refine T.F_Joined_init.ok sc_Joined_init (fun vs H Q E h => ?_) (fun cdv A outer s H vs Q E hr h => ?_)
  · obtain ⟨_, _, vs, rfl, hl, _⟩ := h; rw [List.length_cons, hl]; rfl
  obtain ⟨x, dx, vs, rfl, hl, hx, q⟩ := h
  obtain ⟨n, m, o, rfl⟩ : ∃ n m o, vs = [n, m, o] := by match vs, hl with | [n, m, o], _ => exact ⟨n, m, o, rfl⟩
  refine ⟨_, (@pss_cons _ _ _ _ _ (@ps_fld _ _ _ _ _ _ _ _ (pv 0) (pv 1) rfl) (@pss_cons _ _ _ _ _ (@ps_fld _ _ _ _ _ _ _ _ (pv 0) (pv 2) rfl) (@pss_one _ _ _ (@ps_fld _ _ _ _ _ _ _ _ (pv 0) (pv 3) rfl)))), ?_⟩
  refine ⟨_, rfl, _, rfl, x, _, dx, _, rfl, hx, T.cl_Joined, T.n_Joined_sign, (by show 0 < 1000; decide), ?_⟩
  refine ⟨_, rfl, _, rfl, x, _, dx, _, rfl, upd_same, T.cl_Joined, T.n_Joined_left, (by show 1 < 1000; decide), ?_⟩
  refine ⟨_, rfl, _, rfl, x, _, dx, _, rfl, upd_same, T.cl_Joined, T.n_Joined_right, (by show 2 < 1000; decide), ?_⟩
  exact q _ (fun b o e hb => by repeat rw [upd_ne hb]
                                exact e) ⟨dx, upd_same⟩

theorem ok_held12 (T : Tx K mg a) : FnOk P w K mg base CX0 1 a.f_l_held a.d_l_held ["_law_table", "_law_place", "_law_salt"] spHeld12 := by
  refine T.F_l_held.ok sc_l_held (fun vs H Q E h => ?_) (fun cdv A outer s H vs Q E hr h => ?_)
  · obtain ⟨_, _, _, _, rfl, _⟩ := h; rfl
  obtain ⟨tb, pt, pl, salt, rfl, hpt, q⟩ := h
  refine ⟨_, (@pss_cons _ _ _ _ _ (@ps_set _ _ (3) _ _ _ _ sc_l_held.nd rfl (Or.inl rfl) (pv 2) (by rfl) (by first | exact .inl rfl | exact .inr rfl | assumption)) (@pss_cons _ _ _ _ _ (@ps_for _ _ _ _ _ _ _ _ PassesOwn.never rfl (@pi_str _ _ _ _ (pv 0)) (pg_name (i := 4) sc_l_held.nd rfl (Or.inl rfl)) (@pss_one _ _ _ (@ps_set _ _ (3) _ _ _ _ sc_l_held.nd rfl (Or.inl rfl) (@pe_op _ _ _ _ _ _ _ _ op_mod (@pe_op _ _ _ _ _ _ _ _ op_add (@pe_op _ _ _ _ _ _ _ _ op_mul (pv 3) pe_int) (@pe_callB _ _ _ _ _ _ _ _ _ call_ord (by rfl) T.z_ord bt_ord (@pa_cons _ _ _ _ _ (pv 4) pa_nil (by rfl)) (by decide) (by decide) (by rfl) (by rfl))) pe_int) (by rfl) (by first | exact .inl rfl | exact .inr rfl | assumption))) (by intro _ ; rfl)) (@pss_cons _ _ _ _ _ (@ps_for _ _ _ _ _ _ _ _ PassesOwn.never rfl (@pi_tup _ _ _ _ (pv 1)) (pg_name (i := 5) sc_l_held.nd rfl (Or.inl rfl)) (@pss_one _ _ _ (@ps_set _ _ (3) _ _ _ _ sc_l_held.nd rfl (Or.inl rfl) (@pe_op _ _ _ _ _ _ _ _ op_mod (@pe_op _ _ _ _ _ _ _ _ op_add (@pe_op _ _ _ _ _ _ _ _ op_mul (pv 3) pe_int) (pv 5)) pe_int) (by rfl) (by first | exact .inl rfl | exact .inr rfl | assumption))) (by intro _ ; rfl)) (@pss_one _ _ _ (@ps_ret _ _ _ _ (@pe_op _ _ _ _ _ _ _ _ op_sub (pv 3) (@pe_op _ _ _ _ _ _ _ _ op_pow pe_int pe_int))))))), ?_⟩
  have st : ∀ {α : Type} (f : Int → α → Int) (l : List α) (i : Nat) (c : α) (a : Int), l[i]? = some c → (l.take (i + 1)).foldl f a = f ((l.take i).foldl f a) c := fun f l i c a e => by rw [take_snoc e, List.foldl_append]; rfl
  refine ⟨_, rfl, ?_⟩
  dsimp only [gName]
  refine seq_any (fun σ' H' => H' = H ∧ ∃ o4 o5, σ' = [some (.str tb), some (.ref pt), some (.int salt), some (.int ((cds tb).foldl (fun (a : Int) (c : Nat) => (a * 131 + (c : Int)) % 1000000000000000003) salt)), o4, o5]) (fun σ' H' pp => ?_) (fun nx => ?_)
  rotate_left
  · refine ⟨_, rfl, tb, rfl, ?_⟩
    refine for_str (z := tb) (fun i σ' H' => H' = H ∧ ∃ o4 o5, σ' = [some (.str tb), some (.ref pt), some (.int salt), some (.int (((cds tb).take i).foldl (fun (a : Int) (c : Nat) => (a * 131 + (c : Int)) % 1000000000000000003) salt)), o4, o5]) ⟨rfl, _, _, rfl⟩ (fun i c σ' H' hc pp => ?_) (fun σ' H' pp => ?_)
    · obtain ⟨rfl, o4, o5, rfl⟩ := pp
      dsimp only [gName]
      refine ⟨_, rfl, _, _, rfl, rfl, .inr ⟨by decide, by decide⟩, _, rfl, _, rfl, rfl, _, _, rfl, rfl, _, _, rfl, rfl, (by show (0 : Int) < 1000000000000000003; decide), rfl, some (.str ⟨#[c]⟩), o5, ?_⟩
      rw [st _ _ _ _ _ hc]
      rfl
    · obtain ⟨rfl, o4, o5, rfl⟩ := pp
      rw [List.take_length]
      exact nx _ _ ⟨rfl, o4, o5, rfl⟩
  obtain ⟨rfl, o4, o5, rfl⟩ := pp
  refine ⟨_, rfl, pt, rfl, ⟨_, SqT.of hpt⟩, ?_⟩
  refine for_tup (xs := pl.map V.int) (fun i σ' H2 => H2 = H' ∧ ∃ o4 o5, σ' = [some (.str tb), some (.ref pt), some (.int salt), some (.int ((pl.take i).foldl (fun a n => (a * 1009 + n) % 1000000000000000003) ((cds tb).foldl (fun (a : Int) (c : Nat) => (a * 131 + (c : Int)) % 1000000000000000003) salt))), o4, o5]) ⟨rfl, _, _, rfl⟩ (fun i σ' H2 _ pp => by rw [pp.1]; exact SqT.of hpt) (fun i x σ' H2 hx pp => ?_) (fun σ' H2 pp => ?_)
  · obtain ⟨rfl, o4, o5, rfl⟩ := pp
    rw [List.getElem?_map] at hx
    cases e : pl[i]? with
    | none => rw [e] at hx; cases hx
    | some n =>
      rw [e] at hx
      cases hx
      dsimp only [gName]
      refine ⟨_, rfl, _, _, rfl, rfl, .inr ⟨by decide, by decide⟩, _, rfl, _, _, rfl, rfl, _, _, rfl, rfl, (by show (0 : Int) < 1000000000000000003; decide), rfl, o4, some (.int n), ?_⟩
      rw [st _ _ _ _ _ e]
      rfl
  · obtain ⟨rfl, o4, o5, rfl⟩ := pp
    rw [List.length_map, List.take_length]
    refine ⟨_, rfl, _, _, rfl, rfl, ⟨by decide, by decide, by decide⟩, _, _, rfl, rfl, ?_⟩
    exact q

theorem ok_leaf12 {kn : List (Str × Int)} {salt : Int} (T : Tx K mg a) : FnOk P w K mg base CX0 4 a.f_l_leaf a.d_l_leaf ["_law_cell", "_law_names_here", "_law_values_here", "_law_salt"] (spLeaf12 (csOf a) kn salt) := by
  have G_Number_init := ok_inin (P := P) (w := w) (base := base) T
  have G_Value_init := ok_iniv (P := P) (w := w) (base := base) T
  have G_Cell_init := ok_inic (P := P) (w := w) (base := base) T
  have G_l_stream := ok_stream (P := P) (w := w) (base := base) T
  have G_l_number := ok_number (P := P) (w := w) (base := base) T
  have G_l_held := ok_held12 (P := P) (w := w) (base := base) T
  refine T.F_l_leaf.ok sc_l_leaf (fun vs H Q E h => ?_) (fun cdv A outer s H vs Q E hr h => ?_)
  · obtain ⟨_, _, _, _, rfl, _⟩ := h; rfl
  obtain ⟨cl, nl, d, zs, rfl, hnl, hd, hks, q⟩ := h
  refine ⟨_, (@pss_cons _ _ _ _ _ (@ps_set _ _ (4) _ _ _ _ sc_l_leaf.nd rfl (Or.inl rfl) (@pe_call _ _ _ _ _ _ _ _ _ _ _ _ _ _ _ _ G_l_stream (hr.mono (by omega)) (by rfl) T.m_l_stream T.F_l_stream.kp T.b_l_stream .nil pass0 (@pa_cons _ _ _ _ _ (@pe_op _ _ _ _ _ _ _ _ op_fdiv (pv 0) pe_int) (@pa_cons _ _ _ _ _ pe_int pa_nil (by rfl)) (by rfl)) (by decide) (by rfl) (by rfl)) (by rfl) (by first | exact .inl rfl | exact .inr rfl | assumption)) (@pss_cons _ _ _ _ _ (@ps_if _ _ _ _ _ _ _ _ (@pt_cmpR _ _ _ _ _ _ _ _ op_eq (@pe_op _ _ _ _ _ _ _ _ op_mod (pv 0) pe_int) pe_int (@nomark _ _ (by decide) (by decide))) (@pss_cons _ _ _ _ _ (@ps_set _ _ (5) _ _ _ _ sc_l_leaf.nd rfl (Or.inl rfl) (@pe_call _ _ _ _ _ _ _ _ _ _ _ _ _ _ _ _ G_l_number (hr.mono (by omega)) (by rfl) T.m_l_number T.F_l_number.kp T.b_l_number .nil pass0 (@pa_cons _ _ _ _ _ (@pe_op _ _ _ _ _ _ _ _ op_mul (@pe_ix _ _ _ _ _ _ _ ix_list (pv 4) pe_int (fun _ _ => rfl)) (@pe_ix _ _ _ _ _ _ _ ix_list (pv 4) pe_int (fun _ _ => rfl))) (@pa_cons _ _ _ _ _ (@pe_op _ _ _ _ _ _ _ _ op_sub (@pe_op _ _ _ _ _ _ _ _ op_pow pe_int pe_int) pe_int) pa_nil (by rfl)) (by rfl)) (by decide) (by rfl) (by rfl)) (by rfl) (by first | exact .inl rfl | exact .inr rfl | assumption)) (@pss_one _ _ _ (@ps_ret _ _ _ _ (@pe_tupq _ _ _ _ _ (@paq_cons _ _ _ _ _ (@pe_make _ _ _ _ _ _ _ _ _ _ _ _ _ _ _ _ _ T.mk_Number G_Number_init (hr.mono (by omega)) (by rfl) T.mc_Number T.b_Number_init .nil pass0 (@pa_cons _ _ _ _ _ (@pe_callB _ _ _ _ _ _ _ _ _ call_abs (by rfl) T.z_abs bt_abs (@pa_cons _ _ _ _ _ (pv 5) pa_nil (by rfl)) (by decide) (by decide) (by rfl) (by rfl)) pa_nil (by rfl)) (by decide) (by rfl) (by rfl)) (@paq_cons _ _ _ _ _ (@pe_callB _ _ _ _ _ _ _ _ _ call_abs (by rfl) T.z_abs bt_abs (@pa_cons _ _ _ _ _ (pv 5) pa_nil (by rfl)) (by decide) (by decide) (by rfl) (by rfl)) (@paq_cons _ _ _ _ _ (@pe_lst _ _ _ _ pa_nil) (@paq_cons _ _ _ _ _ (@pe_lst _ _ _ _ pa_nil) paq_nil star_L) star_L) star_K) star_K))))) pss_nil) (@pss_cons _ _ _ _ _ (@ps_set _ _ (6) _ _ _ _ sc_l_leaf.nd rfl (Or.inl rfl) (@pe_ix _ _ _ _ _ _ _ ix_list (pv 1) (@pe_op _ _ _ _ _ _ _ _ op_mod (@pe_ix _ _ _ _ _ _ _ ix_list (pv 4) pe_int (fun _ _ => rfl)) pe_int) (fun _ _ => rfl)) (by rfl) (by first | exact .inl rfl | exact .inr rfl | assumption)) (@pss_cons _ _ _ _ _ (@ps_if _ _ _ _ _ _ _ _ (@pt_cmpR _ _ _ _ _ _ _ _ op_eq (@pe_op _ _ _ _ _ _ _ _ op_mod (pv 0) pe_int) pe_int (@nomark _ _ (by decide) (by decide))) (@pss_one _ _ _ (@ps_ret _ _ _ _ (@pe_tupq _ _ _ _ _ (@paq_cons _ _ _ _ _ (@pe_make _ _ _ _ _ _ _ _ _ _ _ _ _ _ _ _ _ T.mk_Value G_Value_init (hr.mono (by omega)) (by rfl) T.mc_Value T.b_Value_init .nil pass0 (@pa_cons _ _ _ _ _ (pv 6) pa_nil (by rfl)) (by decide) (by rfl) (by rfl)) (@paq_cons _ _ _ _ _ (@pe_dget _ _ _ _ _ _ (@hu_of _ _ hr) (pv 2) (pv 6) (fun _ _ => rfl)) (@paq_cons _ _ _ _ _ (@pe_lst _ _ _ _ pa_nil) (@paq_cons _ _ _ _ _ (@pe_lst _ _ _ _ pa_nil) paq_nil star_L) star_L) star_S) star_K)))) pss_nil) (@pss_cons _ _ _ _ _ (@ps_set _ _ (7) _ _ _ _ sc_l_leaf.nd rfl (Or.inl rfl) (@pe_lst _ _ _ _ pa_nil) (by rfl) (by first | exact .inl rfl | exact .inr rfl | assumption)) (@pss_cons _ _ _ _ _ (@ps_set _ _ (8) _ _ _ _ sc_l_leaf.nd rfl (Or.inl rfl) (@pe_lst _ _ _ _ pa_nil) (by rfl) (by first | exact .inl rfl | exact .inr rfl | assumption)) (@pss_cons _ _ _ _ _ (@ps_for _ _ _ _ _ _ _ _ PassesOwn.never rfl (@pi_range1 _ _ _ _ _ _ (by rfl) T.z_range (@pa_cons _ _ _ _ _ (@pe_op _ _ _ _ _ _ _ _ op_add pe_int (@pe_op _ _ _ _ _ _ _ _ op_mod (@pe_op _ _ _ _ _ _ _ _ op_fdiv (@pe_ix _ _ _ _ _ _ _ ix_list (pv 4) pe_int (fun _ _ => rfl)) pe_int) pe_int)) pa_nil (by rfl)) (by rfl)) (pg_name (i := 9) sc_l_leaf.nd rfl (Or.inl rfl)) (@pss_cons _ _ _ _ _ (@ps_set _ _ (6) _ _ _ _ sc_l_leaf.nd rfl (Or.inl rfl) (@pe_ix _ _ _ _ _ _ _ ix_list (@pe_op _ _ _ _ _ _ _ _ op_cat (@pe_slice _ _ _ _ _ _ _ _ _ _ sl_list (pv 1) po_none (@po_some _ _ _ pe_int)) (@pe_lst _ _ _ _ (@pa_cons _ _ _ _ _ pe_str pa_nil (by rfl)))) (@pe_op _ _ _ _ _ _ _ _ op_mod (@pe_ix _ _ _ _ _ _ _ ix_list (pv 4) (@pe_op _ _ _ _ _ _ _ _ op_add pe_int (pv 9)) (fun _ _ => rfl)) pe_int) (fun _ _ => rfl)) (by rfl) (by first | exact .inl rfl | exact .inr rfl | assumption)) (@pss_cons _ _ _ _ _ (@ps_set _ _ (10) _ _ _ _ sc_l_leaf.nd rfl (Or.inl rfl) (@pe_call _ _ _ _ _ _ _ _ _ _ _ _ _ _ _ _ G_l_number (hr.mono (by omega)) (by rfl) T.m_l_number T.F_l_number.kp T.b_l_number .nil pass0 (@pa_cons _ _ _ _ _ (@pe_op _ _ _ _ _ _ _ _ op_mul (@pe_ix _ _ _ _ _ _ _ ix_list (pv 4) (@pe_op _ _ _ _ _ _ _ _ op_add pe_int (pv 9)) (fun _ _ => rfl)) (@pe_ix _ _ _ _ _ _ _ ix_list (pv 4) (@pe_op _ _ _ _ _ _ _ _ op_add pe_int (pv 9)) (fun _ _ => rfl))) (@pa_cons _ _ _ _ _ (@pe_op _ _ _ _ _ _ _ _ op_sub (@pe_op _ _ _ _ _ _ _ _ op_pow pe_int pe_int) pe_int) pa_nil (by rfl)) (by rfl)) (by decide) (by rfl) (by rfl)) (by rfl) (by first | exact .inl rfl | exact .inr rfl | assumption)) (@pss_cons _ _ _ _ _ (@ps_expr _ _ _ _ (@pe_bm _ _ _ _ _ _ _ _ _ _ _ _ PySem.F.plainAttrs_list PySem.F.slot_list_append PySem.F.type_list_append mt_append (pv 7) (@pa_cons _ _ _ _ _ (@pe_tup _ _ _ _ _ (@pa_cons _ _ _ _ _ (pv 6) (@pa_cons _ _ _ _ _ (pv 10) pa_nil (by rfl)) (by rfl))) pa_nil (by rfl)) (by rfl) (by rfl) (by rfl) (by rfl) (by rfl)) (by rfl)) (@pss_cons _ _ _ _ _ (@ps_if _ _ _ _ _ _ _ _ (@pt_cmpR _ _ _ _ _ _ _ _ op_ne (pv 6) pe_str (@nomark _ _ (by decide) (by decide))) (@pss_one _ _ _ (@ps_set _ _ (10) _ _ _ _ sc_l_leaf.nd rfl (Or.inl rfl) (@pe_op _ _ _ _ _ _ _ _ op_add (pv 10) (@pe_dget _ _ _ _ _ _ (@hu_of _ _ hr) (pv 2) (pv 6) (fun _ _ => rfl))) (by rfl) (by first | exact .inl rfl | exact .inr rfl | assumption))) pss_nil) (@pss_one _ _ _ (@ps_expr _ _ _ _ (@pe_bm _ _ _ _ _ _ _ _ _ _ _ _ PySem.F.plainAttrs_list PySem.F.slot_list_append PySem.F.type_list_append mt_append (pv 8) (@pa_cons _ _ _ _ _ (pv 10) pa_nil (by rfl)) (by rfl) (by rfl) (by rfl) (by rfl) (by rfl)) (by rfl))))))) (by intro _ ; rfl)) (@pss_cons _ _ _ _ _ (@ps_set _ _ (11) _ _ _ _ sc_l_leaf.nd rfl (Or.inl rfl) (@pe_ix _ _ _ _ _ _ _ ix_list (pv 1) (@pe_op _ _ _ _ _ _ _ _ op_sub (@pe_op _ _ _ _ _ _ _ _ op_add (@pe_op _ _ _ _ _ _ _ _ op_mod (@pe_ix _ _ _ _ _ _ _ ix_list (pv 4) pe_int (fun _ _ => rfl)) pe_int) (@pe_op _ _ _ _ _ _ _ _ op_mul pe_int (@pe_callB _ _ _ _ _ _ _ _ _ call_len_seq (by rfl) T.z_len bt_len (@pa_cons _ _ _ _ _ (pv 7) pa_nil (by rfl)) (by decide) (by decide) (by rfl) (by rfl)))) pe_int) (fun _ _ => rfl)) (by rfl) (by first | exact .inl rfl | exact .inr rfl | assumption)) (@pss_cons _ _ _ _ _ (@ps_set _ _ (12) _ _ _ _ sc_l_leaf.nd rfl (Or.inl rfl) (@pe_call _ _ _ _ _ _ _ _ _ _ _ _ _ _ _ _ G_l_held (hr.mono (by omega)) (by rfl) T.m_l_held T.F_l_held.kp T.b_l_held .nil pass0 (@pa_cons _ _ _ _ _ (pv 11) (@pa_cons _ _ _ _ _ (@pe_callTy _ _ _ _ _ _ _ _ _ call_tuple_of (by rfl) T.z_tuple bt_tuple (@pa_cons _ _ _ _ _ (pv 8) pa_nil (by rfl)) (by decide) (by decide) (by rfl) (by rfl)) (@pa_cons _ _ _ _ _ (pv 3) pa_nil (by rfl)) (by rfl)) (by rfl)) (by decide) (by rfl) (by rfl)) (by rfl) (by first | exact .inl rfl | exact .inr rfl | assumption)) (@pss_one _ _ _ (@ps_ret _ _ _ _ (@pe_tupq _ _ _ _ _ (@paq_cons _ _ _ _ _ (@pe_make _ _ _ _ _ _ _ _ _ _ _ _ _ _ _ _ _ T.mk_Cell G_Cell_init (hr.mono (by omega)) (by rfl) T.mc_Cell T.b_Cell_init .nil pass0 (@pa_cons _ _ _ _ _ (pv 11) (@pa_cons _ _ _ _ _ (@pe_callTy _ _ _ _ _ _ _ _ _ call_tuple_of (by rfl) T.z_tuple bt_tuple (@pa_cons _ _ _ _ _ (pv 7) pa_nil (by rfl)) (by decide) (by decide) (by rfl) (by rfl)) pa_nil (by rfl)) (by rfl)) (by decide) (by rfl) (by rfl)) (@paq_cons _ _ _ _ _ (pv 12) (@paq_cons _ _ _ _ _ (@pe_lst _ _ _ _ (@pa_cons _ _ _ _ _ (@pe_tup _ _ _ _ _ (@pa_cons _ _ _ _ _ (pv 11) (@pa_cons _ _ _ _ _ (@pe_callTy _ _ _ _ _ _ _ _ _ call_tuple_of (by rfl) T.z_tuple bt_tuple (@pa_cons _ _ _ _ _ (pv 7) pa_nil (by rfl)) (by decide) (by decide) (by rfl) (by rfl)) pa_nil (by rfl)) (by rfl))) pa_nil (by rfl))) (@paq_cons _ _ _ _ _ (@pe_lst _ _ _ _ (@pa_cons _ _ _ _ _ (@pe_tup _ _ _ _ _ (@pa_cons _ _ _ _ _ (pv 11) (@pa_cons _ _ _ _ _ (@pe_callTy _ _ _ _ _ _ _ _ _ call_tuple_of (by rfl) T.z_tuple bt_tuple (@pa_cons _ _ _ _ _ (pv 8) pa_nil (by rfl)) (by decide) (by decide) (by rfl) (by rfl)) pa_nil (by rfl)) (by rfl))) pa_nil (by rfl))) paq_nil star_L) star_L) star_N) star_K))))))))))))), ?_⟩
  have p63 : (2 : Int) ^ 63 = 9223372036854775808 := by decide
  have p64 : (2 : Int) ^ 64 = 18446744073709551616 := by decide
  have p18 : (10 : Int) ^ (18 : Int).toNat = 1000000000000000000 := by decide
  refine ⟨_, rfl, _, _, rfl, rfl, ⟨by decide, by decide⟩, cl / 3, 8, rfl, by decide, by decide, fun sx H1 e1 hsx => ?_⟩
  have hsx : H1 sx = some (.lst ((strm (cl / 3) 8).map V.int)) := hsx
  have sl : (strm (cl / 3) 8).length = 8 := strm_len _ _
  have xat : ∀ i : Nat, i < 8 → atI ((strm (cl / 3) 8).map V.int) ((i : Nat) : Int) = some (.int ((strm (cl / 3) 8).getD i 0)) := fun i hi => by
    refine atI_nat ?_
    rw [List.getElem?_map, List.getElem?_eq_getElem (by omega), List.getD_eq_getElem?_getD, List.getElem?_eq_getElem (by omega)]
    rfl
  have xb : ∀ i : Nat, i < 8 → 0 ≤ (strm (cl / 3) 8).getD i 0 ∧ (strm (cl / 3) 8).getD i 0 < 2147483647 := fun i hi => by
    rw [List.getD_eq_getElem?_getD, List.getElem?_eq_getElem (by omega)]
    exact strm_mem (List.getElem_mem _)
  have hleaf : leafF cl zs = (if cl % 3 = 0 then .n ((numZ ((strm (cl / 3) 8).getD 0 0 * (strm (cl / 3) 8).getD 1 0) (10 ^ 18 - 1)).natAbs : Int)
    else if cl % 3 = 1 then .v (zs.getD ((strm (cl / 3) 8).getD 0 0 % 3).toNat "")
    else .c (zs.getD ((strm (cl / 3) 8).getD 1 0 % 2 + 2 * (1 + (strm (cl / 3) 8).getD 0 0 / 3 % 3) - 1).toNat "") ((List.range (1 + (strm (cl / 3) 8).getD 0 0 / 3 % 3).toNat).map fun k => ((zs.take 3 ++ [("" : Str)]).getD ((strm (cl / 3) 8).getD (2 + k) 0 % 4).toNat "", numZ ((strm (cl / 3) 8).getD (2 + k) 0 * (strm (cl / 3) 8).getD (5 + k) 0) (10 ^ 18 - 1)))) := rfl
  have nb : ∀ c : Int, -(2 ^ 63) < numZ c (10 ^ 18 - 1) ∧ numZ c (10 ^ 18 - 1) < 2 ^ 63 := fun c => by
    unfold numZ
    have a0 := Int.emod_nonneg (c / 3) (show (7 : Int) ≠ 0 by decide)
    have a1 := Int.emod_lt_of_pos (c / 3) (show (0 : Int) < 7 by decide)
    have b0 := Int.emod_nonneg (c / 3) (show (2 * (10 ^ 18 - 1) + 1 : Int) ≠ 0 by decide)
    have b1 := Int.emod_lt_of_pos (c / 3) (show (0 : Int) < 2 * (10 ^ 18 - 1) + 1 by decide)
    split <;> omega
  dsimp only [gName]
  have key : ∀ k : Int, (V.int (cl % 3) = V.int k) ↔ cl % 3 = k := fun k => ⟨fun e => V.int.inj e, fun e => by rw [e]⟩
  have hnl1 := hnl.over e1
  have hd1 := e1 _ _ hd
  have b0 := xb 0 (by decide)
  have b1 := xb 1 (by decide)
  refine ⟨_, rfl, _, _, rfl, rfl, (by show (0 : Int) < 3; decide), rfl, _, rfl, ?_⟩
  refine ite2 (fun cc => ?_) (fun cc => ?_)
  · have cc := (key 0).mp (dT cc)
    rw [hleaf, if_pos cc] at q
    refine ⟨_, rfl, sx, _, 0, _, rfl, rfl, SqL.of hsx, xat 0 (by decide), _, rfl, sx, _, 1, _, rfl, rfl, SqL.of hsx, xat 1 (by decide), _, _, rfl, rfl, .inl ⟨by omega, by omega⟩, _, _, rfl, rfl, ⟨by decide, by decide, by decide⟩, _, _, rfl, rfl, _, _, rfl, by decide, by decide, ?_⟩
    dsimp only [gName]
    have nb0 := nb ((strm (cl / 3) 8).getD 0 0 * (strm (cl / 3) 8).getD 1 0)
    have en : numZ ((strm (cl / 3) 8).getD 0 0 * (strm (cl / 3) 8).getD 1 0) (10 ^ (18 : Int).toNat - 1) = numZ ((strm (cl / 3) 8).getD 0 0 * (strm (cl / 3) 8).getD 1 0) (10 ^ 18 - 1) := rfl
    rw [en]
    generalize numZ ((strm (cl / 3) 8).getD 0 0 * (strm (cl / 3) 8).getD 1 0) (10 ^ 18 - 1) = nn at q nb0
    have ea : (if nn < 0 then -nn else nn) = (nn.natAbs : Int) := by split <;> omega
    refine ⟨_, rfl, _, rfl, fun x dx nx ndx ne => ⟨x, dx, [_], rfl, rfl, upd_same, fun H2 k2 hx2 => ⟨rfl, ?_⟩⟩⟩
    obtain ⟨dx2, hx2⟩ := hx2
    have e2 := made_same nx ndx k2
    have e12 := e1.trans e2
    refine ⟨_, rfl, _, rfl, szl (by show 0 ≤ 1000000; decide), fun rl hrl => ⟨szl (by show 0 ≤ 1000000; decide), fun pl hpl => ⟨szl (by show 4 ≤ 1000000; decide), fun p hp => ?_⟩⟩⟩
    rw [ea] at hx2 ⊢
    have s3 := same_new hrl (.lst [])
    have s4 := same_new hpl (.lst [])
    have s5 := same_new hp (.tup [V.ref x, V.int (nn.natAbs : Int), V.ref rl, V.ref pl])
    refine q _ _ (e1.trans (e2.trans (s3.trans (s4.trans s5)))) ⟨p, rl, pl, .ref x, [], [], rfl, upd_same, ⟨x, dx2, rfl, (s3.trans (s4.trans s5)) _ _ hx2⟩, (s4.trans s5) _ _ upd_same, s5 _ _ upd_same, .nil, .nil, (fun z => z (e12.free hrl)), fun z => z ((e12.trans s3).free hpl)⟩ ?_
    show -(2 ^ 64) < (nn.natAbs : Int) ∧ (nn.natAbs : Int) < 2 ^ 64
    omega
  have c0 : ¬ cl % 3 = 0 := fun z => dF cc ((key 0).mpr z)
  rw [hleaf, if_neg c0] at q
  have zl := hnl.2.1
  have zat : ∀ j : Int, 0 ≤ j → j < 8 → atI (zs.map V.str) j = some (.str (zs.getD j.toNat "")) ∧ (zs.getD j.toNat "") ∈ zs := fun j j0 j1 => by
    have hj : j.toNat < zs.length := by omega
    have e : zs.getD j.toNat "" = zs[j.toNat] := by rw [List.getD_eq_getElem?_getD, List.getElem?_eq_getElem hj]; rfl
    rw [e]
    have := atI_nat (show (zs.map V.str)[j.toNat]? = some (.str zs[j.toNat]) by rw [List.getElem?_map, List.getElem?_eq_getElem hj]; rfl)
    rw [show ((j.toNat : Nat) : Int) = j by omega] at this
    exact ⟨this, List.getElem_mem hj⟩
  have z3 : ∀ j : Int, 0 ≤ j → j < 3 → zs.getD j.toNat "" ∈ zs.take 3 := fun j j0 j1 => by
    have hj : j.toNat < zs.length := by omega
    rw [List.getD_eq_getElem?_getD, List.getElem?_eq_getElem hj]
    exact List.mem_of_getElem? (i := j.toNat) (by rw [List.getElem?_take_of_lt (by omega), List.getElem?_eq_getElem hj]; rfl)
  have m30 := Int.emod_nonneg ((strm (cl / 3) 8).getD 0 0) (show (3 : Int) ≠ 0 by decide)
  have m31 := Int.emod_lt_of_pos ((strm (cl / 3) 8).getD 0 0) (show (0 : Int) < 3 by decide)
  dsimp only [tNext]
  refine ⟨_, rfl, _, rfl, sx, _, 0, _, rfl, rfl, SqL.of hsx, xat 0 (by decide), _, _, rfl, rfl, (by show (0 : Int) < 3; decide), nl, _, _, _, rfl, rfl, SqL.of hnl1.1, (zat _ m30 (by omega)).1, ?_⟩
  dsimp only [gName]
  refine ⟨_, rfl, _, _, rfl, rfl, (by show (0 : Int) < 3; decide), rfl, _, rfl, ?_⟩
  refine ite2 (fun cc => ?_) (fun cc => ?_)
  · have cc := (key 1).mp (dT cc)
    rw [if_pos cc] at q
    have hz3 := z3 _ m30 m31
    have hz := hks _ hz3
    generalize zs.getD ((strm (cl / 3) 8).getD 0 0 % 3).toNat "" = nm at q hz hz3
    refine ⟨_, rfl, fun x dx nx ndx ne => ⟨x, dx, [_], rfl, rfl, upd_same, fun H2 k2 hx2 => ⟨rfl, ?_⟩⟩⟩
    obtain ⟨dx2, hx2⟩ := hx2
    have e2 := made_same nx ndx k2
    have e12 := e1.trans e2
    have g := DGet.k (H := H2) (a := d) (kvs := kvOf kn) (k := Sum.inr nm) (e2 _ _ hd1)
    rw [kv_get hz] at g
    refine ⟨_, rfl, _, rfl, d, .int (lkN kn nm), rfl, g, szl (by show 0 ≤ 1000000; decide), fun rl hrl => ⟨szl (by show 0 ≤ 1000000; decide), fun pl hpl => ⟨szl (by show 4 ≤ 1000000; decide), fun p hp => ?_⟩⟩⟩
    have s3 := same_new hrl (.lst [])
    have s4 := same_new hpl (.lst [])
    have s5 := same_new hp (.tup [V.ref x, V.int (lkN kn nm), V.ref rl, V.ref pl])
    exact q _ _ (e1.trans (e2.trans (s3.trans (s4.trans s5)))) ⟨p, rl, pl, .ref x, [], [], rfl, upd_same, ⟨x, dx2, rfl, (s3.trans (s4.trans s5)) _ _ hx2⟩, (s4.trans s5) _ _ upd_same, s5 _ _ upd_same, .nil, .nil, (fun z => z (e12.free hrl)), fun z => z ((e12.trans s3).free hpl)⟩ hz3
  have c1 : ¬ cl % 3 = 1 := fun z => dF cc ((key 1).mpr z)
  rw [if_neg c1] at q
  dsimp only [tNext]
  refine ⟨szl (by show 0 ≤ 1000000; decide), fun so hso => ?_⟩
  have s2 := same_new hso (.lst [])
  dsimp only [gName]
  refine ⟨szl (by show 0 ≤ 1000000; decide), fun po hpo => ?_⟩
  have s3 := same_new hpo (.lst [])
  have nsp : so ≠ po := ne_of_none upd_same hpo
  have hso3 : (upd (upd H1 so (.lst [])) po (.lst [])) so = some (.lst []) := by rw [upd_ne nsp]; exact upd_same
  have hpo3 : (upd (upd H1 so (.lst [])) po (.lst [])) po = some (.lst []) := upd_same
  have s23 := s2.trans s3
  have po1 : H1 po = none := s2.free hpo
  dsimp only [gName]
  generalize upd (upd H1 so (.lst [])) po (.lst []) = H3 at hso3 hpo3 s23
  change tSeq _ _ _ [some (.int cl), some (.ref nl), some (.ref d), some (.int salt), some (.ref sx), none, some (.str (zs.getD ((strm (cl / 3) 8).getD 0 0 % 3).toNat "")), some (.ref so), some (.ref po), none, none, none, none] _
  have k30 := Int.emod_nonneg ((strm (cl / 3) 8).getD 0 0 / 3) (show (3 : Int) ≠ 0 by decide)
  have k31 := Int.emod_lt_of_pos ((strm (cl / 3) 8).getD 0 0 / 3) (show (0 : Int) < 3 by decide)
  obtain ⟨cn, ecn⟩ : ∃ cn : Nat, 1 + (strm (cl / 3) 8).getD 0 0 / 3 % 3 = (cn : Int) := ⟨(1 + (strm (cl / 3) 8).getD 0 0 / 3 % 3).toNat, by omega⟩
  have cn3 : 1 ≤ cn ∧ cn ≤ 3 := by omega
  rw [ecn, show ((cn : Nat) : Int).toNat = cn from Int.toNat_natCast cn] at q
  generalize hsf : (fun k => ((zs.take 3 ++ [("" : Str)]).getD ((strm (cl / 3) 8).getD (2 + k) 0 % 4).toNat "", numZ ((strm (cl / 3) 8).getD (2 + k) 0 * (strm (cl / 3) 8).getD (5 + k) 0) (10 ^ 18 - 1))) = sf at q
  refine seq_any (fun σ' H' => Same H1 H' ∧ (∃ o6 o9 o10, σ' = [some (.int cl), some (.ref nl), some (.ref d), some (.int salt), some (.ref sx), none, o6, some (.ref so), some (.ref po), o9, o10, none, none]) ∧ (∃ xs, H' so = some (.lst xs) ∧ All2 (SpoAt H') xs ((List.range cn).map sf)) ∧ H' po = some (.lst ((((List.range cn).map sf).map (stW kn)).map V.int))) (fun σ' H' pp => ?_) (fun nxx => ?_)
  rotate_left
  · refine ⟨_, rfl, sx, _, 0, _, rfl, rfl, SqL.of (s23 _ _ hsx), xat 0 (by decide), _, _, rfl, rfl, ⟨by decide, by decide⟩, _, _, rfl, rfl, (by show (0 : Int) < 3; decide), _, _, rfl, rfl, (cn : Int), (by rw [← ecn]), by omega, by omega, ?_⟩
    have hks4 : ∀ j : Int, 0 ≤ j → j < 4 → atI ((zs.take 3).map V.str ++ [V.str ""]) j = some (.str ((zs.take 3 ++ [("" : Str)]).getD j.toNat "")) ∧ ((zs.take 3 ++ [("" : Str)]).getD j.toNat "" = "" ∨ (zs.take 3 ++ [("" : Str)]).getD j.toNat "" ∈ kn.map (·.1)) := fun j j0 j1 => by
      have tl : (zs.take 3).length = 3 := by rw [List.length_take]; omega
      have hj : j.toNat < (zs.take 3 ++ [("" : Str)]).length := by rw [List.length_append, tl, List.length_singleton]; omega
      have e : (zs.take 3 ++ [("" : Str)]).getD j.toNat "" = (zs.take 3 ++ [("" : Str)])[j.toNat] := by rw [List.getD_eq_getElem?_getD, List.getElem?_eq_getElem hj]; rfl
      have em : (zs.take 3).map V.str ++ [V.str ""] = (zs.take 3 ++ [("" : Str)]).map V.str := by rw [List.map_append]; rfl
      rw [e, em]
      have := atI_nat (show ((zs.take 3 ++ [("" : Str)]).map V.str)[j.toNat]? = some (.str (zs.take 3 ++ [("" : Str)])[j.toNat]) by rw [List.getElem?_map, List.getElem?_eq_getElem hj]; rfl)
      rw [show ((j.toNat : Nat) : Int) = j by omega] at this
      refine ⟨this, ?_⟩
      rcases List.mem_append.mp (List.getElem_mem hj) with h | h
      · exact .inr (hks _ h)
      · exact .inl (List.mem_singleton.mp h)
    refine for_range (lo := 0) (n := cn) (fun i σ' H' => Same H1 H' ∧ (∃ o6 o9 o10, σ' = [some (.int cl), some (.ref nl), some (.ref d), some (.int salt), some (.ref sx), none, o6, some (.ref so), some (.ref po), o9, o10, none, none]) ∧ (∃ xs, H' so = some (.lst xs) ∧ All2 (SpoAt H') xs ((List.range i).map sf)) ∧ H' po = some (.lst ((((List.range i).map sf).map (stW kn)).map V.int))) ⟨s23, ⟨_, _, _, rfl⟩, ⟨[], hso3, ⟨rfl, fun i x t a => by simp at a⟩⟩, hpo3⟩ (fun i σ' H' hi pp => ?_) (fun σ' H' pp => nxx _ _ pp)
    obtain ⟨e4, ⟨o6, o9, o10, rfl⟩, ⟨xs, hxs, ax⟩, hpl⟩ := pp
    have z1 : (0 : Int) + (i : Int) = ((i : Nat) : Int) := by omega
    have z2 : (2 : Int) + ((i : Nat) : Int) = ((2 + i : Nat) : Int) := by omega
    have z5 : (5 : Int) + ((i : Nat) : Int) = ((5 + i : Nat) : Int) := by omega
    have hsx4 := e4 _ _ hsx
    have hnl4 := hnl1.over e4
    have hd4 := e4 _ _ hd1
    have m0 := Int.emod_nonneg ((strm (cl / 3) 8).getD (2 + i) 0) (show (4 : Int) ≠ 0 by decide)
    have m1 := Int.emod_lt_of_pos ((strm (cl / 3) 8).getD (2 + i) 0) (show (0 : Int) < 4 by decide)
    have b2 := xb (2 + i) (by omega)
    have b5 := xb (5 + i) (by omega)
    dsimp only [gName]
    rw [z1]
    refine ⟨_, rfl, 3, rfl, nl, _, rfl, SqL.of hnl4.1, fun l1 hl1 => ⟨szl (by show 1 ≤ 1000000; decide), fun l2 hl2 => ?_⟩⟩
    rw [cutV_3 zs (by omega)] at hl2 ⊢
    have u1 := same_new hl1 (.lst ((zs.take 3).map V.str))
    have u2 := same_new hl2 (.lst [V.str ""])
    refine ⟨l1, l2, _, _, rfl, rfl, u2 _ _ upd_same, upd_same, szl (by rw [List.length_map, List.length_take, List.length_singleton]; omega), fun l3 hl3 => ?_⟩
    have u3 := same_new hl3 (.lst ((zs.take 3).map V.str ++ [V.str ""]))
    have u123 := u1.trans (u2.trans u3)
    refine ⟨_, rfl, _, rfl, _, _, rfl, rfl, sx, _, _, _, rfl, rfl, SqL.of (u123 _ _ hsx4), (by rw [z2]; exact xat _ (by omega)), _, _, rfl, rfl, (by show (0 : Int) < 4; decide), l3, _, _, _, rfl, rfl, SqL.of upd_same, (hks4 _ m0 m1).1, ?_⟩
    have hkn := (hks4 _ m0 m1).2
    have es : sf i = ((zs.take 3 ++ [("" : Str)]).getD ((strm (cl / 3) 8).getD (2 + i) 0 % 4).toNat "", numZ ((strm (cl / 3) 8).getD (2 + i) 0 * (strm (cl / 3) 8).getD (5 + i) 0) (10 ^ 18 - 1)) := by rw [← hsf]
    dsimp only [gName]
    have hxs5 := u123 _ _ hxs
    have hpl5 := u123 _ _ hpl
    have hd5 := u123 _ _ hd4
    have hsx5 := u123 _ _ hsx4
    have ax5 := ax.mono fun _ _ z => SpoAt.tk (Same.tk u123) z
    have e5 := e4.trans u123
    generalize upd (upd (upd H' l1 (.lst ((zs.take 3).map V.str))) l2 (.lst [V.str ""])) l3 (.lst ((zs.take 3).map V.str ++ [V.str ""])) = H5 at hxs5 hpl5 hd5 hsx5 ax5 e5
    refine ⟨_, rfl, _, rfl, _, _, rfl, rfl, sx, _, _, _, rfl, rfl, SqL.of hsx5, (by rw [z2]; exact xat _ (by omega)), _, rfl, _, rfl, _, _, rfl, rfl, sx, _, _, _, rfl, rfl, SqL.of hsx5, (by rw [z5]; exact xat _ (by omega)), _, _, rfl, rfl, .inl ⟨by omega, by omega⟩, _, _, rfl, rfl, ⟨by decide, by decide, by decide⟩, _, _, rfl, rfl, _, _, rfl, by decide, by decide, ?_⟩
    dsimp only [gName]
    have en : numZ ((strm (cl / 3) 8).getD (2 + i) 0 * (strm (cl / 3) 8).getD (5 + i) 0) (10 ^ (18 : Int).toNat - 1) = numZ ((strm (cl / 3) 8).getD (2 + i) 0 * (strm (cl / 3) 8).getD (5 + i) 0) (10 ^ 18 - 1) := rfl
    rw [en]
    generalize numZ ((strm (cl / 3) 8).getD (2 + i) 0 * (strm (cl / 3) 8).getD (5 + i) 0) (10 ^ 18 - 1) = nn at es
    generalize (zs.take 3 ++ [("" : Str)]).getD ((strm (cl / 3) 8).getD (2 + i) 0 % 4).toNat "" = nm at es hkn
    have xl := ax.1
    rw [List.length_map, List.length_range] at xl
    refine ⟨_, rfl, .inl ⟨rfl, _, SqL.of hxs5⟩, _, rfl, _, rfl, szl (by show 2 ≤ 1000000; decide), fun t ht => ?_⟩
    have v1 := same_new ht (.tup [V.str nm, V.int nn])
    refine ⟨so, xs, _, rfl, rfl, v1 _ _ hxs5, szlt (by omega), ?_⟩
    have nts : t ≠ so := fun z => by rw [z, hxs5] at ht; cases ht
    have ntp : po ≠ so := Ne.symm nsp
    have htt : (upd (upd H5 t (.tup [V.str nm, V.int nn])) so (.lst (xs ++ [V.ref t]))) t = some (.tup [V.str nm, V.int nn]) := by rw [upd_ne nts]; exact upd_same
    have hso6 : (upd (upd H5 t (.tup [V.str nm, V.int nn])) so (.lst (xs ++ [V.ref t]))) so = some (.lst (xs ++ [V.ref t])) := upd_same
    have hpl6 : (upd (upd H5 t (.tup [V.str nm, V.int nn])) so (.lst (xs ++ [V.ref t]))) po = some (.lst ((((List.range i).map sf).map (stW kn)).map V.int)) := by rw [upd_ne ntp]; exact v1 _ _ hpl5
    have hd6 : (upd (upd H5 t (.tup [V.str nm, V.int nn])) so (.lst (xs ++ [V.ref t]))) d = some (.dK (kvOf kn)) := by rw [upd_ne (fun z => by rw [z, hxs5] at hd5; cases hd5)]; exact v1 _ _ hd5
    have tk6 : TK H5 (upd (upd H5 t (.tup [V.str nm, V.int nn])) so (.lst (xs ++ [V.ref t]))) := fun b ys e => by rw [upd_ne (fun z => by rw [z, hxs5] at e; cases e)]; exact v1 _ _ e
    have e6 : Same H1 (upd (upd H5 t (.tup [V.str nm, V.int nn])) so (.lst (xs ++ [V.ref t]))) := fun b ob e => by rw [upd_ne (ne_of_none e hso)]; exact v1 _ _ (e5 _ _ e)
    generalize upd (upd H5 t (.tup [V.str nm, V.int nn])) so (.lst (xs ++ [V.ref t])) = H6 at htt hso6 hpl6 hd6 tk6 e6
    have nz : ∀ {a b : Str}, a ≠ b → decide (V.str a = V.str b) = false := fun h => decide_eq_false fun z => h (V.str.inj z)
    dsimp only
    change tSeq (tIfS _ _ _) _ _ [some (.int cl), some (.ref nl), some (.ref d), some (.int salt), some (.ref sx), none, some (.str nm), some (.ref so), some (.ref po), some (.int ((i : Nat) : Int)), some (.int nn), none, none] _
    refine seq_any (fun σ2 H2 => H2 = H6 ∧ σ2 = [some (.int cl), some (.ref nl), some (.ref d), some (.int salt), some (.ref sx), none, some (.str nm), some (.ref so), some (.ref po), some (.int ((i : Nat) : Int)), some (.int (stW kn (nm, nn))), none, none]) (fun σ2 H2 pp => ?_) (fun nx2 => ?_)
    rotate_left
    · by_cases c : nm = ""
      · refine ⟨_, rfl, rfl, _, rfl, iteE (ndF (by rw [c])) (iteF ?_)⟩
        refine nx2 _ _ ⟨rfl, ?_⟩
        unfold stW
        rw [if_pos c]
      · have hz : nm ∈ kn.map (·.1) := hkn.elim (fun z => absurd z c) id
        have g := DGet.k (H := H6) (a := d) (kvs := kvOf kn) (k := Sum.inr nm) hd6
        rw [kv_get hz] at g
        refine ⟨_, rfl, rfl, _, rfl, iteE (v := true) (by rw [nz c]; rfl) (iteT ?_)⟩
        refine ⟨_, rfl, _, rfl, _, rfl, d, .int (lkN kn nm), rfl, g, _, _, rfl, rfl, nx2 _ _ ⟨rfl, ?_⟩⟩
        unfold stW
        rw [if_neg c, Int.add_comm]
        rfl
    obtain ⟨rfl, rfl⟩ := pp
    refine ⟨_, rfl, .inl ⟨rfl, _, SqL.of hpl6⟩, _, rfl, po, _, _, rfl, rfl, hpl6, szlt (by rw [List.length_map, List.length_map, List.length_map, List.length_range]; omega), ?_⟩
    refine ⟨fun b ob e => by rw [upd_ne (ne_of_none e po1)]; exact e6 _ _ e, ⟨_, _, _, rfl⟩, ⟨xs ++ [V.ref t], by rw [upd_ne nsp]; exact hso6, ?_⟩, ?_⟩
    · rw [List.range_succ, List.map_append]
      have tk7 : TK H2 (upd H2 po (.lst ((((List.range i).map sf).map (stW kn)).map V.int ++ [V.int (stW kn (nm, nn))]))) := fun b ys e => by rw [upd_ne (fun z => by rw [z, hpl6] at e; cases e)]; exact e
      refine (ax5.mono fun _ _ z => SpoAt.tk tk7 (SpoAt.tk tk6 z)).snoc ?_
      rw [es]
      exact ⟨t, rfl, tk7 _ _ htt⟩
    · rw [upd_same, List.range_succ, List.map_append, List.map_append, List.map_append, List.map_cons, List.map_nil, es]
      rfl
  obtain ⟨e4, ⟨o6, o9, o10, rfl⟩, ⟨xs, hxs, ax⟩, hpl⟩ := pp
  have xl := ax.1
  rw [List.length_map, List.length_range] at xl
  have hsx4 := e4 _ _ hsx
  have hnl4 := hnl1.over e4
  have w0 := Int.emod_nonneg ((strm (cl / 3) 8).getD 1 0) (show (2 : Int) ≠ 0 by decide)
  have w1 := Int.emod_lt_of_pos ((strm (cl / 3) 8).getD 1 0) (show (0 : Int) < 2 by decide)
  have ztb := zat ((strm (cl / 3) 8).getD 1 0 % 2 + 2 * (cn : Int) - 1) (by omega) (by omega)
  refine ⟨_, rfl, _, rfl, sx, _, 1, _, rfl, rfl, SqL.of hsx4, xat 1 (by decide), _, _, rfl, rfl, (by show (0 : Int) < 2; decide), _, rfl, so, _, rfl, .inl (SqL.of hxs), _, _, rfl, rfl, .inl ⟨by decide, by decide⟩, _, _, rfl, rfl, _, _, rfl, rfl, nl, _, _, _, rfl, rfl, SqL.of hnl4.1, (by rw [xl]; exact ztb.1), ?_⟩
  have tl20 : (zs.getD ((strm (cl / 3) 8).getD 1 0 % 2 + 2 * (cn : Int) - 1).toNat "").length ≤ 20 := hnl.2.2 _ ztb.2
  generalize zs.getD ((strm (cl / 3) 8).getD 1 0 % 2 + 2 * (cn : Int) - 1).toNat "" = tb at q tl20
  dsimp only [gName]
  refine ⟨_, rfl, _, rfl, po, _, rfl, .inl ⟨SqL.of hpl, fun pt hpt => ?_⟩⟩
  have s5 := same_new hpt (.tup ((((List.range cn).map sf).map (stW kn)).map V.int))
  have hpt5 : (upd H' pt (.tup ((((List.range cn).map sf).map (stW kn)).map V.int))) pt = some (.tup ((((List.range cn).map sf).map (stW kn)).map V.int)) := upd_same
  generalize upd H' pt (.tup ((((List.range cn).map sf).map (stW kn)).map V.int)) = H5 at s5 hpt5
  refine ⟨_, rfl, tb, pt, ((List.range cn).map sf).map (stW kn), salt, rfl, hpt5, ?_⟩
  dsimp only [gName]
  refine ⟨_, rfl, _, rfl, so, _, rfl, .inl ⟨SqL.of (s5 _ _ hxs), fun st hst => ?_⟩⟩
  have s6 := same_new hst (.tup xs)
  have hst6 : (upd H5 st (.tup xs)) st = some (.tup xs) := upd_same
  generalize upd H5 st (.tup xs) = H6 at s6 hst6
  refine fun x dx nx ndx ne => ⟨x, dx, [_, _], rfl, rfl, upd_same, fun H7 k7 hx7 => ⟨rfl, ?_⟩⟩
  obtain ⟨dx7, hx7⟩ := hx7
  have e7 := made_same nx ndx k7
  have s57 := (s5.trans s6).trans e7
  refine ⟨_, rfl, _, rfl, _, rfl, so, _, rfl, .inl ⟨SqL.of (s57 _ _ hxs), fun st2 hst2 => ⟨szl (by show 2 ≤ 1000000; decide), fun t2 ht2 => ⟨szl (by show 1 ≤ 1000000; decide), fun rl hrl => ?_⟩⟩⟩⟩
  have s8 := ((same_new hst2 (.tup xs)).trans (same_new ht2 (.tup [V.str tb, V.ref st2]))).trans (same_new hrl (.lst [V.ref t2]))
  have ht28 : (upd (upd (upd H7 st2 (.tup xs)) t2 (.tup [V.str tb, V.ref st2])) rl (.lst [V.ref t2])) t2 = some (.tup [V.str tb, V.ref st2]) := (same_new hrl (.lst [V.ref t2])) _ _ upd_same
  have hst28 : (upd (upd (upd H7 st2 (.tup xs)) t2 (.tup [V.str tb, V.ref st2])) rl (.lst [V.ref t2])) st2 = some (.tup xs) := ((same_new ht2 (.tup [V.str tb, V.ref st2])).trans (same_new hrl (.lst [V.ref t2]))) _ _ upd_same
  have rlf : H rl = none := (e1.trans (e4.trans (s57.trans ((same_new hst2 (.tup xs)).trans (same_new ht2 (.tup [V.str tb, V.ref st2])))))).free hrl
  have hrl8 : (upd (upd (upd H7 st2 (.tup xs)) t2 (.tup [V.str tb, V.ref st2])) rl (.lst [V.ref t2])) rl = some (.lst [V.ref t2]) := upd_same
  generalize upd (upd (upd H7 st2 (.tup xs)) t2 (.tup [V.str tb, V.ref st2])) rl (.lst [V.ref t2]) = H8 at s8 hrl8 ht28 hst28
  have s58 := s57.trans s8
  refine ⟨_, rfl, _, rfl, po, _, rfl, .inl ⟨SqL.of (s58 _ _ hpl), fun pt2 hpt2 => ⟨szl (by show 2 ≤ 1000000; decide), fun t3 ht3 => ⟨szl (by show 1 ≤ 1000000; decide), fun pl2 hpl2 => ⟨szl (by show 4 ≤ 1000000; decide), fun p hp => ?_⟩⟩⟩⟩⟩
  have s9 := ((same_new hpt2 (.tup ((((List.range cn).map sf).map (stW kn)).map V.int))).trans (same_new ht3 (.tup [V.str tb, V.ref pt2]))).trans (same_new hpl2 (.lst [V.ref t3]))
  have s10 := same_new hp (.tup [V.ref x, V.int (hdF salt tb (((List.range cn).map sf).map (stW kn))), V.ref rl, V.ref pl2])
  have s910 := s9.trans s10
  have ht39 := (same_new hpl2 (.lst [V.ref t3])) t3 (.tup [V.str tb, V.ref pt2]) upd_same
  have hpt9 := ((same_new ht3 (.tup [V.str tb, V.ref pt2])).trans (same_new hpl2 (.lst [V.ref t3]))) pt2 (.tup ((((List.range cn).map sf).map (stW kn)).map V.int)) upd_same
  have plf : H pl2 = none := (e1.trans (e4.trans (s58.trans ((same_new hpt2 (.tup ((((List.range cn).map sf).map (stW kn)).map V.int))).trans (same_new ht3 (.tup [V.str tb, V.ref pt2])))))).free hpl2
  have s8a := s8.trans (s9.trans s10)
  have stot := e4.trans (s57.trans s8a)
  refine q _ _ (e1.trans stot) ⟨p, rl, pl2, .ref x, [V.ref t2], [V.ref t3], rfl, upd_same, ⟨x, dx7, st, rfl, s8a _ _ hx7, xs, s8a _ _ (e7 _ _ hst6), ?_⟩, (s9.trans s10) _ _ hrl8, s10 _ _ upd_same, .one ⟨t2, st2, rfl, s910 _ _ ht28, xs, s910 _ _ hst28, ax.mono fun _ _ z => SpoAt.tk (Same.tk (s57.trans s8a)) z⟩, .one ⟨t3, pt2, rfl, s10 _ _ ht39, s10 _ _ hpt9⟩, (fun z => z rlf), fun z => z plf⟩ ?_
  · exact ax.mono fun _ _ z => SpoAt.tk (Same.tk (s57.trans s8a)) z
  · refine ⟨by rw [List.length_map, List.length_range]; omega, fun sp hsp => ?_⟩
    obtain ⟨k, hk, rfl⟩ := List.mem_map.mp hsp
    have hk := List.mem_range.mp hk
    rw [← hsf]
    have nbk := nb ((strm (cl / 3) 8).getD (2 + k) 0 * (strm (cl / 3) 8).getD (5 + k) 0)
    refine ⟨?_, ?_, ?_⟩
    · have m0 := Int.emod_nonneg ((strm (cl / 3) 8).getD (2 + k) 0) (show (4 : Int) ≠ 0 by decide)
      have m1 := Int.emod_lt_of_pos ((strm (cl / 3) 8).getD (2 + k) 0) (show (0 : Int) < 4 by decide)
      have tl : (zs.take 3).length = 3 := by rw [List.length_take]; omega
      have hj : ((strm (cl / 3) 8).getD (2 + k) 0 % 4).toNat < (zs.take 3 ++ [("" : Str)]).length := by rw [List.length_append, tl, List.length_singleton]; omega
      show (zs.take 3 ++ [("" : Str)]).getD ((strm (cl / 3) 8).getD (2 + k) 0 % 4).toNat "" = "" ∨ (zs.take 3 ++ [("" : Str)]).getD ((strm (cl / 3) 8).getD (2 + k) 0 % 4).toNat "" ∈ zs.take 3
      rw [List.getD_eq_getElem?_getD, List.getElem?_eq_getElem hj]
      rcases List.mem_append.mp (List.getElem_mem hj) with h | h
      · exact .inr h
      · exact .inl (List.mem_singleton.mp h)
    · show -(2 ^ 64) < numZ ((strm (cl / 3) 8).getD (2 + k) 0 * (strm (cl / 3) 8).getD (5 + k) 0) (10 ^ 18 - 1)
      omega
    · show numZ ((strm (cl / 3) 8).getD (2 + k) 0 * (strm (cl / 3) 8).getD (5 + k) 0) (10 ^ 18 - 1) < 2 ^ 64
      omega

theorem ok_both12 {kn : List (Str × Int)} {salt : Int} (T : Tx K mg a) : FnOk P w K mg base CX0 4 a.f_l_both a.d_l_both ["_law_sign", "_law_left", "_law_right"] (spBoth12 (csOf a) kn salt) := by
  have G_Joined_init := ok_inij (P := P) (w := w) (base := base) T
  refine T.F_l_both.ok sc_l_both (fun vs H Q E h => ?_) (fun cdv A outer s H vs Q E hr h => ?_)
  · obtain ⟨_, _, _, _, _, _, _, rfl, _⟩ := h; rfl
  obtain ⟨z, x, y, l, r, ks, av, rfl, hz3, hx, hy, tl, tr, hk, hsa, hsz, q⟩ := h
  refine ⟨_, (@pss_cons _ _ _ _ _ (@ps_set _ _ (3) _ _ _ _ sc_l_both.nd rfl (Or.inl rfl) (@pe_op _ _ _ _ _ _ _ _ op_add (@pe_ix _ _ _ _ _ _ _ ix_tup (pv 1) pe_int (fun _ _ => rfl)) (@pe_ix _ _ _ _ _ _ _ ix_tup (pv 2) pe_int (fun _ _ => rfl))) (by rfl) (by first | exact .inl rfl | exact .inr rfl | assumption)) (@pss_cons _ _ _ _ _ (@ps_if _ _ _ _ _ _ _ _ (@pt_cmpR _ _ _ _ _ _ _ _ op_eq (pv 0) pe_str (@nomark _ _ (by decide) (by decide))) (@pss_one _ _ _ (@ps_set _ _ (3) _ _ _ _ sc_l_both.nd rfl (Or.inl rfl) (@pe_op _ _ _ _ _ _ _ _ op_sub (@pe_ix _ _ _ _ _ _ _ ix_tup (pv 1) pe_int (fun _ _ => rfl)) (@pe_ix _ _ _ _ _ _ _ ix_tup (pv 2) pe_int (fun _ _ => rfl))) (by rfl) (by first | exact .inl rfl | exact .inr rfl | assumption))) pss_nil) (@pss_cons _ _ _ _ _ (@ps_if _ _ _ _ _ _ _ _ (@pt_cmpR _ _ _ _ _ _ _ _ op_eq (pv 0) pe_str (@nomark _ _ (by decide) (by decide))) (@pss_one _ _ _ (@ps_set _ _ (3) _ _ _ _ sc_l_both.nd rfl (Or.inl rfl) (@pe_op _ _ _ _ _ _ _ _ op_mulH (@pe_ix _ _ _ _ _ _ _ ix_tup (pv 1) pe_int (fun _ _ => rfl)) (@pe_ix _ _ _ _ _ _ _ ix_tup (pv 2) pe_int (fun _ _ => rfl))) (by rfl) (by first | exact .inl rfl | exact .inr rfl | assumption))) pss_nil) (@pss_one _ _ _ (@ps_ret _ _ _ _ (@pe_tupq _ _ _ _ _ (@paq_cons _ _ _ _ _ (@pe_make _ _ _ _ _ _ _ _ _ _ _ _ _ _ _ _ _ T.mk_Joined G_Joined_init (hr.mono (by omega)) (by rfl) T.mc_Joined T.b_Joined_init .nil pass0 (@pa_cons _ _ _ _ _ (pv 0) (@pa_cons _ _ _ _ _ (@pe_ix _ _ _ _ _ _ _ ix_tup (pv 1) pe_int (fun _ _ => rfl)) (@pa_cons _ _ _ _ _ (@pe_ix _ _ _ _ _ _ _ ix_tup (pv 2) pe_int (fun _ _ => rfl)) pa_nil (by rfl)) (by rfl)) (by rfl)) (by decide) (by rfl) (by rfl)) (@paq_cons _ _ _ _ _ (pv 3) (@paq_cons _ _ _ _ _ (@pe_op _ _ _ _ _ _ _ _ op_cat (@pe_ix _ _ _ _ _ _ _ ix_tup (pv 1) pe_int (fun _ _ => rfl)) (@pe_ix _ _ _ _ _ _ _ ix_tup (pv 2) pe_int (fun _ _ => rfl))) (@paq_cons _ _ _ _ _ (@pe_op _ _ _ _ _ _ _ _ op_cat (@pe_ix _ _ _ _ _ _ _ ix_tup (pv 1) pe_int (fun _ _ => rfl)) (@pe_ix _ _ _ _ _ _ _ ix_tup (pv 2) pe_int (fun _ _ => rfl))) paq_nil star_B) star_B) star_N) star_K))))))), ?_⟩
  obtain ⟨p1, rl1, pl1, tm1, xs1, ys1, rfl, h1, t1, hr1, hp1, ax1, ay1, _⟩ := hx
  obtain ⟨p2, rl2, pl2, tm2, xs2, ys2, rfl, h2, t2, hr2, hp2, ax2, ay2, _⟩ := hy
  have lx1 : xs1.length ≤ l.sz := by rw [ax1.1]; exact rdT_len l
  have ly1 : ys1.length ≤ l.sz := by rw [ay1.1]; exact plT_len kn l
  have lx2 : xs2.length ≤ r.sz := by rw [ax2.1]; exact rdT_len r
  have ly2 : ys2.length ≤ r.sz := by rw [ay2.1]; exact plT_len kn r
  refine ⟨_, rfl, p1, _, 1, _, rfl, rfl, SqT.of h1, rfl, _, rfl, p2, _, 1, _, rfl, rfl, SqT.of h2, rfl, _, _, rfl, rfl, ?_⟩
  dsimp only [gName]
  have hsm : ∀ z pl, (hdF salt z pl).natAbs < 2 ^ 64 := fun z pl => hdF_small salt z pl hsa
  have bl := wo_bound hk hsm tl
  have br := wo_bound hk hsm tr
  have pl2 : 2 ^ (64 * l.sz) ≤ 2 ^ 6400 := Nat.pow_le_pow_right (by decide) (by have := Tw.sz_pos r; omega)
  have pr2 : 2 ^ (64 * r.sz) ≤ 2 ^ 6400 := Nat.pow_le_pow_right (by decide) (by have := Tw.sz_pos l; omega)
  have bl := Nat.lt_of_lt_of_le bl pl2
  have br := Nat.lt_of_lt_of_le br pr2
  clear pl2 pr2
  have nz : ∀ {a b : Str}, a ≠ b → decide (V.str a = V.str b) = false := fun h => decide_eq_false fun z => h (V.str.inj z)
  have ne1 : ("+" : Str) ≠ "-" := by decide +kernel
  have ne2 : ("+" : Str) ≠ "*" := by decide +kernel
  have ne3 : ("-" : Str) ≠ "*" := by decide +kernel
  have ne4 : ("-" : Str) ≠ "+" := by decide +kernel
  have ne5 : ("*" : Str) ≠ "-" := by decide +kernel
  have ne6 : ("*" : Str) ≠ "+" := by decide +kernel
  refine seq_any (fun σ' H' => H' = H ∧ σ' = [some (.str z), some (.ref p1), some (.ref p2), some (.int (if z = "-" then wth kn (hdF salt) l - wth kn (hdF salt) r else wth kn (hdF salt) l + wth kn (hdF salt) r))]) (fun σ' H' pp => ?_) (fun nx => ?_)
  rotate_left
  · by_cases c : z = "-"
    · refine ⟨_, rfl, rfl, _, rfl, iteE (v := true) (decide_eq_true (by rw [c])) (iteT ?_)⟩
      refine ⟨_, rfl, p1, _, 1, _, rfl, rfl, SqT.of h1, rfl, _, rfl, p2, _, 1, _, rfl, rfl, SqT.of h2, rfl, _, _, rfl, rfl, nx _ _ ⟨rfl, ?_⟩⟩
      rw [if_pos c]
      rfl
    · refine ⟨_, rfl, rfl, _, rfl, iteE (v := false) (nz c) (iteF ?_)⟩
      refine nx _ _ ⟨rfl, ?_⟩
      rw [if_neg c]
      rfl
  obtain ⟨rfl, rfl⟩ := pp
  refine seq_any (fun σ' H2 => H2 = H' ∧ σ' = [some (.str z), some (.ref p1), some (.ref p2), some (.int (wth kn (hdF salt) (.j z l r)))]) (fun σ' H2 pp => ?_) (fun nx => ?_)
  rotate_left
  · by_cases c : z = "*"
    · refine ⟨_, rfl, rfl, _, rfl, iteE (v := true) (decide_eq_true (by rw [c])) (iteT ?_)⟩
      refine ⟨_, rfl, p1, _, 1, _, rfl, rfl, SqT.of h1, rfl, _, rfl, p2, _, 1, _, rfl, rfl, SqT.of h2, rfl, _, _, rfl, rfl, ⟨bl, br⟩, nx _ _ ⟨rfl, ?_⟩⟩
      show _ = [_, _, _, some (V.int (if z = "+" then wth kn (hdF salt) l + wth kn (hdF salt) r else if z = "-" then wth kn (hdF salt) l - wth kn (hdF salt) r else wth kn (hdF salt) l * wth kn (hdF salt) r))]
      rw [c, if_neg ne6, if_neg ne5]
      rfl
    · refine ⟨_, rfl, rfl, _, rfl, iteE (v := false) (nz c) (iteF ?_)⟩
      refine nx _ _ ⟨rfl, ?_⟩
      show _ = [_, _, _, some (V.int (if z = "+" then wth kn (hdF salt) l + wth kn (hdF salt) r else if z = "-" then wth kn (hdF salt) l - wth kn (hdF salt) r else wth kn (hdF salt) l * wth kn (hdF salt) r))]
      have hz : z = "+" ∨ z = "-" := by
        rcases List.mem_cons.mp hz3 with e | e
        · exact .inl e
        · rcases List.mem_cons.mp e with e | e
          · exact .inr e
          · exact absurd (List.mem_singleton.mp e) c
      rcases hz with e | e
      · rw [e, if_pos rfl, if_neg ne1]
      · rw [e, if_neg ne4, if_pos rfl, if_pos rfl]
  obtain ⟨rfl, rfl⟩ := pp
  refine ⟨_, rfl, _, rfl, p1, _, 0, _, rfl, rfl, SqT.of h1, rfl, _, rfl, p2, _, 0, _, rfl, rfl, SqT.of h2, rfl, ?_⟩
  refine fun x dx nx ndx ne => ⟨x, dx, [_, _, _], rfl, rfl, upd_same, fun H3 k3 hx3 => ⟨rfl, ?_⟩⟩
  obtain ⟨dx3, hx3⟩ := hx3
  have e3 := made_same nx ndx k3
  have h13 := e3 _ _ h1
  have h23 := e3 _ _ h2
  refine ⟨_, rfl, _, rfl, p1, _, 2, _, rfl, rfl, SqT.of h13, rfl, _, rfl, p2, _, 2, _, rfl, rfl, SqT.of h23, rfl, rl1, rl2, xs1, xs2, rfl, rfl, e3 _ _ hr1, e3 _ _ hr2, szl (by omega), fun rl3 hrl3 => ?_⟩
  have s4 := same_new hrl3 (.lst (xs1 ++ xs2))
  have e4 := e3.trans s4
  refine ⟨_, rfl, p1, _, 3, _, rfl, rfl, SqT.of (s4 _ _ h13), rfl, _, rfl, p2, _, 3, _, rfl, rfl, SqT.of (s4 _ _ h23), rfl, pl1, pl2, ys1, ys2, rfl, rfl, e4 _ _ hp1, e4 _ _ hp2, szl (by omega), fun pl3 hpl3 => ?_⟩
  have s5 := same_new hpl3 (.lst (ys1 ++ ys2))
  refine ⟨szl (by show 4 ≤ 1000000; decide), fun p3 hp3 => ?_⟩
  have s6 := same_new hp3 (.tup [V.ref x, V.int (wth kn (hdF salt) (.j z l r)), V.ref rl3, V.ref pl3])
  have s56 := s5.trans s6
  have e6 := e4.trans s56
  refine q _ _ e6 ⟨p3, rl3, pl3, .ref x, xs1 ++ xs2, ys1 ++ ys2, rfl, upd_same, ⟨x, dx3, tm1, tm2, rfl, s56 _ _ (s4 _ _ hx3), t1.over e6, t2.over e6⟩, s56 _ _ upd_same, s6 _ _ upd_same, ?_, ?_, fun z => z (e3.free hrl3), fun z => z (e4.free hpl3)⟩
  · exact (ax1.mono fun _ _ z => z.tk (Same.tk e6)).app (ax2.mono fun _ _ z => z.tk (Same.tk e6))
  · exact (ay1.mono fun _ _ z => z.tk (Same.tk e6)).app (ay2.mono fun _ _ z => z.tk (Same.tk e6))

theorem ok_tree12 {kn : List (Str × Int)} {salt : Int} (T : Tx K mg a) : FnOk P w K mg base CX0 5 a.f_l_tree a.d_l_tree ["_law_cells", "_law_names_here", "_law_values_here", "_law_seed", "_law_salt"] (spTree12 K (csOf a) kn salt) := by
  have G_l_leaf := ok_leaf12 (P := P) (w := w) (base := base) (kn := kn) (salt := salt) T
  have G_l_both := ok_both12 (P := P) (w := w) (base := base) (kn := kn) (salt := salt) T
  refine T.F_l_tree.ok sc_l_tree (fun vs H Q E h => ?_) (fun cdv A outer s H vs Q E hr h => ?_)
  · obtain ⟨_, _, _, _, _, _, rfl, _⟩ := h; rfl
  obtain ⟨cl, nl, d, cs, zs, seed, rfl, hC, hcl, hn, hd, hks, hkb, hsa, q⟩ := h
  refine ⟨_, (@pss_cons _ _ _ _ _ (@ps_set _ _ (5) _ _ _ _ sc_l_tree.nd rfl (Or.inl rfl) (@pe_lst _ _ _ _ (@pa_cons _ _ _ _ _ (@pe_call _ _ _ _ _ _ _ _ _ _ _ _ _ _ _ _ G_l_leaf (hr.mono (by omega)) (by rfl) T.m_l_leaf T.F_l_leaf.kp T.b_l_leaf .nil pass0 (@pa_cons _ _ _ _ _ (pv 3) (@pa_cons _ _ _ _ _ (pv 1) (@pa_cons _ _ _ _ _ (pv 2) (@pa_cons _ _ _ _ _ (pv 4) pa_nil (by rfl)) (by rfl)) (by rfl)) (by rfl)) (by decide) (by rfl) (by rfl)) pa_nil (by rfl))) (by rfl) (by first | exact .inl rfl | exact .inr rfl | assumption)) (@pss_cons _ _ _ _ _ (@ps_for _ _ _ _ _ _ _ _ PassesOwn.never rfl (@pi_list _ _ _ _ (pv 0)) (pg_name (i := 6) sc_l_tree.nd rfl (Or.inl rfl)) (@pss_one _ _ _ (@ps_if _ _ _ _ _ _ _ _ ((@pw_and _ _ _ _ _ _ _ (@pt_cmpR _ _ _ _ _ _ _ _ op_lt (@pe_op _ _ _ _ _ _ _ _ op_mod (pv 6) pe_int) pe_int (@nomark _ _ (by decide) (by decide))) (@pw_and1 _ _ _ _ (@pt_cmpR _ _ _ _ _ _ _ _ op_gt (@pe_callB _ _ _ _ _ _ _ _ _ call_len_seq (by rfl) T.z_len bt_len (@pa_cons _ _ _ _ _ (pv 5) pa_nil (by rfl)) (by decide) (by decide) (by rfl) (by rfl)) pe_int (@nomark _ _ (by decide) (by decide)))))).pt (@pss_cons _ _ _ _ _ (@ps_set _ _ (7) _ _ _ _ sc_l_tree.nd rfl (Or.inl rfl) (@pe_bm0 _ _ _ _ _ _ _ _ _ PySem.F.plainAttrs_list PySem.F.slot_list_pop PySem.F.type_list_pop mt_pop (pv 5) (by rfl) (by rfl)) (by rfl) (by first | exact .inl rfl | exact .inr rfl | assumption)) (@pss_cons _ _ _ _ _ (@ps_set _ _ (8) _ _ _ _ sc_l_tree.nd rfl (Or.inl rfl) (@pe_bm0 _ _ _ _ _ _ _ _ _ PySem.F.plainAttrs_list PySem.F.slot_list_pop PySem.F.type_list_pop mt_pop (pv 5) (by rfl) (by rfl)) (by rfl) (by first | exact .inl rfl | exact .inr rfl | assumption)) (@pss_one _ _ _ (@ps_expr _ _ _ _ (@pe_bm _ _ _ _ _ _ _ _ _ _ _ _ PySem.F.plainAttrs_list PySem.F.slot_list_append PySem.F.type_list_append mt_append (pv 5) (@pa_cons _ _ _ _ _ (@pe_call _ _ _ _ _ _ _ _ _ _ _ _ _ _ _ _ G_l_both (hr.mono (by omega)) (by rfl) T.m_l_both T.F_l_both.kp T.b_l_both .nil pass0 (@pa_cons _ _ _ _ _ (@pe_ix _ _ _ _ _ _ _ ix_str pe_str (@pe_op _ _ _ _ _ _ _ _ op_mod (@pe_op _ _ _ _ _ _ _ _ op_fdiv (pv 6) pe_int) pe_int) (fun _ _ => rfl)) (@pa_cons _ _ _ _ _ (pv 8) (@pa_cons _ _ _ _ _ (pv 7) pa_nil (by rfl)) (by rfl)) (by rfl)) (by decide) (by rfl) (by rfl)) pa_nil (by rfl)) (by rfl) (by rfl) (by rfl) (by rfl) (by rfl)) (by rfl))))) (@pss_one _ _ _ (@ps_expr _ _ _ _ (@pe_bm _ _ _ _ _ _ _ _ _ _ _ _ PySem.F.plainAttrs_list PySem.F.slot_list_append PySem.F.type_list_append mt_append (pv 5) (@pa_cons _ _ _ _ _ (@pe_call _ _ _ _ _ _ _ _ _ _ _ _ _ _ _ _ G_l_leaf (hr.mono (by omega)) (by rfl) T.m_l_leaf T.F_l_leaf.kp T.b_l_leaf .nil pass0 (@pa_cons _ _ _ _ _ (@pe_ix _ _ _ _ _ _ _ ix_list (@pe_lst _ _ _ _ (@pa_cons _ _ _ _ _ (@pe_op _ _ _ _ _ _ _ _ op_fdiv (pv 6) pe_int) (@pa_cons _ _ _ _ _ (pv 3) pa_nil (by rfl)) (by rfl))) (@pe_op _ _ _ _ _ _ _ _ op_fdiv (@pe_op _ _ _ _ _ _ _ _ op_mod (@pe_op _ _ _ _ _ _ _ _ op_fdiv (pv 6) pe_int) pe_int) pe_int) (fun _ _ => rfl)) (@pa_cons _ _ _ _ _ (pv 1) (@pa_cons _ _ _ _ _ (pv 2) (@pa_cons _ _ _ _ _ (pv 4) pa_nil (by rfl)) (by rfl)) (by rfl)) (by rfl)) (by decide) (by rfl) (by rfl)) pa_nil (by rfl)) (by rfl) (by rfl) (by rfl) (by rfl) (by rfl)) (by rfl))))) (by intro _ ; rfl)) (@pss_cons _ _ _ _ _ (@ps_while _ _ _ _ _ _ PassesOwn.never (@pt_cmpR _ _ _ _ _ _ _ _ op_gt (@pe_callB _ _ _ _ _ _ _ _ _ call_len_seq (by rfl) T.z_len bt_len (@pa_cons _ _ _ _ _ (pv 5) pa_nil (by rfl)) (by decide) (by decide) (by rfl) (by rfl)) pe_int (@nomark _ _ (by decide) (by decide))) (@pss_cons _ _ _ _ _ (@ps_set _ _ (7) _ _ _ _ sc_l_tree.nd rfl (Or.inl rfl) (@pe_bm0 _ _ _ _ _ _ _ _ _ PySem.F.plainAttrs_list PySem.F.slot_list_pop PySem.F.type_list_pop mt_pop (pv 5) (by rfl) (by rfl)) (by rfl) (by first | exact .inl rfl | exact .inr rfl | assumption)) (@pss_cons _ _ _ _ _ (@ps_set _ _ (8) _ _ _ _ sc_l_tree.nd rfl (Or.inl rfl) (@pe_bm0 _ _ _ _ _ _ _ _ _ PySem.F.plainAttrs_list PySem.F.slot_list_pop PySem.F.type_list_pop mt_pop (pv 5) (by rfl) (by rfl)) (by rfl) (by first | exact .inl rfl | exact .inr rfl | assumption)) (@pss_one _ _ _ (@ps_expr _ _ _ _ (@pe_bm _ _ _ _ _ _ _ _ _ _ _ _ PySem.F.plainAttrs_list PySem.F.slot_list_append PySem.F.type_list_append mt_append (pv 5) (@pa_cons _ _ _ _ _ (@pe_call _ _ _ _ _ _ _ _ _ _ _ _ _ _ _ _ G_l_both (hr.mono (by omega)) (by rfl) T.m_l_both T.F_l_both.kp T.b_l_both .nil pass0 (@pa_cons _ _ _ _ _ (@pe_ix _ _ _ _ _ _ _ ix_str pe_str (@pe_op _ _ _ _ _ _ _ _ op_mod (@pe_op _ _ _ _ _ _ _ _ op_add (@pe_callB _ _ _ _ _ _ _ _ _ call_len_seq (by rfl) T.z_len bt_len (@pa_cons _ _ _ _ _ (pv 5) pa_nil (by rfl)) (by decide) (by decide) (by rfl) (by rfl)) (pv 3)) pe_int) (fun _ _ => rfl)) (@pa_cons _ _ _ _ _ (pv 8) (@pa_cons _ _ _ _ _ (pv 7) pa_nil (by rfl)) (by rfl)) (by rfl)) (by decide) (by rfl) (by rfl)) pa_nil (by rfl)) (by rfl) (by rfl) (by rfl) (by rfl) (by rfl)) (by rfl)))))) (@pss_one _ _ _ (@ps_ret _ _ _ _ (@pe_ix _ _ _ _ _ _ _ ix_list (pv 5) pe_int (fun _ _ => rfl))))))), ?_⟩
  refine ⟨_, rfl, _, rfl, _, rfl, _, rfl, seed, nl, d, zs, rfl, hn, hd, hks, fun v H1 e1 tv kv => ⟨szl (by show 1 ≤ 1000000; decide), fun l hl => ?_⟩⟩
  have hl0 : H l = none := e1.free hl
  have s2 := same_new hl (.lst [v])
  have hl2 : (upd H1 l (.lst [v])) l = some (.lst [v]) := upd_same
  have lsz := leafF_sz
  have S2 : SqAt (csOf a) kn salt (zs.take 3) (fun b => b = l ∨ H b ≠ none) (upd H1 l (.lst [v])) [v] [leafF seed zs] 1 := SqAt.push (xs := []) (ts := []) (N := 0) ⟨.nil, fun t ht => (by cases ht), Nat.le_refl _⟩ ((tv.new hl).over s2) kv (by rw [lsz]; exact Nat.le_refl _)
  have e2 := e1.trans s2
  dsimp only [gName]
  generalize upd H1 l (.lst [v]) = H2 at s2 hl2 S2 e2
  refine ⟨_, rfl, cl, rfl, ⟨_, e2.seq hC⟩, ?_⟩
  refine for_list (xs := cs.map V.int) (fun i σ' H' => Same H H' ∧ (∃ o6 o7 o8, σ' = [some (.ref cl), some (.ref nl), some (.ref d), some (.int seed), some (.int salt), some (.ref l), o6, o7, o8]) ∧ ∃ xs, H' l = some (.lst xs) ∧ SqAt (csOf a) kn salt (zs.take 3) (fun b => b = l ∨ H b ≠ none) H' xs ((cs.take i).foldl (stepF zs seed) [leafF seed zs]) (i + 1) ∧ 0 < xs.length) ⟨e2, ⟨_, _, _, rfl⟩, [v], hl2, S2, Nat.succ_pos _⟩ (fun i σ' H' _ p => p.1.seq hC) (fun i x σ' H' hx p => ?_) (fun σ' H' p => ?_)
  · obtain ⟨eH, ⟨o6, o7, o8, rfl⟩, xs, hxs, hS, hpos⟩ := p
    obtain ⟨c, rfl, hci⟩ : ∃ c, x = V.int c ∧ cs[i]? = some c := by
      rw [List.getElem?_map] at hx
      cases e : cs[i]? with
      | none => rw [e] at hx; cases hx
      | some z => rw [e] at hx; exact ⟨z, (Option.some.inj hx).symm, rfl⟩
    have hi : i < cs.length := (List.getElem?_eq_some_iff.mp hci).1
    have sl := hS.len
    rw [take_snoc hci, List.foldl_append]
    show tIfS _ _ _ _ _ _
    generalize (cs.take i).foldl (stepF zs seed) [leafF seed zs] = st at hS
    have stl := hS.at'.1
    dsimp only [gName]
    refine if_any (fun H2 => H2 = H' ∧ ¬ (c % 5 < 2 ∧ 1 < st.length)) (fun H2 e => ?_) (fun els => ?_)
    · obtain ⟨rfl, hno⟩ := e
      have j0 := Int.emod_nonneg (c / 5) (show (4 : Int) ≠ 0 by decide)
      have j1 := Int.emod_lt_of_pos (c / 5) (show (0 : Int) < 4 by decide)
      refine ⟨_, rfl, .inl ⟨rfl, _, SqL.of hxs⟩, _, rfl, _, _, rfl, rfl, ⟨by decide, by decide⟩, _, rfl, szl (by show 2 ≤ 1000000; decide), fun l2 hl2 => ?_⟩
      have s3 := same_new hl2 (.lst [V.int (c / 5), V.int seed])
      refine ⟨_, rfl, _, _, rfl, rfl, ⟨by decide, by decide⟩, _, _, rfl, rfl, (by show (0 : Int) < 4; decide), _, _, rfl, rfl, ⟨by decide, by decide⟩, l2, _, _, _, rfl, rfl, SqL.of upd_same, pick2 (by omega) (by omega), ?_⟩
      have hxs3 := s3 _ _ hxs
      refine ⟨_, rfl, _, rfl, _, rfl, _, nl, d, zs, rfl, (hn.over eH).over s3, s3 _ _ (eH _ _ hd), hks, fun v2 H6 e6 p6 k6 => ?_⟩
      have hxs6 := e6 _ _ hxs3
      refine ⟨l, _, _, rfl, rfl, hxs6, szlt (by omega), ?_⟩
      have br : Bar l H6 (upd H6 l (.lst (xs ++ [v2]))) := Bar.upd hxs6
      have p6 := p6.less (av' := (fun b => b = l ∨ H b ≠ none)) fun b z => z.elim (fun z => by rw [z, hxs3]; simp) fun z => s3.some (eH.some z)
      refine ⟨fun b ob eb => by rw [upd_ne (ne_of_none eb hl0)]; exact e6 _ _ (s3 _ _ (eH _ _ eb)), ⟨_, _, _, rfl⟩, xs ++ [v2], upd_same, ?_, by rw [List.length_append]; omega⟩
      rw [List.foldl_cons, List.foldl_nil, stepF_leaf hno]
      exact (((hS.over s3).over e6).bar (Or.inl rfl) br).push (p6.bar (Or.inl rfl) br) k6 (by rw [lsz]; omega)
    · refine ⟨_, rfl, _, _, rfl, rfl, (by show (0 : Int) < 5; decide), _, _, rfl, rfl, _, rfl, ?_⟩
      refine ite2 (fun c1 => ?_) (fun c1 => iteF (els _ ⟨rfl, fun z => dF c1 z.1⟩))
      refine ⟨_, rfl, l, _, rfl, .inl (SqL.of hxs), _, _, rfl, rfl, _, rfl, ?_⟩
      refine ite2 (fun c2 => ?_) (fun c2 => els _ ⟨rfl, fun z => dF c2 (by have := z.2; omega)⟩)
      have c1 := dT c1
      have c2 := dT c2
      obtain ⟨ys, x1, us, t1, M1, rfl, rfl, hS1, px, okx, m1⟩ := hS.pop hpos
      rw [List.length_append, List.length_singleton] at c2
      obtain ⟨ws, x2, us2, t2, M2, rfl, rfl, hS2, py, oky, m2⟩ := hS1.pop (by omega)
      refine ⟨_, rfl, .inl ⟨rfl, _, SqL.of hxs⟩, l, _, x1, rfl, rfl, hxs, pop_last.1, ?_⟩
      rw [pop_last.2]
      dsimp only [gName]
      refine ⟨_, rfl, .inl ⟨rfl, _, SqL.of upd_same⟩, l, _, x2, rfl, rfl, upd_same, pop_last.1, ?_⟩
      rw [pop_last.2]
      dsimp only [gName]
      have hz : (upd (upd H' l (.lst (ws ++ [x2]))) l (.lst ws)) l = some (.lst ws) := upd_same
      have u2 : ∀ b, b ≠ l → (upd (upd H' l (.lst (ws ++ [x2]))) l (.lst ws)) b = H' b := fun b hb => by rw [upd_ne hb, upd_ne hb]
      generalize upd (upd H' l (.lst (ws ++ [x2]))) l (.lst ws) = H3 at hz u2
      have b3 : Bar l H' H3 := ⟨⟨_, hxs⟩, fun b ob n e => by rw [u2 _ n]; exact e⟩
      have eH3 : Same H H3 := fun b ob eb => by rw [u2 _ (ne_of_none eb hl0)]; exact eH _ _ eb
      have f0 := Int.emod_nonneg (c / 5) (show (3 : Int) ≠ 0 by decide)
      have f1 := Int.emod_lt_of_pos (c / 5) (show (0 : Int) < 3 by decide)
      obtain ⟨ch, hch, hsg, h3⟩ := sgF_at f0 f1
      have sl2 := hS2.len
      refine ⟨_, rfl, .inl ⟨rfl, _, SqL.of hz⟩, _, rfl, _, _, rfl, rfl, ⟨by decide, by decide⟩, _, _, rfl, rfl, (by show (0 : Int) < 3; decide), _, _, ch, rfl, rfl, (by decide +kernel), hch, _, rfl, _, rfl, _, x2, x1, t2, t1, _, (fun b => b = l ∨ H b ≠ none), rfl, (by rw [hsg]; exact h3), py.bar (Or.inl rfl) b3, px.bar (Or.inl rfl) b3, oky, okx, hkb, hsa, by omega, fun v3 H6 e6 p6 => ?_⟩
      rw [hsg] at p6
      have hz6 := e6 _ _ hz
      refine ⟨l, _, _, rfl, rfl, hz6, szlt (by omega), ?_⟩
      have br : Bar l H6 (upd H6 l (.lst (ws ++ [v3]))) := Bar.upd hz6
      have p6 := p6.less (av' := (fun b => b = l ∨ H b ≠ none)) fun b z => z.elim (fun z => by rw [z, hz]; simp) fun z => eH3.some z
      refine ⟨fun b ob eb => by rw [upd_ne (ne_of_none eb hl0)]; exact e6 _ _ (eH3 _ _ eb), ⟨_, _, _, rfl⟩, ws ++ [v3], upd_same, ?_, by rw [List.length_append]; exact Nat.succ_pos _⟩
      rw [List.foldl_cons, List.foldl_nil, stepF_join c1]
      exact (((hS2.bar (Or.inl rfl) b3).over e6).bar (Or.inl rfl) br).push (p6.bar (Or.inl rfl) br) ⟨h3, oky, okx⟩ (by show M2 + (t2.sz + t1.sz) ≤ i + 1 + 1; omega)
  · obtain ⟨eH, ⟨o6, o7, o8, rfl⟩, xs, hxs, hS, hpos⟩ := p
    rw [List.length_map] at hS
    rw [List.take_length] at hS
    unfold treeF at q
    generalize cs.foldl (stepF zs seed) [leafF seed zs] = st at hS q
    have sl := hS.len
    have stl := hS.at'.1
    show tSeq (tWhile _ _) (tRet _) _ _ _
    refine seq_any (fun σ' H2 => Same H H2 ∧ (∃ o6 o7 o8, σ' = [some (.ref cl), some (.ref nl), some (.ref d), some (.int seed), some (.int salt), some (.ref l), o6, o7, o8]) ∧ ∃ x t, H2 l = some (.lst [x]) ∧ joinF seed st.length st = [t] ∧ TqAt (csOf a) kn salt (fun b => b = l ∨ H b ≠ none) H2 x t ∧ Tk (zs.take 3) t ∧ t.sz ≤ 40) (fun σ' H2 pp => ?_) (fun nx => ?_)
    · obtain ⟨e2, ⟨o6, o7, o8, rfl⟩, x, t, hx, ej, tx, okt, st40⟩ := pp
      dsimp only at q
      rw [ej] at q
      exact ⟨_, rfl, l, _, _, _, rfl, rfl, SqL.of hx, rfl, q x _ e2 (tx.less fun _ z => .inr z) okt st40⟩
    refine while_ix 40 (fun j σ' H2 => Same H H2 ∧ (∃ o6 o7 o8, σ' = [some (.ref cl), some (.ref nl), some (.ref d), some (.int seed), some (.int salt), some (.ref l), o6, o7, o8]) ∧ ∃ xs ts, H2 l = some (.lst xs) ∧ SqAt (csOf a) kn salt (zs.take 3) (fun b => b = l ∨ H b ≠ none) H2 xs ts 40 ∧ joinF seed st.length st = joinF seed ts.length ts ∧ xs.length + j ≤ 40 ∧ 0 < xs.length) ⟨eH, ⟨_, _, _, rfl⟩, xs, st, hxs, ⟨hS.at', hS.ok, by have := hS.sum; omega⟩, rfl, by omega, hpos⟩ (fun j σ' H' hj pp => ?_) (MT.test (ME.op (MR.i0 _) (ME.cb MB.len (MA.cons (ME.var _) MA.nil)) (ME.c _)))
    obtain ⟨eH, ⟨o6, o7, o8, rfl⟩, xs, ts, hxs, hS, ej, hNi, hpos⟩ := pp
    refine ⟨_, rfl, l, _, rfl, .inl (SqL.of hxs), _, _, rfl, rfl, _, rfl, ?_⟩
    refine ite2 (fun c2 => ?_) (fun c2 => ?_)
    · have c2 := dT c2
      refine ⟨by omega, ?_⟩
      obtain ⟨ys, x1, us, t1, M1, rfl, rfl, hS1, px, okx, m1⟩ := hS.pop hpos
      rw [List.length_append, List.length_singleton] at c2 hNi
      obtain ⟨ws, x2, us2, t2, M2, rfl, rfl, hS2, py, oky, m2⟩ := hS1.pop (by omega)
      rw [List.length_append, List.length_singleton] at hNi
      refine ⟨_, rfl, .inl ⟨rfl, _, SqL.of hxs⟩, l, _, x1, rfl, rfl, hxs, pop_last.1, ?_⟩
      rw [pop_last.2]
      dsimp only [gName]
      refine ⟨_, rfl, .inl ⟨rfl, _, SqL.of upd_same⟩, l, _, x2, rfl, rfl, upd_same, pop_last.1, ?_⟩
      rw [pop_last.2]
      dsimp only [gName]
      have hz : (upd (upd H' l (.lst (ws ++ [x2]))) l (.lst ws)) l = some (.lst ws) := upd_same
      have u2 : ∀ b, b ≠ l → (upd (upd H' l (.lst (ws ++ [x2]))) l (.lst ws)) b = H' b := fun b hb => by rw [upd_ne hb, upd_ne hb]
      generalize upd (upd H' l (.lst (ws ++ [x2]))) l (.lst ws) = H3 at hz u2
      have b3 : Bar l H' H3 := ⟨⟨_, hxs⟩, fun b ob n e => by rw [u2 _ n]; exact e⟩
      have eH3 : Same H H3 := fun b ob eb => by rw [u2 _ (ne_of_none eb hl0)]; exact eH _ _ eb
      have sl2 := hS2.len
      have wl := hS2.at'.1
      refine ⟨_, rfl, .inl ⟨rfl, _, SqL.of hz⟩, _, rfl, l, _, rfl, .inl (SqL.of hz), _, rfl, _, _, rfl, rfl, ?_⟩
      have f0 := Int.emod_nonneg (((ws.length : Nat) : Int) + seed) (show (3 : Int) ≠ 0 by decide)
      have f1 := Int.emod_lt_of_pos (((ws.length : Nat) : Int) + seed) (show (0 : Int) < 3 by decide)
      obtain ⟨ch, hch, hsg, h3⟩ := sgF_at f0 f1
      refine ⟨_, _, rfl, rfl, (by show (0 : Int) < 3; decide), _, _, ch, rfl, rfl, (by decide +kernel), hch, _, rfl, _, rfl, _, x2, x1, t2, t1, _, (fun b => b = l ∨ H b ≠ none), rfl, (by rw [hsg]; exact h3), py.bar (Or.inl rfl) b3, px.bar (Or.inl rfl) b3, oky, okx, hkb, hsa, by omega, fun v3 H6 e6 p6 => ?_⟩
      rw [hsg] at p6
      have hz6 := e6 _ _ hz
      refine ⟨l, _, _, rfl, rfl, hz6, szlt (by omega), ?_⟩
      have br : Bar l H6 (upd H6 l (.lst (ws ++ [v3]))) := Bar.upd hz6
      have p6 := p6.less (av' := (fun b => b = l ∨ H b ≠ none)) fun b z => z.elim (fun z => by rw [z, hz]; simp) fun z => eH3.some z
      have ej2 : joinF seed (us2 ++ [t2] ++ [t1]).length (us2 ++ [t2] ++ [t1]) = joinF seed (us2 ++ [Tw.j (sgF (((ws.length : Nat) + seed) % 3)) t2 t1]).length (us2 ++ [Tw.j (sgF (((ws.length : Nat) + seed) % 3)) t2 t1]) := by
        rw [List.length_append, List.length_singleton, joinF_step, wl, List.length_append, List.length_append, List.length_singleton, List.length_singleton]
      refine ⟨fun b ob eb => by rw [upd_ne (ne_of_none eb hl0)]; exact e6 _ _ (eH3 _ _ eb), ⟨_, _, _, rfl⟩, ws ++ [v3], us2 ++ [.j (sgF (((ws.length : Nat) + seed) % 3)) t2 t1], upd_same, ?_, ej.trans ej2, by rw [List.length_append, List.length_singleton]; omega, by rw [List.length_append]; exact Nat.succ_pos _⟩
      exact (((hS2.bar (Or.inl rfl) b3).over e6).bar (Or.inl rfl) br).push (p6.bar (Or.inl rfl) br) ⟨h3, oky, okx⟩ (by show M2 + (t2.sz + t1.sz) ≤ 40; omega)
    · have c2 := dF c2
      obtain ⟨ys, x1, us, t1, M1, rfl, rfl, hS1, px, okx, m1⟩ := hS.pop hpos
      have y0 : ys = [] := by
        rw [List.length_append, List.length_singleton] at c2
        exact List.eq_nil_of_length_eq_zero (by omega)
      subst y0
      have u0 : us = [] := List.eq_nil_of_length_eq_zero hS1.at'.1.symm
      subst u0
      exact nx _ _ ⟨eH, ⟨_, _, _, rfl⟩, x1, t1, hxs, ej.trans joinF_one, px, okx, by omega⟩

theorem ok_values12 (T : Tx K mg a) : FnOk P w K mg base CX0 2 a.f_l_values a.d_l_values ["_law_script", "_law_names_here", "_law_more"] (spValues12 K) := by
  have G_l_cell_at := ok_cell_at (P := P) (w := w) (base := base) T
  have G_l_number := ok_number (P := P) (w := w) (base := base) T
  refine T.F_l_values.ok sc_l_values (fun vs H Q E h => ?_) (fun cdv A outer s H vs Q E hr h => ?_)
  · obtain ⟨_, _, _, _, _, rfl, _⟩ := h; rfl
  obtain ⟨cl, nl, cs, zs, more, rfl, hC, hn, q⟩ := h
  refine ⟨_, (@pss_cons _ _ _ _ _ (@ps_set _ _ (3) _ _ _ _ sc_l_values.nd rfl (Or.inl rfl) pe_dnewK (by rfl) (by first | exact .inl rfl | exact .inr rfl | assumption)) (@pss_cons _ _ _ _ _ (@ps_for _ _ _ _ _ _ _ _ PassesOwn.never rfl (@pi_range1 _ _ _ _ _ _ (by rfl) T.z_range (@pa_cons _ _ _ _ _ pe_int pa_nil (by rfl)) (by rfl)) (pg_name (i := 4) sc_l_values.nd rfl (Or.inl rfl)) (@pss_one _ _ _ (@ps_dput _ _ _ _ _ _ _ _ _ (@hu_of _ _ hr) (pv 3) (@pe_ix _ _ _ _ _ _ _ ix_list (pv 1) (pv 4) (fun _ _ => rfl)) (@pe_call _ _ _ _ _ _ _ _ _ _ _ _ _ _ _ _ G_l_number (hr.mono (by omega)) (by rfl) T.m_l_number T.F_l_number.kp T.b_l_number .nil pass0 (@pa_cons _ _ _ _ _ (@pe_op _ _ _ _ _ _ _ _ op_add (@pe_call _ _ _ _ _ _ _ _ _ _ _ _ _ _ _ _ G_l_cell_at (hr.mono (by omega)) (by rfl) T.m_l_cell_at T.F_l_cell_at.kp T.b_l_cell_at .nil pass0 (@pa_cons _ _ _ _ _ (pv 0) (@pa_cons _ _ _ _ _ (@pe_op _ _ _ _ _ _ _ _ op_add pe_int (pv 4)) pa_nil (by rfl)) (by rfl)) (by decide) (by rfl) (by rfl)) (pv 2)) (@pa_cons _ _ _ _ _ (@pe_op _ _ _ _ _ _ _ _ op_mul pe_int (@pe_op _ _ _ _ _ _ _ _ op_pow pe_int pe_int)) pa_nil (by rfl)) (by rfl)) (by decide) (by rfl) (by rfl)) rfl)) (by intro _ ; rfl)) (@pss_one _ _ _ (@ps_ret _ _ _ _ (pv 3))))), ?_⟩
  have zl := hn.2.1
  refine fun d hd => ?_
  have s1 := same_new hd (.dK [])
  have hd1 : (upd H d (.dK [])) d = some (.dK []) := upd_same
  dsimp only [gName]
  generalize upd H d (.dK []) = H1 at s1 hd1
  refine ⟨3, rfl, by decide, by decide, ?_⟩
  refine for_range (lo := 0) (n := 3) (fun i σ' H' => Same H H' ∧ (∃ o4, σ' = [some (.ref cl), some (.ref nl), some (.int more), some (.ref d), o4]) ∧ ∃ kn : List (Str × Int), H' d = some (.dK (kvOf kn)) ∧ kn.length ≤ i ∧ (∀ z ∈ zs.take i, z ∈ kn.map (·.1)) ∧ (kn.map (·.1)).Nodup ∧ ∀ p ∈ kn, p.2.natAbs < 2 ^ 64) ⟨s1, ⟨_, rfl⟩, [], hd1, Nat.le_refl _, (fun z h => by cases h), List.nodup_nil, fun p h => by cases h⟩ (fun i σ' H' hi p => ?_) (fun σ' H' p => ?_)
  · obtain ⟨eH, ⟨o4, rfl⟩, kn, hkn, kl, hks, knd, kb⟩ := p
    have z1 : (0 : Int) + (i : Int) = ((i : Nat) : Int) := Int.zero_add _
    dsimp only [gName]
    rw [z1]
    have hi8 : i < zs.length := by omega
    have za : zs[i]? = some zs[i] := List.getElem?_eq_getElem hi8
    refine ⟨_, rfl, _, rfl, _, _, rfl, rfl, cl, cs, _, rfl, eH.seq hC, by omega, _, rfl, _, _, rfl, rfl, _, _, rfl, rfl, ⟨by decide, by decide, by decide⟩, _, _, rfl, rfl, .inr ⟨by decide, by decide⟩, _, _, rfl, by decide, by decide, ?_⟩
    have nb : ∀ c : Int, (numZ c (2 * 10 ^ (18 : Int).toNat)).natAbs < 2 ^ 64 := fun c => by
      rw [show (2 * 10 ^ (18 : Int).toNat : Int) = 2000000000000000000 by decide]
      unfold numZ
      have a0 := Int.emod_nonneg (c / 3) (show (7 : Int) ≠ 0 by decide)
      have a1 := Int.emod_lt_of_pos (c / 3) (show (0 : Int) < 7 by decide)
      have b0 := Int.emod_nonneg (c / 3) (show (2 * 2000000000000000000 + 1 : Int) ≠ 0 by decide)
      have b1 := Int.emod_lt_of_pos (c / 3) (show (0 : Int) < 2 * 2000000000000000000 + 1 by decide)
      split <;> omega
    obtain ⟨kn2, e2, l2, k2, m2, n2, b2⟩ := kv_put kn zs[i] (numZ (cs.getD (1 + ((i : Nat) : Int)).toNat 0 + more) (2 * 10 ^ (18 : Int).toNat))
    refine ⟨_, rfl, _, rfl, _, rfl, nl, _, _, _, rfl, rfl, SqL.of (eH _ _ hn.1), atI_nat (by rw [List.getElem?_map, za]; rfl), d, _, rfl, DPut.k (k := Sum.inr zs[i]) hkn (by unfold kvOf; rw [List.length_map]; exact szlt (by omega)), ?_⟩
    refine ⟨fun b ob eb => by rw [upd_ne (ne_of_none eb hd)]; exact eH _ _ eb, ⟨_, rfl⟩, kn2, ?_, by omega, fun z hz => ?_, n2 knd, b2 _ kb (nb _)⟩
    · rw [upd_same, ← e2]
    · rw [take_snoc za] at hz
      rcases List.mem_append.mp hz with h | h
      · exact k2 _ (hks z h)
      · rw [List.mem_singleton.mp h]; exact m2
  · obtain ⟨eH, ⟨o4, rfl⟩, kn, hkn, kl, hks, knd, kb⟩ := p
    exact ⟨_, rfl, q d _ kn eH hd hkn hks knd (lkN_lt (by decide) kb)⟩

theorem ok_stood14 (T : Tx K mg a) : FnOk P w K mg base CX0 1 a.f_stood_for a.d_stood_for ["spot", "values"] spStood14 := by
  refine T.F_stood_for.ok sc_stood_for (fun vs H Q E h => ?_) (fun cdv A outer s H vs Q E hr h => ?_)
  · obtain ⟨_, _, _, _, rfl, _⟩ := h; rfl
  obtain ⟨x, d, ⟨z, n⟩, kn, rfl, ⟨t, rfl, ht⟩, hd, hz, q⟩ := h
  refine ⟨_, (@pss_cons _ _ _ _ _ (@ps_if _ _ _ _ _ _ _ _ (@pt_cmpR _ _ _ _ _ _ _ _ op_eq (@pe_ix _ _ _ _ _ _ _ ix_tup (pv 0) pe_int (fun _ _ => rfl)) pe_str (@nomark _ _ (by decide) (by decide))) (@pss_one _ _ _ (@ps_ret _ _ _ _ (@pe_ix _ _ _ _ _ _ _ ix_tup (pv 0) pe_int (fun _ _ => rfl)))) pss_nil) (@pss_one _ _ _ (@ps_ret _ _ _ _ (@pe_op _ _ _ _ _ _ _ _ op_add (@pe_dget _ _ _ _ _ _ (@hu_of _ _ hr) (pv 1) (@pe_ix _ _ _ _ _ _ _ ix_tup (pv 0) pe_int (fun _ _ => rfl)) (fun _ _ => rfl)) (@pe_ix _ _ _ _ _ _ _ ix_tup (pv 0) pe_int (fun _ _ => rfl)))))), ?_⟩
  refine ⟨_, rfl, t, _, 0, _, rfl, rfl, SqT.of ht, rfl, rfl, _, rfl, ite2 (fun c => ?_) (fun c => ?_)⟩
  · have c : z = "" := by have := of_decide_eq_true c; injection this
    refine ⟨_, rfl, t, _, 1, _, rfl, rfl, SqT.of ht, rfl, ?_⟩
    unfold stW at q
    rw [if_pos c] at q
    exact q
  · have c : ¬ z = "" := fun e => dF c (congrArg V.str e)
    have hz : z ∈ kn.map (·.1) := by
      rcases hz with e | e
      · exact absurd e c
      · exact e
    have g := DGet.k (H := H) (a := d) (kvs := kvOf kn) (k := Sum.inr z) hd
    rw [kv_get hz] at g
    refine ⟨_, rfl, _, rfl, t, _, 0, _, rfl, rfl, SqT.of ht, rfl, d, .int (lkN kn z), rfl, g, _, rfl, t, _, 1, _, rfl, rfl, SqT.of ht, rfl, _, _, rfl, rfl, ?_⟩
    unfold stW at q
    rw [if_neg c] at q
    exact q

theorem ok_placed14 (T : Tx K mg a) : FnOk P w K mg base CX0 2 a.f_placed a.d_placed ["spots", "values"] spPlaced14 := by
  have G_stood_for := ok_stood14 (P := P) (w := w) (base := base) T
  refine T.F_placed.ok sc_placed (fun vs H Q E h => ?_) (fun cdv A outer s H vs Q E hr h => ?_)
  · obtain ⟨_, _, _, _, _, rfl, _⟩ := h; rfl
  obtain ⟨t, d, xs, sp, kn, rfl, ht, ax, hd, hs, l10, q⟩ := h
  refine ⟨_, (@pss_one _ _ _ (@ps_ret _ _ _ _ (@pe_callTy _ _ _ _ _ _ _ _ _ call_tuple_of (by rfl) T.z_tuple bt_tuple (@pa_cons _ _ _ _ _ (@pe_compB _ _ _ _ _ _ _ ["spot", "values"] [none, some 1] _ _ _ _ (by rfl) (@pi_tup _ _ _ _ (pv 0)) c_placed_0 (fun _ _ _ _ _ _ => ⟨(pg_name (i := 0) c_placed_0n rfl (Or.inl rfl)), @pts_nil _, (@pe_call _ _ _ _ _ _ _ _ _ _ _ _ _ _ _ _ G_stood_for (hr.mono (by omega)) (by rfl) T.m_stood_for T.F_stood_for.kp T.b_stood_for .nil pass0 (@pa_cons _ _ _ _ _ (pv 0) (@pa_cons _ _ _ _ _ (pv 1) pa_nil (by rfl)) (by rfl)) (by decide) (by rfl) (by rfl))⟩) (by intro _ ; rfl)) pa_nil (by rfl)) (by decide) (by decide) (by rfl) (by rfl)))), ?_⟩
  have xl := ax.1
  refine ⟨_, rfl, t, rfl, ⟨_, SqT.of ht⟩, ?_⟩
  refine comp_tup (xs := xs) (fun i ys H' => H' = H ∧ ys = ((sp.take i).map (stW kn)).map V.int) ⟨rfl, rfl⟩ (szl (by omega)) (fun i ys H' hi pp => ⟨by rw [pp.1]; exact SqT.of ht, by rw [pp.2, List.length_map, List.length_map, List.length_take]; omega⟩) (fun i x ys H' hc pp => ?_) (fun ys H' pp r hr => ?_)
  · obtain ⟨rfl, rfl⟩ := pp
    obtain ⟨s, hs', hx⟩ := ax.get' hc
    refine ⟨_, rfl, _, rfl, x, d, s, kn, rfl, hx, hd, hs s (List.mem_of_getElem? hs'), rfl, ?_⟩
    rw [take_snoc hs', List.map_append, List.map_append]
    rfl
  obtain ⟨rfl, rfl⟩ := pp
  rw [List.take_of_length_le (by omega)]
  refine ⟨r, _, rfl, .inl ⟨SqL.of upd_same, fun r2 hr2 => ?_⟩⟩
  exact q r2 _ ((same_new hr _).trans (same_new hr2 _)) upd_same

theorem ok_names (T : Tx K mg a) : FnOk P w K mg base CX0 2 a.f_l_names a.d_l_names ["_law_cell", "_law_many"] spNames := by
  have G_l_stream := ok_stream (P := P) (w := w) (base := base) T
  refine T.F_l_names.ok sc_l_names (fun vs H Q E h => ?_) (fun cdv A outer s H vs Q E hr h => ?_)
  · obtain ⟨_, _, rfl, _⟩ := h; rfl
  obtain ⟨c, n, rfl, h0, h1, q⟩ := h
  refine ⟨_, (@pss_cons _ _ _ _ _ (@ps_set _ _ (2) _ _ _ _ sc_l_names.nd rfl (Or.inr rfl) pe_str (by rfl) (by first | exact .inl rfl | exact .inr rfl | assumption)) (@pss_cons _ _ _ _ _ (@ps_set _ _ (3) _ _ _ _ sc_l_names.nd rfl (Or.inl rfl) (@pe_call _ _ _ _ _ _ _ _ _ _ _ _ _ _ _ _ G_l_stream (hr.mono (by omega)) (by rfl) T.m_l_stream T.F_l_stream.kp T.b_l_stream .nil pass0 (@pa_cons _ _ _ _ _ (pv 0) (@pa_cons _ _ _ _ _ pe_int pa_nil (by rfl)) (by rfl)) (by decide) (by rfl) (by rfl)) (by rfl) (by first | exact .inl rfl | exact .inr rfl | assumption)) (@pss_cons _ _ _ _ _ (@ps_set _ _ (4) _ _ _ _ sc_l_names.nd rfl (Or.inl rfl) (@pe_bm _ _ _ _ _ _ _ _ _ _ _ _ PySem.F.plainAttrs_str PySem.F.slot_str_join PySem.F.type_str_join mt_join pe_str (@pa_cons _ _ _ _ _ (@pe_compB _ _ _ _ _ _ _ ["_law_x", "_law_letters"] [none, some 2] _ _ _ _ (by rfl) (@pi_list _ _ _ _ (@pe_slice _ _ _ _ _ _ _ _ _ _ sl_list (pv 3) (@po_some _ _ _ pe_int) po_none)) c_l_names_0 (fun _ _ _ _ _ _ => ⟨(pg_name (i := 0) c_l_names_0n rfl (Or.inl rfl)), @pts_nil _, (@pe_ix _ _ _ _ _ _ _ ix_str (pv 1) (@pe_op _ _ _ _ _ _ _ _ op_mod (pv 0) pe_int) (fun _ _ => rfl))⟩) (by intro _ ; rfl)) pa_nil (by rfl)) (by rfl) (by rfl) (by rfl) (by rfl) (by rfl)) (by rfl) (by first | exact .inl rfl | exact .inr rfl | assumption)) (@pss_cons _ _ _ _ _ (@ps_set _ _ (5) _ _ _ _ sc_l_names.nd rfl (Or.inl rfl) (@pe_op _ _ _ _ _ _ _ _ op_add pe_int (@pe_op _ _ _ _ _ _ _ _ op_mod (@pe_ix _ _ _ _ _ _ _ ix_list (pv 3) pe_int (fun _ _ => rfl)) pe_int)) (by rfl) (by first | exact .inl rfl | exact .inr rfl | assumption)) (@pss_cons _ _ _ _ _ (@ps_set _ _ (6) _ _ _ _ sc_l_names.nd rfl (Or.inl rfl) (@pe_op _ _ _ _ _ _ _ _ op_mod (@pe_op _ _ _ _ _ _ _ _ op_fdiv (@pe_ix _ _ _ _ _ _ _ ix_list (pv 3) pe_int (fun _ _ => rfl)) pe_int) (pv 5)) (by rfl) (by first | exact .inl rfl | exact .inr rfl | assumption)) (@pss_cons _ _ _ _ _ (@ps_set _ _ (7) _ _ _ _ sc_l_names.nd rfl (Or.inl rfl) (@pe_lst _ _ _ _ pa_nil) (by rfl) (by first | exact .inl rfl | exact .inr rfl | assumption)) (@pss_cons _ _ _ _ _ (@ps_for _ _ _ _ _ _ _ _ PassesOwn.never rfl (@pi_range1 _ _ _ _ _ _ (by rfl) T.z_range (@pa_cons _ _ _ _ _ (pv 1) pa_nil (by rfl)) (by rfl)) (pg_name (i := 8) sc_l_names.nd rfl (Or.inl rfl)) (@pss_cons _ _ _ _ _ (@ps_set _ _ (9) _ _ _ _ sc_l_names.nd rfl (Or.inl rfl) (@pe_ix _ _ _ _ _ _ _ ix_str (pv 2) (@pe_op _ _ _ _ _ _ _ _ op_mod (@pe_op _ _ _ _ _ _ _ _ op_add (@pe_ix _ _ _ _ _ _ _ ix_list (pv 3) (@pe_op _ _ _ _ _ _ _ _ op_add pe_int (pv 6)) (fun _ _ => rfl)) (pv 8)) pe_int) (fun _ _ => rfl)) (by rfl) (by first | exact .inl rfl | exact .inr rfl | assumption)) (@pss_cons _ _ _ _ _ (@ps_set _ _ (10) _ _ _ _ sc_l_names.nd rfl (Or.inl rfl) (@pe_op _ _ _ _ _ _ _ _ op_add_str (@pe_op _ _ _ _ _ _ _ _ op_add_str (@pe_slice _ _ _ _ _ _ _ _ _ _ sl_str (pv 4) po_none (@po_some _ _ _ (pv 6))) (pv 9)) (@pe_slice _ _ _ _ _ _ _ _ _ _ sl_str (pv 4) (@po_some _ _ _ (@pe_op _ _ _ _ _ _ _ _ op_add (pv 6) pe_int)) (@po_some _ _ _ (pv 5)))) (by rfl) (by first | exact .inl rfl | exact .inr rfl | assumption)) (@pss_cons _ _ _ _ _ (@ps_if _ _ _ _ _ _ _ _ (@pt_cmpR _ _ _ _ _ _ _ _ op_eq (@pe_op _ _ _ _ _ _ _ _ op_mod (@pe_ix _ _ _ _ _ _ _ ix_list (pv 3) pe_int (fun _ _ => rfl)) pe_int) pe_int (@nomark _ _ (by decide) (by decide))) (@pss_one _ _ _ (@ps_set _ _ (10) _ _ _ _ sc_l_names.nd rfl (Or.inl rfl) (@pe_slice _ _ _ _ _ _ _ _ _ _ sl_str (pv 4) po_none (@po_some _ _ _ (@pe_op _ _ _ _ _ _ _ _ op_add pe_int (@pe_op _ _ _ _ _ _ _ _ op_mod (@pe_op _ _ _ _ _ _ _ _ op_add (pv 5) (@pe_op _ _ _ _ _ _ _ _ op_mul pe_int (pv 8))) pe_int)))) (by rfl) (by first | exact .inl rfl | exact .inr rfl | assumption))) pss_nil) (@pss_cons _ _ _ _ _ (@ps_if _ _ _ _ _ _ _ _ (@pt_cmpR _ _ _ _ _ _ _ _ op_in_seq (pv 10) (@pe_tupq _ _ _ _ _ (@paq_cons _ _ _ _ _ pe_str (@paq_cons _ _ _ _ _ pe_str (@paq_cons _ _ _ _ _ pe_str paq_nil star_C) star_C) star_C)) (by with_unfolding_all rfl)) (@pss_one _ _ _ (@ps_set _ _ (10) _ _ _ _ sc_l_names.nd rfl (Or.inl rfl) (@pe_op _ _ _ _ _ _ _ _ op_add_str pe_str (pv 10)) (by rfl) (by first | exact .inl rfl | exact .inr rfl | assumption))) pss_nil) (@pss_one _ _ _ (@ps_expr _ _ _ _ (@pe_bm _ _ _ _ _ _ _ _ _ _ _ _ PySem.F.plainAttrs_list PySem.F.slot_list_append PySem.F.type_list_append mt_append (pv 7) (@pa_cons _ _ _ _ _ (pv 10) pa_nil (by rfl)) (by rfl) (by rfl) (by rfl) (by rfl) (by rfl)) (by rfl))))))) (by intro _ ; rfl)) (@pss_one _ _ _ (@ps_ret _ _ _ _ (pv 7)))))))))), ?_⟩
  refine ⟨_, rfl, c, 10, rfl, by decide, by decide, fun rx H1 s1 hx => ?_⟩
  rw [show (10 : Int).toNat = 10 from rfl] at hx
  generalize hxs : strm c 10 = xs at hx
  have xl : xs.length = 10 := by rw [← hxs, strm_len]
  have xl' : (xs.map V.int).length = 10 := by rw [List.length_map, xl]
  have xm : ∀ y ∈ xs, 0 ≤ y ∧ y < 2147483647 := fun y hy => strm_mem (hxs ▸ hy)
  have atx : ∀ k : Nat, k < 10 → atI (xs.map V.int) ((k : Nat) : Int) = some (.int (xs.getD k 0)) := fun k hk => by
    have := cell_in (ns := xs) (k := ((k : Nat) : Int)) (by omega) (by omega)
    exact this
  -- the word
  refine ⟨rfl, _, rfl, _, rfl, rx, _, rfl, SqL.of hx, fun p2 hp2 => ?_⟩
  have hx2 : (upd H1 p2 (.lst (cutV (xs.map V.int) (some 2) none))) rx = some (.lst (xs.map V.int)) := by rw [upd_ne (ne_of_none hx hp2)]; exact hx
  have cut2 : cutV (xs.map V.int) (some 2) none = (xs.drop 2).map V.int := by
    have := cut_from (xs.map V.int) (i := 2) (by decide)
    rw [List.map_drop]
    exact this
  rw [cut2] at hx2 ⊢
  refine ⟨p2, rfl, ⟨_, SqL.of upd_same⟩, ?_⟩
  refine comp_list (xs := (xs.drop 2).map V.int) (fun i ys H' => H' = upd H1 p2 (.lst ((xs.drop 2).map V.int)) ∧ ys = ((xs.drop 2).take i).map fun x => V.str ⟨#[letC x]⟩) ⟨rfl, by simp⟩ (szl (by rw [List.length_map, List.length_drop]; omega)) (fun i ys H' hi p => ?_) (fun i x ys H' hc p => ?_) (fun ys H' p r hr' => ?_)
  · obtain ⟨rfl, rfl⟩ := p
    exact ⟨SqL.of upd_same, by rw [List.length_map, List.length_take]; omega⟩
  · obtain ⟨rfl, rfl⟩ := p
    rw [List.getElem?_map] at hc
    cases hy : (xs.drop 2)[i]? with
    | none => rw [hy] at hc; cases hc
    | some y =>
      rw [hy] at hc
      cases hc
      refine ⟨_, rfl, _, rfl, _, _, rfl, rfl, (by show (0 : Int) < 26; decide), _, _, _, rfl, rfl, abc_len, abc_at y, rfl, ?_⟩
      rw [take_snoc hy, List.map_append]
      rfl
  obtain ⟨rfl, rfl⟩ := p
  have full : ((xs.drop 2).take ((xs.drop 2).map V.int).length) = xs.drop 2 := by rw [List.length_map, List.take_length]
  rw [full]
  have e3 : Same H1 (upd (upd H1 p2 (.lst ((xs.drop 2).map V.int))) r (.lst ((xs.drop 2).map fun x => V.str ⟨#[letC x]⟩))) := (same_new hp2 _).trans (same_new hr' _)
  generalize hH3 : upd (upd H1 p2 (.lst ((xs.drop 2).map V.int))) r (.lst ((xs.drop 2).map fun x => V.str ⟨#[letC x]⟩)) = H3 at e3
  have hr3 : H3 r = some (.lst (((xs.drop 2).map fun x => (⟨#[letC x]⟩ : Str)).map V.str)) := by rw [← hH3, upd_same, List.map_map]; rfl
  have ew : Txt.join "" ((xs.drop 2).map fun x => (⟨#[letC x]⟩ : Str)) = sOf (nameW xs) := cds_ext (by
    rw [cds_join0, cds_sOf]
    unfold nameW
    generalize xs.drop 2 = l
    induction l with
    | nil => rfl
    | cons y l ih =>
      rw [List.map_cons, List.map_cons, List.flatten_cons, ih]
      rfl)
  refine ⟨_, r, _, rfl, rfl, .inl (SqL.of hr3), ?_, ?_⟩
  · have : ∀ l : List Int, ((l.map fun x => (⟨#[letC x]⟩ : Str)).map (·.length)).sum = l.length := fun l => by
      induction l with
      | nil => rfl
      | cons y l ih => rw [List.map_cons, List.map_cons, List.sum_cons, ih]; show 1 + l.length = l.length + 1; omega
    rw [this, List.length_map, List.length_drop, xl]
    show 10 - 2 + (10 - 2) * (Str.ofString "").length ≤ 16777216
    decide +kernel
  rw [ew]
  have hx3 := e3 _ _ hx
  have wl : (nameW xs).length = 8 := nameW_len xl
  obtain ⟨lb0, lb1⟩ := long_b xs
  obtain ⟨ab0, ab1⟩ := at_b xs
  refine ⟨_, rfl, rx, _, _, _, rfl, rfl, SqL.of hx3, atx 1 (by decide), _, _, rfl, rfl, (by show (0 : Int) < 8; decide), _, _, rfl, rfl, ?_⟩
  refine ⟨_, rfl, rx, _, _, _, rfl, rfl, SqL.of hx3, atx 1 (by decide), _, _, rfl, rfl, ⟨by decide, by decide⟩, _, rfl, _, _, rfl, rfl, (by show (0 : Int) < 1 + xs.getD 1 0 % 8; exact lb0), ?_⟩
  refine ⟨szl (by show 0 ≤ 1000000; decide), fun l hl => ?_⟩
  have hl1 : H1 l = none := e3.free hl
  refine ⟨_, rfl, n, rfl, by omega, by omega, ?_⟩
  refine for_range (lo := 0) (n := n.toNat) (fun i σ' H' => (∃ o1 o2 o3, σ' = [some (.int c), some (.int n), some (.str abc), some (.ref rx), some (.str (sOf (nameW xs))), some (.int (nameLong xs)), some (.int (nameAt xs)), some (.ref l), o1, o2, o3]) ∧ Same H1 H' ∧ H' l = some (.lst (strsV ((List.range i).map fun k : Nat => nameC xs (nameW xs) (k : Int))))) ?_ (fun i σ' H' hi p => ?_) (fun σ' H' p => ?_)
  · exact ⟨⟨_, _, _, rfl⟩, e3.trans (same_new hl _), upd_same⟩
  · obtain ⟨⟨o1, o2, o3, rfl⟩, hs, hH⟩ := p
    have hxx := hs _ _ hx
    -- the sign
    refine ⟨_, rfl, _, rfl, _, rfl, _, _, rfl, rfl, rx, _, _, (.int (xs.getD (2 + nameAt xs).toNat 0)), rfl, rfl, SqL.of hxx, cell_in (by omega) (by omega), _, rfl, _, _, rfl, rfl, _, _, rfl, rfl, (by show (0 : Int) < 26; decide), _, _, _, rfl, rfl, abc_len, abc_at _, ?_⟩
    -- the name
    have wz : (sOf (nameW xs)).length = 8 := by rw [len_sOf, wl]
    refine ⟨_, rfl, _, rfl, _, rfl, _, rfl, szl (by omega), _, rfl, _, _, rfl, rfl, ?_, ?_⟩
    · rw [len_sOf, cds_sOf, cut_to _ ab0]
      exact szl (by rw [List.length_take]; show _ + 1 ≤ 1000000; omega)
    refine ⟨_, rfl, _, rfl, _, _, rfl, rfl, _, rfl, _, rfl, _, rfl, _, rfl, szl (by omega), ?_⟩
    have e0 : (0 : Int) + (i : Int) = (i : Int) := by omega
    rw [cds_sOf, cut_to _ ab0, cut_mid _ (by omega) (by omega) (by omega) (by omega), e0]
    have eA : sOf ((nameW xs).take (nameAt xs).toNat) ++ (⟨#[letC (xs.getD (2 + nameAt xs).toNat 0 + (i : Int))]⟩ : Str) ++ sOf (((nameW xs).drop (nameAt xs + 1).toNat).take ((nameLong xs).toNat - (nameAt xs + 1).toNat)) = sOf (nameA xs (nameW xs) (i : Int)) :=
      cds_ext (by rw [cds_app, cds_app, cds_sOf, cds_sOf, cds_sOf]; rfl)
    refine ⟨_, _, rfl, rfl, ?_, ?_⟩
    · rw [len_app, len_sOf, len_sOf, List.length_take, List.length_take, List.length_drop]
      exact szl (by show _ + 1 + _ ≤ 1000000; omega)
    rw [eA]
    dsimp only [gName]
    refine seq_any (fun σ2 H2 => H2 = H' ∧ ∃ o1 o2, σ2 = nst c n rx xs l o1 o2 (sOf (nameRaw xs (nameW xs) (i : Int)))) (fun σ2 H2 m => ?_) (fun rest => ?_)
    · obtain ⟨rfl, o4, o5, rfl⟩ := m
      refine seq_any (fun σ3 H3' => Same H2 H3' ∧ ∃ o1 o2, σ3 = nst c n rx xs l o1 o2 (sOf (nameC xs (nameW xs) (i : Int)))) (fun σ3 H3' m => ?_) (fun rest => ?_)
      · obtain ⟨hs3, o6, o7, rfl⟩ := m
        have hl3 := hs3 _ _ hH
        refine ⟨_, rfl, .inl ⟨rfl, _, SqL.of hl3⟩, _, rfl, l, _, _, rfl, rfl, hl3, ?_, ⟨_, _, _, rfl⟩, ?_, ?_⟩
        · unfold strsV; rw [List.length_map, List.length_map, List.length_range]; exact szlt (by omega)
        · exact fun b o e => by rw [upd_ne (ne_of_none e hl1)]; exact hs3 _ _ (hs b o e)
        · rw [upd_same, List.range_succ, List.map_append]
          unfold strsV
          rw [List.map_append]
          rfl
      · refine ⟨_, rfl, szl (by show 3 ≤ 1000000; decide), fun tp htp => ?_⟩
        refine ⟨tp, [.str "for", .str "end", .str "size"], rfl, .inr (SqT.of upd_same), rfl, rfl, _, rfl, ?_⟩
        show if inV (V.str (sOf (nameRaw xs (nameW xs) (i : Int)))) [.str "for", .str "end", .str "size"] = true then _ else _
        rw [in_resv]
        have hlr : (nameRaw xs (nameW xs) (i : Int)).length ≤ 10 := by
          have := len_nameC wl (xs := xs) (i : Int)
          unfold nameC at this
          split at this
          · rw [List.length_append] at this; omega
          · exact this
        refine ite2 (fun cc => ?_) (fun cc => ?_)
        · refine ⟨_, rfl, _, _, rfl, rfl, ?_, ?_⟩
          · have hz2 : (Str.ofString "zz").length = 2 := by decide +kernel
            rw [len_sOf, hz2]
            exact szl (by omega)
          · have e : (Str.ofString "zz" ++ sOf (nameRaw xs (nameW xs) (i : Int))) = sOf (nameC xs (nameW xs) (i : Int)) := cds_ext (by
              rw [cds_app, cds_sOf, cds_sOf]
              unfold nameC
              rw [if_pos (dT cc)]
              congr 1)
            exact rest _ _ ⟨same_new htp _, _, _, congrArg (nst c n rx xs l _ _) e⟩
        · have e : sOf (nameRaw xs (nameW xs) (i : Int)) = sOf (nameC xs (nameW xs) (i : Int)) := by
            unfold nameC
            rw [if_neg (dF cc)]
          exact rest _ _ ⟨same_new htp _, _, _, congrArg (nst c n rx xs l _ _) e⟩
    · refine ⟨_, rfl, rx, _, _, _, rfl, rfl, SqL.of hxx, atx 0 (by decide), _, _, rfl, rfl, (by show (0 : Int) < 2; decide), rfl, _, rfl, ?_⟩
      have key : (V.int (xs.getD 0 0 % 2) = V.int 0) ↔ xs.getD 0 0 % 2 = 0 := ⟨fun e => V.int.inj e, fun e => by rw [e]⟩
      refine ite2 (fun cc => ?_) (fun cc => ?_)
      · have c2 := key.mp (dT cc)
        refine ⟨_, rfl, _, rfl, _, rfl, _, _, rfl, rfl, .inl ⟨by decide, by decide⟩, _, _, rfl, rfl, _, _, rfl, rfl, (by show (0 : Int) < 8; decide), _, _, rfl, rfl, _, rfl, _, rfl, szl (by omega), ?_⟩
        have b0 := Int.emod_nonneg (nameLong xs + 3 * (i : Int)) (show (8 : Int) ≠ 0 by decide)
        have e : sOf (cutC (cds (sOf (nameW xs))) none (some (1 + (nameLong xs + 3 * (i : Int)) % 8))) = sOf (nameRaw xs (nameW xs) (i : Int)) := by
          rw [cds_sOf, cut_to _ (by omega)]
          unfold nameRaw
          rw [if_pos c2]
          unfold nameB
          rfl
        exact rest _ _ ⟨rfl, _, _, congrArg (nst c n rx xs l _ _) e⟩
      · have c2 := fun z => dF cc (key.mpr z)
        have e : sOf (nameA xs (nameW xs) (i : Int)) = sOf (nameRaw xs (nameW xs) (i : Int)) := by
          unfold nameRaw
          rw [if_neg c2]
        exact rest _ _ ⟨rfl, _, _, congrArg (nst c n rx xs l _ _) e⟩
  · obtain ⟨⟨o1, o2, o3, rfl⟩, hs, hH⟩ := p
    refine ⟨_, rfl, q l H' (s1.trans hs) ?_⟩
    rw [hH]
    unfold namesF
    rw [hxs]

theorem ok_wn {kn : List (Str × Int)} {hd : Str → List Int → Int} {g qa : Addr} (T : Tx K mg a) : FnOk P w K mg base CX0 1 a.f_Number_worth a.d_Number_worth ["self", "values", "cells"] (spWthA (csOf a) kn hd g qa isN) := by
  refine T.F_Number_worth.ok sc_Number_worth (fun vs H Q E h => ?_) (fun cdv A outer s H vs Q E hr h => ?_)
  · obtain ⟨_, _, _, _, rfl, _⟩ := h; rfl
  obtain ⟨x, d, t, xs, rfl, tb, hp, hd, tk, hq, _, q⟩ := h
  cases t with
  | n i =>
    obtain ⟨x, dx, rfl, hx⟩ := tb
    refine ⟨_, (@pss_one _ _ _ (@ps_ret _ _ _ _ (@pe_fld _ _ _ _ _ (pv 0) rfl))), ?_⟩
    exact ⟨_, rfl, x, _, dx, _, _, rfl, hx, T.cl_Number, T.n_Number_n, rfl, q _ [] (Bar.rfl hq) (by rw [List.append_nil]; exact hq) .nil⟩
  | _ => exact hp.elim
theorem ok_wv {kn : List (Str × Int)} {hd : Str → List Int → Int} {g qa : Addr} (T : Tx K mg a) : FnOk P w K mg base CX0 1 a.f_Value_worth a.d_Value_worth ["self", "values", "cells"] (spWthA (csOf a) kn hd g qa isV) := by
  refine T.F_Value_worth.ok sc_Value_worth (fun vs H Q E h => ?_) (fun cdv A outer s H vs Q E hr h => ?_)
  · obtain ⟨_, _, _, _, rfl, _⟩ := h; rfl
  obtain ⟨x, d, t, xs, rfl, tb, hp, hd, tk, hq, _, q⟩ := h
  cases t with
  | v z =>
    obtain ⟨x, dx, rfl, hx⟩ := tb
    have gg := DGet.k (H := H) (a := d) (kvs := kvOf kn) (k := Sum.inr z) hd
    rw [kv_get tk] at gg
    refine ⟨_, (@pss_one _ _ _ (@ps_ret _ _ _ _ (@pe_dget _ _ _ _ _ _ (@hu_of _ _ hr) (pv 1) (@pe_fld _ _ _ _ _ (pv 0) rfl) (fun _ _ => rfl)))), ?_⟩
    exact ⟨_, rfl, _, rfl, x, _, dx, _, _, rfl, hx, T.cl_Value, T.n_Value_name, rfl, d, _, rfl, gg, q _ [] (Bar.rfl hq) (by rw [List.append_nil]; exact hq) .nil⟩
  | _ => exact hp.elim
theorem ok_wc {kn : List (Str × Int)} {hd : Str → List Int → Int} {g qa : Addr} (hG : HdA P w K mg base g hd qa) (T : Tx K mg a) : FnOk P w K mg base CX0 3 a.f_Cell_worth a.d_Cell_worth ["self", "values", "cells"] (spWthA (csOf a) kn hd g qa isC) := by
  obtain ⟨gd, gps, HF, hga, hbd⟩ := hG.ok
  have G_placed := ok_placed14 (P := P) (w := w) (base := base) T
  refine T.F_Cell_worth.ok sc_Cell_worth (fun vs H Q E h => ?_) (fun cdv A outer s H vs Q E hr h => ?_)
  · obtain ⟨_, _, _, _, rfl, _⟩ := h; rfl
  obtain ⟨x, d, t, as, rfl, tb, hp, hd, tk, hq, hl, q⟩ := h
  cases t with
  | c z sp =>
    obtain ⟨x, dx, p, rfl, hx, xs, hxs, ax⟩ := tb
    refine ⟨_, (@pss_one _ _ _ (@ps_ret _ _ _ _ (@pe_callV _ _ _ _ _ _ _ _ _ _ _ _ (2) HF hga (hr.mono (by omega)) hbd rfl (Or.inl rfl) (@pa_cons _ _ _ _ _ (@pe_fld _ _ _ _ _ (pv 0) rfl) (@pa_cons _ _ _ _ _ (@pe_call _ _ _ _ _ _ _ _ _ _ _ _ _ _ _ _ G_placed (hr.mono (by omega)) (by rfl) T.m_placed T.F_placed.kp T.b_placed .nil pass0 (@pa_cons _ _ _ _ _ (@pe_fld _ _ _ _ _ (pv 0) rfl) (@pa_cons _ _ _ _ _ (pv 1) pa_nil (by rfl)) (by rfl)) (by decide) (by rfl) (by rfl)) pa_nil (by rfl)) (by rfl)) (by decide) (by decide) (by rfl) (by rfl)))), ?_⟩
    refine ⟨rfl, _, rfl, x, _, dx, _, _, rfl, hx, T.cl_Cell, T.n_Cell_table, rfl, _, rfl, x, _, dx, _, _, rfl, hx, T.cl_Cell, T.n_Cell_spots, rfl, _, rfl, p, d, xs, sp, kn, rfl, hxs, ax, hd, fun s hs => (tk.2 s hs).1, Nat.le_trans tk.1 (by decide), fun r H1 e1 hr1 => ?_⟩
    refine ⟨z, r, sp.map (stW kn), as, rfl, hr1, e1 _ _ hq, by omega, fun t H2 b2 h2 ht2 => ?_⟩
    exact q _ [.ref t] ((Bar.same hq e1).trans b2) h2 (.one ⟨t, r, rfl, ht2, b2.tk _ _ hr1⟩)
  | _ => exact hp.elim
theorem ok_wj {kn : List (Str × Int)} {hd : Str → List Int → Int} {g qa : Addr} (hG : HdA P w K mg base g hd qa) (hk : ∀ z, (lkN kn z).natAbs < 2 ^ 64) (hh : ∀ z pl, (hd z pl).natAbs < 2 ^ 64) (T : Tx K mg a) : ∀ n : Nat, n ≤ 100 → FnOk P w K mg base CX0 (n + 4) a.f_Joined_worth a.d_Joined_worth ["self", "values", "cells"] (spWthA (csOf a) kn hd g qa fun t => isJ t ∧ t.sz ≤ n)
  | 0, _ => by
    have no : ∀ vs H Q E, ¬ spWthA (csOf a) kn hd g qa (fun t => isJ t ∧ t.sz ≤ 0) vs H Q E := fun vs H Q E h => by
      obtain ⟨x, d, t, _, _, _, hm, _⟩ := h
      have := t.sz_pos
      omega
    exact ⟨fun vs H Q E h => absurd h (no vs H Q E), fun A outer s H args us vs Q E _ _ _ _ h => absurd h (no vs H Q E)⟩
  | n + 1, hn => by
    have G_Joined_worth := ok_wj hG hk hh T n (by omega)
    have G_Number_worth := ok_wn (P := P) (w := w) (base := base) (kn := kn) (hd := hd) (g := g) (qa := qa) T
    have G_Value_worth := ok_wv (P := P) (w := w) (base := base) (kn := kn) (hd := hd) (g := g) (qa := qa) T
    have G_Cell_worth := ok_wc (kn := kn) hG T
    refine T.F_Joined_worth.ok sc_Joined_worth (fun vs H Q E h => ?_) (fun cdv A outer s H vs Q E hr h => ?_)
    · obtain ⟨_, _, _, _, rfl, _⟩ := h; rfl
    obtain ⟨x, d, t, as, rfl, tb, hp, hd, tk, hq, hal, q⟩ := h
    cases t with
    | j z l r =>
      obtain ⟨x, dx, lv, rv, rfl, hx, tl, tr⟩ := tb
      obtain ⟨hz3, kl, kr⟩ := tk
      have hsz : l.sz + r.sz ≤ n + 1 := hp.2
      have bl := wo_bound hk hh kl
      have br := wo_bound hk hh kr
      have pl2 : 2 ^ (64 * l.sz) ≤ 2 ^ 6400 := Nat.pow_le_pow_right (by decide) (by have := Tw.sz_pos r; omega)
      have pr2 : 2 ^ (64 * r.sz) ≤ 2 ^ 6400 := Nat.pow_le_pow_right (by decide) (by have := Tw.sz_pos l; omega)
      have bl := Nat.lt_of_lt_of_le bl pl2
      have br := Nat.lt_of_lt_of_le br pr2
      clear pl2 pr2
      have hal : as.length + (l.sz + r.sz) ≤ 1000 := hal
      have s1 := Tw.sz_pos l
      have s2 := Tw.sz_pos r
      refine ⟨_, (@pss_cons _ _ _ _ _ (@ps_set _ _ (3) _ _ _ _ sc_Joined_worth.nd rfl (Or.inl rfl) (@pe_alt _ _ _ _ (@pe_meth _ _ _ _ _ _ _ _ _ _ _ _ _ _ _ _ _ _ _ _ (@pe_fld _ _ _ _ _ (pv 0) rfl) T.cl_Number T.me_Number_worth G_Number_worth (hr.mono (by omega)) T.b_Number_worth .nil pass0 (@pa_cons _ _ _ _ _ (pv 1) (@pa_cons _ _ _ _ _ (pv 2) pa_nil (by rfl)) (by rfl)) (by rfl) (by rfl) (by rfl)) (@pe_alt _ _ _ _ (@pe_meth _ _ _ _ _ _ _ _ _ _ _ _ _ _ _ _ _ _ _ _ (@pe_fld _ _ _ _ _ (pv 0) rfl) T.cl_Value T.me_Value_worth G_Value_worth (hr.mono (by omega)) T.b_Value_worth .nil pass0 (@pa_cons _ _ _ _ _ (pv 1) (@pa_cons _ _ _ _ _ (pv 2) pa_nil (by rfl)) (by rfl)) (by rfl) (by rfl) (by rfl)) (@pe_alt _ _ _ _ (@pe_meth _ _ _ _ _ _ _ _ _ _ _ _ _ _ _ _ _ _ _ _ (@pe_fld _ _ _ _ _ (pv 0) rfl) T.cl_Cell T.me_Cell_worth G_Cell_worth (hr.mono (by omega)) T.b_Cell_worth .nil pass0 (@pa_cons _ _ _ _ _ (pv 1) (@pa_cons _ _ _ _ _ (pv 2) pa_nil (by rfl)) (by rfl)) (by rfl) (by rfl) (by rfl)) (@pe_meth _ _ _ _ _ _ _ _ _ _ _ _ _ _ _ _ _ _ _ _ (@pe_fld _ _ _ _ _ (pv 0) rfl) T.cl_Joined T.me_Joined_worth G_Joined_worth (hr.mono (by omega)) T.b_Joined_worth .nil pass0 (@pa_cons _ _ _ _ _ (pv 1) (@pa_cons _ _ _ _ _ (pv 2) pa_nil (by rfl)) (by rfl)) (by rfl) (by rfl) (by rfl))))) (by rfl) (by first | exact .inl rfl | exact .inr rfl | assumption)) (@pss_cons _ _ _ _ _ (@ps_set _ _ (4) _ _ _ _ sc_Joined_worth.nd rfl (Or.inl rfl) (@pe_alt _ _ _ _ (@pe_meth _ _ _ _ _ _ _ _ _ _ _ _ _ _ _ _ _ _ _ _ (@pe_fld _ _ _ _ _ (pv 0) rfl) T.cl_Number T.me_Number_worth G_Number_worth (hr.mono (by omega)) T.b_Number_worth .nil pass0 (@pa_cons _ _ _ _ _ (pv 1) (@pa_cons _ _ _ _ _ (pv 2) pa_nil (by rfl)) (by rfl)) (by rfl) (by rfl) (by rfl)) (@pe_alt _ _ _ _ (@pe_meth _ _ _ _ _ _ _ _ _ _ _ _ _ _ _ _ _ _ _ _ (@pe_fld _ _ _ _ _ (pv 0) rfl) T.cl_Value T.me_Value_worth G_Value_worth (hr.mono (by omega)) T.b_Value_worth .nil pass0 (@pa_cons _ _ _ _ _ (pv 1) (@pa_cons _ _ _ _ _ (pv 2) pa_nil (by rfl)) (by rfl)) (by rfl) (by rfl) (by rfl)) (@pe_alt _ _ _ _ (@pe_meth _ _ _ _ _ _ _ _ _ _ _ _ _ _ _ _ _ _ _ _ (@pe_fld _ _ _ _ _ (pv 0) rfl) T.cl_Cell T.me_Cell_worth G_Cell_worth (hr.mono (by omega)) T.b_Cell_worth .nil pass0 (@pa_cons _ _ _ _ _ (pv 1) (@pa_cons _ _ _ _ _ (pv 2) pa_nil (by rfl)) (by rfl)) (by rfl) (by rfl) (by rfl)) (@pe_meth _ _ _ _ _ _ _ _ _ _ _ _ _ _ _ _ _ _ _ _ (@pe_fld _ _ _ _ _ (pv 0) rfl) T.cl_Joined T.me_Joined_worth G_Joined_worth (hr.mono (by omega)) T.b_Joined_worth .nil pass0 (@pa_cons _ _ _ _ _ (pv 1) (@pa_cons _ _ _ _ _ (pv 2) pa_nil (by rfl)) (by rfl)) (by rfl) (by rfl) (by rfl))))) (by rfl) (by first | exact .inl rfl | exact .inr rfl | assumption)) (@pss_cons _ _ _ _ _ (@ps_if _ _ _ _ _ _ _ _ (@pt_cmpR _ _ _ _ _ _ _ _ op_eq (@pe_fld _ _ _ _ _ (pv 0) rfl) pe_str (@nomark _ _ (by decide) (by decide))) (@pss_one _ _ _ (@ps_ret _ _ _ _ (@pe_op _ _ _ _ _ _ _ _ op_add (pv 3) (pv 4)))) pss_nil) (@pss_cons _ _ _ _ _ (@ps_if _ _ _ _ _ _ _ _ (@pt_cmpR _ _ _ _ _ _ _ _ op_eq (@pe_fld _ _ _ _ _ (pv 0) rfl) pe_str (@nomark _ _ (by decide) (by decide))) (@pss_one _ _ _ (@ps_ret _ _ _ _ (@pe_op _ _ _ _ _ _ _ _ op_sub (pv 3) (pv 4)))) pss_nil) (@pss_one _ _ _ (@ps_ret _ _ _ _ (@pe_op _ _ _ _ _ _ _ _ op_mulH (pv 3) (pv 4)))))))), ?_⟩
      refine alt_wthA (c := csOf a) (l := l) (lv := lv) (d := d) (fun Q' h => ⟨_, rfl, x, _, dx, _, _, rfl, hx, T.cl_Joined, T.n_Joined_left, rfl, h⟩) (fun Q' h => ⟨_, rfl, _, rfl, h⟩) tl hd kl (by omega) hq (by omega) (fun H1 ys1 b1 hq1 ay1 => ?_)
      have hx1 := b1.ins hx
      have yl1 : ys1.length ≤ l.sz := by rw [ay1.1]; exact plT_len kn l
      dsimp only [gName]
      refine alt_wthA (c := csOf a) (l := r) (lv := rv) (d := d) (fun Q' h => ⟨_, rfl, x, _, dx, _, _, rfl, hx1, T.cl_Joined, T.n_Joined_right, rfl, h⟩) (fun Q' h => ⟨_, rfl, _, rfl, h⟩) (tr.bar b1) (b1.dk hd) kr (by omega) hq1 (by rw [List.length_append]; omega) (fun H2 ys2 b2 hq2 ay2 => ?_)
      have hx2 := b2.ins hx1
      dsimp only [gName]
      have q := q H2 (ys1 ++ ys2) (b1.trans b2) (by rw [← List.append_assoc]; exact hq2) ((ay1.mono fun _ _ z => z.tk b2.tk).app ay2)
      have nz : ∀ {a b : Str}, a ≠ b → decide (V.str a = V.str b) = false := fun h => decide_eq_false fun z => h (V.str.inj z)
      refine ⟨_, rfl, x, _, dx, _, _, rfl, hx2, T.cl_Joined, T.n_Joined_sign, rfl, rfl, _, rfl, ?_⟩
      by_cases c : z = "+"
      · refine iteE (v := true) (decide_eq_true (by rw [c])) (iteT ?_)
        refine ⟨_, rfl, _, rfl, _, _, rfl, rfl, ?_⟩
        rw [show wth kn _ (.j z l r) = _ from if_pos c] at q
        exact q
      refine iteE (v := false) (nz c) (iteF ?_)
      dsimp only [tNext]
      refine ⟨_, rfl, x, _, dx, _, _, rfl, hx2, T.cl_Joined, T.n_Joined_sign, rfl, rfl, _, rfl, ?_⟩
      by_cases c2 : z = "-"
      · refine iteE (v := true) (decide_eq_true (by rw [c2])) (iteT ?_)
        refine ⟨_, rfl, _, rfl, _, _, rfl, rfl, ?_⟩
        rw [show wth kn _ (.j z l r) = _ from (if_neg c).trans (if_pos c2)] at q
        exact q
      refine iteE (v := false) (nz c2) (iteF ?_)
      dsimp only [tNext]
      refine ⟨_, rfl, _, rfl, _, _, rfl, rfl, ⟨bl, br⟩, ?_⟩
      rw [show wth kn _ (.j z l r) = _ from (if_neg c).trans (if_neg c2)] at q
      exact q
    | _ => exact hp.1.elim

theorem ok_rn (T : Tx K mg a) : FnOk P w K mg base CX0 1 a.f_Number_reads a.d_Number_reads ["self"] (spRdsA (csOf a) isN) := by
  refine T.F_Number_reads.ok sc_Number_reads (fun vs H Q E h => ?_) (fun cdv A outer s H vs Q E hr h => ?_)
  · obtain ⟨_, _, rfl, _⟩ := h; rfl
  obtain ⟨x, t, rfl, tb, hp, _, q⟩ := h
  cases t with
  | n i =>
    refine ⟨_, (@pss_one _ _ _ (@ps_ret _ _ _ _ (@pe_lst _ _ _ _ pa_nil))), ?_⟩
    exact ⟨szl (by show 0 ≤ 1000000; decide), fun r hr => q r _ [] (same_new hr _) hr upd_same .nil⟩
  | _ => exact hp.elim
theorem ok_rv (T : Tx K mg a) : FnOk P w K mg base CX0 1 a.f_Value_reads a.d_Value_reads ["self"] (spRdsA (csOf a) isV) := by
  refine T.F_Value_reads.ok sc_Value_reads (fun vs H Q E h => ?_) (fun cdv A outer s H vs Q E hr h => ?_)
  · obtain ⟨_, _, rfl, _⟩ := h; rfl
  obtain ⟨x, t, rfl, tb, hp, _, q⟩ := h
  cases t with
  | v i =>
    refine ⟨_, (@pss_one _ _ _ (@ps_ret _ _ _ _ (@pe_lst _ _ _ _ pa_nil))), ?_⟩
    exact ⟨szl (by show 0 ≤ 1000000; decide), fun r hr => q r _ [] (same_new hr _) hr upd_same .nil⟩
  | _ => exact hp.elim
theorem ok_rc (T : Tx K mg a) : FnOk P w K mg base CX0 1 a.f_Cell_reads a.d_Cell_reads ["self"] (spRdsA (csOf a) isC) := by
  refine T.F_Cell_reads.ok sc_Cell_reads (fun vs H Q E h => ?_) (fun cdv A outer s H vs Q E hr h => ?_)
  · obtain ⟨_, _, rfl, _⟩ := h; rfl
  obtain ⟨x, t, rfl, tb, hp, _, q⟩ := h
  cases t with
  | c z sp =>
    obtain ⟨x, dx, p, rfl, hx, hsp⟩ := tb
    refine ⟨_, (@pss_one _ _ _ (@ps_ret _ _ _ _ (@pe_lst _ _ _ _ (@pa_cons _ _ _ _ _ (@pe_tup _ _ _ _ _ (@pa_cons _ _ _ _ _ (@pe_fld _ _ _ _ _ (pv 0) rfl) (@pa_cons _ _ _ _ _ (@pe_fld _ _ _ _ _ (pv 0) rfl) pa_nil (by rfl)) (by rfl))) pa_nil (by rfl))))), ?_⟩
    refine ⟨_, rfl, x, _, dx, _, _, rfl, hx, T.cl_Cell, T.n_Cell_table, rfl, _, rfl, x, _, dx, _, _, rfl, hx, T.cl_Cell, T.n_Cell_spots, rfl, szl (by show 2 ≤ 1000000; decide), fun t ht => ⟨szl (by show 1 ≤ 1000000; decide), fun r hr => ?_⟩⟩
    have s1 := same_new ht (.tup [V.str z, V.ref p])
    have s2 := same_new hr (.lst [V.ref t])
    exact q r _ [.ref t] (s1.trans s2) (s1.free hr) upd_same (.one ⟨t, p, rfl, s2 _ _ upd_same, hsp.tk (Same.tk (s1.trans s2))⟩)
  | _ => exact hp.elim
theorem ok_rj (T : Tx K mg a) : ∀ n : Nat, FnOk P w K mg base CX0 (n + 1) a.f_Joined_reads a.d_Joined_reads ["self"] (spRdsA (csOf a) fun t => isJ t ∧ t.sz ≤ n)
  | 0 => by
    have no : ∀ vs H Q E, ¬ spRdsA (csOf a) (fun t => isJ t ∧ t.sz ≤ 0) vs H Q E := fun vs H Q E h => by
      obtain ⟨x, t, _, _, hm, _⟩ := h
      have := t.sz_pos
      omega
    exact ⟨fun vs H Q E h => absurd h (no vs H Q E), fun A outer s H args us vs Q E _ _ _ _ h => absurd h (no vs H Q E)⟩
  | n + 1 => by
    have G_Joined_reads := ok_rj T n
    have G_Number_reads := ok_rn (P := P) (w := w) (base := base) T
    have G_Value_reads := ok_rv (P := P) (w := w) (base := base) T
    have G_Cell_reads := ok_rc (P := P) (w := w) (base := base) T
    refine T.F_Joined_reads.ok sc_Joined_reads (fun vs H Q E h => ?_) (fun cdv A outer s H vs Q E hr h => ?_)
    · obtain ⟨_, _, rfl, _⟩ := h; rfl
    obtain ⟨x, t, rfl, tb, hp, h100, q⟩ := h
    cases t with
    | j z l r =>
      obtain ⟨x, dx, lv, rv, rfl, hx, tl, tr⟩ := tb
      have hsz : l.sz + r.sz ≤ n + 1 := hp.2
      have h100 : l.sz + r.sz ≤ 100 := h100
      have s1 := Tw.sz_pos l
      have s2 := Tw.sz_pos r
      refine ⟨_, (@pss_one _ _ _ (@ps_ret _ _ _ _ (@pe_op _ _ _ _ _ _ _ _ op_cat (@pe_alt _ _ _ _ (@pe_meth0 _ _ _ _ _ _ _ _ _ _ _ _ _ _ _ _ _ (@pe_fld _ _ _ _ _ (pv 0) rfl) T.cl_Number T.me_Number_reads G_Number_reads (hr.mono (by omega)) T.b_Number_reads .nil pass0 (by rfl)) (@pe_alt _ _ _ _ (@pe_meth0 _ _ _ _ _ _ _ _ _ _ _ _ _ _ _ _ _ (@pe_fld _ _ _ _ _ (pv 0) rfl) T.cl_Value T.me_Value_reads G_Value_reads (hr.mono (by omega)) T.b_Value_reads .nil pass0 (by rfl)) (@pe_alt _ _ _ _ (@pe_meth0 _ _ _ _ _ _ _ _ _ _ _ _ _ _ _ _ _ (@pe_fld _ _ _ _ _ (pv 0) rfl) T.cl_Cell T.me_Cell_reads G_Cell_reads (hr.mono (by omega)) T.b_Cell_reads .nil pass0 (by rfl)) (@pe_meth0 _ _ _ _ _ _ _ _ _ _ _ _ _ _ _ _ _ (@pe_fld _ _ _ _ _ (pv 0) rfl) T.cl_Joined T.me_Joined_reads G_Joined_reads (hr.mono (by omega)) T.b_Joined_reads .nil pass0 (by rfl))))) (@pe_alt _ _ _ _ (@pe_meth0 _ _ _ _ _ _ _ _ _ _ _ _ _ _ _ _ _ (@pe_fld _ _ _ _ _ (pv 0) rfl) T.cl_Number T.me_Number_reads G_Number_reads (hr.mono (by omega)) T.b_Number_reads .nil pass0 (by rfl)) (@pe_alt _ _ _ _ (@pe_meth0 _ _ _ _ _ _ _ _ _ _ _ _ _ _ _ _ _ (@pe_fld _ _ _ _ _ (pv 0) rfl) T.cl_Value T.me_Value_reads G_Value_reads (hr.mono (by omega)) T.b_Value_reads .nil pass0 (by rfl)) (@pe_alt _ _ _ _ (@pe_meth0 _ _ _ _ _ _ _ _ _ _ _ _ _ _ _ _ _ (@pe_fld _ _ _ _ _ (pv 0) rfl) T.cl_Cell T.me_Cell_reads G_Cell_reads (hr.mono (by omega)) T.b_Cell_reads .nil pass0 (by rfl)) (@pe_meth0 _ _ _ _ _ _ _ _ _ _ _ _ _ _ _ _ _ (@pe_fld _ _ _ _ _ (pv 0) rfl) T.cl_Joined T.me_Joined_reads G_Joined_reads (hr.mono (by omega)) T.b_Joined_reads .nil pass0 (by rfl)))))))), ?_⟩
      refine alt_rds (c := csOf a) (n := n) (l := l) (lv := lv) (fun Q' h => ⟨_, rfl, x, _, dx, _, _, rfl, hx, T.cl_Joined, T.n_Joined_left, rfl, h⟩) tl (by omega) (by omega) (fun r1 H1 xs1 e1 n1 h1 a1 => ?_)
      have hx1 := e1 _ _ hx
      refine alt_rds (c := csOf a) (n := n) (l := r) (lv := rv) (fun Q' h => ⟨_, rfl, x, _, dx, _, _, rfl, hx1, T.cl_Joined, T.n_Joined_right, rfl, h⟩) (tr.over e1) (by omega) (by omega) (fun r2 H2 xs2 e2 n2 h2 a2 => ?_)
      have l1 := a1.1
      have l2 := a2.1
      have l3 := rdT_len l
      have l4 := rdT_len r
      refine ⟨r1, r2, xs1, xs2, rfl, rfl, e2 _ _ h1, h2, szl (by omega), fun p hp => ?_⟩
      have s3 := same_new hp (.lst (xs1 ++ xs2))
      exact q p _ (xs1 ++ xs2) ((e1.trans e2).trans s3) ((e1.trans e2).free hp) upd_same ((a1.mono fun _ _ z => z.tk (Same.tk (e2.trans s3))).app (a2.mono fun _ _ z => z.tk (Same.tk s3)))
    | _ => exact hp.1.elim

theorem ok_alike13 (T : Tx K mg a) : FnOk P w K mg base CX0 1 a.f_l_alike a.d_l_alike ["_law_found", "_law_due"] spAlike13 := by
  refine T.F_l_alike.ok sc_l_alike (fun vs H Q E h => ?_) (fun cdv A outer s H vs Q E hr h => ?_)
  · obtain ⟨_, _, _, _, _, rfl, _⟩ := h; rfl
  obtain ⟨f, d, ys, zs, rs, rfl, hf, hd, ay, az, hl, q⟩ := h
  refine ⟨_, (@pss_cons _ _ _ _ _ (@ps_if _ _ _ _ _ _ _ _ ((@pw_or _ _ _ _ _ _ _ (@pt_not _ _ _ _ (@pt_val _ _ _ (@pe_callB _ _ _ _ _ _ _ _ _ call_isi (by rfl) T.z_isinstance bt_isinstance (@pa_cons _ _ _ _ _ (pv 0) (@pa_cons _ _ _ _ _ (@pe_bltn _ _ (.ty "list") _ _ (by rfl) T.z_list bt_list rfl (by decide) (by decide)) pa_nil (by rfl)) (by rfl)) (by decide) (by decide) (by rfl) (by rfl)) (by intro _ ; rfl))) (@pw_or1 _ _ _ _ (@pt_cmpR _ _ _ _ _ _ _ _ op_ne (@pe_callB _ _ _ _ _ _ _ _ _ call_len_seq (by rfl) T.z_len bt_len (@pa_cons _ _ _ _ _ (pv 0) pa_nil (by rfl)) (by decide) (by decide) (by rfl) (by rfl)) (@pe_callB _ _ _ _ _ _ _ _ _ call_len_seq (by rfl) T.z_len bt_len (@pa_cons _ _ _ _ _ (pv 1) pa_nil (by rfl)) (by decide) (by decide) (by rfl) (by rfl)) (@nomark _ _ (by decide) (by decide)))))).pt (@pss_one _ _ _ (@ps_ret _ _ _ _ pe_bl)) pss_nil) (@pss_cons _ _ _ _ _ (@ps_for _ _ _ _ _ _ _ _ PassesOwn.never rfl (@pi_zip2 _ _ _ _ _ _ _ _ _ (by rfl) T.z_zip (@pa_cons _ _ _ _ _ (pv 0) (@pa_cons _ _ _ _ _ (pv 1) pa_nil (by rfl)) (by rfl)) (by rfl) (by rfl)) (pg_tup rfl (pgs_cons (pg_name (i := 2) sc_l_alike.nd rfl (Or.inl rfl)) (pgs_cons (pg_name (i := 3) sc_l_alike.nd rfl (Or.inl rfl)) pgs_nil))) (@pss_cons _ _ _ _ _ (@ps_if _ _ _ _ _ _ _ _ ((@pw_or _ _ _ _ _ _ _ (@pt_not _ _ _ _ (@pt_val _ _ _ (@pe_callB _ _ _ _ _ _ _ _ _ call_isi (by rfl) T.z_isinstance bt_isinstance (@pa_cons _ _ _ _ _ (pv 2) (@pa_cons _ _ _ _ _ (@pe_bltn _ _ (.ty "tuple") _ _ (by rfl) T.z_tuple bt_tuple rfl (by decide) (by decide)) pa_nil (by rfl)) (by rfl)) (by decide) (by decide) (by rfl) (by rfl)) (by intro _ ; rfl))) (@pw_or1 _ _ _ _ (@pt_cmpR _ _ _ _ _ _ _ _ (@op_neS _ (@hu64 _ _ hr)) (pv 2) (pv 3) (@nomark _ _ (by decide) (by decide)))))).pt (@pss_one _ _ _ (@ps_ret _ _ _ _ pe_bl)) pss_nil) (@pss_one _ _ _ (@ps_if _ _ _ _ _ _ _ _ ((@pw_or _ _ _ _ _ _ _ (@pt_not _ _ _ _ (@pt_val _ _ _ (@pe_callB _ _ _ _ _ _ _ _ _ call_isi (by rfl) T.z_isinstance bt_isinstance (@pa_cons _ _ _ _ _ (@pe_ix _ _ _ _ _ _ _ ix_tup (pv 2) pe_int (fun _ _ => rfl)) (@pa_cons _ _ _ _ _ (@pe_bltn _ _ (.ty "str") _ _ (by rfl) T.z_str bt_str rfl (by decide) (by decide)) pa_nil (by rfl)) (by rfl)) (by decide) (by decide) (by rfl) (by rfl)) (by intro _ ; rfl))) (@pw_or1 _ _ _ _ (@pt_not _ _ _ _ (@pt_val _ _ _ (@pe_callB _ _ _ _ _ _ _ _ _ call_isi (by rfl) T.z_isinstance bt_isinstance (@pa_cons _ _ _ _ _ (@pe_ix _ _ _ _ _ _ _ ix_tup (pv 2) pe_int (fun _ _ => rfl)) (@pa_cons _ _ _ _ _ (@pe_bltn _ _ (.ty "tuple") _ _ (by rfl) T.z_tuple bt_tuple rfl (by decide) (by decide)) pa_nil (by rfl)) (by rfl)) (by decide) (by decide) (by rfl) (by rfl)) (by intro _ ; rfl)))))).pt (@pss_one _ _ _ (@ps_ret _ _ _ _ pe_bl)) pss_nil))) (by intro _ ; rfl)) (@pss_one _ _ _ (@ps_ret _ _ _ _ pe_bl)))), ?_⟩
  have hlen : ys.length = zs.length := ay.1.trans az.1.symm
  refine ⟨_, rfl, _, _, _, _, _, rfl, rfl, .lst hf, rfl, _, rfl, iteF ?_⟩
  refine ⟨_, rfl, f, _, rfl, .inl (SqL.of hf), _, rfl, d, _, rfl, .inl (SqL.of hd), rfl, _, rfl, ?_⟩
  rw [hlen]
  refine iteE (ndF rfl) (iteF ?_)
  refine ⟨_, rfl, _, rfl, f, d, rfl, ⟨_, SqL.of hf⟩, ⟨_, SqL.of hd⟩, ?_⟩
  refine for_zip (xs := ys) (ys := zs) hlen (fun i σ' H' => Same H H' ∧ ∃ o2 o3, σ' = [some (.ref f), some (.ref d), o2, o3]) ⟨Same.refl _, _, _, rfl⟩ (fun i σ' H' _ pp => ⟨SqL.of (pp.1 _ _ hf), SqL.of (pp.1 _ _ hd)⟩) (fun i y z Tt σ' H' hy hz pp hT => ?_) (fun σ' H' pp => ?_)
  · obtain ⟨e, o2, o3, rfl⟩ := pp
    obtain ⟨r, hr1, gy⟩ := ay.get' hy
    obtain ⟨r2, hr2, gz⟩ := az.get' hz
    have er : r2 = r := Option.some.inj (hr2.symm.trans hr1)
    subst er
    have gyT := gy.tk (Same.tk e)
    have gzT := gz.tk (Same.tk e)
    obtain ⟨t, p1, rfl, g1, g1s⟩ := id gyT
    obtain ⟨u, p2, rfl, g2, g2s⟩ := id gzT
    have sT := same_new hT (.tup [V.ref t, V.ref u])
    have e2 := e.trans sT
    have g1' := sT _ _ g1
    obtain ⟨xsp, hxsp, _⟩ := g1s
    have hxsp' := sT _ _ hxsp
    have gyT := gyT.tk (Same.tk sT)
    have gzT := gzT.tk (Same.tk sT)
    refine ⟨Tt, _, rfl, SqT.of upd_same, rfl, _, _, rfl, _, _, rfl, rfl, ?_⟩
    generalize upd H' Tt (.tup [V.ref t, V.ref u]) = H2 at e2 g1' gyT gzT hxsp'
    dsimp only [gName]
    refine seq_any (fun σ' H' => H' = H2 ∧ σ' = [some (.ref f), some (.ref d), some (.ref t), some (.ref u)]) (fun σ' H' pp => ?_) (fun nx => ?_)
    · obtain ⟨rfl, rfl⟩ := pp
      refine ⟨_, rfl, t, _, 0, _, rfl, rfl, SqT.of g1', rfl, _, _, _, _, _, rfl, rfl, .str _, rfl, _, rfl, iteF ?_⟩
      refine ⟨_, rfl, t, _, 1, _, rfl, rfl, SqT.of g1', rfl, _, _, _, _, _, rfl, rfl, .tup hxsp', rfl, _, rfl, iteF ?_⟩
      exact ⟨e2, _, _, rfl⟩
    · refine ⟨_, rfl, _, _, _, _, _, rfl, rfl, .tup g1', rfl, _, rfl, iteF ?_⟩
      have tr1 : TrIs K H2 (.ref t) (rdTr r2) := gyT.tr
      refine ⟨_, rfl, _, rfl, _, _, tr1, gzT.tr, ⟨_, rfl⟩, ⟨_, rfl⟩, simT_refl _, Nat.le_trans (rdTr_dep _) (by decide), _, rfl, iteE (v := false) (by show (!eqT _ _) = false; rw [eqT_refl _ tr1.ok]; rfl) (iteF ?_)⟩
      exact nx _ _ ⟨rfl, rfl⟩
  · obtain ⟨e, o2, o3, rfl⟩ := pp
    exact q _ e

theorem ok_places13 (T : Tx K mg a) : FnOk P w K mg base CX0 2 a.f_l_places a.d_l_places ["_law_found", "_law_due"] spPlaces13 := by
  have G_l_whole := ok_whole (P := P) (w := w) (base := base) T
  refine T.F_l_places.ok sc_l_places (fun vs H Q E h => ?_) (fun cdv A outer s H vs Q E hr h => ?_)
  · obtain ⟨_, _, _, _, _, rfl, _⟩ := h; rfl
  obtain ⟨f, d, ys, zs, rs, rfl, hf, hd, ay, az, hl, hpl, q⟩ := h
  refine ⟨_, (@pss_cons _ _ _ _ _ (@ps_if _ _ _ _ _ _ _ _ (@pt_cmpR _ _ _ _ _ _ _ _ (@op_neS _ (@hu64 _ _ hr)) (pv 0) (pv 1) (@nomark _ _ (by decide) (by decide))) (@pss_one _ _ _ (@ps_ret _ _ _ _ pe_bl)) pss_nil) (@pss_cons _ _ _ _ _ (@ps_for _ _ _ _ _ _ _ _ PassesOwn.never rfl (@pi_list _ _ _ _ (pv 0)) (pg_tup rfl (pgs_cons (pg_name (i := 2) sc_l_places.nd rfl (Or.inl rfl)) (pgs_cons (pg_name (i := 3) sc_l_places.nd rfl (Or.inl rfl)) pgs_nil))) (@pss_cons _ _ _ _ _ (@ps_if _ _ _ _ _ _ _ _ ((@pw_or _ _ _ _ _ _ _ (@pt_not _ _ _ _ (@pt_val _ _ _ (@pe_callB _ _ _ _ _ _ _ _ _ call_isi (by rfl) T.z_isinstance bt_isinstance (@pa_cons _ _ _ _ _ (pv 2) (@pa_cons _ _ _ _ _ (@pe_bltn _ _ (.ty "str") _ _ (by rfl) T.z_str bt_str rfl (by decide) (by decide)) pa_nil (by rfl)) (by rfl)) (by decide) (by decide) (by rfl) (by rfl)) (by intro _ ; rfl))) (@pw_or1 _ _ _ _ (@pt_not _ _ _ _ (@pt_val _ _ _ (@pe_callB _ _ _ _ _ _ _ _ _ call_isi (by rfl) T.z_isinstance bt_isinstance (@pa_cons _ _ _ _ _ (pv 3) (@pa_cons _ _ _ _ _ (@pe_bltn _ _ (.ty "tuple") _ _ (by rfl) T.z_tuple bt_tuple rfl (by decide) (by decide)) pa_nil (by rfl)) (by rfl)) (by decide) (by decide) (by rfl) (by rfl)) (by intro _ ; rfl)))))).pt (@pss_one _ _ _ (@ps_ret _ _ _ _ pe_bl)) pss_nil) (@pss_one _ _ _ (@ps_if _ _ _ _ _ _ _ _ (@pt_cmpR _ _ _ _ _ _ _ _ op_ne (@pe_callB _ _ _ _ _ _ _ _ _ call_len_seq (by rfl) T.z_len bt_len (@pa_cons _ _ _ _ _ (@pe_compB _ _ _ _ _ _ _ ["_law_n"] [none] _ _ _ _ (by rfl) (@pi_tup _ _ _ _ (pv 3)) c_l_places_0 (fun _ _ _ _ _ _ => ⟨(pg_name (i := 0) c_l_places_0n rfl (Or.inl rfl)), (by exact (pts_one (pt_val (pe_call G_l_whole (hr.mono (by omega)) (by rfl) T.m_l_whole T.F_l_whole.kp T.b_l_whole .nil pass0 (pa_cons (pv 0) pa_nil))))), (pv 0)⟩) (by intro _ ; rfl)) pa_nil (by rfl)) (by decide) (by decide) (by rfl) (by rfl)) (@pe_callB _ _ _ _ _ _ _ _ _ call_len_seq (by rfl) T.z_len bt_len (@pa_cons _ _ _ _ _ (pv 3) pa_nil (by rfl)) (by decide) (by decide) (by rfl) (by rfl)) (@nomark _ _ (by decide) (by decide))) (@pss_one _ _ _ (@ps_ret _ _ _ _ pe_bl)) pss_nil))) (by intro _ ; rfl)) (@pss_one _ _ _ (@ps_ret _ _ _ _ pe_bl)))), ?_⟩
  have t1 : TrIs K H (.ref f) (.lst (rs.map pcTr)) := .lst (SqL.of hf) (trs_all (fun _ _ z => z.tr) ay)
  have t2 : TrIs K H (.ref d) (.lst (rs.map pcTr)) := .lst (SqL.of hd) (trs_all (fun _ _ z => z.tr) az)
  have dp := dep_map pcTr_dep rs
  refine ⟨_, rfl, _, rfl, _, _, t1, t2, ⟨_, rfl⟩, ⟨_, rfl⟩, simT_refl _, (by rw [depT]; omega), _, rfl, iteE (v := false) (by show (!eqT _ _) = false; rw [eqT_refl _ t1.ok]; rfl) (iteF ?_)⟩
  dsimp only [tNext]
  refine ⟨_, rfl, f, rfl, ⟨_, SqL.of hf⟩, ?_⟩
  refine for_list (xs := ys) (fun i σ' H' => Same H H' ∧ ∃ o2 o3, σ' = [some (.ref f), some (.ref d), o2, o3]) ⟨Same.refl _, _, _, rfl⟩ (fun i σ' H' _ pp => SqL.of (pp.1 _ _ hf)) (fun i x σ' H' hx pp => ?_) (fun σ' H' pp => ?_)
  · obtain ⟨e, o2, o3, rfl⟩ := pp
    obtain ⟨⟨z, pl⟩, hr1, t, p, rfl, ht, hp⟩ := ay.get' hx
    have l100 : pl.length ≤ 100 := hpl _ (List.mem_of_getElem? hr1)
    have ht' := e _ _ ht
    have hp' := e _ _ hp
    refine ⟨t, _, rfl, SqT.of ht', rfl, _, _, rfl, _, _, rfl, rfl, ?_⟩
    dsimp only [gName]
    refine seq_any (fun σ' H2 => H2 = H' ∧ σ' = [some (.ref f), some (.ref d), some (.str z), some (.ref p)]) (fun σ' H2 pp => ?_) (fun nx => ?_)
    rotate_left
    · refine ⟨_, rfl, _, _, _, _, _, rfl, rfl, .str _, rfl, _, rfl, iteF ?_⟩
      refine ⟨_, rfl, _, _, _, _, _, rfl, rfl, .tup hp', rfl, _, rfl, iteF ?_⟩
      exact nx _ _ ⟨rfl, rfl⟩
    obtain ⟨rfl, rfl⟩ := pp
    refine ⟨_, rfl, p, rfl, ⟨_, SqT.of hp'⟩, ?_⟩
    refine comp_tup (xs := pl.map V.int) (fun i ys H' => H' = H2 ∧ ys = (pl.take i).map V.int) ⟨rfl, rfl⟩ (szl (by rw [List.length_map]; omega)) (fun i ys H' hi pp => ⟨by rw [pp.1]; exact SqT.of hp', by rw [pp.2, List.length_map, List.length_take]; omega⟩) (fun i x ys H' hc pp => ?_) (fun ys H' pp r hr => ?_)
    · obtain ⟨rfl, rfl⟩ := pp
      rw [List.getElem?_map] at hc
      cases ec : pl[i]? with
      | none => rw [ec] at hc; cases hc
      | some n =>
        rw [ec] at hc
        cases hc
        refine ⟨_, rfl, _, rfl, rfl, _, rfl, iteT ⟨_, rfl, rfl, ?_⟩⟩
        rw [take_snoc ec, List.map_append]
        rfl
    obtain ⟨rfl, rfl⟩ := pp
    have s3 := same_new hr (.lst ((pl.take (pl.map V.int).length).map V.int))
    refine ⟨r, _, rfl, .inl (SqL.of upd_same), _, rfl, p, _, rfl, .inr (SqT.of (s3 _ _ hp')), rfl, _, rfl, ?_⟩
    rw [List.length_map, List.take_length] at s3
    rw [List.length_map, List.length_map, List.take_length]
    refine iteE (ndF rfl) (iteF ?_)
    exact ⟨e.trans s3, _, _, rfl⟩
  · obtain ⟨e, o2, o3, rfl⟩ := pp
    exact q _ e

theorem ok_here {f c' qa : Addr} {clos : List (Str × Addr)} {qual : Str} {doc pm ctv : Value} {salt : Int} (T : Tx K mg a) (hf : base.get? f = some (PySem.W.fnMade "_law_held_here" qual (defArgs n_here) (defBody n_here) (defScope n_here) clos doc pm c' ctv)) (hcd : base.CodeRec (.ref c') qual) (hc : CloOk base (defScope n_here) clos ["_law_salt", "_law_asked"] [.int salt, .ref qa]) : HdA P w K mg base f (hdF salt) qa := by
  have G_l_held := ok_held12 (P := P) (w := w) (base := base) T
  refine ⟨_, ["_law_table", "_law_place"], clo_fn hf hcd cs_here hc (fun vs H Q E h => ?_) (fun A outer s H vs Q E hr h => ?_), ⟨_, _, _, _, hf⟩, fun s us hl => .of_eq (bd_here hl)⟩
  · obtain ⟨_, _, _, _, rfl, _⟩ := h; rfl
  obtain ⟨tb, pt, pl, xs, rfl, hpt, hq, hl, q⟩ := h
  refine ⟨_, (@pss_cons _ _ _ _ _ (@ps_expr _ _ _ _ (@pe_bm _ _ _ _ _ _ _ _ _ _ _ _ PySem.F.plainAttrs_list PySem.F.slot_list_append PySem.F.type_list_append mt_append (pv 3) (@pa_cons _ _ _ _ _ (@pe_tup _ _ _ _ _ (@pa_cons _ _ _ _ _ (pv 0) (@pa_cons _ _ _ _ _ (pv 1) pa_nil (by rfl)) (by rfl))) pa_nil (by rfl)) (by rfl) (by rfl) (by rfl) (by rfl) (by rfl)) (by rfl)) (@pss_one _ _ _ (@ps_ret _ _ _ _ (@pe_call _ _ _ _ _ _ _ _ _ _ _ _ _ _ _ _ G_l_held (hr.mono (by omega)) (by rfl) T.m_l_held T.F_l_held.kp T.b_l_held .nil pass0 (@pa_cons _ _ _ _ _ (pv 0) (@pa_cons _ _ _ _ _ (pv 1) (@pa_cons _ _ _ _ _ (pv 2) pa_nil (by rfl)) (by rfl)) (by rfl)) (by decide) (by rfl) (by rfl))))), ?_⟩
  refine ⟨_, rfl, .inl ⟨rfl, _, SqL.of hq⟩, _, rfl, _, rfl, szl (by show 2 ≤ 1000000; decide), fun t ht => ?_⟩
  have v1 := same_new ht (.tup [V.str tb, V.ref pt])
  have nt : t ≠ qa := fun z => by rw [z, hq] at ht; cases ht
  refine ⟨qa, xs, _, rfl, rfl, v1 _ _ hq, szlt (by omega), ?_⟩
  have b1 : Bar qa H (upd (upd H t (.tup [V.str tb, V.ref pt])) qa (.lst (xs ++ [V.ref t]))) := ⟨⟨xs, hq⟩, fun b ob n e => by rw [upd_ne n]; exact v1 _ _ e⟩
  exact ⟨_, rfl, _, rfl, _, rfl, tb, pt, pl, salt, rfl, b1.tk _ _ hpt, q t _ b1 upd_same (by rw [upd_ne nt]; exact upd_same)⟩
theorem mk_here {X : Cx} {pins : List (Addr × Obj)} {σ : St} {H2 : Hp} {s2 : Shared} {f1 c1 cc ca qa : Addr} {oc1 : Obj} {qual : Str} {doc pm ctv : Value} {salt : Int} (T : Tx X.K X.mg a) (I : Inv X pins σ H2 s2) (m1 : (f1, PySem.W.fnMade "_law_held_here" qual (defArgs n_here) (defBody n_here) (defScope n_here) [("_law_salt", cc), ("_law_asked", ca)] doc pm c1 ctv) ∈ X.pn ++ pins) (m2 : (c1, oc1) ∈ X.pn ++ pins) (ho : ∃ vs t, oc1.data = .fields vs ∧ vs[1]? = some (.str qual t))
    (hN : X.N[3]? = some ("_law_salt" : Str)) (hσ : σ[3]? = some (some (.int salt))) (hk : X.env.scope.names.lookup ("_law_salt" : Str) = some NameKind.cell) (hfn : X.fn "_law_salt" = true) (hcc : X.env.cells.lookup ("_law_salt" : Str) = some cc)
    (hN2 : X.N[5]? = some ("_law_asked" : Str)) (hσ2 : σ[5]? = some (some (.ref qa))) (hk2 : X.env.scope.names.lookup ("_law_asked" : Str) = some NameKind.cell) (hfn2 : X.fn "_law_asked" = true) (hcc2 : X.env.cells.lookup ("_law_asked" : Str) = some ca) (hne : cc ≠ ca) : HdA X.prog X.w X.K X.mg (bigB s2.heap H2 X.stack) f1 (hdF salt) qa := by
  obtain ⟨vs, t, h1, h2⟩ := ho
  obtain ⟨c, u, hc, hcell, rv⟩ := I.cellB (i := 3) hN hσ hk hfn
  have e : c = cc := Option.some.inj (hc.symm.trans hcc)
  subst e
  obtain ⟨c2, u2, hc2, hcell2, rv2⟩ := I.cellB (i := 5) hN2 hσ2 hk2 hfn2
  have e : c2 = ca := Option.some.inj (hc2.symm.trans hcc2)
  subst e
  exact ok_here T (I.pinB m1) ⟨c1, oc1, vs, t, rfl, I.pinB m2, h1, h2⟩ (clo2 fr_here (by decide +kernel) hne hcell rv hcell2 rv2)

theorem ok_law (T : Tx K mg a) (LT : LawTab base mg a.c_tab a.p_tab) : FnOk P w K mg base CX0 50 a.f_law a.d_law ["_law_script"] (spLawT K a.p_tab) := by
  have G_l_cell_at := ok_cell_at (P := P) (w := w) (base := base) T
  have G_l_names := ok_names (P := P) (w := w) (base := base) T
  have G_l_values := ok_values12 (P := P) (w := w) (base := base) T
  have G_l_tree := FnOk.ex fun i : List (Str × Int) × Int => ok_tree12 (P := P) (w := w) (base := base) (kn := i.1) (salt := i.2) T
  have G_l_alike := ok_alike13 (P := P) (w := w) (base := base) T
  have G_l_places := ok_places13 (P := P) (w := w) (base := base) T
  have G_Number_reads := ok_rn (P := P) (w := w) (base := base) T
  have G_Value_reads := ok_rv (P := P) (w := w) (base := base) T
  have G_Cell_reads := ok_rc (P := P) (w := w) (base := base) T
  have G_Joined_reads := ok_rj (P := P) (w := w) (base := base) T 40
  refine T.F_law.okT T.nl T.tb sc_law (fun vs H Q E h => ?_) (fun A outer s H vs Q E hr h => ?_)
  · obtain ⟨_, _, rfl, _⟩ := h; rfl
  obtain ⟨p, ns, rfl, hp, h63, hT, q⟩ := h
  refine ⟨_, (@pss_cons _ _ _ _ _ (@ps_set _ _ (1) _ _ _ _ sc_law.nd rfl (Or.inl rfl) (@pe_call _ _ _ _ _ _ _ _ _ _ _ _ _ _ _ _ G_l_names (hr.mono (by omega)) (by rfl) T.m_l_names T.F_l_names.kp T.b_l_names .nil pass0 (@pa_cons _ _ _ _ _ (@pe_call _ _ _ _ _ _ _ _ _ _ _ _ _ _ _ _ G_l_cell_at (hr.mono (by omega)) (by rfl) T.m_l_cell_at T.F_l_cell_at.kp T.b_l_cell_at .nil pass0 (@pa_cons _ _ _ _ _ (pv 0) (@pa_cons _ _ _ _ _ pe_int pa_nil (by rfl)) (by rfl)) (by decide) (by rfl) (by rfl)) (@pa_cons _ _ _ _ _ pe_int pa_nil (by rfl)) (by rfl)) (by decide) (by rfl) (by rfl)) (by rfl) (by first | exact .inl rfl | exact .inr rfl | assumption)) (@pss_cons _ _ _ _ _ (@ps_set _ _ (2) _ _ _ _ sc_law.nd rfl (Or.inl rfl) (@pe_call _ _ _ _ _ _ _ _ _ _ _ _ _ _ _ _ G_l_cell_at (hr.mono (by omega)) (by rfl) T.m_l_cell_at T.F_l_cell_at.kp T.b_l_cell_at .nil pass0 (@pa_cons _ _ _ _ _ (pv 0) (@pa_cons _ _ _ _ _ pe_int pa_nil (by rfl)) (by rfl)) (by decide) (by rfl) (by rfl)) (by rfl) (by first | exact .inl rfl | exact .inr rfl | assumption)) (@pss_cons _ _ _ _ _ (@ps_set _ _ (3) _ _ _ _ sc_law.nd rfl (Or.inr rfl) (@pe_op _ _ _ _ _ _ _ _ op_mod (pv 2) pe_int) (by rfl) (by first | exact .inl rfl | exact .inr rfl | assumption)) (@pss_cons _ _ _ _ _ (@ps_set _ _ (4) _ _ _ _ sc_law.nd rfl (Or.inl rfl) (@pe_call _ _ _ _ _ _ _ _ _ _ _ _ _ _ _ _ G_l_values (hr.mono (by omega)) (by rfl) T.m_l_values T.F_l_values.kp T.b_l_values .nil pass0 (@pa_cons _ _ _ _ _ (pv 0) (@pa_cons _ _ _ _ _ (pv 1) (@pa_cons _ _ _ _ _ pe_int pa_nil (by rfl)) (by rfl)) (by rfl)) (by decide) (by rfl) (by rfl)) (by rfl) (by first | exact .inl rfl | exact .inr rfl | assumption)) (@pss_cons _ _ _ _ _ (@ps_set _ _ (5) _ _ _ _ sc_law.nd rfl (Or.inr rfl) (@pe_lst _ _ _ _ pa_nil) (by rfl) (by first | exact .inl rfl | exact .inr rfl | assumption)) (@pss_def _ _ _ _ _ _ _ ([("_law_salt", s.heap.objs.size + 1 + 1), ("_law_asked", s.heap.objs.size + 1 + 0)]) _ _ (6) _ rfl rfl rfl rfl LT (by rfl) sc_law.nd rfl (Or.inl rfl) (Or.inl rfl) (fun f1 c1 oc1 doc1 ct1 ho1 => (@pss_cons _ _ _ _ _ (@ps_asg _ _ _ _ _ _ (@pe_call _ _ _ _ _ _ _ _ _ _ _ _ _ _ _ _ G_l_tree (hr.mono (by omega)) (by rfl) T.m_l_tree T.F_l_tree.kp T.b_l_tree .nil pass0 (@pa_cons _ _ _ _ _ (@pe_slice _ _ _ _ _ _ _ _ _ _ sl_list (pv 0) (@po_some _ _ _ pe_int) (@po_some _ _ _ pe_int)) (@pa_cons _ _ _ _ _ (pv 1) (@pa_cons _ _ _ _ _ (pv 4) (@pa_cons _ _ _ _ _ (pv 2) (@pa_cons _ _ _ _ _ (pv 3) pa_nil (by rfl)) (by rfl)) (by rfl)) (by rfl)) (by rfl)) (by decide) (by rfl) (by rfl)) (pg_tup rfl (pgs_cons (pg_name (i := 7) sc_law.nd rfl (Or.inl rfl)) (pgs_cons (pg_name (i := 8) sc_law.nd rfl (Or.inl rfl)) (pgs_cons (pg_name (i := 9) sc_law.nd rfl (Or.inl rfl)) (pgs_cons (pg_name (i := 10) sc_law.nd rfl (Or.inl rfl)) pgs_nil))))) (by rfl) (by rfl) (by rfl)) (@pss_cons _ _ _ _ _ (@ps_set _ _ (11) _ _ _ _ sc_law.nd rfl (Or.inl rfl) (@pe_alt _ _ _ _ (@pe_meth0 _ _ _ _ _ _ _ _ _ _ _ _ _ _ _ _ _ (pv 7) T.cl_Number T.me_Number_reads G_Number_reads (hr.mono (by omega)) T.b_Number_reads .nil pass0 (by rfl)) (@pe_alt _ _ _ _ (@pe_meth0 _ _ _ _ _ _ _ _ _ _ _ _ _ _ _ _ _ (pv 7) T.cl_Value T.me_Value_reads G_Value_reads (hr.mono (by omega)) T.b_Value_reads .nil pass0 (by rfl)) (@pe_alt _ _ _ _ (@pe_meth0 _ _ _ _ _ _ _ _ _ _ _ _ _ _ _ _ _ (pv 7) T.cl_Cell T.me_Cell_reads G_Cell_reads (hr.mono (by omega)) T.b_Cell_reads .nil pass0 (by rfl)) (@pe_meth0 _ _ _ _ _ _ _ _ _ _ _ _ _ _ _ _ _ (pv 7) T.cl_Joined T.me_Joined_reads G_Joined_reads (hr.mono (by omega)) T.b_Joined_reads .nil pass0 (by rfl))))) (by rfl) (by first | exact .inl rfl | exact .inr rfl | assumption)) (@pss_cons _ _ _ _ _ (@ps_if _ _ _ _ _ _ _ _ ((@pw_or _ _ _ _ _ _ _ (@pt_not _ _ _ _ (@pt_val _ _ _ (@pe_call _ _ _ _ _ _ _ _ _ _ _ _ _ _ _ _ G_l_alike (hr.mono (by omega)) (by rfl) T.m_l_alike T.F_l_alike.kp T.b_l_alike .nil pass0 (@pa_cons _ _ _ _ _ (pv 11) (@pa_cons _ _ _ _ _ (pv 9) pa_nil (by rfl)) (by rfl)) (by decide) (by rfl) (by rfl)) (by intro _ ; rfl))) (@pw_or1 _ _ _ _ (@pt_cmpR _ _ _ _ _ _ _ _ (@op_neS _ (@hu64 _ _ hr)) (pv 5) (@pe_lst _ _ _ _ pa_nil) (@nomark _ _ (by decide) (by decide)))))).pt (@pss_one _ _ _ (@ps_ret _ _ _ _ pe_bl)) pss_nil) (@pss_cons _ _ _ _ _ (@ps_expr _ _ _ _ (@pe_alt _ _ _ _ (@pe_methB _ (1) _ _ _ _ _ _ _ _ _ _ _ _ _ (pv 7) T.cl_Number T.me_Number_worth (hr.mono (by omega)) T.b_Number_worth (@pa_cons _ _ _ _ _ (@pe_callTy _ _ _ _ _ _ _ _ _ call_dict_of (by rfl) T.z_dict bt_dict (@pa_cons _ _ _ _ _ (pv 4) pa_nil (by rfl)) (by decide) (by decide) (by rfl) (by rfl)) (@pa_cons _ _ _ _ _ (pv 6) pa_nil (by rfl)) (by rfl)) (by rfl) (by rfl) (by rfl)) (@pe_alt _ _ _ _ (@pe_methB _ (1) _ _ _ _ _ _ _ _ _ _ _ _ _ (pv 7) T.cl_Value T.me_Value_worth (hr.mono (by omega)) T.b_Value_worth (@pa_cons _ _ _ _ _ (@pe_callTy _ _ _ _ _ _ _ _ _ call_dict_of (by rfl) T.z_dict bt_dict (@pa_cons _ _ _ _ _ (pv 4) pa_nil (by rfl)) (by decide) (by decide) (by rfl) (by rfl)) (@pa_cons _ _ _ _ _ (pv 6) pa_nil (by rfl)) (by rfl)) (by rfl) (by rfl) (by rfl)) (@pe_alt _ _ _ _ (@pe_methB _ (3) _ _ _ _ _ _ _ _ _ _ _ _ _ (pv 7) T.cl_Cell T.me_Cell_worth (hr.mono (by omega)) T.b_Cell_worth (@pa_cons _ _ _ _ _ (@pe_callTy _ _ _ _ _ _ _ _ _ call_dict_of (by rfl) T.z_dict bt_dict (@pa_cons _ _ _ _ _ (pv 4) pa_nil (by rfl)) (by decide) (by decide) (by rfl) (by rfl)) (@pa_cons _ _ _ _ _ (pv 6) pa_nil (by rfl)) (by rfl)) (by rfl) (by rfl) (by rfl)) (@pe_methB _ (44) _ _ _ _ _ _ _ _ _ _ _ _ _ (pv 7) T.cl_Joined T.me_Joined_worth (hr.mono (by omega)) T.b_Joined_worth (@pa_cons _ _ _ _ _ (@pe_callTy _ _ _ _ _ _ _ _ _ call_dict_of (by rfl) T.z_dict bt_dict (@pa_cons _ _ _ _ _ (pv 4) pa_nil (by rfl)) (by decide) (by decide) (by rfl) (by rfl)) (@pa_cons _ _ _ _ _ (pv 6) pa_nil (by rfl)) (by rfl)) (by rfl) (by rfl) (by rfl))))) (by rfl)) (@pss_cons _ _ _ _ _ (@ps_if _ _ _ _ _ _ _ _ (@pt_not _ _ _ _ (@pt_val _ _ _ (@pe_call _ _ _ _ _ _ _ _ _ _ _ _ _ _ _ _ G_l_places (hr.mono (by omega)) (by rfl) T.m_l_places T.F_l_places.kp T.b_l_places .nil pass0 (@pa_cons _ _ _ _ _ (pv 5) (@pa_cons _ _ _ _ _ (pv 10) pa_nil (by rfl)) (by rfl)) (by decide) (by rfl) (by rfl)) (by intro _ ; rfl))) (@pss_one _ _ _ (@ps_ret _ _ _ _ pe_bl)) pss_nil) (@pss_cons _ _ _ _ _ (@ps_expr _ _ _ _ (@pe_bm _ _ _ _ _ _ _ _ _ _ _ _ PySem.F.plainAttrs_list PySem.F.slot_list_append PySem.F.type_list_append mt_append (pv 11) (@pa_cons _ _ _ _ _ (@pe_tup _ _ _ _ _ (@pa_cons _ _ _ _ _ pe_str (@pa_cons _ _ _ _ _ (@pe_tup _ _ _ _ _ pa_nil) pa_nil (by rfl)) (by rfl))) pa_nil (by rfl)) (by rfl) (by rfl) (by rfl) (by rfl) (by rfl)) (by rfl)) (@pss_cons _ _ _ _ _ (@ps_if _ _ _ _ _ _ _ _ ((@pw_or _ _ _ _ _ _ _ (@pt_not _ _ _ _ (@pt_val _ _ _ (@pe_call _ _ _ _ _ _ _ _ _ _ _ _ _ _ _ _ G_l_alike (hr.mono (by omega)) (by rfl) T.m_l_alike T.F_l_alike.kp T.b_l_alike .nil pass0 (@pa_cons _ _ _ _ _ (@pe_alt _ _ _ _ (@pe_meth0 _ _ _ _ _ _ _ _ _ _ _ _ _ _ _ _ _ (pv 7) T.cl_Number T.me_Number_reads G_Number_reads (hr.mono (by omega)) T.b_Number_reads .nil pass0 (by rfl)) (@pe_alt _ _ _ _ (@pe_meth0 _ _ _ _ _ _ _ _ _ _ _ _ _ _ _ _ _ (pv 7) T.cl_Value T.me_Value_reads G_Value_reads (hr.mono (by omega)) T.b_Value_reads .nil pass0 (by rfl)) (@pe_alt _ _ _ _ (@pe_meth0 _ _ _ _ _ _ _ _ _ _ _ _ _ _ _ _ _ (pv 7) T.cl_Cell T.me_Cell_reads G_Cell_reads (hr.mono (by omega)) T.b_Cell_reads .nil pass0 (by rfl)) (@pe_meth0 _ _ _ _ _ _ _ _ _ _ _ _ _ _ _ _ _ (pv 7) T.cl_Joined T.me_Joined_reads G_Joined_reads (hr.mono (by omega)) T.b_Joined_reads .nil pass0 (by rfl))))) (@pa_cons _ _ _ _ _ (pv 9) pa_nil (by rfl)) (by rfl)) (by decide) (by rfl) (by rfl)) (by intro _ ; rfl))) (@pw_or1 _ _ _ _ (@pt_cmpR _ _ _ _ _ _ _ _ op_ne (@pe_callB _ _ _ _ _ _ _ _ _ call_len_seq (by rfl) T.z_len bt_len (@pa_cons _ _ _ _ _ (pv 11) pa_nil (by rfl)) (by decide) (by decide) (by rfl) (by rfl)) (@pe_op _ _ _ _ _ _ _ _ op_add (@pe_callB _ _ _ _ _ _ _ _ _ call_len_seq (by rfl) T.z_len bt_len (@pa_cons _ _ _ _ _ (pv 9) pa_nil (by rfl)) (by decide) (by decide) (by rfl) (by rfl)) pe_int) (@nomark _ _ (by decide) (by decide)))))).pt (@pss_one _ _ _ (@ps_ret _ _ _ _ pe_bl)) pss_nil) (@pss_cons _ _ _ _ _ (@ps_expr _ _ _ _ (@pe_bm0 _ _ _ _ _ _ _ _ _ PySem.F.plainAttrs_list PySem.F.slot_list_clear PySem.F.type_list_clear mt_clear (pv 5) (by rfl) (by rfl)) (by rfl)) (@pss_cons _ _ _ _ _ (@ps_expr _ _ _ _ (@pe_alt _ _ _ _ (@pe_methB _ (1) _ _ _ _ _ _ _ _ _ _ _ _ _ (pv 7) T.cl_Number T.me_Number_worth (hr.mono (by omega)) T.b_Number_worth (@pa_cons _ _ _ _ _ (@pe_callTy _ _ _ _ _ _ _ _ _ call_dict_of (by rfl) T.z_dict bt_dict (@pa_cons _ _ _ _ _ (pv 4) pa_nil (by rfl)) (by decide) (by decide) (by rfl) (by rfl)) (@pa_cons _ _ _ _ _ (pv 6) pa_nil (by rfl)) (by rfl)) (by rfl) (by rfl) (by rfl)) (@pe_alt _ _ _ _ (@pe_methB _ (1) _ _ _ _ _ _ _ _ _ _ _ _ _ (pv 7) T.cl_Value T.me_Value_worth (hr.mono (by omega)) T.b_Value_worth (@pa_cons _ _ _ _ _ (@pe_callTy _ _ _ _ _ _ _ _ _ call_dict_of (by rfl) T.z_dict bt_dict (@pa_cons _ _ _ _ _ (pv 4) pa_nil (by rfl)) (by decide) (by decide) (by rfl) (by rfl)) (@pa_cons _ _ _ _ _ (pv 6) pa_nil (by rfl)) (by rfl)) (by rfl) (by rfl) (by rfl)) (@pe_alt _ _ _ _ (@pe_methB _ (3) _ _ _ _ _ _ _ _ _ _ _ _ _ (pv 7) T.cl_Cell T.me_Cell_worth (hr.mono (by omega)) T.b_Cell_worth (@pa_cons _ _ _ _ _ (@pe_callTy _ _ _ _ _ _ _ _ _ call_dict_of (by rfl) T.z_dict bt_dict (@pa_cons _ _ _ _ _ (pv 4) pa_nil (by rfl)) (by decide) (by decide) (by rfl) (by rfl)) (@pa_cons _ _ _ _ _ (pv 6) pa_nil (by rfl)) (by rfl)) (by rfl) (by rfl) (by rfl)) (@pe_methB _ (44) _ _ _ _ _ _ _ _ _ _ _ _ _ (pv 7) T.cl_Joined T.me_Joined_worth (hr.mono (by omega)) T.b_Joined_worth (@pa_cons _ _ _ _ _ (@pe_callTy _ _ _ _ _ _ _ _ _ call_dict_of (by rfl) T.z_dict bt_dict (@pa_cons _ _ _ _ _ (pv 4) pa_nil (by rfl)) (by decide) (by decide) (by rfl) (by rfl)) (@pa_cons _ _ _ _ _ (pv 6) pa_nil (by rfl)) (by rfl)) (by rfl) (by rfl) (by rfl))))) (by rfl)) (@pss_one _ _ _ (@ps_ret _ _ _ _ (@pe_and _ _ _ _ _ _ _ (@pe_call _ _ _ _ _ _ _ _ _ _ _ _ _ _ _ _ G_l_places (hr.mono (by omega)) (by rfl) T.m_l_places T.F_l_places.kp T.b_l_places .nil pass0 (@pa_cons _ _ _ _ _ (pv 5) (@pa_cons _ _ _ _ _ (pv 10) pa_nil (by rfl)) (by rfl)) (by decide) (by rfl) (by rfl)) (@pe_one _ _ _ _ _ (@pe_call _ _ _ _ _ _ _ _ _ _ _ _ _ _ _ _ G_l_alike (hr.mono (by omega)) (by rfl) T.m_l_alike T.F_l_alike.kp T.b_l_alike .nil pass0 (@pa_cons _ _ _ _ _ (@pe_alt _ _ _ _ (@pe_meth0 _ _ _ _ _ _ _ _ _ _ _ _ _ _ _ _ _ (pv 7) T.cl_Number T.me_Number_reads G_Number_reads (hr.mono (by omega)) T.b_Number_reads .nil pass0 (by rfl)) (@pe_alt _ _ _ _ (@pe_meth0 _ _ _ _ _ _ _ _ _ _ _ _ _ _ _ _ _ (pv 7) T.cl_Value T.me_Value_reads G_Value_reads (hr.mono (by omega)) T.b_Value_reads .nil pass0 (by rfl)) (@pe_alt _ _ _ _ (@pe_meth0 _ _ _ _ _ _ _ _ _ _ _ _ _ _ _ _ _ (pv 7) T.cl_Cell T.me_Cell_reads G_Cell_reads (hr.mono (by omega)) T.b_Cell_reads .nil pass0 (by rfl)) (@pe_meth0 _ _ _ _ _ _ _ _ _ _ _ _ _ _ _ _ _ (pv 7) T.cl_Joined T.me_Joined_reads G_Joined_reads (hr.mono (by omega)) T.b_Joined_reads .nil pass0 (by rfl))))) (@pa_cons _ _ _ _ _ (pv 9) pa_nil (by rfl)) (by rfl)) (by decide) (by rfl) (by rfl)))))))))))))))))))))), ?_⟩
  refine ⟨_, rfl, p, ns, 0, rfl, hp, by decide, _, 8, rfl, by decide, by decide, fun nl H1 e1 hnl => ?_⟩
  have hS1 := names_strs hnl
  generalize (namesF (ns.getD (0 : Int).toNat 0) 8).map sOf = zs at hS1
  dsimp only [gName]
  refine ⟨_, rfl, p, ns, 4, rfl, e1.seq hp, by decide, ?_⟩
  generalize ns.getD (4 : Int).toNat 0 = seed
  dsimp only [gName]
  refine ⟨_, rfl, _, _, rfl, rfl, (by show (0 : Int) < 1000003; decide), ?_⟩
  have sa0 := Int.emod_nonneg seed (show (1000003 : Int) ≠ 0 by decide)
  have sa1 := Int.emod_lt_of_pos seed (show (0 : Int) < 1000003 by decide)
  dsimp only [gName]
  generalize seed % 1000003 = salt at sa0 sa1
  have hsa : salt.natAbs < 2 ^ 62 := by omega
  refine ⟨_, rfl, _, rfl, p, nl, ns, zs, 0, rfl, e1.seq hp, hS1, fun d1 H2 kn1 e2 _ hd1 hk1 nd1 kb1 => ?_⟩
  dsimp only [gName]
  refine ⟨szl (by show 0 ≤ 1000000; decide), fun qa nqa => ?_⟩
  have s3 := same_new nqa (.lst [])
  have hq3 : (upd H2 qa (.lst [])) qa = some (.lst []) := upd_same
  generalize upd H2 qa (.lst []) = H3 at s3 hq3
  dsimp only [gName]
  have e13 := e1.trans (e2.trans s3)
  have hp3 := e13.seq hp
  have hS3 := hS1.over (e2.trans s3)
  have hd13 := s3 _ _ hd1
  have hT3 := e13 _ _ hT
  refine tDef_go hT3 (by exact trivial) rfl fun f1 c1 oc1 doc1 ct1 H5 ho1 k5 hT5 => ?_
  have hp5 := hp3.kp k5
  have hS5 : StrsAt H5 nl zs 8 := ⟨k5 _ _ hS3.1 fun _ => by simp, hS3.2⟩
  have hd15 := k5 _ _ hd13 fun _ => by simp
  have hq5 := k5 _ _ hq3 fun _ => by simp
  clear k5 hT5 hT3 hd13 hS3 hp3 e13 hd1 hS1 e1 e2 s3 hq3
  change tSeq _ _ _ [some (.ref p), some (.ref nl), some (.int seed), some (.int salt), some (.ref d1), some (.ref qa), some (.ref f1), none, none, none, none, none] _
  have cl := cut544 ns
  refine ⟨_, rfl, _, rfl, _, rfl, p, _, rfl, hp5, fun l6 hl6 => ?_⟩
  rw [cutV_map]
  have s6 := same_new hl6 (.lst ((cutC ns (some 5) (some 44)).map V.int))
  have hl66 : (upd H5 l6 (.lst ((cutC ns (some 5) (some 44)).map V.int))) l6 = some (.lst ((cutC ns (some 5) (some 44)).map V.int)) := upd_same
  generalize upd H5 l6 (.lst ((cutC ns (some 5) (some 44)).map V.int)) = H6 at s6 hl66
  refine ⟨_, rfl, _, rfl, _, rfl, _, rfl, (kn1, salt), l6, nl, d1, cutC ns (some 5) (some 44), zs, seed, rfl, SqL.of hl66, cl, hS5.over s6, s6 _ _ hd15, hk1, kb1, hsa, fun v H7 e7 tq tk sz => ?_⟩
  generalize treeF (cutC ns (some 5) (some 44)) zs seed = t at tq tk sz
  obtain ⟨pq, rl, pl, tm, xs, ys, rfl, hpq, tb, hrl, hpl, ax, ay, nrl, npl⟩ := tq
  have hq6 := s6 _ _ hq5
  have hq7 := e7 _ _ hq6
  have rq : rl ≠ qa := fun z => nrl (by show H6 rl ≠ none; rw [z, hq6]; simp)
  have pq' : pl ≠ qa := fun z => npl (by show H6 pl ≠ none; rw [z, hq6]; simp)
  have S7 : S13 (csOf a) kn1 t tm rl pl d1 xs ys H7 := ⟨tb, hrl, hpl, ax, ay, (s6.trans e7) _ _ hd15⟩
  refine ⟨pq, _, rfl, SqT.of hpq, rfl, _, _, rfl, _, _, rfl, _, _, rfl, _, _, rfl, rfl, ?_⟩
  dsimp only [gName]
  have bdA := fun z pl => hdF_small salt z pl hsa
  have rlen := rdT_len t
  have plen := plT_len kn1 t
  have psm := plT_small (kn := kn1) tk
  have tk := tk.mono hk1
  clear hpl hrl tb ax ay nrl npl hpq
  -- what it reads
  refine alt_rds (c := csOf a) (n := 40) (l := t) (lv := tm) (fun Q' h => ⟨_, rfl, h⟩) S7.tb sz (by omega) (fun r1 H8 xs1 e8 n8 h8 a8 => ?_)
  have r1q : r1 ≠ qa := fun z => by rw [z, hq7] at n8; cases n8
  have r1r : rl ≠ r1 := fun z => by have := S7.hrl; rw [z, n8] at this; cases this
  have r1p : pl ≠ r1 := fun z => by have := S7.hpl; rw [z, n8] at this; cases this
  have S8 := S7.over e8
  have hq8 := e8 _ _ hq7
  dsimp only [gName]
  refine ⟨_, rfl, _, rfl, r1, rl, xs1, xs, rdT t, rfl, h8, S8.hrl, a8, S8.ax, by omega, fun H9 e9 => ⟨_, rfl, iteF ?_⟩⟩
  have S9 := S8.over e9
  have hq9 := e9 _ _ hq8
  refine ⟨_, rfl, szl (by show 0 ≤ 1000000; decide), fun l10 hl10 => ?_⟩
  have s10 := same_new hl10 (.lst [])
  have hl1010 : (upd H9 l10 (.lst [])) l10 = some (.lst []) := upd_same
  generalize upd H9 l10 (.lst []) = H10 at s10 hl1010
  have hq10 := s10 _ _ hq9
  have S10 := S9.over s10
  have t1 : TrIs K H10 (.ref qa) (.lst []) := .lst (SqL.of hq10) .nil
  have t2 : TrIs K H10 (.ref l10) (.lst []) := .lst (SqL.of hl1010) .nil
  refine ⟨_, _, t1, t2, ⟨_, rfl⟩, ⟨_, rfl⟩, simT_refl _, (by rw [depT, depTs]; decide), _, rfl, iteE (v := false) (by rw [if_pos rfl, eqT_refl _ t1.ok]; rfl) (iteF ?_)⟩
  dsimp only [tNext]
  have h10 := (e9.trans s10) _ _ h8
  -- what is asked
  refine alt_wthAB (c := csOf a) (kn := kn1) (hd := hdF salt) (g := f1) (qa := qa) (n := 40) (l := t) (lv := tm) (fun H2 pins s2 I => mk_here T I (List.mem_append_left _ (List.mem_append_right _ List.mem_cons_self)) (List.mem_append_left _ (List.mem_append_right _ (List.mem_cons_of_mem _ List.mem_cons_self))) ho1 rfl rfl rfl rfl rfl rfl rfl rfl rfl rfl (Nat.ne_of_gt (Nat.lt_succ_self (s.heap.objs.size + 1)))) (fun b hH => ok_wn T) (fun b hH => ok_wv T) (fun b hH => ok_wc hH T) (fun b hH => ok_wj hH kb1 bdA T 40 (by decide)) (fun Q' h => ⟨_, rfl, h⟩) (fun Q' h => ⟨_, rfl, d1, _, rfl, S10.hd, fun h3 nh3 => ⟨_, rfl, h h3 _ (same_new nh3 _) upd_same⟩⟩) S10.tb tk sz hq10 (by rw [List.length_nil]; omega) (fun H11 ys1 b11 hq11 a11 => ?_)
  rw [List.nil_append] at hq11
  have S11 := S10.bar b11 rq pq'
  have h11 := b11.2 _ _ r1q h10
  refine ⟨_, rfl, _, rfl, qa, pl, ys1, ys, plT kn1 t, rfl, hq11, S11.hpl, a11, S11.ay, by omega, psm, fun H12 e12 => ⟨_, rfl, iteF ?_⟩⟩
  dsimp only [tNext]
  have S12 := S11.over e12
  have hq12 := e12 _ _ hq11
  have h12 := e12 _ _ h11
  have yl1 : ys1.length ≤ 40 := by rw [a11.1]; omega
  have xl1 : xs1.length = (rdT t).length := a8.1
  have xl : xs.length = (rdT t).length := S12.ax.1
  -- the list told is a new one
  refine ⟨_, rfl, .inl ⟨rfl, _, SqL.of h12⟩, szl (by show 0 ≤ 1000000; decide), fun t0 ht0 => ⟨szl (by show 2 ≤ 1000000; decide), fun tt htt => ?_⟩⟩
  have s13 := (same_new ht0 (.tup [])).trans (same_new htt (.tup [V.str "x", V.ref t0]))
  refine ⟨r1, xs1, _, rfl, rfl, s13 _ _ h12, szlt (by omega), ?_⟩
  have b13 := (Bar.same h12 s13).trans (Bar.upd (o := .lst (xs1 ++ [V.ref tt])) (s13 _ _ h12))
  have h13 : (upd (upd (upd H12 t0 (.tup [])) tt (.tup [V.str "x", V.ref t0])) r1 (.lst (xs1 ++ [V.ref tt]))) r1 = some (.lst (xs1 ++ [V.ref tt])) := upd_same
  generalize upd (upd (upd H12 t0 (.tup [])) tt (.tup [V.str "x", V.ref t0])) r1 (.lst (xs1 ++ [V.ref tt])) = H13 at b13 h13
  have S13' := S12.bar b13 r1r r1p
  have hq13 := b13.2 _ _ (Ne.symm r1q) hq12
  refine alt_rds (c := csOf a) (n := 40) (l := t) (lv := tm) (fun Q' h => ⟨_, rfl, h⟩) S13'.tb sz (by omega) (fun r2 H14 xs2 e14 n14 h14 a14 => ?_)
  have S14 := S13'.over e14
  refine ⟨_, rfl, r2, rl, xs2, xs, rdT t, rfl, h14, S14.hrl, a14, S14.ax, by omega, fun H15 e15 => ⟨_, rfl, iteF ?_⟩⟩
  have e1315 := e14.trans e15
  have S15 := S14.over e15
  have hq15 := e1315 _ _ hq13
  have h15 := e1315 _ _ h13
  refine ⟨_, rfl, r1, _, rfl, .inl (SqL.of h15), _, rfl, rl, _, rfl, .inl (SqL.of S15.hrl), _, _, rfl, rfl, rfl, _, rfl, ?_⟩
  rw [List.length_append, List.length_singleton, xl1, xl]
  refine iteE (ndF rfl) (iteF ?_)
  dsimp only [tNext]
  -- asked once more
  refine ⟨_, rfl, .inl ⟨rfl, _, SqL.of hq15⟩, qa, _, rfl, rfl, hq15, ?_⟩
  have b16 := Bar.upd (o := .lst []) hq15
  have hq16 : (upd H15 qa (.lst [])) qa = some (.lst []) := upd_same
  generalize upd H15 qa (.lst []) = H16 at b16 hq16
  have S16 := S15.bar b16 rq pq'
  refine alt_wthAB (c := csOf a) (kn := kn1) (hd := hdF salt) (g := f1) (qa := qa) (n := 40) (l := t) (lv := tm) (fun H2 pins s2 I => mk_here T I (List.mem_append_left _ (List.mem_append_right _ List.mem_cons_self)) (List.mem_append_left _ (List.mem_append_right _ (List.mem_cons_of_mem _ List.mem_cons_self))) ho1 rfl rfl rfl rfl rfl rfl rfl rfl rfl rfl (Nat.ne_of_gt (Nat.lt_succ_self (s.heap.objs.size + 1)))) (fun b hH => ok_wn T) (fun b hH => ok_wv T) (fun b hH => ok_wc hH T) (fun b hH => ok_wj hH kb1 bdA T 40 (by decide)) (fun Q' h => ⟨_, rfl, h⟩) (fun Q' h => ⟨_, rfl, d1, _, rfl, S16.hd, fun h3 nh3 => ⟨_, rfl, h h3 _ (same_new nh3 _) upd_same⟩⟩) S16.tb tk sz hq16 (by rw [List.length_nil]; omega) (fun H17 ys2 b17 hq17 a17 => ?_)
  rw [List.nil_append] at hq17
  have S17 := S16.bar b17 rq pq'
  refine ⟨_, rfl, _, rfl, qa, pl, ys2, ys, plT kn1 t, rfl, hq17, S17.hpl, a17, S17.ay, by omega, psm, fun H18 e18 => ⟨_, rfl, iteT ?_⟩⟩
  have S18 := S17.over e18
  refine alt_rds (c := csOf a) (n := 40) (l := t) (lv := tm) (fun Q' h => ⟨_, rfl, h⟩) S18.tb sz (by omega) (fun r3 H19 xs3 e19 n19 h19 a19 => ?_)
  have S19 := S18.over e19
  exact ⟨_, rfl, r3, rl, xs3, xs, rdT t, rfl, h19, S19.hrl, a19, S19.ax, by omega, fun H20 e20 => q _⟩


end
theorem len_1 {us : List Value} (h : us.length = 1) : ∃ x0, us = [x0] := by
  rcases us with _ | ⟨x0, us⟩
  · cases h
  rcases us with _ | ⟨y, us⟩
  · exact ⟨x0, rfl⟩
  · simp only [List.length_cons] at h; omega
theorem len_2 {us : List Value} (h : us.length = 2) : ∃ x0 x1, us = [x0, x1] := by
  rcases us with _ | ⟨x0, us⟩
  · cases h
  rcases us with _ | ⟨x1, us⟩
  · cases h
  rcases us with _ | ⟨y, us⟩
  · exact ⟨x0, x1, rfl⟩
  · simp only [List.length_cons] at h; omega
theorem len_3 {us : List Value} (h : us.length = 3) : ∃ x0 x1 x2, us = [x0, x1, x2] := by
  rcases us with _ | ⟨x0, us⟩
  · cases h
  rcases us with _ | ⟨x1, us⟩
  · cases h
  rcases us with _ | ⟨x2, us⟩
  · cases h
  rcases us with _ | ⟨y, us⟩
  · exact ⟨x0, x1, x2, rfl⟩
  · simp only [List.length_cons] at h; omega
theorem len_4 {us : List Value} (h : us.length = 4) : ∃ x0 x1 x2 x3, us = [x0, x1, x2, x3] := by
  rcases us with _ | ⟨x0, us⟩
  · cases h
  rcases us with _ | ⟨x1, us⟩
  · cases h
  rcases us with _ | ⟨x2, us⟩
  · cases h
  rcases us with _ | ⟨x3, us⟩
  · cases h
  rcases us with _ | ⟨y, us⟩
  · exact ⟨x0, x1, x2, x3, rfl⟩
  · simp only [List.length_cons] at h; omega
theorem len_5 {us : List Value} (h : us.length = 5) : ∃ x0 x1 x2 x3 x4, us = [x0, x1, x2, x3, x4] := by
  rcases us with _ | ⟨x0, us⟩
  · cases h
  rcases us with _ | ⟨x1, us⟩
  · cases h
  rcases us with _ | ⟨x2, us⟩
  · cases h
  rcases us with _ | ⟨x3, us⟩
  · cases h
  rcases us with _ | ⟨x4, us⟩
  · cases h
  rcases us with _ | ⟨y, us⟩
  · exact ⟨x0, x1, x2, x3, x4, rfl⟩
  · simp only [List.length_cons] at h; omega
theorem bd_Number_init {kV doc pm : Value} {an : Option Addr} {cdv ct : Value} {us : List Value} (h : us.length = 2) : bindArgs (PySem.W.fnOf "__init__" "Number.__init__" (defArgs s_Number_init) (defBody s_Number_init) (defScope s_Number_init) .none kV doc pm an cdv ct) ⟨us, []⟩ = pure ((["self", "n"] : List Str).zip us) := by
  obtain ⟨_, _, rfl⟩ := len_2 h
  rfl
theorem bd_Value_init {kV doc pm : Value} {an : Option Addr} {cdv ct : Value} {us : List Value} (h : us.length = 2) : bindArgs (PySem.W.fnOf "__init__" "Value.__init__" (defArgs s_Value_init) (defBody s_Value_init) (defScope s_Value_init) .none kV doc pm an cdv ct) ⟨us, []⟩ = pure ((["self", "name"] : List Str).zip us) := by
  obtain ⟨_, _, rfl⟩ := len_2 h
  rfl
theorem bd_Cell_init {kV doc pm : Value} {an : Option Addr} {cdv ct : Value} {us : List Value} (h : us.length = 3) : bindArgs (PySem.W.fnOf "__init__" "Cell.__init__" (defArgs s_Cell_init) (defBody s_Cell_init) (defScope s_Cell_init) .none kV doc pm an cdv ct) ⟨us, []⟩ = pure ((["self", "table", "spots"] : List Str).zip us) := by
  obtain ⟨_, _, _, rfl⟩ := len_3 h
  rfl
theorem bd_Joined_init {kV doc pm : Value} {an : Option Addr} {cdv ct : Value} {us : List Value} (h : us.length = 4) : bindArgs (PySem.W.fnOf "__init__" "Joined.__init__" (defArgs s_Joined_init) (defBody s_Joined_init) (defScope s_Joined_init) .none kV doc pm an cdv ct) ⟨us, []⟩ = pure ((["self", "sign", "left", "right"] : List Str).zip us) := by
  obtain ⟨_, _, _, _, rfl⟩ := len_4 h
  rfl
theorem bd_l_cell_at {kV doc pm : Value} {an : Option Addr} {cdv ct : Value} {us : List Value} (h : us.length = 2) : bindArgs (PySem.W.fnOf "_law_cell_at" "_law_cell_at" (defArgs s_l_cell_at) (defBody s_l_cell_at) (defScope s_l_cell_at) .none kV doc pm an cdv ct) ⟨us, []⟩ = pure ((["_law_script", "_law_k"] : List Str).zip us) := by
  obtain ⟨_, _, rfl⟩ := len_2 h
  rfl
theorem bd_l_whole {kV doc pm : Value} {an : Option Addr} {cdv ct : Value} {us : List Value} (h : us.length = 1) : bindArgs (PySem.W.fnOf "_law_whole" "_law_whole" (defArgs s_l_whole) (defBody s_l_whole) (defScope s_l_whole) .none kV doc pm an cdv ct) ⟨us, []⟩ = pure ((["_law_found"] : List Str).zip us) := by
  obtain ⟨_, rfl⟩ := len_1 h
  rfl
theorem bd_l_stream {kV doc pm : Value} {an : Option Addr} {cdv ct : Value} {us : List Value} (h : us.length = 2) : bindArgs (PySem.W.fnOf "_law_stream" "_law_stream" (defArgs s_l_stream) (defBody s_l_stream) (defScope s_l_stream) .none kV doc pm an cdv ct) ⟨us, []⟩ = pure ((["_law_cell", "_law_many"] : List Str).zip us) := by
  obtain ⟨_, _, rfl⟩ := len_2 h
  rfl
theorem bd_l_number {kV doc pm : Value} {an : Option Addr} {cdv ct : Value} {us : List Value} (h : us.length = 2) : bindArgs (PySem.W.fnOf "_law_number" "_law_number" (defArgs s_l_number) (defBody s_l_number) (defScope s_l_number) .none kV doc pm an cdv ct) ⟨us, []⟩ = pure ((["_law_cell", "_law_far"] : List Str).zip us) := by
  obtain ⟨_, _, rfl⟩ := len_2 h
  rfl
theorem bd_l_held {kV doc pm : Value} {an : Option Addr} {cdv ct : Value} {us : List Value} (h : us.length = 3) : bindArgs (PySem.W.fnOf "_law_held" "_law_held" (defArgs s_l_held) (defBody s_l_held) (defScope s_l_held) .none kV doc pm an cdv ct) ⟨us, []⟩ = pure ((["_law_table", "_law_place", "_law_salt"] : List Str).zip us) := by
  obtain ⟨_, _, _, rfl⟩ := len_3 h
  rfl
theorem bd_l_leaf {kV doc pm : Value} {an : Option Addr} {cdv ct : Value} {us : List Value} (h : us.length = 4) : bindArgs (PySem.W.fnOf "_law_leaf" "_law_leaf" (defArgs s_l_leaf) (defBody s_l_leaf) (defScope s_l_leaf) .none kV doc pm an cdv ct) ⟨us, []⟩ = pure ((["_law_cell", "_law_names_here", "_law_values_here", "_law_salt"] : List Str).zip us) := by
  obtain ⟨_, _, _, _, rfl⟩ := len_4 h
  rfl
theorem bd_l_both {kV doc pm : Value} {an : Option Addr} {cdv ct : Value} {us : List Value} (h : us.length = 3) : bindArgs (PySem.W.fnOf "_law_both" "_law_both" (defArgs s_l_both) (defBody s_l_both) (defScope s_l_both) .none kV doc pm an cdv ct) ⟨us, []⟩ = pure ((["_law_sign", "_law_left", "_law_right"] : List Str).zip us) := by
  obtain ⟨_, _, _, rfl⟩ := len_3 h
  rfl
theorem bd_l_tree {kV doc pm : Value} {an : Option Addr} {cdv ct : Value} {us : List Value} (h : us.length = 5) : bindArgs (PySem.W.fnOf "_law_tree" "_law_tree" (defArgs s_l_tree) (defBody s_l_tree) (defScope s_l_tree) .none kV doc pm an cdv ct) ⟨us, []⟩ = pure ((["_law_cells", "_law_names_here", "_law_values_here", "_law_seed", "_law_salt"] : List Str).zip us) := by
  obtain ⟨_, _, _, _, _, rfl⟩ := len_5 h
  rfl
theorem bd_l_values {kV doc pm : Value} {an : Option Addr} {cdv ct : Value} {us : List Value} (h : us.length = 3) : bindArgs (PySem.W.fnOf "_law_values" "_law_values" (defArgs s_l_values) (defBody s_l_values) (defScope s_l_values) .none kV doc pm an cdv ct) ⟨us, []⟩ = pure ((["_law_script", "_law_names_here", "_law_more"] : List Str).zip us) := by
  obtain ⟨_, _, _, rfl⟩ := len_3 h
  rfl
theorem bd_stood_for {kV doc pm : Value} {an : Option Addr} {cdv ct : Value} {us : List Value} (h : us.length = 2) : bindArgs (PySem.W.fnOf "stood_for" "stood_for" (defArgs s_stood_for) (defBody s_stood_for) (defScope s_stood_for) .none kV doc pm an cdv ct) ⟨us, []⟩ = pure ((["spot", "values"] : List Str).zip us) := by
  obtain ⟨_, _, rfl⟩ := len_2 h
  rfl
theorem bd_placed {kV doc pm : Value} {an : Option Addr} {cdv ct : Value} {us : List Value} (h : us.length = 2) : bindArgs (PySem.W.fnOf "placed" "placed" (defArgs s_placed) (defBody s_placed) (defScope s_placed) .none kV doc pm an cdv ct) ⟨us, []⟩ = pure ((["spots", "values"] : List Str).zip us) := by
  obtain ⟨_, _, rfl⟩ := len_2 h
  rfl
theorem bd_l_names {kV doc pm : Value} {an : Option Addr} {cdv ct : Value} {us : List Value} (h : us.length = 2) : bindArgs (PySem.W.fnOf "_law_names" "_law_names" (defArgs s_l_names) (defBody s_l_names) (defScope s_l_names) .none kV doc pm an cdv ct) ⟨us, []⟩ = pure ((["_law_cell", "_law_many"] : List Str).zip us) := by
  obtain ⟨_, _, rfl⟩ := len_2 h
  rfl
theorem bd_Number_worth {kV doc pm : Value} {an : Option Addr} {cdv ct : Value} {us : List Value} (h : us.length = 3) : bindArgs (PySem.W.fnOf "worth" "Number.worth" (defArgs s_Number_worth) (defBody s_Number_worth) (defScope s_Number_worth) .none kV doc pm an cdv ct) ⟨us, []⟩ = pure ((["self", "values", "cells"] : List Str).zip us) := by
  obtain ⟨_, _, _, rfl⟩ := len_3 h
  rfl
theorem bd_Value_worth {kV doc pm : Value} {an : Option Addr} {cdv ct : Value} {us : List Value} (h : us.length = 3) : bindArgs (PySem.W.fnOf "worth" "Value.worth" (defArgs s_Value_worth) (defBody s_Value_worth) (defScope s_Value_worth) .none kV doc pm an cdv ct) ⟨us, []⟩ = pure ((["self", "values", "cells"] : List Str).zip us) := by
  obtain ⟨_, _, _, rfl⟩ := len_3 h
  rfl
theorem bd_Cell_worth {kV doc pm : Value} {an : Option Addr} {cdv ct : Value} {us : List Value} (h : us.length = 3) : bindArgs (PySem.W.fnOf "worth" "Cell.worth" (defArgs s_Cell_worth) (defBody s_Cell_worth) (defScope s_Cell_worth) .none kV doc pm an cdv ct) ⟨us, []⟩ = pure ((["self", "values", "cells"] : List Str).zip us) := by
  obtain ⟨_, _, _, rfl⟩ := len_3 h
  rfl
theorem bd_Joined_worth {kV doc pm : Value} {an : Option Addr} {cdv ct : Value} {us : List Value} (h : us.length = 3) : bindArgs (PySem.W.fnOf "worth" "Joined.worth" (defArgs s_Joined_worth) (defBody s_Joined_worth) (defScope s_Joined_worth) .none kV doc pm an cdv ct) ⟨us, []⟩ = pure ((["self", "values", "cells"] : List Str).zip us) := by
  obtain ⟨_, _, _, rfl⟩ := len_3 h
  rfl
theorem bd_Number_reads {kV doc pm : Value} {an : Option Addr} {cdv ct : Value} {us : List Value} (h : us.length = 1) : bindArgs (PySem.W.fnOf "reads" "Number.reads" (defArgs s_Number_reads) (defBody s_Number_reads) (defScope s_Number_reads) .none kV doc pm an cdv ct) ⟨us, []⟩ = pure ((["self"] : List Str).zip us) := by
  obtain ⟨_, rfl⟩ := len_1 h
  rfl
theorem bd_Value_reads {kV doc pm : Value} {an : Option Addr} {cdv ct : Value} {us : List Value} (h : us.length = 1) : bindArgs (PySem.W.fnOf "reads" "Value.reads" (defArgs s_Value_reads) (defBody s_Value_reads) (defScope s_Value_reads) .none kV doc pm an cdv ct) ⟨us, []⟩ = pure ((["self"] : List Str).zip us) := by
  obtain ⟨_, rfl⟩ := len_1 h
  rfl
theorem bd_Cell_reads {kV doc pm : Value} {an : Option Addr} {cdv ct : Value} {us : List Value} (h : us.length = 1) : bindArgs (PySem.W.fnOf "reads" "Cell.reads" (defArgs s_Cell_reads) (defBody s_Cell_reads) (defScope s_Cell_reads) .none kV doc pm an cdv ct) ⟨us, []⟩ = pure ((["self"] : List Str).zip us) := by
  obtain ⟨_, rfl⟩ := len_1 h
  rfl
theorem bd_Joined_reads {kV doc pm : Value} {an : Option Addr} {cdv ct : Value} {us : List Value} (h : us.length = 1) : bindArgs (PySem.W.fnOf "reads" "Joined.reads" (defArgs s_Joined_reads) (defBody s_Joined_reads) (defScope s_Joined_reads) .none kV doc pm an cdv ct) ⟨us, []⟩ = pure ((["self"] : List Str).zip us) := by
  obtain ⟨_, rfl⟩ := len_1 h
  rfl
theorem bd_l_alike {kV doc pm : Value} {an : Option Addr} {cdv ct : Value} {us : List Value} (h : us.length = 2) : bindArgs (PySem.W.fnOf "_law_alike" "_law_alike" (defArgs s_l_alike) (defBody s_l_alike) (defScope s_l_alike) .none kV doc pm an cdv ct) ⟨us, []⟩ = pure ((["_law_found", "_law_due"] : List Str).zip us) := by
  obtain ⟨_, _, rfl⟩ := len_2 h
  rfl
theorem bd_l_places {kV doc pm : Value} {an : Option Addr} {cdv ct : Value} {us : List Value} (h : us.length = 2) : bindArgs (PySem.W.fnOf "_law_places" "_law_places" (defArgs s_l_places) (defBody s_l_places) (defScope s_l_places) .none kV doc pm an cdv ct) ⟨us, []⟩ = pure ((["_law_found", "_law_due"] : List Str).zip us) := by
  obtain ⟨_, _, rfl⟩ := len_2 h
  rfl
theorem bd_law {kV doc pm : Value} {an : Option Addr} {cdv ct : Value} {us : List Value} (h : us.length = 1) : bindArgs (PySem.W.fnOf "law" "law" (defArgs s_law) (defBody s_law) (defScope s_law) .none kV doc pm an cdv ct) ⟨us, []⟩ = pure ((["_law_script"] : List Str).zip us) := by
  obtain ⟨_, rfl⟩ := len_1 h
  rfl
theorem txt_mk {K : PySem.W.Frag} {h : Heap} {mg : Str → Option Value} {fa : Addr} (X : K.In h) (G : h.Ns mainGlobals mg) (hfa : mg "law" = some (.ref fa))
    {C_Term : Addr} {C_Number : Addr} {C_Value : Addr} {C_Cell : Addr} {C_Joined : Addr} {f1 : Addr} {od1 an1 : Option Addr} {sl1 : Array (Option Value)} {oc1 kV1 dc1 pm1 cd1 ct1 : Value} {f2 : Addr} {od2 an2 : Option Addr} {sl2 : Array (Option Value)} {oc2 kV2 dc2 pm2 cd2 ct2 : Value} {f3 : Addr} {od3 an3 : Option Addr} {sl3 : Array (Option Value)} {oc3 kV3 dc3 pm3 cd3 ct3 : Value} {f4 : Addr} {od4 an4 : Option Addr} {sl4 : Array (Option Value)} {oc4 kV4 dc4 pm4 cd4 ct4 : Value} {f5 : Addr} {od5 an5 : Option Addr} {sl5 : Array (Option Value)} {oc5 kV5 dc5 pm5 cd5 ct5 : Value} {f6 : Addr} {od6 an6 : Option Addr} {sl6 : Array (Option Value)} {oc6 kV6 dc6 pm6 cd6 ct6 : Value} {f7 : Addr} {od7 an7 : Option Addr} {sl7 : Array (Option Value)} {oc7 kV7 dc7 pm7 cd7 ct7 : Value} {f8 : Addr} {od8 an8 : Option Addr} {sl8 : Array (Option Value)} {oc8 kV8 dc8 pm8 cd8 ct8 : Value} {f9 : Addr} {od9 an9 : Option Addr} {sl9 : Array (Option Value)} {oc9 kV9 dc9 pm9 cd9 ct9 : Value} {f10 : Addr} {od10 an10 : Option Addr} {sl10 : Array (Option Value)} {oc10 kV10 dc10 pm10 cd10 ct10 : Value} {f11 : Addr} {od11 an11 : Option Addr} {sl11 : Array (Option Value)} {oc11 kV11 dc11 pm11 cd11 ct11 : Value} {f12 : Addr} {od12 an12 : Option Addr} {sl12 : Array (Option Value)} {oc12 kV12 dc12 pm12 cd12 ct12 : Value} {f13 : Addr} {od13 an13 : Option Addr} {sl13 : Array (Option Value)} {oc13 kV13 dc13 pm13 cd13 ct13 : Value} {f14 : Addr} {od14 an14 : Option Addr} {sl14 : Array (Option Value)} {oc14 kV14 dc14 pm14 cd14 ct14 : Value} {f15 : Addr} {od15 an15 : Option Addr} {sl15 : Array (Option Value)} {oc15 kV15 dc15 pm15 cd15 ct15 : Value} {f16 : Addr} {od16 an16 : Option Addr} {sl16 : Array (Option Value)} {oc16 kV16 dc16 pm16 cd16 ct16 : Value} {f17 : Addr} {od17 an17 : Option Addr} {sl17 : Array (Option Value)} {oc17 kV17 dc17 pm17 cd17 ct17 : Value} {f18 : Addr} {od18 an18 : Option Addr} {sl18 : Array (Option Value)} {oc18 kV18 dc18 pm18 cd18 ct18 : Value} {f19 : Addr} {od19 an19 : Option Addr} {sl19 : Array (Option Value)} {oc19 kV19 dc19 pm19 cd19 ct19 : Value} {f20 : Addr} {od20 an20 : Option Addr} {sl20 : Array (Option Value)} {oc20 kV20 dc20 pm20 cd20 ct20 : Value} {f21 : Addr} {od21 an21 : Option Addr} {sl21 : Array (Option Value)} {oc21 kV21 dc21 pm21 cd21 ct21 : Value} {f22 : Addr} {od22 an22 : Option Addr} {sl22 : Array (Option Value)} {oc22 kV22 dc22 pm22 cd22 ct22 : Value} {f23 : Addr} {od23 an23 : Option Addr} {sl23 : Array (Option Value)} {oc23 kV23 dc23 pm23 cd23 ct23 : Value} {f24 : Addr} {od24 an24 : Option Addr} {sl24 : Array (Option Value)} {oc24 kV24 dc24 pm24 cd24 ct24 : Value} {f25 : Addr} {od25 an25 : Option Addr} {sl25 : Array (Option Value)} {oc25 kV25 dc25 pm25 cd25 ct25 : Value} {f26 : Addr} {od26 an26 : Option Addr} {sl26 : Array (Option Value)} {oc26 kV26 dc26 pm26 cd26 ct26 : Value} {f27 : Addr} {od27 an27 : Option Addr} {sl27 : Array (Option Value)} {oc27 kV27 dc27 pm27 ct27 : Value} {c_tab p_tab : Addr} {o_tab : Obj}
    (a_Term : PySem.W.nsIn K mainGlobals "Term" = some (some (.ref C_Term)))
    (a_Number : PySem.W.nsIn K mainGlobals "Number" = some (some (.ref C_Number)))
    (a_Value : PySem.W.nsIn K mainGlobals "Value" = some (some (.ref C_Value)))
    (a_Cell : PySem.W.nsIn K mainGlobals "Cell" = some (some (.ref C_Cell)))
    (a_Joined : PySem.W.nsIn K mainGlobals "Joined" = some (some (.ref C_Joined)))
    (a1 : PySem.W.findIn K (.ref C_Number) "__init__" = some (some (.ref f1))) (i1 : PySem.W.isFn K (.ref f1) = true)
    (l1 : K.lookup f1 = some ⟨oc1, od1, .func (PySem.W.fnOf "__init__" "Number.__init__" (defArgs s_Number_init) (defBody s_Number_init) (defScope s_Number_init) .none kV1 dc1 pm1 an1 cd1 ct1), sl1⟩) (c1 : PySem.W.codeIn K cd1 "Number.__init__" = true) (k1 : PySem.W.keepIn K (.ref f1) = true)
    (a2 : PySem.W.findIn K (.ref C_Value) "__init__" = some (some (.ref f2))) (i2 : PySem.W.isFn K (.ref f2) = true)
    (l2 : K.lookup f2 = some ⟨oc2, od2, .func (PySem.W.fnOf "__init__" "Value.__init__" (defArgs s_Value_init) (defBody s_Value_init) (defScope s_Value_init) .none kV2 dc2 pm2 an2 cd2 ct2), sl2⟩) (c2 : PySem.W.codeIn K cd2 "Value.__init__" = true) (k2 : PySem.W.keepIn K (.ref f2) = true)
    (a3 : PySem.W.findIn K (.ref C_Cell) "__init__" = some (some (.ref f3))) (i3 : PySem.W.isFn K (.ref f3) = true)
    (l3 : K.lookup f3 = some ⟨oc3, od3, .func (PySem.W.fnOf "__init__" "Cell.__init__" (defArgs s_Cell_init) (defBody s_Cell_init) (defScope s_Cell_init) .none kV3 dc3 pm3 an3 cd3 ct3), sl3⟩) (c3 : PySem.W.codeIn K cd3 "Cell.__init__" = true) (k3 : PySem.W.keepIn K (.ref f3) = true)
    (a4 : PySem.W.findIn K (.ref C_Joined) "__init__" = some (some (.ref f4))) (i4 : PySem.W.isFn K (.ref f4) = true)
    (l4 : K.lookup f4 = some ⟨oc4, od4, .func (PySem.W.fnOf "__init__" "Joined.__init__" (defArgs s_Joined_init) (defBody s_Joined_init) (defScope s_Joined_init) .none kV4 dc4 pm4 an4 cd4 ct4), sl4⟩) (c4 : PySem.W.codeIn K cd4 "Joined.__init__" = true) (k4 : PySem.W.keepIn K (.ref f4) = true)
    (a5 : PySem.W.nsIn K mainGlobals "_law_cell_at" = some (some (.ref f5)))
    (l5 : K.lookup f5 = some ⟨oc5, od5, .func (PySem.W.fnOf "_law_cell_at" "_law_cell_at" (defArgs s_l_cell_at) (defBody s_l_cell_at) (defScope s_l_cell_at) .none kV5 dc5 pm5 an5 cd5 ct5), sl5⟩) (c5 : PySem.W.codeIn K cd5 "_law_cell_at" = true) (k5 : PySem.W.keepIn K (.ref f5) = true)
    (a6 : PySem.W.nsIn K mainGlobals "_law_whole" = some (some (.ref f6)))
    (l6 : K.lookup f6 = some ⟨oc6, od6, .func (PySem.W.fnOf "_law_whole" "_law_whole" (defArgs s_l_whole) (defBody s_l_whole) (defScope s_l_whole) .none kV6 dc6 pm6 an6 cd6 ct6), sl6⟩) (c6 : PySem.W.codeIn K cd6 "_law_whole" = true) (k6 : PySem.W.keepIn K (.ref f6) = true)
    (a7 : PySem.W.nsIn K mainGlobals "_law_stream" = some (some (.ref f7)))
    (l7 : K.lookup f7 = some ⟨oc7, od7, .func (PySem.W.fnOf "_law_stream" "_law_stream" (defArgs s_l_stream) (defBody s_l_stream) (defScope s_l_stream) .none kV7 dc7 pm7 an7 cd7 ct7), sl7⟩) (c7 : PySem.W.codeIn K cd7 "_law_stream" = true) (k7 : PySem.W.keepIn K (.ref f7) = true)
    (a8 : PySem.W.nsIn K mainGlobals "_law_number" = some (some (.ref f8)))
    (l8 : K.lookup f8 = some ⟨oc8, od8, .func (PySem.W.fnOf "_law_number" "_law_number" (defArgs s_l_number) (defBody s_l_number) (defScope s_l_number) .none kV8 dc8 pm8 an8 cd8 ct8), sl8⟩) (c8 : PySem.W.codeIn K cd8 "_law_number" = true) (k8 : PySem.W.keepIn K (.ref f8) = true)
    (a9 : PySem.W.nsIn K mainGlobals "_law_held" = some (some (.ref f9)))
    (l9 : K.lookup f9 = some ⟨oc9, od9, .func (PySem.W.fnOf "_law_held" "_law_held" (defArgs s_l_held) (defBody s_l_held) (defScope s_l_held) .none kV9 dc9 pm9 an9 cd9 ct9), sl9⟩) (c9 : PySem.W.codeIn K cd9 "_law_held" = true) (k9 : PySem.W.keepIn K (.ref f9) = true)
    (a10 : PySem.W.nsIn K mainGlobals "_law_leaf" = some (some (.ref f10)))
    (l10 : K.lookup f10 = some ⟨oc10, od10, .func (PySem.W.fnOf "_law_leaf" "_law_leaf" (defArgs s_l_leaf) (defBody s_l_leaf) (defScope s_l_leaf) .none kV10 dc10 pm10 an10 cd10 ct10), sl10⟩) (c10 : PySem.W.codeIn K cd10 "_law_leaf" = true) (k10 : PySem.W.keepIn K (.ref f10) = true)
    (a11 : PySem.W.nsIn K mainGlobals "_law_both" = some (some (.ref f11)))
    (l11 : K.lookup f11 = some ⟨oc11, od11, .func (PySem.W.fnOf "_law_both" "_law_both" (defArgs s_l_both) (defBody s_l_both) (defScope s_l_both) .none kV11 dc11 pm11 an11 cd11 ct11), sl11⟩) (c11 : PySem.W.codeIn K cd11 "_law_both" = true) (k11 : PySem.W.keepIn K (.ref f11) = true)
    (a12 : PySem.W.nsIn K mainGlobals "_law_tree" = some (some (.ref f12)))
    (l12 : K.lookup f12 = some ⟨oc12, od12, .func (PySem.W.fnOf "_law_tree" "_law_tree" (defArgs s_l_tree) (defBody s_l_tree) (defScope s_l_tree) .none kV12 dc12 pm12 an12 cd12 ct12), sl12⟩) (c12 : PySem.W.codeIn K cd12 "_law_tree" = true) (k12 : PySem.W.keepIn K (.ref f12) = true)
    (a13 : PySem.W.nsIn K mainGlobals "_law_values" = some (some (.ref f13)))
    (l13 : K.lookup f13 = some ⟨oc13, od13, .func (PySem.W.fnOf "_law_values" "_law_values" (defArgs s_l_values) (defBody s_l_values) (defScope s_l_values) .none kV13 dc13 pm13 an13 cd13 ct13), sl13⟩) (c13 : PySem.W.codeIn K cd13 "_law_values" = true) (k13 : PySem.W.keepIn K (.ref f13) = true)
    (a14 : PySem.W.nsIn K mainGlobals "stood_for" = some (some (.ref f14)))
    (l14 : K.lookup f14 = some ⟨oc14, od14, .func (PySem.W.fnOf "stood_for" "stood_for" (defArgs s_stood_for) (defBody s_stood_for) (defScope s_stood_for) .none kV14 dc14 pm14 an14 cd14 ct14), sl14⟩) (c14 : PySem.W.codeIn K cd14 "stood_for" = true) (k14 : PySem.W.keepIn K (.ref f14) = true)
    (a15 : PySem.W.nsIn K mainGlobals "placed" = some (some (.ref f15)))
    (l15 : K.lookup f15 = some ⟨oc15, od15, .func (PySem.W.fnOf "placed" "placed" (defArgs s_placed) (defBody s_placed) (defScope s_placed) .none kV15 dc15 pm15 an15 cd15 ct15), sl15⟩) (c15 : PySem.W.codeIn K cd15 "placed" = true) (k15 : PySem.W.keepIn K (.ref f15) = true)
    (a16 : PySem.W.nsIn K mainGlobals "_law_names" = some (some (.ref f16)))
    (l16 : K.lookup f16 = some ⟨oc16, od16, .func (PySem.W.fnOf "_law_names" "_law_names" (defArgs s_l_names) (defBody s_l_names) (defScope s_l_names) .none kV16 dc16 pm16 an16 cd16 ct16), sl16⟩) (c16 : PySem.W.codeIn K cd16 "_law_names" = true) (k16 : PySem.W.keepIn K (.ref f16) = true)
    (a17 : PySem.W.findIn K (.ref C_Number) "worth" = some (some (.ref f17))) (i17 : PySem.W.isFn K (.ref f17) = true)
    (l17 : K.lookup f17 = some ⟨oc17, od17, .func (PySem.W.fnOf "worth" "Number.worth" (defArgs s_Number_worth) (defBody s_Number_worth) (defScope s_Number_worth) .none kV17 dc17 pm17 an17 cd17 ct17), sl17⟩) (c17 : PySem.W.codeIn K cd17 "Number.worth" = true) (k17 : PySem.W.keepIn K (.ref f17) = true)
    (a18 : PySem.W.findIn K (.ref C_Value) "worth" = some (some (.ref f18))) (i18 : PySem.W.isFn K (.ref f18) = true)
    (l18 : K.lookup f18 = some ⟨oc18, od18, .func (PySem.W.fnOf "worth" "Value.worth" (defArgs s_Value_worth) (defBody s_Value_worth) (defScope s_Value_worth) .none kV18 dc18 pm18 an18 cd18 ct18), sl18⟩) (c18 : PySem.W.codeIn K cd18 "Value.worth" = true) (k18 : PySem.W.keepIn K (.ref f18) = true)
    (a19 : PySem.W.findIn K (.ref C_Cell) "worth" = some (some (.ref f19))) (i19 : PySem.W.isFn K (.ref f19) = true)
    (l19 : K.lookup f19 = some ⟨oc19, od19, .func (PySem.W.fnOf "worth" "Cell.worth" (defArgs s_Cell_worth) (defBody s_Cell_worth) (defScope s_Cell_worth) .none kV19 dc19 pm19 an19 cd19 ct19), sl19⟩) (c19 : PySem.W.codeIn K cd19 "Cell.worth" = true) (k19 : PySem.W.keepIn K (.ref f19) = true)
    (a20 : PySem.W.findIn K (.ref C_Joined) "worth" = some (some (.ref f20))) (i20 : PySem.W.isFn K (.ref f20) = true)
    (l20 : K.lookup f20 = some ⟨oc20, od20, .func (PySem.W.fnOf "worth" "Joined.worth" (defArgs s_Joined_worth) (defBody s_Joined_worth) (defScope s_Joined_worth) .none kV20 dc20 pm20 an20 cd20 ct20), sl20⟩) (c20 : PySem.W.codeIn K cd20 "Joined.worth" = true) (k20 : PySem.W.keepIn K (.ref f20) = true)
    (a21 : PySem.W.findIn K (.ref C_Number) "reads" = some (some (.ref f21))) (i21 : PySem.W.isFn K (.ref f21) = true)
    (l21 : K.lookup f21 = some ⟨oc21, od21, .func (PySem.W.fnOf "reads" "Number.reads" (defArgs s_Number_reads) (defBody s_Number_reads) (defScope s_Number_reads) .none kV21 dc21 pm21 an21 cd21 ct21), sl21⟩) (c21 : PySem.W.codeIn K cd21 "Number.reads" = true) (k21 : PySem.W.keepIn K (.ref f21) = true)
    (a22 : PySem.W.findIn K (.ref C_Value) "reads" = some (some (.ref f22))) (i22 : PySem.W.isFn K (.ref f22) = true)
    (l22 : K.lookup f22 = some ⟨oc22, od22, .func (PySem.W.fnOf "reads" "Value.reads" (defArgs s_Value_reads) (defBody s_Value_reads) (defScope s_Value_reads) .none kV22 dc22 pm22 an22 cd22 ct22), sl22⟩) (c22 : PySem.W.codeIn K cd22 "Value.reads" = true) (k22 : PySem.W.keepIn K (.ref f22) = true)
    (a23 : PySem.W.findIn K (.ref C_Cell) "reads" = some (some (.ref f23))) (i23 : PySem.W.isFn K (.ref f23) = true)
    (l23 : K.lookup f23 = some ⟨oc23, od23, .func (PySem.W.fnOf "reads" "Cell.reads" (defArgs s_Cell_reads) (defBody s_Cell_reads) (defScope s_Cell_reads) .none kV23 dc23 pm23 an23 cd23 ct23), sl23⟩) (c23 : PySem.W.codeIn K cd23 "Cell.reads" = true) (k23 : PySem.W.keepIn K (.ref f23) = true)
    (a24 : PySem.W.findIn K (.ref C_Joined) "reads" = some (some (.ref f24))) (i24 : PySem.W.isFn K (.ref f24) = true)
    (l24 : K.lookup f24 = some ⟨oc24, od24, .func (PySem.W.fnOf "reads" "Joined.reads" (defArgs s_Joined_reads) (defBody s_Joined_reads) (defScope s_Joined_reads) .none kV24 dc24 pm24 an24 cd24 ct24), sl24⟩) (c24 : PySem.W.codeIn K cd24 "Joined.reads" = true) (k24 : PySem.W.keepIn K (.ref f24) = true)
    (a25 : PySem.W.nsIn K mainGlobals "_law_alike" = some (some (.ref f25)))
    (l25 : K.lookup f25 = some ⟨oc25, od25, .func (PySem.W.fnOf "_law_alike" "_law_alike" (defArgs s_l_alike) (defBody s_l_alike) (defScope s_l_alike) .none kV25 dc25 pm25 an25 cd25 ct25), sl25⟩) (c25 : PySem.W.codeIn K cd25 "_law_alike" = true) (k25 : PySem.W.keepIn K (.ref f25) = true)
    (a26 : PySem.W.nsIn K mainGlobals "_law_places" = some (some (.ref f26)))
    (l26 : K.lookup f26 = some ⟨oc26, od26, .func (PySem.W.fnOf "_law_places" "_law_places" (defArgs s_l_places) (defBody s_l_places) (defScope s_l_places) .none kV26 dc26 pm26 an26 cd26 ct26), sl26⟩) (c26 : PySem.W.codeIn K cd26 "_law_places" = true) (k26 : PySem.W.keepIn K (.ref f26) = true)
    (a27 : PySem.W.nsIn K mainGlobals "law" = some (some (.ref f27)))
    (l27 : K.lookup f27 = some ⟨oc27, od27, .func (PySem.W.fnOf "law" "law" (defArgs s_law) (defBody s_law) (defScope s_law) .none kV27 dc27 pm27 an27 (.ref c_tab) ct27), sl27⟩) (c27 : PySem.W.codeIn K (.ref c_tab) "law" = true) (k27 : PySem.W.keepIn K (.ref f27) = true)
    (pg_Term : PySem.W.plainGet K C_Term Str.empty = true) (hd_Term : PySem.W.hasDictIn K C_Term = true) (po_Term : PySem.W.plainOver K C_Term = true) (sa_Term : PySem.W.findIn K (.ref C_Term) "__setattr__" = some (some (.builtin "object.__setattr__"))) (mk_Term : PySem.W.makesIn K C_Term = true) (kc_Term : PySem.W.keepIn K (.ref C_Term) = true)
    (pg_Number : PySem.W.plainGet K C_Number Str.empty = true) (hd_Number : PySem.W.hasDictIn K C_Number = true) (po_Number : PySem.W.plainOver K C_Number = true) (sa_Number : PySem.W.findIn K (.ref C_Number) "__setattr__" = some (some (.builtin "object.__setattr__"))) (mk_Number : PySem.W.makesIn K C_Number = true) (kc_Number : PySem.W.keepIn K (.ref C_Number) = true)
    (n_Number_n : PySem.W.findIn K (.ref C_Number) "n" = some none)
    (pg_Value : PySem.W.plainGet K C_Value Str.empty = true) (hd_Value : PySem.W.hasDictIn K C_Value = true) (po_Value : PySem.W.plainOver K C_Value = true) (sa_Value : PySem.W.findIn K (.ref C_Value) "__setattr__" = some (some (.builtin "object.__setattr__"))) (mk_Value : PySem.W.makesIn K C_Value = true) (kc_Value : PySem.W.keepIn K (.ref C_Value) = true)
    (n_Value_name : PySem.W.findIn K (.ref C_Value) "name" = some none)
    (pg_Cell : PySem.W.plainGet K C_Cell Str.empty = true) (hd_Cell : PySem.W.hasDictIn K C_Cell = true) (po_Cell : PySem.W.plainOver K C_Cell = true) (sa_Cell : PySem.W.findIn K (.ref C_Cell) "__setattr__" = some (some (.builtin "object.__setattr__"))) (mk_Cell : PySem.W.makesIn K C_Cell = true) (kc_Cell : PySem.W.keepIn K (.ref C_Cell) = true)
    (n_Cell_table : PySem.W.findIn K (.ref C_Cell) "table" = some none)
    (n_Cell_spots : PySem.W.findIn K (.ref C_Cell) "spots" = some none)
    (pg_Joined : PySem.W.plainGet K C_Joined Str.empty = true) (hd_Joined : PySem.W.hasDictIn K C_Joined = true) (po_Joined : PySem.W.plainOver K C_Joined = true) (sa_Joined : PySem.W.findIn K (.ref C_Joined) "__setattr__" = some (some (.builtin "object.__setattr__"))) (mk_Joined : PySem.W.makesIn K C_Joined = true) (kc_Joined : PySem.W.keepIn K (.ref C_Joined) = true)
    (n_Joined_sign : PySem.W.findIn K (.ref C_Joined) "sign" = some none)
    (n_Joined_left : PySem.W.findIn K (.ref C_Joined) "left" = some none)
    (n_Joined_right : PySem.W.findIn K (.ref C_Joined) "right" = some none)
    (hn0 : PySem.W.specialIn K (.builtin "object.__class__") "__get__" = some (some (.builtin "getset_descriptor.__get__"))) (ht0 : PySem.W.takesIn K (.builtin "object.__class__") = some true)
    (ha_Number : PySem.W.findIn K (.ref C_Number) "__class__" = some (some (.builtin "object.__class__"))) (hm_Number : PySem.W.mroIn K C_Number (.type "object") = some true)
    (is_Number_Term : PySem.W.kitOne K (.ref C_Number) (.ref C_Term) = some true)
    (is_Number_Number : PySem.W.kitOne K (.ref C_Number) (.ref C_Number) = some true)
    (is_Number_Value : PySem.W.kitOne K (.ref C_Number) (.ref C_Value) = some false)
    (is_Number_Cell : PySem.W.kitOne K (.ref C_Number) (.ref C_Cell) = some false)
    (is_Number_Joined : PySem.W.kitOne K (.ref C_Number) (.ref C_Joined) = some false)
    (ha_Value : PySem.W.findIn K (.ref C_Value) "__class__" = some (some (.builtin "object.__class__"))) (hm_Value : PySem.W.mroIn K C_Value (.type "object") = some true)
    (is_Value_Term : PySem.W.kitOne K (.ref C_Value) (.ref C_Term) = some true)
    (is_Value_Number : PySem.W.kitOne K (.ref C_Value) (.ref C_Number) = some false)
    (is_Value_Value : PySem.W.kitOne K (.ref C_Value) (.ref C_Value) = some true)
    (is_Value_Cell : PySem.W.kitOne K (.ref C_Value) (.ref C_Cell) = some false)
    (is_Value_Joined : PySem.W.kitOne K (.ref C_Value) (.ref C_Joined) = some false)
    (ha_Cell : PySem.W.findIn K (.ref C_Cell) "__class__" = some (some (.builtin "object.__class__"))) (hm_Cell : PySem.W.mroIn K C_Cell (.type "object") = some true)
    (is_Cell_Term : PySem.W.kitOne K (.ref C_Cell) (.ref C_Term) = some true)
    (is_Cell_Number : PySem.W.kitOne K (.ref C_Cell) (.ref C_Number) = some false)
    (is_Cell_Value : PySem.W.kitOne K (.ref C_Cell) (.ref C_Value) = some false)
    (is_Cell_Cell : PySem.W.kitOne K (.ref C_Cell) (.ref C_Cell) = some true)
    (is_Cell_Joined : PySem.W.kitOne K (.ref C_Cell) (.ref C_Joined) = some false)
    (ha_Joined : PySem.W.findIn K (.ref C_Joined) "__class__" = some (some (.builtin "object.__class__"))) (hm_Joined : PySem.W.mroIn K C_Joined (.type "object") = some true)
    (is_Joined_Term : PySem.W.kitOne K (.ref C_Joined) (.ref C_Term) = some true)
    (is_Joined_Number : PySem.W.kitOne K (.ref C_Joined) (.ref C_Number) = some false)
    (is_Joined_Value : PySem.W.kitOne K (.ref C_Joined) (.ref C_Value) = some false)
    (is_Joined_Cell : PySem.W.kitOne K (.ref C_Joined) (.ref C_Cell) = some false)
    (is_Joined_Joined : PySem.W.kitOne K (.ref C_Joined) (.ref C_Joined) = some true)
    (z_abs : PySem.W.nsIn K mainGlobals "abs" = some none)
    (z_bool : PySem.W.nsIn K mainGlobals "bool" = some none)
    (z_dict : PySem.W.nsIn K mainGlobals "dict" = some none)
    (z_int : PySem.W.nsIn K mainGlobals "int" = some none)
    (z_isinstance : PySem.W.nsIn K mainGlobals "isinstance" = some none)
    (z_len : PySem.W.nsIn K mainGlobals "len" = some none)
    (z_list : PySem.W.nsIn K mainGlobals "list" = some none)
    (z_ord : PySem.W.nsIn K mainGlobals "ord" = some none)
    (z_range : PySem.W.nsIn K mainGlobals "range" = some none)
    (z_str : PySem.W.nsIn K mainGlobals "str" = some none)
    (z_tuple : PySem.W.nsIn K mainGlobals "tuple" = some none)
    (z_zip : PySem.W.nsIn K mainGlobals "zip" = some none)
    (l_tab : K.lookup c_tab = some o_tab) (qvt_tab : tabP o_tab = some p_tab) (qnt_tab : hasNo K p_tab = true) :
    ∃ a : Ad, Tx K mg a ∧ fa = a.f_law ∧ (∀ (s : Shared) (v : Value), BindsTo s a.d_law ⟨[v], []⟩ [("_law_script", v)]) := by
  have e := hfa.symm.trans (PySem.W.mg_of X G a27)
  cases e
  exact ⟨⟨f1, PySem.W.fnOf "__init__" "Number.__init__" (defArgs s_Number_init) (defBody s_Number_init) (defScope s_Number_init) .none kV1 dc1 pm1 an1 cd1 ct1, f2, PySem.W.fnOf "__init__" "Value.__init__" (defArgs s_Value_init) (defBody s_Value_init) (defScope s_Value_init) .none kV2 dc2 pm2 an2 cd2 ct2, f3, PySem.W.fnOf "__init__" "Cell.__init__" (defArgs s_Cell_init) (defBody s_Cell_init) (defScope s_Cell_init) .none kV3 dc3 pm3 an3 cd3 ct3, f4, PySem.W.fnOf "__init__" "Joined.__init__" (defArgs s_Joined_init) (defBody s_Joined_init) (defScope s_Joined_init) .none kV4 dc4 pm4 an4 cd4 ct4, f5, PySem.W.fnOf "_law_cell_at" "_law_cell_at" (defArgs s_l_cell_at) (defBody s_l_cell_at) (defScope s_l_cell_at) .none kV5 dc5 pm5 an5 cd5 ct5, f6, PySem.W.fnOf "_law_whole" "_law_whole" (defArgs s_l_whole) (defBody s_l_whole) (defScope s_l_whole) .none kV6 dc6 pm6 an6 cd6 ct6, f7, PySem.W.fnOf "_law_stream" "_law_stream" (defArgs s_l_stream) (defBody s_l_stream) (defScope s_l_stream) .none kV7 dc7 pm7 an7 cd7 ct7, f8, PySem.W.fnOf "_law_number" "_law_number" (defArgs s_l_number) (defBody s_l_number) (defScope s_l_number) .none kV8 dc8 pm8 an8 cd8 ct8, f9, PySem.W.fnOf "_law_held" "_law_held" (defArgs s_l_held) (defBody s_l_held) (defScope s_l_held) .none kV9 dc9 pm9 an9 cd9 ct9, f10, PySem.W.fnOf "_law_leaf" "_law_leaf" (defArgs s_l_leaf) (defBody s_l_leaf) (defScope s_l_leaf) .none kV10 dc10 pm10 an10 cd10 ct10, f11, PySem.W.fnOf "_law_both" "_law_both" (defArgs s_l_both) (defBody s_l_both) (defScope s_l_both) .none kV11 dc11 pm11 an11 cd11 ct11, f12, PySem.W.fnOf "_law_tree" "_law_tree" (defArgs s_l_tree) (defBody s_l_tree) (defScope s_l_tree) .none kV12 dc12 pm12 an12 cd12 ct12, f13, PySem.W.fnOf "_law_values" "_law_values" (defArgs s_l_values) (defBody s_l_values) (defScope s_l_values) .none kV13 dc13 pm13 an13 cd13 ct13, f14, PySem.W.fnOf "stood_for" "stood_for" (defArgs s_stood_for) (defBody s_stood_for) (defScope s_stood_for) .none kV14 dc14 pm14 an14 cd14 ct14, f15, PySem.W.fnOf "placed" "placed" (defArgs s_placed) (defBody s_placed) (defScope s_placed) .none kV15 dc15 pm15 an15 cd15 ct15, f16, PySem.W.fnOf "_law_names" "_law_names" (defArgs s_l_names) (defBody s_l_names) (defScope s_l_names) .none kV16 dc16 pm16 an16 cd16 ct16, f17, PySem.W.fnOf "worth" "Number.worth" (defArgs s_Number_worth) (defBody s_Number_worth) (defScope s_Number_worth) .none kV17 dc17 pm17 an17 cd17 ct17, f18, PySem.W.fnOf "worth" "Value.worth" (defArgs s_Value_worth) (defBody s_Value_worth) (defScope s_Value_worth) .none kV18 dc18 pm18 an18 cd18 ct18, f19, PySem.W.fnOf "worth" "Cell.worth" (defArgs s_Cell_worth) (defBody s_Cell_worth) (defScope s_Cell_worth) .none kV19 dc19 pm19 an19 cd19 ct19, f20, PySem.W.fnOf "worth" "Joined.worth" (defArgs s_Joined_worth) (defBody s_Joined_worth) (defScope s_Joined_worth) .none kV20 dc20 pm20 an20 cd20 ct20, f21, PySem.W.fnOf "reads" "Number.reads" (defArgs s_Number_reads) (defBody s_Number_reads) (defScope s_Number_reads) .none kV21 dc21 pm21 an21 cd21 ct21, f22, PySem.W.fnOf "reads" "Value.reads" (defArgs s_Value_reads) (defBody s_Value_reads) (defScope s_Value_reads) .none kV22 dc22 pm22 an22 cd22 ct22, f23, PySem.W.fnOf "reads" "Cell.reads" (defArgs s_Cell_reads) (defBody s_Cell_reads) (defScope s_Cell_reads) .none kV23 dc23 pm23 an23 cd23 ct23, f24, PySem.W.fnOf "reads" "Joined.reads" (defArgs s_Joined_reads) (defBody s_Joined_reads) (defScope s_Joined_reads) .none kV24 dc24 pm24 an24 cd24 ct24, f25, PySem.W.fnOf "_law_alike" "_law_alike" (defArgs s_l_alike) (defBody s_l_alike) (defScope s_l_alike) .none kV25 dc25 pm25 an25 cd25 ct25, f26, PySem.W.fnOf "_law_places" "_law_places" (defArgs s_l_places) (defBody s_l_places) (defScope s_l_places) .none kV26 dc26 pm26 an26 cd26 ct26, fa, PySem.W.fnOf "law" "law" (defArgs s_law) (defBody s_law) (defScope s_law) .none kV27 dc27 pm27 an27 (.ref c_tab) ct27, C_Term, C_Number, C_Value, C_Cell, C_Joined, c_tab, p_tab⟩, ⟨fun_mk (st := s_Number_init) l1 c1 k1, 
    (fun_mk (st := s_Number_init) l1 c1 k1).binds (ps := ["self", "n"]) (fun _ _ _ _ _ _ us hl => bd_Number_init hl), 
    fun_mk (st := s_Value_init) l2 c2 k2, 
    (fun_mk (st := s_Value_init) l2 c2 k2).binds (ps := ["self", "name"]) (fun _ _ _ _ _ _ us hl => bd_Value_init hl), 
    fun_mk (st := s_Cell_init) l3 c3 k3, 
    (fun_mk (st := s_Cell_init) l3 c3 k3).binds (ps := ["self", "table", "spots"]) (fun _ _ _ _ _ _ us hl => bd_Cell_init hl), 
    fun_mk (st := s_Joined_init) l4 c4 k4, 
    (fun_mk (st := s_Joined_init) l4 c4 k4).binds (ps := ["self", "sign", "left", "right"]) (fun _ _ _ _ _ _ us hl => bd_Joined_init hl), 
    fun_mk (st := s_l_cell_at) l5 c5 k5, 
    (fun_mk (st := s_l_cell_at) l5 c5 k5).binds (ps := ["_law_script", "_law_k"]) (fun _ _ _ _ _ _ us hl => bd_l_cell_at hl), 
    PySem.W.mg_of X G a5, 
    fun_mk (st := s_l_whole) l6 c6 k6, 
    (fun_mk (st := s_l_whole) l6 c6 k6).binds (ps := ["_law_found"]) (fun _ _ _ _ _ _ us hl => bd_l_whole hl), 
    PySem.W.mg_of X G a6, 
    fun_mk (st := s_l_stream) l7 c7 k7, 
    (fun_mk (st := s_l_stream) l7 c7 k7).binds (ps := ["_law_cell", "_law_many"]) (fun _ _ _ _ _ _ us hl => bd_l_stream hl), 
    PySem.W.mg_of X G a7, 
    fun_mk (st := s_l_number) l8 c8 k8, 
    (fun_mk (st := s_l_number) l8 c8 k8).binds (ps := ["_law_cell", "_law_far"]) (fun _ _ _ _ _ _ us hl => bd_l_number hl), 
    PySem.W.mg_of X G a8, 
    fun_mk (st := s_l_held) l9 c9 k9, 
    (fun_mk (st := s_l_held) l9 c9 k9).binds (ps := ["_law_table", "_law_place", "_law_salt"]) (fun _ _ _ _ _ _ us hl => bd_l_held hl), 
    PySem.W.mg_of X G a9, 
    fun_mk (st := s_l_leaf) l10 c10 k10, 
    (fun_mk (st := s_l_leaf) l10 c10 k10).binds (ps := ["_law_cell", "_law_names_here", "_law_values_here", "_law_salt"]) (fun _ _ _ _ _ _ us hl => bd_l_leaf hl), 
    PySem.W.mg_of X G a10, 
    fun_mk (st := s_l_both) l11 c11 k11, 
    (fun_mk (st := s_l_both) l11 c11 k11).binds (ps := ["_law_sign", "_law_left", "_law_right"]) (fun _ _ _ _ _ _ us hl => bd_l_both hl), 
    PySem.W.mg_of X G a11, 
    fun_mk (st := s_l_tree) l12 c12 k12, 
    (fun_mk (st := s_l_tree) l12 c12 k12).binds (ps := ["_law_cells", "_law_names_here", "_law_values_here", "_law_seed", "_law_salt"]) (fun _ _ _ _ _ _ us hl => bd_l_tree hl), 
    PySem.W.mg_of X G a12, 
    fun_mk (st := s_l_values) l13 c13 k13, 
    (fun_mk (st := s_l_values) l13 c13 k13).binds (ps := ["_law_script", "_law_names_here", "_law_more"]) (fun _ _ _ _ _ _ us hl => bd_l_values hl), 
    PySem.W.mg_of X G a13, 
    fun_mk (st := s_stood_for) l14 c14 k14, 
    (fun_mk (st := s_stood_for) l14 c14 k14).binds (ps := ["spot", "values"]) (fun _ _ _ _ _ _ us hl => bd_stood_for hl), 
    PySem.W.mg_of X G a14, 
    fun_mk (st := s_placed) l15 c15 k15, 
    (fun_mk (st := s_placed) l15 c15 k15).binds (ps := ["spots", "values"]) (fun _ _ _ _ _ _ us hl => bd_placed hl), 
    PySem.W.mg_of X G a15, 
    fun_mk (st := s_l_names) l16 c16 k16, 
    (fun_mk (st := s_l_names) l16 c16 k16).binds (ps := ["_law_cell", "_law_many"]) (fun _ _ _ _ _ _ us hl => bd_l_names hl), 
    PySem.W.mg_of X G a16, 
    fun_mk (st := s_Number_worth) l17 c17 k17, 
    (fun_mk (st := s_Number_worth) l17 c17 k17).binds (ps := ["self", "values", "cells"]) (fun _ _ _ _ _ _ us hl => bd_Number_worth hl), 
    fun_mk (st := s_Value_worth) l18 c18 k18, 
    (fun_mk (st := s_Value_worth) l18 c18 k18).binds (ps := ["self", "values", "cells"]) (fun _ _ _ _ _ _ us hl => bd_Value_worth hl), 
    fun_mk (st := s_Cell_worth) l19 c19 k19, 
    (fun_mk (st := s_Cell_worth) l19 c19 k19).binds (ps := ["self", "values", "cells"]) (fun _ _ _ _ _ _ us hl => bd_Cell_worth hl), 
    fun_mk (st := s_Joined_worth) l20 c20 k20, 
    (fun_mk (st := s_Joined_worth) l20 c20 k20).binds (ps := ["self", "values", "cells"]) (fun _ _ _ _ _ _ us hl => bd_Joined_worth hl), 
    fun_mk (st := s_Number_reads) l21 c21 k21, 
    (fun_mk (st := s_Number_reads) l21 c21 k21).binds (ps := ["self"]) (fun _ _ _ _ _ _ us hl => bd_Number_reads hl), 
    fun_mk (st := s_Value_reads) l22 c22 k22, 
    (fun_mk (st := s_Value_reads) l22 c22 k22).binds (ps := ["self"]) (fun _ _ _ _ _ _ us hl => bd_Value_reads hl), 
    fun_mk (st := s_Cell_reads) l23 c23 k23, 
    (fun_mk (st := s_Cell_reads) l23 c23 k23).binds (ps := ["self"]) (fun _ _ _ _ _ _ us hl => bd_Cell_reads hl), 
    fun_mk (st := s_Joined_reads) l24 c24 k24, 
    (fun_mk (st := s_Joined_reads) l24 c24 k24).binds (ps := ["self"]) (fun _ _ _ _ _ _ us hl => bd_Joined_reads hl), 
    fun_mk (st := s_l_alike) l25 c25 k25, 
    (fun_mk (st := s_l_alike) l25 c25 k25).binds (ps := ["_law_found", "_law_due"]) (fun _ _ _ _ _ _ us hl => bd_l_alike hl), 
    PySem.W.mg_of X G a25, 
    fun_mk (st := s_l_places) l26 c26 k26, 
    (fun_mk (st := s_l_places) l26 c26 k26).binds (ps := ["_law_found", "_law_due"]) (fun _ _ _ _ _ _ us hl => bd_l_places hl), 
    PySem.W.mg_of X G a26, 
    fun_mk (st := s_law) l27 c27 k27, 
    (fun_mk (st := s_law) l27 c27 k27).binds (ps := ["_law_script"]) (fun _ _ _ _ _ _ us hl => bd_law hl), 
    PySem.W.mg_of X G a27, 
    ⟨pg_Term, hd_Term, po_Term, sa_Term⟩, 
    PySem.W.mg_of X G a_Term, 
    ⟨pg_Number, hd_Number, po_Number, sa_Number⟩, 
    PySem.W.mg_of X G a_Number, 
    ⟨mk_Number, a1, i1, kc_Number⟩, 
    ⟨a17, i17, k17⟩, 
    ⟨a21, i21, k21⟩, 
    n_Number_n, 
    ⟨pg_Value, hd_Value, po_Value, sa_Value⟩, 
    PySem.W.mg_of X G a_Value, 
    ⟨mk_Value, a2, i2, kc_Value⟩, 
    ⟨a18, i18, k18⟩, 
    ⟨a22, i22, k22⟩, 
    n_Value_name, 
    ⟨pg_Cell, hd_Cell, po_Cell, sa_Cell⟩, 
    PySem.W.mg_of X G a_Cell, 
    ⟨mk_Cell, a3, i3, kc_Cell⟩, 
    ⟨a19, i19, k19⟩, 
    ⟨a23, i23, k23⟩, 
    n_Cell_table, 
    n_Cell_spots, 
    ⟨pg_Joined, hd_Joined, po_Joined, sa_Joined⟩, 
    PySem.W.mg_of X G a_Joined, 
    ⟨mk_Joined, a4, i4, kc_Joined⟩, 
    ⟨a20, i20, k20⟩, 
    ⟨a24, i24, k24⟩, 
    n_Joined_sign, 
    n_Joined_left, 
    n_Joined_right, 
    fun H x dx fs e => .ins e ⟨pg_Number, hd_Number, po_Number, sa_Number⟩ ha_Number hn0 ht0 hm_Number, 
    is_Number_Term, 
    is_Number_Number, 
    is_Number_Value, 
    is_Number_Cell, 
    is_Number_Joined, 
    fun H x dx fs e => .ins e ⟨pg_Value, hd_Value, po_Value, sa_Value⟩ ha_Value hn0 ht0 hm_Value, 
    is_Value_Term, 
    is_Value_Number, 
    is_Value_Value, 
    is_Value_Cell, 
    is_Value_Joined, 
    fun H x dx fs e => .ins e ⟨pg_Cell, hd_Cell, po_Cell, sa_Cell⟩ ha_Cell hn0 ht0 hm_Cell, 
    is_Cell_Term, 
    is_Cell_Number, 
    is_Cell_Value, 
    is_Cell_Cell, 
    is_Cell_Joined, 
    fun H x dx fs e => .ins e ⟨pg_Joined, hd_Joined, po_Joined, sa_Joined⟩ ha_Joined hn0 ht0 hm_Joined, 
    is_Joined_Term, 
    is_Joined_Number, 
    is_Joined_Value, 
    is_Joined_Cell, 
    is_Joined_Joined, 
    PySem.W.mg_none_of X G z_abs, 
    PySem.W.mg_none_of X G z_bool, 
    PySem.W.mg_none_of X G z_dict, 
    PySem.W.mg_none_of X G z_int, 
    PySem.W.mg_none_of X G z_isinstance, 
    PySem.W.mg_none_of X G z_len, 
    PySem.W.mg_none_of X G z_list, 
    PySem.W.mg_none_of X G z_ord, 
    PySem.W.mg_none_of X G z_range, 
    PySem.W.mg_none_of X G z_str, 
    PySem.W.mg_none_of X G z_tuple, 
    PySem.W.mg_none_of X G z_zip, 
    a27, 
    tab_mk a27 l27 rfl l_tab qvt_tab, 
    hasNo_of qnt_tab⟩, rfl, fun s v => .of_eq rfl⟩
end Fw
open PySem PySem.W PyProof.Rows
set_option maxRecDepth 100000 in
set_option maxHeartbeats 0 in
theorem PySem.Challenge.cw_furrow_k13_cells_from_left_to_right_holds : PySem.Challenge.rw_furrow_k13_cells_from_left_to_right.Holds := by
  w_on; o_law; k_head; (case hw => w_witness2)
  k_fill
  refine L2.law_walkT (l := PySem.Challenge.rw_furrow_k13_cells_from_left_to_right) (x := "_law_script") 50 (by decide) rfl rfl rfl (fun w h Y => PySem.W.km_in_of Y) ?F
  case F =>
    intro w mg fa h KX G hmg
    suffices hh : ∃ a : Fw.Ad, Fw.Tx _ mg a ∧ fa = a.f_law ∧ (∀ (s : Shared) (v : Value), BindsTo s a.d_law ⟨[v], []⟩ [("_law_script", v)]) by
      obtain ⟨a, T, e, b⟩ := hh
      subst e
      exact ⟨a.d_law, a.c_tab, a.p_tab, T.tb, T.np, b, fun base _ _ LT => Fw.ok_law T LT⟩
    refine' Fw.txt_mk KX G hmg ?a_Term ?a_Number ?a_Value ?a_Cell ?a_Joined ?a1 ?i1 ?l1 ?c1 ?k1 ?a2 ?i2 ?l2 ?c2 ?k2 ?a3 ?i3 ?l3 ?c3 ?k3 ?a4 ?i4 ?l4 ?c4 ?k4 ?a5 ?l5 ?c5 ?k5 ?a6 ?l6 ?c6 ?k6 ?a7 ?l7 ?c7 ?k7 ?a8 ?l8 ?c8 ?k8 ?a9 ?l9 ?c9 ?k9 ?a10 ?l10 ?c10 ?k10 ?a11 ?l11 ?c11 ?k11 ?a12 ?l12 ?c12 ?k12 ?a13 ?l13 ?c13 ?k13 ?a14 ?l14 ?c14 ?k14 ?a15 ?l15 ?c15 ?k15 ?a16 ?l16 ?c16 ?k16 ?a17 ?i17 ?l17 ?c17 ?k17 ?a18 ?i18 ?l18 ?c18 ?k18 ?a19 ?i19 ?l19 ?c19 ?k19 ?a20 ?i20 ?l20 ?c20 ?k20 ?a21 ?i21 ?l21 ?c21 ?k21 ?a22 ?i22 ?l22 ?c22 ?k22 ?a23 ?i23 ?l23 ?c23 ?k23 ?a24 ?i24 ?l24 ?c24 ?k24 ?a25 ?l25 ?c25 ?k25 ?a26 ?l26 ?c26 ?k26 ?a27 ?l27 ?c27 ?k27 ?pg_Term ?hd_Term ?po_Term ?sa_Term ?mk_Term ?kc_Term ?pg_Number ?hd_Number ?po_Number ?sa_Number ?mk_Number ?kc_Number ?n_Number_n ?pg_Value ?hd_Value ?po_Value ?sa_Value ?mk_Value ?kc_Value ?n_Value_name ?pg_Cell ?hd_Cell ?po_Cell ?sa_Cell ?mk_Cell ?kc_Cell ?n_Cell_table ?n_Cell_spots ?pg_Joined ?hd_Joined ?po_Joined ?sa_Joined ?mk_Joined ?kc_Joined ?n_Joined_sign ?n_Joined_left ?n_Joined_right ?hn0 ?ht0 ?ha_Number ?hm_Number ?is_Number_Term ?is_Number_Number ?is_Number_Value ?is_Number_Cell ?is_Number_Joined ?ha_Value ?hm_Value ?is_Value_Term ?is_Value_Number ?is_Value_Value ?is_Value_Cell ?is_Value_Joined ?ha_Cell ?hm_Cell ?is_Cell_Term ?is_Cell_Number ?is_Cell_Value ?is_Cell_Cell ?is_Cell_Joined ?ha_Joined ?hm_Joined ?is_Joined_Term ?is_Joined_Number ?is_Joined_Value ?is_Joined_Cell ?is_Joined_Joined ?z_abs ?z_bool ?z_dict ?z_int ?z_isinstance ?z_len ?z_list ?z_ord ?z_range ?z_str ?z_tuple ?z_zip ?l_tab ?qvt_tab ?qnt_tab
    (case a_Term => k_is)
    (case a_Number => k_is)
    (case a_Value => k_is)
    (case a_Cell => k_is)
    (case a_Joined => k_is)
    (case a1 => k_is)
    (case i1 => k_is)
    (case l1 => k_is)
    (case c1 => k_is)
    (case k1 => k_is)
    (case a2 => k_is)
    (case i2 => k_is)
    (case l2 => k_is)
    (case c2 => k_is)
    (case k2 => k_is)
    (case a3 => k_is)
    (case i3 => k_is)
    (case l3 => k_is)
    (case c3 => k_is)
    (case k3 => k_is)
    (case a4 => k_is)
    (case i4 => k_is)
    (case l4 => k_is)
    (case c4 => k_is)
    (case k4 => k_is)
    (case a5 => k_is)
    (case l5 => k_is)
    (case c5 => k_is)
    (case k5 => k_is)
    (case a6 => k_is)
    (case l6 => k_is)
    (case c6 => k_is)
    (case k6 => k_is)
    (case a7 => k_is)
    (case l7 => k_is)
    (case c7 => k_is)
    (case k7 => k_is)
    (case a8 => k_is)
    (case l8 => k_is)
    (case c8 => k_is)
    (case k8 => k_is)
    (case a9 => k_is)
    (case l9 => k_is)
    (case c9 => k_is)
    (case k9 => k_is)
    (case a10 => k_is)
    (case l10 => k_is)
    (case c10 => k_is)
    (case k10 => k_is)
    (case a11 => k_is)
    (case l11 => k_is)
    (case c11 => k_is)
    (case k11 => k_is)
    (case a12 => k_is)
    (case l12 => k_is)
    (case c12 => k_is)
    (case k12 => k_is)
    (case a13 => k_is)
    (case l13 => k_is)
    (case c13 => k_is)
    (case k13 => k_is)
    (case a14 => k_is)
    (case l14 => k_is)
    (case c14 => k_is)
    (case k14 => k_is)
    (case a15 => k_is)
    (case l15 => k_is)
    (case c15 => k_is)
    (case k15 => k_is)
    (case a16 => k_is)
    (case l16 => k_is)
    (case c16 => k_is)
    (case k16 => k_is)
    (case a17 => k_is)
    (case i17 => k_is)
    (case l17 => k_is)
    (case c17 => k_is)
    (case k17 => k_is)
    (case a18 => k_is)
    (case i18 => k_is)
    (case l18 => k_is)
    (case c18 => k_is)
    (case k18 => k_is)
    (case a19 => k_is)
    (case i19 => k_is)
    (case l19 => k_is)
    (case c19 => k_is)
    (case k19 => k_is)
    (case a20 => k_is)
    (case i20 => k_is)
    (case l20 => k_is)
    (case c20 => k_is)
    (case k20 => k_is)
    (case a21 => k_is)
    (case i21 => k_is)
    (case l21 => k_is)
    (case c21 => k_is)
    (case k21 => k_is)
    (case a22 => k_is)
    (case i22 => k_is)
    (case l22 => k_is)
    (case c22 => k_is)
    (case k22 => k_is)
    (case a23 => k_is)
    (case i23 => k_is)
    (case l23 => k_is)
    (case c23 => k_is)
    (case k23 => k_is)
    (case a24 => k_is)
    (case i24 => k_is)
    (case l24 => k_is)
    (case c24 => k_is)
    (case k24 => k_is)
    (case a25 => k_is)
    (case l25 => k_is)
    (case c25 => k_is)
    (case k25 => k_is)
    (case a26 => k_is)
    (case l26 => k_is)
    (case c26 => k_is)
    (case k26 => k_is)
    (case a27 => k_is)
    (case l27 => k_is)
    (case c27 => k_is)
    (case k27 => k_is)
    (case pg_Term => k_is)
    (case hd_Term => k_is)
    (case po_Term => k_is)
    (case sa_Term => k_is)
    (case mk_Term => k_is)
    (case kc_Term => k_is)
    (case pg_Number => k_is)
    (case hd_Number => k_is)
    (case po_Number => k_is)
    (case sa_Number => k_is)
    (case mk_Number => k_is)
    (case kc_Number => k_is)
    (case n_Number_n => k_is)
    (case pg_Value => k_is)
    (case hd_Value => k_is)
    (case po_Value => k_is)
    (case sa_Value => k_is)
    (case mk_Value => k_is)
    (case kc_Value => k_is)
    (case n_Value_name => k_is)
    (case pg_Cell => k_is)
    (case hd_Cell => k_is)
    (case po_Cell => k_is)
    (case sa_Cell => k_is)
    (case mk_Cell => k_is)
    (case kc_Cell => k_is)
    (case n_Cell_table => k_is)
    (case n_Cell_spots => k_is)
    (case pg_Joined => k_is)
    (case hd_Joined => k_is)
    (case po_Joined => k_is)
    (case sa_Joined => k_is)
    (case mk_Joined => k_is)
    (case kc_Joined => k_is)
    (case n_Joined_sign => k_is)
    (case n_Joined_left => k_is)
    (case n_Joined_right => k_is)
    (case hn0 => k_is)
    (case ht0 => k_is)
    (case ha_Number => k_is)
    (case hm_Number => k_is)
    (case is_Number_Term => kit_is)
    (case is_Number_Number => kit_is)
    (case is_Number_Value => kit_is)
    (case is_Number_Cell => kit_is)
    (case is_Number_Joined => kit_is)
    (case ha_Value => k_is)
    (case hm_Value => k_is)
    (case is_Value_Term => kit_is)
    (case is_Value_Number => kit_is)
    (case is_Value_Value => kit_is)
    (case is_Value_Cell => kit_is)
    (case is_Value_Joined => kit_is)
    (case ha_Cell => k_is)
    (case hm_Cell => k_is)
    (case is_Cell_Term => kit_is)
    (case is_Cell_Number => kit_is)
    (case is_Cell_Value => kit_is)
    (case is_Cell_Cell => kit_is)
    (case is_Cell_Joined => kit_is)
    (case ha_Joined => k_is)
    (case hm_Joined => k_is)
    (case is_Joined_Term => kit_is)
    (case is_Joined_Number => kit_is)
    (case is_Joined_Value => kit_is)
    (case is_Joined_Cell => kit_is)
    (case is_Joined_Joined => kit_is)
    (case z_abs => k_is)
    (case z_bool => k_is)
    (case z_dict => k_is)
    (case z_int => k_is)
    (case z_isinstance => k_is)
    (case z_len => k_is)
    (case z_list => k_is)
    (case z_ord => k_is)
    (case z_range => k_is)
    (case z_str => k_is)
    (case z_tuple => k_is)
    (case z_zip => k_is)
    (case l_tab => k_is)
    (case qvt_tab => exact rfl)
    (case qnt_tab => kernel_rfl)
#print axioms PySem.Challenge.cw_furrow_k13_cells_from_left_to_right_holds
