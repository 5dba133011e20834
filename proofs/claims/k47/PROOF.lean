import PyProof.Rows.All
import Wide.All
import OpenK.AllK
import Wide.FinOn
import Lean
import PyProof.EqAt
import PyProof.EqKinds
import PyProof.TupleCall
import PyProof.ListMulRoad
import KE.KNest
import KE.KLam
import KE.KSortKey
import PyProof.ListRange
import PyProof.TupleOfSeq
import KE.KRevIter
import KE.KSortTup
import PySem.Challenge.RW_furrow_k47_long_rings
set_option Elab.async false
set_option linter.all false
set_option maxRecDepth 100000
set_option maxHeartbeats 4000000
namespace EX
open PySem PySem.Spec PyProof.Rows

section
variable {M : Model} {A : Around} {E : Value → Shared → Prop} {s : Shared}

end
end EX

set_option Elab.async false
set_option linter.all false
set_option maxRecDepth 100000
set_option maxHeartbeats 4000000
namespace EX
open PySem PySem.Spec PyProof.Rows

section
variable {M : Model} {A : Around} {E : Value → Shared → Prop} {s : Shared} {env : Env}

end
end EX

set_option Elab.async false
set_option linter.all false
set_option maxRecDepth 100000
set_option maxHeartbeats 4000000
namespace EX
open PySem PySem.Spec PySem.Calls PyProof.Rows

section
variable {prog : Program} {w : World} {A : Around} {h : Heap} {g : Array GenState} {d : Drawn} {t : Nat} {os : OsState} {R : Result → Shared → Prop}
variable {nm q : Str} {C N : Addr} {bs bm bmB : List Value} {hdct : Bool} {sn : List Str} {sub : List Value} {ab : Bool} {col : Option Bool} {dd : Option Addr} {k0 k1 k2 k3 k5 : Option Value} {B newId initId : String}

end
end EX

set_option Elab.async false
set_option linter.all false
set_option maxRecDepth 100000
set_option maxHeartbeats 4000000
namespace EX
open PySem PySem.Spec PySem.Calls PyProof.Rows PySem.W PySem.Builtin PySem.Builtin.ObjectAttr

section
variable {prog : Program} {w : World} {A : Around} {E : Value → Shared → Prop} {s : Shared} {K : Frag} {x C : Addr} {ox : Obj} {od : Option Obj} {name : Str} {expr : Bool}

end
end EX

set_option Elab.async false
set_option linter.all false
set_option maxRecDepth 100000
set_option maxHeartbeats 4000000
namespace EX
open PySem PySem.Spec PySem.Calls PyProof.Rows PySem.W PySem.Builtin PySem.Builtin.ObjectAttr

section
variable {prog : Program} {w : World} {A : Around} {E : Value → Shared → Prop} {s : Shared} {K : Frag} {x C : Addr} {ox : Obj} {od : Option Obj}

end
end EX

set_option Elab.async false
set_option linter.all false
set_option maxRecDepth 100000
namespace L2
open PySem PySem.Spec PyProof.Rows

noncomputable abbrev Key := Sum Int Str
noncomputable def keyIs : Key → Value → Bool
  | .inl k, v => Value.isInt k v
  | .inr x, v => Value.isStrOf x v
noncomputable def keyH (w : World) : Key → Int
  | .inl k => hashInt k
  | .inr x => hashStr w x
theorem keyIs_shape : ∀ {k : Key} {v : Value}, keyIs k v = true → (∃ i t, k = Sum.inl i ∧ v = Value.int i t) ∨ (∃ x t, k = Sum.inr x ∧ v = Value.str x t)
  | .inl i, v, h => by
    obtain ⟨t, e⟩ := Value.isInt_shape (k := i) (v := v) h
    exact .inl ⟨i, t, rfl, e⟩
  | .inr x, v, h => by
    obtain ⟨t, e⟩ := Value.isStrOf_shape (x := x) (v := v) h
    exact .inr ⟨x, t, rfl, e⟩
theorem keyIs_int (i : Int) (t : Tok) : keyIs (.inl i) (.int i t) = true := by simp [keyIs, Value.isInt]
theorem keyIs_str (x : Str) (t : Tok) : keyIs (.inr x) (.str x t) = true := by simp [keyIs, Value.isStrOf]
theorem key_ll (a b : Int) : decide ((Sum.inl a : Key) = Sum.inl b) = (a == b) := by
  by_cases e : a = b
  · subst e; simp
  · have h : ¬ (Sum.inl a : Key) = Sum.inl b := fun q => e (Sum.inl.inj q)
    rw [decide_eq_false h]
    exact (beq_eq_false_iff_ne.mpr e).symm
theorem key_rr (a b : Str) : decide ((Sum.inr a : Key) = Sum.inr b) = decide (a = b) := by
  by_cases e : a = b
  · subst e; simp
  · have h : ¬ (Sum.inr a : Key) = Sum.inr b := fun q => e (Sum.inr.inj q)
    rw [decide_eq_false h, decide_eq_false e]
theorem key_lr (a : Int) (b : Str) : decide ((Sum.inl a : Key) = Sum.inr b) = false := decide_eq_false (fun q => nomatch q)
theorem key_rl (a : Str) (b : Int) : decide ((Sum.inr a : Key) = Sum.inl b) = false := decide_eq_false (fun q => nomatch q)

noncomputable def mixKind (prog : Program) (w : World) : PySem.KeyKind prog w Key where
  is := keyIs
  hash := keyH w
  inj := fun v a b ha hb => by
    rcases keyIs_shape ha with ⟨i, t, rfl, rfl⟩ | ⟨x, t, rfl, rfl⟩
    · rcases keyIs_shape hb with ⟨j, u, rfl, e⟩ | ⟨y, u, rfl, e⟩
      · injection e with e1 _; rw [e1]
      · exact nomatch e
    · rcases keyIs_shape hb with ⟨j, u, rfl, e⟩ | ⟨y, u, rfl, e⟩
      · exact nomatch e
      · injection e with e1 _; rw [e1]
  byValue := fun k v h => by
    rcases keyIs_shape h with ⟨i, t, rfl, rfl⟩ | ⟨x, t, rfl, rfl⟩ <;> rfl
  pyHash := fun hv h => by
    rcases keyIs_shape hv with ⟨i, t, rfl, rfl⟩ | ⟨x, t, rfl, rfl⟩
    · exact wpAny_pyHash_int h
    · exact wpAny_pyHash_str h
  eqBool := fun hu hv h => by
    rcases keyIs_shape hu with ⟨i, t, rfl, rfl⟩ | ⟨x, t, rfl, rfl⟩
    · rcases keyIs_shape hv with ⟨j, u, rfl, rfl⟩ | ⟨y, u, rfl, rfl⟩
      · rw [key_ll] at h; exact wpAny_eqBool_int h
      · rw [key_lr] at h; exact SeqAt.EqAt.int_str i t y u _ _ _ _ h
    · rcases keyIs_shape hv with ⟨j, u, rfl, rfl⟩ | ⟨y, u, rfl, rfl⟩
      · rw [key_rl] at h; exact SeqAt.EqAt.str_int x t j u _ _ _ _ h
      · rw [key_rr] at h; exact wpAny_eqBool_str h
  «strs» := fun k x t v h => by
    rcases keyIs_shape h with ⟨i, u, rfl, e⟩ | ⟨y, u, rfl, e⟩
    · exact nomatch e
    · injection e with e1 _
      subst e1
      cases v <;> rfl

theorem mixKind_int (prog : Program) (w : World) (i : Int) (t : Tok) : (mixKind prog w).is (.inl i) (.int i t) = true := keyIs_int i t
theorem mixKind_str (prog : Program) (w : World) (x : Str) (t : Tok) : (mixKind prog w).is (.inr x) (.str x t) = true := keyIs_str x t
end L2

namespace L2
open PySem PySem.Spec PyProof.Rows

inductive V where
  | non | bl (b : Bool) | int (i : Int) | str (x : Str) | byt (b : Array UInt8) | flt (b : UInt64) | ref (a : Addr) | ty (n : String)
  deriving DecidableEq

noncomputable def RelV : V → Value → Prop
  | .non, u => u = Value.none
  | .bl b, u => u = Value.bool b
  | .int i, u => ∃ t, u = Value.int i t
  | .str x, u => ∃ t, u = Value.str x t
  | .byt b, u => ∃ t, u = Value.bytes b t
  | .flt b, u => ∃ t, u = Value.float b t
  | .ref a, u => u = Value.ref a
  | .ty n, u => u = Value.type n

noncomputable abbrev Vals : List V → List Value → Prop := Paired RelV
theorem Vals.length {xs : List V} {us : List Value} (r : Vals xs us) : xs.length = us.length := Paired.length r
theorem Vals.get : ∀ {xs : List V} {us : List Value} {i : Nat} {x : V}, Vals xs us → xs[i]? = some x → ∃ u, us[i]? = some u ∧ RelV x u
  | _, _, _, _, .nil, e => by simp at e
  | _, _, 0, _, .cons r _, e => by simp at e; subst e; exact ⟨_, rfl, r⟩
  | _, _, i + 1, x, .cons _ t, e => by
    obtain ⟨u, h1, h2⟩ := Vals.get (i := i) (x := x) t (by simpa using e)
    exact ⟨u, by simpa using h1, h2⟩
theorem Vals.set {x : V} {u : Value} (r : RelV x u) : ∀ {xs : List V} {us : List Value} (i : Nat), Vals xs us → Vals (xs.set i x) (us.set i u)
  | _, _, _, .nil => .nil
  | _, _, 0, .cons _ t => .cons r t
  | _, _, i + 1, .cons q t => .cons q (Vals.set r i t)
theorem Vals.append : ∀ {xs ys : List V} {us ws : List Value}, Vals xs us → Vals ys ws → Vals (xs ++ ys) (us ++ ws)
  | _, _, _, _, .nil, s => s
  | _, _, _, _, .cons r t, s => .cons r (Vals.append t s)
theorem Vals.take : ∀ {xs : List V} {us : List Value} (n : Nat), Vals xs us → Vals (xs.take n) (us.take n)
  | _, _, 0, _ => .nil
  | _, _, _ + 1, .nil => .nil
  | _, _, n + 1, .cons r t => .cons r (Vals.take n t)
theorem Vals.drop : ∀ {xs : List V} {us : List Value} (n : Nat), Vals xs us → Vals (xs.drop n) (us.drop n)
  | _, _, 0, r => r
  | _, _, _ + 1, .nil => .nil
  | _, _, n + 1, .cons _ t => Vals.drop n t
noncomputable def RelO : Option V → Option Value → Prop
  | some v, some u => RelV v u
  | none, none => True
  | _, _ => False
noncomputable def KV {κ : Type} : List (κ × V) → List (κ × Value) → Prop := Paired fun (p : κ × V) (q : κ × Value) => p.1 = q.1 ∧ RelV p.2 q.2

noncomputable def kV : Key → V
  | .inl i => .int i
  | .inr x => .str x

inductive HO where
  /-- a list -/
  | lst (xs : List V)
  /-- a tuple (never changes) -/
  | tup (xs : List V)
  /-- a dict whose keys are ints and texts; one whose keys are tuples of ints and texts (the empty one is both) -/
  | dK (kvs : List (Key × V)) | dT (kvs : List (List Key × V))
  /-- a set of ints: its members, its size -/
  | set (S : Int → Bool) (n : Nat)
  /-- an instance of the class at C, its dict at dx, its attributes -/
  | ins (C dx : Addr) (fs : List (Str × V))
  /-- the dict of the instance at x -/
  | own (x : Addr)
  /-- the dict of an exception -/
  | xd (fs : List (Str × V))
  /-- a bound method, f of x -/
  | met (f x : Addr)
  /-- a range object lo, lo + 1, .. below hi -/
  | rng (lo hi : Int)
  /-- a thing that is known to the object (the script; a dict while a loop walks it): read, never written while it is so -/
  | frz (o : Obj) (u : HO)
  /-- a code object's table -/
  | tbl (ps : Array Value)
  /-- any other thing, by what is true of its one object (a def of one's own: SetO a S n := HO.ext fun h => ..) -/
  | ext (φ : Heap → Prop)

noncomputable abbrev Hp := Addr → Option HO
noncomputable def upd (H : Hp) (a : Addr) (o : HO) : Hp := fun b => if b = a then some o else H b
theorem upd_same {H : Hp} {a : Addr} {o : HO} : upd H a o a = some o := by unfold upd; rw [if_pos rfl]
theorem upd_ne {H : Hp} {a b : Addr} {o : HO} (h : b ≠ a) : upd H a o b = H b := by unfold upd; rw [if_neg h]
theorem ne_of {H : Hp} {a b : Addr} {o u : HO} (h : H a = some o) (h' : H b = some u) (d : o ≠ u) : a ≠ b := by
  intro e; subst e; rw [h] at h'; exact d (Option.some.inj h')
theorem ne_of_none {H : Hp} {a b : Addr} {o : HO} (h : H a = some o) (h' : H b = none) : a ≠ b := by
  intro e; subst e; rw [h] at h'; cases h'

section
variable (P : Program) (w : World)
noncomputable def IsTupN (h : Heap) (a : Addr) (its : Array Value) : Prop := ∃ o, h.get? a = some o ∧ o.cls = .type "tuple" ∧ (∃ n, o.data = .seq its n) ∧ o.dict = none
theorem IsTupN.tup {h : Heap} {a : Addr} {its : Array Value} (x : IsTupN h a its) : IsTup h a its := let ⟨o, e, c, d, _⟩ := x; ⟨o, e, c, d⟩
theorem IsTupN.new (h : Heap) (its : Array Value) : IsTupN (h.push { cls := .type "tuple", data := .seq its }) h.objs.size its := ⟨_, Heap.get?_push_size _ rfl, rfl, ⟨_, rfl⟩, rfl⟩
noncomputable def ObjOk (H : Hp) (h : Heap) (a : Addr) : HO → Prop
  | .lst xs => xs.length ≤ sizeLine ∧ ∃ (its : List Value) (n : Nat), Vals xs its ∧ h.get? a = some { cls := .type "list", data := .seq its.toArray n }
  | .tup xs => xs.length ≤ sizeLine ∧ ∃ its : List Value, Vals xs its ∧ IsTupN h a its.toArray
  | .dK kvs => kvs.length ≤ sizeLine ∧ (a == sysModules) = false ∧ ∃ vs, KV kvs vs ∧ h.DictOf (mixKind P w) a vs
  | .dT kvs => kvs.length ≤ sizeLine ∧ (a == sysModules) = false ∧ ∃ xs : List (List Key × Addr × Value),
      Paired (fun (p : List Key × V) (q : List Key × Addr × Value) => p.1 = q.1 ∧ H q.2.1 = some (.tup (p.1.map kV)) ∧ RelV p.2 q.2.2) kvs xs ∧
      ∃ o es ep, h.get? a = some o ∧ o.ExactDict ∧ o.data = .dict es ep ∧ es.toList = xs.map (entryOfKey (tupleKind (mixKind P w))) ∧ (xs.map (·.1)).Nodup
  | .set S n => h.SetOf (intKind P w) a S n
  | .ins C dx fs => H dx = some (.own a) ∧ fs.length ≤ 1000 ∧ dx ≠ a ∧ h.get? a = some (PySem.W.instObj C dx) ∧
      ∃ mA, h.Ns1 dx mA ∧ (∀ f, RelO (fs.lookup f) (mA f)) ∧ PySem.Within mA (fs.map (·.1))
  | .own _ => ∃ o, h.get? a = some o
  | .xd fs => ∃ mA, h.Ns1 a mA ∧ ∀ f, RelO (fs.lookup f) (mA f)
  | .rng lo hi => ∃ t u v, h.get? a = some { cls := .type "range", data := .fields #[.int lo t, .int hi u, .int 1 v] }
  | .frz o u => h.get? a = some o ∧ ObjOk H h a u
  | .tbl ps => h.get? a = some { cls := .none, data := .fields ps }
  | .met f x => h.get? a = some (PySem.W.methodObj (.ref f) (.ref x))
  | .ext φ => φ h ∧ (∃ o, h.get? a = some o) ∧ ∀ h1 h2 : Heap, φ h1 → (∀ o, h1.get? a = some o → h2.get? a = some o) → φ h2
noncomputable def HOk (H : Hp) (h : Heap) : Prop := ∀ a o, H a = some o → ObjOk P w H h a o
end

section
variable {P : Program} {w : World} {H H' : Hp} {h h' : Heap} {a : Addr} {o : HO}
theorem ObjOk.lt (x : ObjOk P w H h a o) : a < h.objs.size := by
  cases o with
  | lst xs => obtain ⟨_, _, _, _, e⟩ := x; exact Heap.lt_size e
  | tup xs => obtain ⟨_, _, _, p⟩ := x; exact p.tup.lt
  | dK kvs => obtain ⟨_, _, _, _, o, _, _, e, _⟩ := x; exact Heap.lt_size e
  | dT kvs => obtain ⟨_, _, _, _, o, _, _, e, _⟩ := x; exact Heap.lt_size e
  | set S n => obtain ⟨o, _, _, _, e, _⟩ := x; exact Heap.lt_size e
  | ins C dx fs => obtain ⟨_, _, _, e, _⟩ := x; exact Heap.lt_size e
  | own y => obtain ⟨_, e⟩ := x; exact Heap.lt_size e
  | xd fs => obtain ⟨_, ⟨_, _, _, e, _⟩, _⟩ := x; exact Heap.lt_size e
  | rng lo hi => obtain ⟨_, _, _, e⟩ := x; exact Heap.lt_size e
  | frz ob u => obtain ⟨e, _⟩ := x; exact Heap.lt_size e
  | tbl ps => exact Heap.lt_size (show h.get? a = some _ from x)
  | met f y => exact Heap.lt_size (show h.get? a = some _ from x)
  | ext φ => obtain ⟨_, ⟨_, e⟩, _⟩ := x; exact Heap.lt_size e
theorem Paired.mapP {α β : Type} {F G : α → β → Prop} : ∀ {l₁ : List α} {l₂ : List β}, Paired F l₁ l₂ → (∀ a b, F a b → G a b) → Paired G l₁ l₂
  | _, _, .nil, _ => .nil
  | _, _, .cons r t, f => .cons (f _ _ r) (Paired.mapP t f)
theorem ObjOk.stay (x : ObjOk P w H h a o) (k : ∀ b u, (b = a ∨ H b = some (.own a)) → h.get? b = some u → h'.get? b = some u)
    (ho : ∀ b, H b = some (.own a) → H' b = some (.own a)) (ht : ∀ b xs, H b = some (.tup xs) → H' b = some (.tup xs)) : ObjOk P w H' h' a o := by
  induction o with
  | lst xs => obtain ⟨z, its, n, r, e⟩ := x; exact ⟨z, its, n, r, k _ _ (.inl rfl) e⟩
  | tup xs => obtain ⟨z, its, r, ob, e, c⟩ := x; exact ⟨z, its, r, ob, k _ _ (.inl rfl) e, c⟩
  | dK kvs => obtain ⟨z, y, vs, r, ob, es, ep, e, c⟩ := x; exact ⟨z, y, vs, r, ob, es, ep, k _ _ (.inl rfl) e, c⟩
  | dT kvs =>
    obtain ⟨z, y, xs, r, ob, es, ep, e, c⟩ := x
    exact ⟨z, y, xs, Paired.mapP r fun p q z => ⟨z.1, ht _ _ z.2.1, z.2.2⟩, ob, es, ep, k _ _ (.inl rfl) e, c⟩
  | set S n => obtain ⟨ob, es, ep, t, e, c⟩ := x; exact ⟨ob, es, ep, t, k _ _ (.inl rfl) e, c⟩
  | ins C dx fs =>
    obtain ⟨d, z, ne, e, mA, ⟨od, es, ep, e2, c⟩, r⟩ := x
    exact ⟨ho _ d, z, ne, k _ _ (.inl rfl) e, mA, ⟨od, es, ep, k _ _ (.inr d) e2, c⟩, r⟩
  | own y => obtain ⟨ob, e⟩ := x; exact ⟨ob, k _ _ (.inl rfl) e⟩
  | xd fs => obtain ⟨mA, ⟨od, es, ep, e, c⟩, r⟩ := x; exact ⟨mA, ⟨od, es, ep, k _ _ (.inl rfl) e, c⟩, r⟩
  | rng lo hi => obtain ⟨t, u, v, e⟩ := x; exact ⟨t, u, v, k _ _ (.inl rfl) e⟩
  | frz ob u ih => obtain ⟨e, q⟩ := x; exact ⟨k _ _ (.inl rfl) e, ih q⟩
  | tbl ps =>
    have e : h.get? a = some { cls := .none, data := .fields ps } := x
    show h'.get? a = some { cls := .none, data := .fields ps }
    exact k a _ (.inl rfl) e
  | met f y =>
    have e : h.get? a = some (PySem.W.methodObj (.ref f) (.ref y)) := x
    show h'.get? a = some (PySem.W.methodObj (.ref f) (.ref y))
    exact k a _ (.inl rfl) e
  | ext φ => obtain ⟨p, ⟨o, e⟩, st⟩ := x; exact ⟨st _ _ p fun o q => k _ _ (.inl rfl) q, ⟨o, k _ _ (.inl rfl) e⟩, st⟩
theorem HOk.lt (x : HOk P w H h) (e : H a = some o) : a < h.objs.size := (x a o e).lt
theorem HOk.fresh (x : HOk P w H h) (e : h.objs.size ≤ a) : H a = none := by
  cases q : H a with
  | none => rfl
  | some u => exact absurd (Nat.lt_of_lt_of_le (x.lt q) e) (Nat.lt_irrefl _)
theorem HOk.kept (x : HOk P w H h) (k : ∀ b u, h.get? b = some u → h'.get? b = some u) : HOk P w H h' := fun a o e =>
  (x a o e).stay (fun b u _ q => k b u q) (fun _ q => q) fun _ _ q => q
theorem HOk.laid (x : HOk P w H h) (k : ∀ b u, h.get? b = some u → h'.get? b = some u) (hp : h.objs.size ≤ a) (new : ObjOk P w (upd H a o) h' a o) : HOk P w (upd H a o) h' := fun b u e => by
  have hn := x.fresh hp
  by_cases hb : b = a
  · subst hb; rw [upd_same] at e; cases e; exact new
  · rw [upd_ne hb] at e
    exact (x b u e).stay (fun c v _ q => k c v q) (fun c q => by rw [upd_ne (ne_of_none q hn)]; exact q) fun c xs q => by rw [upd_ne (ne_of_none q hn)]; exact q
end

noncomputable def Rd (H : Hp) (a : Addr) (u : HO) : Prop := H a = some u ∨ ∃ o, H a = some (.frz o u)
theorem Rd.ok {P : Program} {w : World} {H : Hp} {h : Heap} {a : Addr} {u : HO} (r : Rd H a u) (x : HOk P w H h) : ObjOk P w H h a u := by
  rcases r with r | ⟨o, r⟩
  · exact x a u r
  · obtain ⟨_, q⟩ := x a _ r
    exact q
noncomputable def Mut : Option HO → Prop
  | some (.lst _) => True
  | some (.dK _) => True
  | some (.dT _) => True
  | some (.set _ _) => True
  | some (.ins _ _ _) => True
  | some (.ext _) => True
  | _ => False
section
variable {P : Program} {w : World} {H : Hp} {h h' : Heap} {x e : Addr} {o' : HO}
theorem HOk.write (ok : HOk P w H h) (mu : Mut (H x)) (he : e = x ∨ H e = some (.own x)) (k : ∀ b u, b ≠ e → h.get? b = some u → h'.get? b = some u) (heo : ∃ u, h'.get? e = some u)
    (new : ObjOk P w (upd H x o') h' x o') : HOk P w (upd H x o') h' := fun b u q => by
  have nown : ∀ c y, H c = some (.own y) → c ≠ x := fun c y r z => by subst z; rw [r] at mu; exact mu
  have ntup : ∀ c xs, H c = some (.tup xs) → c ≠ x := fun c xs r z => by subst z; rw [r] at mu; exact mu
  by_cases hb : b = x
  · subst hb; rw [upd_same] at q; cases q; exact new
  · rw [upd_ne hb] at q
    by_cases hbe : b = e
    · have q' : H b = some (.own x) := by
        rcases he with z | z
        · exact absurd (hbe.trans z) hb
        · rw [hbe]; exact z
      rw [q] at q'; cases q'
      obtain ⟨v, hv⟩ := heo
      exact ⟨v, by rw [hbe]; exact hv⟩
    · refine (ok b u q).stay (fun c v hc r => k c v ?_ r) (fun c r => by rw [upd_ne (nown c b r)]; exact r) fun c xs r => by rw [upd_ne (ntup c xs r)]; exact r
      rcases hc with rfl | hc
      · exact hbe
      · rintro rfl
        rcases he with z | z
        · exact nown c b hc z
        · rw [hc] at z; cases z; exact hb rfl
end

structure Un (fs ex : List Addr) (H H' : Hp) (h h' : Heap) : Prop where
  keep : ∀ b o, h.get? b = some o → H b = none → b ∉ fs → b ∉ ex → h'.get? b = some o
  slot : ∀ b o, h.get? b = some o → H b = none → b ∈ fs → b ∉ ex → ∃ sl, h'.get? b = some { o with slots := sl }
  free : ∀ b o, h.get? b = some o → H b = none → b ∉ ex → H' b = none
  there : ∀ b o, h.get? b = some o → b ∉ ex → ∃ o', h'.get? b = some o'
  tups : ∀ b xs, H b = some (.tup xs) → H' b = some (.tup xs)
  frzs : ∀ b o u, H b = some (.frz o u) → H' b = some (.frz o u)
  tbls : ∀ b ps, H b = some (.tbl ps) → ∃ more, H' b = some (.tbl (ps ++ more))
section
variable {fs fs' ex ex' : List Addr} {H H1 H2 : Hp} {h h1 h2 h' : Heap} {a x e : Addr} {o : HO}
theorem Un.any (u : Un fs ex H H1 h h1) {b : Addr} {ob : Obj} (q : h.get? b = some ob) (n : H b = none) (hx : b ∉ ex) : ∃ sl, h1.get? b = some { ob with slots := sl } := by
  by_cases hb : b ∈ fs
  · exact u.slot b ob q n hb hx
  · exact ⟨ob.slots, u.keep b ob q n hb hx⟩
theorem Un.kept (k : ∀ b u, h.get? b = some u → h'.get? b = some u) : Un fs ex H H h h' :=
  ⟨fun b ob q _ _ _ => k b ob q, fun b ob q _ _ _ => ⟨ob.slots, k b ob q⟩, fun _ _ _ n _ => n, fun b ob q _ => ⟨ob, k b ob q⟩, fun _ _ q => q, fun _ _ _ q => q, fun _ ps q => ⟨#[], by rw [q]; simp⟩⟩
theorem Un.refl : Un fs ex H H h h := Un.kept fun _ _ q => q
theorem Un.laid (k : ∀ b u, h.get? b = some u → h'.get? b = some u) (hp : h.objs.size ≤ a) (hn : H a = none) : Un fs ex H (upd H a o) h h' where
  keep := fun b u q _ _ _ => k b u q
  slot := fun b u q _ _ _ => ⟨u.slots, k b u q⟩
  free := fun b u q n _ => by rw [upd_ne (Nat.ne_of_lt (Nat.lt_of_lt_of_le (Heap.lt_size q) hp))]; exact n
  there := fun b u q _ => ⟨u, k b u q⟩
  tups := fun b xs q => by rw [upd_ne (ne_of_none q hn)]; exact q
  frzs := fun b u xs q => by rw [upd_ne (ne_of_none q hn)]; exact q
  tbls := fun b ps q => ⟨#[], by rw [upd_ne (ne_of_none q hn), q]; simp⟩
theorem Un.write (mu : Mut (H x)) (he : e = x ∨ H e = some (.own x)) (k : ∀ b u, b ≠ e → h.get? b = some u → h'.get? b = some u) (heo : ∃ u, h'.get? e = some u) : Un fs ex H (upd H x o) h h' := by
  have hx : ∀ b, H b = none → b ≠ x := fun b n z => by subst z; rw [n] at mu; exact mu
  have hb : ∀ b, H b = none → b ≠ e := fun b n z => by
    subst z
    rcases he with r | r
    · exact hx b n r
    · rw [n] at r; cases r
  have hm : ∀ b u, H b = some u → ¬ Mut (some u) → b ≠ x := fun b u q nm z => by subst z; rw [q] at mu; exact nm mu
  refine ⟨fun b u q n _ _ => k b u (hb b n) q, fun b u q n _ _ => ⟨u.slots, k b u (hb b n) q⟩, fun b u q n _ => by rw [upd_ne (hx b n)]; exact n, fun b u q _ => ?_,
    fun b xs q => by rw [upd_ne (hm b _ q fun z => z)]; exact q, fun b u xs q => by rw [upd_ne (hm b _ q fun z => z)]; exact q, fun b ps q => ⟨#[], by rw [upd_ne (hm b _ q fun z => z), q]; simp⟩⟩
  by_cases hbe : b = e
  · subst hbe; exact heo
  · exact ⟨u, k b u hbe q⟩
end

noncomputable def trk (h : Heap) (H : Hp) : List Addr := (List.range h.objs.size).filter fun a => (H a).isSome
noncomputable def hidT (h : Heap) (H : Hp) : Heap := PySem.W.hideAll h (trk h H)
theorem hidT_size (h : Heap) (H : Hp) : (hidT h H).objs.size = h.objs.size := PySem.W.hideAll_size _ _
theorem hidT_get {h : Heap} {H : Hp} {b : Addr} {o : Obj} (e : h.get? b = some o) (n : H b = none) : (hidT h H).get? b = some o :=
  PySem.W.hideAll_get _ e fun hm => by
    have q : (H b).isSome = true := (List.mem_filter.mp hm).2
    rw [n] at q; simp at q
theorem of_hidT {h : Heap} {H : Hp} {b : Addr} {o : Obj} (e : (hidT h H).get? b = some o) : h.get? b = some o ∧ H b = none := by
  have e' : h.get? b = some o := PySem.W.of_hideAll (trk h H) e
  refine ⟨e', ?_⟩
  cases q : H b with
  | none => rfl
  | some x =>
    have hm : b ∈ trk h H := List.mem_filter.mpr ⟨List.mem_range.mpr (Heap.lt_size e'), by simp [q]⟩
    have z : (hidT h H).get? b = none := PySem.W.hideAll_none (trk h H) hm
    rw [z] at e; cases e

end L2

namespace L2
open PySem PySem.Spec PyProof.Rows

structure Mod (K : PySem.W.Frag) (mg : Str → Option Value) (base : Heap) : Prop where
  kin : K.In base
  glob : base.Ns mainGlobals mg
  blt : ∃ mb, base.Ns builtinsNs mb ∧ ∀ x : Str, x ≠ "__name__" → mb x = bootBuiltins x
  nolimit : base.NoLimit

structure Cx where
  prog : Program
  w : World
  K : PySem.W.Frag
  mg : Str → Option Value
  base : Heap
  A : Around
  N : List Str
  s₀ : Shared
  H₀ : Hp
  env : Env
  outer : List Env
  stack : List Env
  ex : List Addr
  fn : Str → Bool
  calm : Bool
  pn : List (Addr × Obj)
  xe : Value → Shared → Prop
noncomputable def frs (l : List Env) : List Addr := l.filterMap (·.frame)
noncomputable abbrev Cx.fs (X : Cx) : List Addr := frs X.outer

noncomputable def Vis (sc : Scope) (x : Str) : Prop := sc.names.lookup x = some .local ∨ sc.names.lookup x = some .cell ∨ sc.names.lookup x = some .free
noncomputable def Loc (sc : Scope) (x : Str) : Prop := sc.names.lookup x = some .local ∨ sc.names.lookup x = some .cell
noncomputable def Look (env : Env) (h : Heap) (m : Str → Option Value) (x : Str) (u : Value) : Prop :=
  (env.kindOf x = some .local ∧ m x = some u) ∨ ((env.kindOf x = some .cell ∨ env.kindOf x = some .free) ∧ ∃ c, env.cells.lookup x = some c ∧ h.IsCell c (some u))

structure Cx.Ok (X : Cx) : Prop where
  mod : Mod X.K X.mg X.base
  kind : X.env.scope.kind = .function
  glob : X.env.globals = mainGlobals
  blt : X.env.builtins = builtinsNs
  above : X.s₀.heap.objs.size ≤ X.env.locals
  inj : ∀ x y c, X.env.cells.lookup x = some c → X.env.cells.lookup y = some c → x = y
  has : ∀ x, (X.env.kindOf x = some .cell ∨ X.env.kindOf x = some .free) → ∃ c, X.env.cells.lookup x = some c
  cab : ∀ x c, X.fn x = true → X.env.cells.lookup x = some c → X.s₀.heap.objs.size ≤ c
  hd : X.calm = true → X.A.handled = none
  frames : X.A.frames = some X.stack
  stk : X.stack = X.outer ∨ (X.stack = X.env :: X.outer ∧ X.env.frame = some X.env.locals)
  exf : ∀ b ∈ X.ex, b ≠ X.env.locals ∧ ∀ x c, X.env.cells.lookup x = some c → c ≠ b
  bs : ∀ b o, X.base.get? b = some o → X.s₀.heap.get? b = some o ∧ X.H₀ b = none
  bsz : X.base.objs.size ≤ X.s₀.heap.objs.size
  noex : ∀ b o, X.base.get? b = some o → b ∉ X.ex
  exfs : ∀ b ∈ X.ex, b ∉ X.fs
  funs : X.s₀.heap.FunFrames X.base X.outer
  frf : ∀ b ∈ X.fs, X.H₀ b = none

structure Inv (X : Cx) (pins : List (Addr × Obj)) (σ : List (Option V)) (H : Hp) (s : Shared) : Prop where
  ok : X.Ok
  os : s.os = X.s₀.os
  bare : AllBare s.gens
  base : Un X.fs X.ex X.H₀ H X.s₀.heap s.heap
  loc : ∃ m, s.heap.Ns X.env.locals m ∧ ∀ (i : Nat) (x : Str) (v : V), X.N[i]? = some x → σ[i]? = some (some v) → Vis X.env.scope x → ∃ u, RelV v u ∧ Look X.env s.heap m x u
  cell : ∀ x c, X.env.cells.lookup x = some c → ∃ v, s.heap.IsCell c v
  free : H X.env.locals = none
  freeC : ∀ x c, X.env.cells.lookup x = some c → H c = none
  pin : ∀ p ∈ X.pn ++ pins, s.heap.get? p.1 = some p.2 ∧ H p.1 = none ∧ p.1 ≠ X.env.locals ∧ p.1 ∉ X.fs ∧ ∀ v, p.2.data ≠ .cell v
  hok : HOk X.prog X.w H s.heap
  len : σ.length = X.N.length

section
variable {X : Cx} {pins : List (Addr × Obj)} {σ : List (Option V)} {H H' : Hp} {s : Shared} {h' : Heap}

theorem Cx.Ok.nofr (ok : X.Ok) {b : Addr} {o : Obj} (e : X.base.get? b = some o) : b ∉ X.fs := fun hb => by
  have := (ok.funs.mem hb).1
  rw [e] at this; cases this
theorem Inv.bs (I : Inv X pins σ H s) : ∀ b o, X.base.get? b = some o → s.heap.get? b = some o ∧ H b = none := fun b o e =>
  ⟨I.base.keep b o (I.ok.bs b o e).1 (I.ok.bs b o e).2 (I.ok.nofr e) (I.ok.noex b o e), I.base.free b o (I.ok.bs b o e).1 (I.ok.bs b o e).2 (I.ok.noex b o e)⟩
theorem Inv.bk (I : Inv X pins σ H s) : ∀ b o, X.base.get? b = some o → s.heap.get? b = some o := fun b o e => (I.bs b o e).1
theorem Inv.mod (I : Inv X pins σ H s) : Mod X.K X.mg X.base := I.ok.mod
theorem Inv.kIn (I : Inv X pins σ H s) : X.K.In s.heap := I.ok.mod.kin.keeps I.bk
theorem Inv.lt (I : Inv X pins σ H s) : X.env.locals < s.heap.objs.size := let ⟨_, hn, _⟩ := I.loc; hn.lt
theorem Inv.sz (I : Inv X pins σ H s) : X.s₀.heap.objs.size ≤ s.heap.objs.size := Nat.le_trans I.ok.above (Nat.le_of_lt I.lt)
theorem Inv.nofs (I : Inv X pins σ H s) {a : Addr} (h : s.heap.objs.size ≤ a) : a ∉ X.fs := fun hb => by
  obtain ⟨_, o, ho, _⟩ := I.ok.funs.mem hb
  exact absurd (Nat.lt_of_lt_of_le (Heap.lt_size ho) (Nat.le_trans I.sz h)) (Nat.lt_irrefl _)
theorem Inv.cne (I : Inv X pins σ H s) : ∀ x c, X.env.cells.lookup x = some c → c ≠ X.env.locals := fun x c e z => by
  obtain ⟨v, o, ho, hd⟩ := I.cell x c e
  obtain ⟨m, ⟨o', es, ep, ho', hd', _⟩, _⟩ := I.loc
  rw [z, ho'] at ho; cases ho; rw [hd'] at hd; cases hd
theorem Inv.funs (I : Inv X pins σ H s) : s.heap.FunFrames X.base X.outer := by
  have all : ∀ (l : List Env), (∀ b ∈ frs l, b ∈ X.fs) → X.s₀.heap.FunFrames X.base l → s.heap.FunFrames X.base l := by
    intro l
    induction l with
    | nil => intro _ _; trivial
    | cons env r ih =>
      intro hs hl
      obtain ⟨hk, ⟨L, o, hf, hn, ho, hd⟩, hr⟩ := hl
      have hL : L ∈ X.fs := hs L (by unfold frs; rw [List.filterMap_cons, hf]; exact List.mem_cons_self)
      obtain ⟨sl, e⟩ := I.base.slot L o ho (I.ok.frf L hL) hL fun z => I.ok.exfs L z hL
      exact ⟨hk, ⟨L, _, hf, hn, e, hd⟩, ih (fun b hb => hs b (by unfold frs; rw [List.filterMap_cons, hf]; exact List.mem_cons_of_mem _ hb)) hr⟩
  exact all X.outer (fun _ hb => hb) I.ok.funs

theorem Inv.stack (I : Inv X pins σ H s) : s.heap.FunFrames X.base X.stack := by
  rcases I.ok.stk with e | ⟨e, hf⟩
  · rw [e]; exact I.funs
  · rw [e]
    obtain ⟨m, hn, _⟩ := I.loc
    refine .cons (by rw [I.ok.kind]; decide) hf hn ?_ I.funs
    exact Heap.get?_none_of_le (Nat.le_trans I.ok.bsz I.ok.above)
theorem Inv.stkSub (I : Inv X pins σ H s) : ∀ b ∈ frs X.stack, b ∈ X.env.locals :: X.fs := fun b hb => by
  rcases I.ok.stk with e | ⟨e, hf⟩
  · rw [e] at hb; exact List.mem_cons_of_mem _ hb
  · rw [e] at hb
    unfold frs at hb
    rw [List.filterMap_cons, hf] at hb
    exact hb
theorem Inv.stkFree (I : Inv X pins σ H s) : ∀ b ∈ frs X.stack, H b = none := fun b hb => by
  rcases List.mem_cons.mp (I.stkSub b hb) with e | hb
  · rw [e]; exact I.free
  · obtain ⟨_, o, ho, _⟩ := I.ok.funs.mem hb
    exact I.base.free b o ho (I.ok.frf b hb) fun z => I.ok.exfs b z hb

theorem Inv.step {g' : Array GenState} {t' : Nat} {d' : Drawn} {ch : List Addr} (I : Inv X pins σ H s)
    (hch : ∀ b ∈ ch, (b ∈ X.ex ∨ X.s₀.heap.objs.size ≤ b) ∧ b ≠ X.env.locals ∧ (∀ x c, X.env.cells.lookup x = some c → c ≠ b) ∧ ∀ p ∈ X.pn ++ pins, p.1 ≠ b)
    (keep : ∀ b o, b ≠ X.env.locals → b ∉ X.fs → b ∉ ch → s.heap.get? b = some o → H b = none → h'.get? b = some o)
    (slot : ∀ b o, b ≠ X.env.locals → b ∈ X.fs → b ∉ ch → s.heap.get? b = some o → H b = none → ∃ sl, h'.get? b = some { o with slots := sl }) (free : ∀ b o, b ∉ ch → s.heap.get? b = some o → H b = none → H' b = none)
    (there : ∀ b o, b ∉ ch → s.heap.get? b = some o → ∃ o', h'.get? b = some o')
    (tups : ∀ b xs, H b = some (.tup xs) → H' b = some (.tup xs)) (frzs : ∀ b o u, H b = some (.frz o u) → H' b = some (.frz o u)) (tbls : ∀ b ps, H b = some (.tbl ps) → ∃ more, H' b = some (.tbl (ps ++ more)))
    (ns : ∀ m, s.heap.Ns X.env.locals m → h'.Ns X.env.locals m) (hok : HOk X.prog X.w H' h') (hg : AllBare g') :
    Inv X pins σ H' { s with heap := h', gens := g', drawn := d', toks := t' } := by
  have neL : ∀ b o, X.s₀.heap.get? b = some o → b ≠ X.env.locals := fun b o e => Nat.ne_of_lt (Nat.lt_of_lt_of_le (Heap.lt_size e) I.ok.above)
  have neC : ∀ b o, X.s₀.heap.get? b = some o → b ∉ X.ex → b ∉ ch := fun b o e hx hb => by
    rcases (hch b hb).1 with z | z
    · exact hx z
    · exact absurd (Nat.lt_of_lt_of_le (Heap.lt_size e) z) (Nat.lt_irrefl _)
  have cellK : ∀ x c, X.env.cells.lookup x = some c → ∀ v, s.heap.IsCell c v → h'.IsCell c v := fun x c e v ⟨o, ho, hd⟩ => by
    have nch : c ∉ ch := fun z => (hch c z).2.2.1 x c e rfl
    by_cases hc : c ∈ X.fs
    · obtain ⟨sl, q⟩ := slot c o (I.cne x c e) hc nch ho (I.freeC x c e)
      exact ⟨_, q, hd⟩
    · exact ⟨o, keep c o (I.cne x c e) hc nch ho (I.freeC x c e), hd⟩
  refine ⟨I.ok, I.os, hg, ⟨fun b o e n hb hx => ?_, fun b o e n hb hx => ?_, fun b o e n hx => ?_, fun b o e hx => ?_, fun b xs e => tups b xs (I.base.tups b xs e), fun b o xs e => frzs b o xs (I.base.frzs b o xs e), fun b ps e => ?_⟩, ?_, fun x c e => ?_, ?_, fun x c e => ?_, fun p hp => ?_, hok, I.len⟩
  · exact keep b o (neL b o e) hb (neC b o e hx) (I.base.keep b o e n hb hx) (I.base.free b o e n hx)
  · obtain ⟨sl, e1⟩ := I.base.slot b o e n hb hx
    obtain ⟨sl', e2⟩ := slot b _ (neL b o e) hb (neC b o e hx) e1 (I.base.free b o e n hx)
    exact ⟨sl', e2⟩
  · obtain ⟨o', e1⟩ := I.base.there b o e hx
    exact free b o' (neC b o e hx) e1 (I.base.free b o e n hx)
  · obtain ⟨o', e1⟩ := I.base.there b o e hx
    exact there b o' (neC b o e hx) e1
  · obtain ⟨m1, e1⟩ := I.base.tbls b ps e
    obtain ⟨m2, e2⟩ := tbls b _ e1
    exact ⟨m1 ++ m2, by rw [e2, Array.append_assoc]⟩
  · obtain ⟨m, hn, hl⟩ := I.loc
    refine ⟨m, ns m hn, fun i x v e1 e2 e3 => ?_⟩
    obtain ⟨u, r, l⟩ := hl i x v e1 e2 e3
    refine ⟨u, r, ?_⟩
    rcases l with l | ⟨k, c, e, z⟩
    · exact .inl l
    · exact .inr ⟨k, c, e, cellK x c e _ z⟩
  · obtain ⟨v, z⟩ := I.cell x c e
    exact ⟨v, cellK x c e v z⟩
  · obtain ⟨m, ⟨o, _, _, ho, _⟩, _⟩ := I.loc
    exact free _ o (fun z => (hch _ z).2.1 rfl) ho I.free
  · obtain ⟨v, o, ho, hd⟩ := I.cell x c e
    exact free c o (fun z => (hch c z).2.2.1 x c e rfl) ho (I.freeC x c e)
  · obtain ⟨e, n, ne, nf, d⟩ := I.pin p hp
    have nch : p.1 ∉ ch := fun z => (hch p.1 z).2.2.2 p hp rfl
    exact ⟨keep p.1 p.2 ne nf nch e n, free p.1 p.2 nch e n, ne, nf, d⟩
theorem Inv.un {t' : Nat} (I : Inv X pins σ H s) (u : Un X.fs [] H H' s.heap h') (hok : HOk X.prog X.w H' h') : Inv X pins σ H' { s with heap := h', toks := t' } := by
  obtain ⟨m, ⟨o, es, ep, ho, r⟩, _⟩ := id I.loc
  obtain ⟨sl, hL⟩ := u.any ho I.free (by simp)
  exact I.step (g' := s.gens) (d' := s.drawn) (ch := []) (fun _ z => nomatch z) (fun b o _ hb _ e n => u.keep b o e n hb (by simp)) (fun b o _ hb _ e n => u.slot b o e n hb (by simp)) (fun b o _ e n => u.free b o e n (by simp)) (fun b o _ e => u.there b o e (by simp)) u.tups u.frzs u.tbls (fun m' hm => by
    obtain ⟨o', es', ep', ho', r'⟩ := hm
    rw [ho] at ho'; cases ho'
    exact ⟨_, es', ep', hL, r'⟩) hok I.bare
theorem Inv.call {g' : Array GenState} {t' : Nat} {d' : Drawn} {ch : List Addr} (I : Inv X pins σ H s) (u : Un (frs X.stack) ch H H' s.heap h') (hok : HOk X.prog X.w H' h') (hg : AllBare g')
    (hch : ∀ b ∈ ch, (b ∈ X.ex ∨ X.s₀.heap.objs.size ≤ b) ∧ b ≠ X.env.locals ∧ (∀ x c, X.env.cells.lookup x = some c → c ≠ b) ∧ ∀ p ∈ X.pn ++ pins, p.1 ≠ b) :
    Inv X pins σ H' { s with heap := h', gens := g', drawn := d', toks := t' } := by
  obtain ⟨m, ⟨o, es, ep, ho, r⟩, _⟩ := id I.loc
  obtain ⟨sl, hL⟩ := u.any ho I.free fun z => (hch _ z).2.1 rfl
  exact I.step (ch := ch) hch (fun b o hL hb hc e n => u.keep b o e n (fun z => (List.mem_cons.mp (I.stkSub b z)).elim hL hb) hc) (fun b o _ _ hc e n => u.any e n hc) (fun b o hc e n => u.free b o e n hc) (fun b o hc e => u.there b o e hc) u.tups u.frzs u.tbls (fun m' hm => by
    obtain ⟨o', es', ep', ho', r'⟩ := hm
    rw [ho] at ho'; cases ho'
    exact ⟨_, es', ep', hL, r'⟩) hok hg
theorem Inv.turned {t' : Nat} {it : Addr} (I : Inv X pins σ H s) (k : ∀ b o, b ≠ it → s.heap.get? b = some o → h'.get? b = some o) (hn : H it = none) (hL : it ≠ X.env.locals)
    (h1 : it ∈ X.ex ∨ X.s₀.heap.objs.size ≤ it) (h2 : ∀ x c, X.env.cells.lookup x = some c → c ≠ it) (h3 : ∀ p ∈ X.pn ++ pins, p.1 ≠ it) : Inv X pins σ H { s with heap := h', toks := t' } := by
  have nit : ∀ b u, H b = some u → b ≠ it := fun b u e z => by rw [z, hn] at e; cases e
  refine I.step (g' := s.gens) (d' := s.drawn) (ch := [it]) (fun b hb => ?_) (fun b o _ _ hc e _ => k b o (fun z => hc (by simp [z])) e) (fun b o _ _ hc e _ => ⟨o.slots, k b o (fun z => hc (by simp [z])) e⟩) (fun _ _ _ _ n => n)
    (fun b o hc e => ⟨o, k b o (fun z => hc (by simp [z])) e⟩) (fun _ _ e => e) (fun _ _ _ e => e) (fun b ps e => ⟨#[], by rw [e]; simp⟩) (fun m hm => ?_) (fun b u e => ?_) I.bare
  · have e : b = it := by simpa using hb
    subst e
    exact ⟨h1, hL, h2, h3⟩
  · obtain ⟨o, es, ep, ho, r⟩ := hm
    exact ⟨o, es, ep, k _ o (Ne.symm hL) ho, r⟩
  · refine (I.hok b u e).stay (fun c v hc q => k c v ?_ q) (fun _ q => q) fun _ _ q => q
    rcases hc with z | z
    · rw [z]; exact nit b u e
    · exact nit c _ z
theorem Inv.tok (I : Inv X pins σ H s) (t : Nat) : Inv X pins σ H { s with toks := t } := I.un (h' := s.heap) (t' := t) Un.refl I.hok
theorem Inv.kept {t' : Nat} (I : Inv X pins σ H s) (k : ∀ b u, s.heap.get? b = some u → h'.get? b = some u) : Inv X pins σ H { s with heap := h', toks := t' } := I.un (Un.kept k) (I.hok.kept k)
theorem Inv.laid {a : Addr} {o : HO} {t' : Nat} (I : Inv X pins σ H s) (k : ∀ b u, s.heap.get? b = some u → h'.get? b = some u) (hp : s.heap.objs.size ≤ a) (new : ObjOk X.prog X.w (upd H a o) h' a o) :
    Inv X pins σ (upd H a o) { s with heap := h', toks := t' } := I.un (Un.laid k hp (I.hok.fresh hp)) (I.hok.laid k hp new)
theorem Inv.write {x e : Addr} {o : HO} {t' : Nat} (I : Inv X pins σ H s) (mu : Mut (H x)) (he : e = x ∨ H e = some (.own x)) (k : ∀ b u, b ≠ e → s.heap.get? b = some u → h'.get? b = some u) (heo : ∃ u, h'.get? e = some u)
    (new : ObjOk X.prog X.w (upd H x o) h' x o) : Inv X pins σ (upd H x o) { s with heap := h', toks := t' } := I.un (Un.write mu he k heo) (I.hok.write mu he k heo new)
theorem Inv.weak {σ' : List (Option V)} (I : Inv X pins σ H s) (hl : σ'.length = σ.length) (w : ∀ (i : Nat) v, σ'[i]? = some (some v) → σ[i]? = some (some v)) : Inv X pins σ' H s :=
  ⟨I.ok, I.os, I.bare, I.base, let ⟨m, hn, hl'⟩ := I.loc; ⟨m, hn, fun i x v e1 e2 e3 => hl' i x v e1 (w i v e2) e3⟩, I.cell, I.free, I.freeC, I.pin, I.hok, hl.trans I.len⟩
theorem Inv.pins_of {pins' : List (Addr × Obj)} (I : Inv X pins σ H s) (h : ∀ p ∈ pins', s.heap.get? p.1 = some p.2 ∧ H p.1 = none ∧ p.1 ≠ X.env.locals ∧ p.1 ∉ X.fs ∧ ∀ v, p.2.data ≠ .cell v) : Inv X pins' σ H s :=
  ⟨I.ok, I.os, I.bare, I.base, I.loc, I.cell, I.free, I.freeC, fun p hp => (List.mem_append.mp hp).elim (fun z => I.pin p (List.mem_append_left _ z)) (h p), I.hok, I.len⟩

theorem nodup_ix {N : List Str} (hN : N.Nodup) {i j : Nat} {x : Str} (a : N[i]? = some x) (b : N[j]? = some x) : i = j := by
  obtain ⟨h1, e1⟩ := List.getElem?_eq_some_iff.mp a
  obtain ⟨h2, e2⟩ := List.getElem?_eq_some_iff.mp b
  exact (List.getElem_inj hN).mp (e1.trans e2.symm)

theorem store_ok2 {M : Model} {A : Around} {E : Value → Shared → Prop} {i : Nat} {x : Str} {v : V} {u : Value} {Q : Unit → Shared → Prop} (I : Inv X pins σ H s) (hN : X.N.Nodup) (hi : X.N[i]? = some x) (hx : Loc X.env.scope x) (r : RelV v u)
    (h : ∀ s', Inv X pins (σ.set i (some v)) H s' → (∃ a, Heap.SameBut a s.heap s'.heap ∧ (a = X.env.locals ∨ X.env.cells.lookup x = some a)) → Q () s') (hf : X.fn x = true ∨ X.env.scope.names.lookup x = some .local := by first | exact .inl rfl | exact .inr rfl | assumption) : wpAny M A (storeName X.env x u) Q E s := by
  obtain ⟨m, hn, hl⟩ := id I.loc
  have hcls : (X.env.scope.kind == .class || (X.env.scope.kind == .module && X.env.locals != X.env.globals)) = false := by rw [I.ok.kind]; rfl
  have hiσ : i < σ.length := by rw [I.len]; exact (List.getElem?_eq_some_iff.mp hi).1
  have cne := I.cne
  have tracked : ∀ {a : Addr} {h' : Heap}, (∃ o, s.heap.get? a = some o ∧ H a = none) → Heap.SameBut a s.heap h' → HOk X.prog X.w H h' := fun {a h'} ha hs b ob e => by
    obtain ⟨_, _, hfree⟩ := ha
    refine (I.hok b ob e).stay (fun c w' hc q => (hs.2 c ?_).trans q) (fun _ q => q) fun _ _ q => q
    rintro rfl
    rcases hc with rfl | hc
    · rw [hfree] at e; cases e
    · rw [hfree] at hc; cases hc
  rcases hx with hk | hk
  · refine wpAny_storeName_local hk hn (fun h' hn' hs => ?_) hcls
    obtain ⟨oL, _, _, hoL, _⟩ := id hn
    refine h _ ⟨I.ok, I.os, I.bare, ⟨fun b o e n hb hx => ?_, fun b o e n hb hx => ?_, I.base.free, fun b o e hx => ?_, I.base.tups, I.base.frzs, I.base.tbls⟩, ⟨_, hn', fun j y v' e1 e2 e3 => ?_⟩, fun y c e => ?_, I.free, I.freeC, fun p hp => ?_, tracked ⟨oL, hoL, I.free⟩ hs, by simpa using I.len⟩ ⟨_, hs, .inl rfl⟩
    · exact (hs.2 b (Nat.ne_of_lt (Nat.lt_of_lt_of_le (Heap.lt_size e) I.ok.above))).trans (I.base.keep b o e n hb hx)
    · obtain ⟨sl, e1⟩ := I.base.slot b o e n hb hx
      exact ⟨sl, (hs.2 b (Nat.ne_of_lt (Nat.lt_of_lt_of_le (Heap.lt_size e) I.ok.above))).trans e1⟩
    · obtain ⟨o', e1⟩ := I.base.there b o e hx
      exact ⟨o', (hs.2 b (Nat.ne_of_lt (Nat.lt_of_lt_of_le (Heap.lt_size e) I.ok.above))).trans e1⟩
    · by_cases hj : j = i
      · subst hj
        rw [hi] at e1; cases e1
        rw [List.getElem?_set_self hiσ] at e2
        cases e2
        exact ⟨u, r, .inl ⟨hk, by simp⟩⟩
      · rw [List.getElem?_set_ne (Ne.symm hj)] at e2
        obtain ⟨u', r', q⟩ := hl j y v' e1 e2 e3
        refine ⟨u', r', ?_⟩
        rcases q with ⟨k, e⟩ | ⟨k, c, e, z⟩
        · refine .inl ⟨k, ?_⟩
          have : y ≠ x := fun e => hj (nodup_ix hN e1 (e ▸ hi))
          simp [this, e]
        · exact .inr ⟨k, c, e, z.sameBut hs (cne y c e)⟩
    · obtain ⟨w', z⟩ := I.cell y c e
      exact ⟨w', z.sameBut hs (cne y c e)⟩
    · obtain ⟨e, n, ne, nf, d⟩ := I.pin p hp
      exact ⟨(hs.2 p.1 ne).trans e, n, ne, nf, d⟩
  · have hfn : X.fn x = true := by
      rcases hf with z | z
      · exact z
      · rw [z] at hk; cases hk
    obtain ⟨c, hc⟩ := I.ok.has x (.inl hk)
    obtain ⟨w', z⟩ := I.cell x c hc
    refine wpAny_storeName_cell I.ok.kind hk hc z (fun h' hc' hs => ?_)
    obtain ⟨oc, hoc, hocd⟩ := id z
    refine h { s with heap := h' } ⟨I.ok, I.os, I.bare, ⟨fun b o e n hb hx => ?_, fun b o e n hb hx => ?_, I.base.free, fun b o e hx => ?_, I.base.tups, I.base.frzs, I.base.tbls⟩, ⟨m, hn.sameBut hs (Ne.symm (cne x c hc)), fun j y v' e1 e2 e3 => ?_⟩, fun y c' e => ?_, I.free, I.freeC, fun p hp => ?_, tracked ⟨oc, hoc, I.freeC x c hc⟩ hs, by simpa using I.len⟩ ⟨c, hs, .inr hc⟩
    · exact (hs.2 b (Nat.ne_of_lt (Nat.lt_of_lt_of_le (Heap.lt_size e) (I.ok.cab x c hfn hc)))).trans (I.base.keep b o e n hb hx)
    · obtain ⟨sl, e1⟩ := I.base.slot b o e n hb hx
      exact ⟨sl, (hs.2 b (Nat.ne_of_lt (Nat.lt_of_lt_of_le (Heap.lt_size e) (I.ok.cab x c hfn hc)))).trans e1⟩
    · obtain ⟨o', e1⟩ := I.base.there b o e hx
      exact ⟨o', (hs.2 b (Nat.ne_of_lt (Nat.lt_of_lt_of_le (Heap.lt_size e) (I.ok.cab x c hfn hc)))).trans e1⟩
    · by_cases hj : j = i
      · subst hj
        rw [hi] at e1; cases e1
        rw [List.getElem?_set_self hiσ] at e2
        cases e2
        exact ⟨u, r, .inr ⟨.inl hk, c, hc, hc'⟩⟩
      · rw [List.getElem?_set_ne (Ne.symm hj)] at e2
        obtain ⟨u', r', q⟩ := hl j y v' e1 e2 e3
        refine ⟨u', r', ?_⟩
        rcases q with q | ⟨k, c', e, z'⟩
        · exact .inl q
        · refine .inr ⟨k, c', e, z'.sameBut hs ?_⟩
          rintro rfl
          exact hj (nodup_ix hN e1 (I.ok.inj _ _ _ e hc ▸ hi))
    · by_cases hcc : c' = c
      · subst hcc; exact ⟨_, hc'⟩
      · obtain ⟨w2, z2⟩ := I.cell y c' e
        exact ⟨w2, z2.sameBut hs hcc⟩
    · obtain ⟨e, n, ne, nf, d⟩ := I.pin p hp
      refine ⟨(hs.2 p.1 ?_).trans e, n, ne, nf, d⟩
      intro q
      rw [q, hoc] at e
      have q' : oc = p.2 := Option.some.inj e
      exact d w' (by rw [← q']; exact hocd)
theorem store_ok {M : Model} {A : Around} {E : Value → Shared → Prop} {i : Nat} {x : Str} {v : V} {u : Value} {Q : Unit → Shared → Prop} (I : Inv X pins σ H s) (hN : X.N.Nodup) (hi : X.N[i]? = some x) (hx : Loc X.env.scope x) (r : RelV v u)
    (h : ∀ s', Inv X pins (σ.set i (some v)) H s' → Q () s') (hf : X.fn x = true ∨ X.env.scope.names.lookup x = some .local := by first | exact .inl rfl | exact .inr rfl | assumption) : wpAny M A (storeName X.env x u) Q E s :=
  store_ok2 I hN hi hx r (fun s' I' _ => h s' I') hf
theorem Inv.call' {s' : Shared} {ch : List Addr} (I : Inv X pins σ H s) (ho : s'.os = s.os) (u : Un (frs X.stack) ch H H' s.heap s'.heap) (hok : HOk X.prog X.w H' s'.heap) (hg : AllBare s'.gens)
    (hch : ∀ b ∈ ch, (b ∈ X.ex ∨ X.s₀.heap.objs.size ≤ b) ∧ b ≠ X.env.locals ∧ (∀ x c, X.env.cells.lookup x = some c → c ≠ b) ∧ ∀ p ∈ X.pn ++ pins, p.1 ≠ b) : Inv X pins σ H' s' := by
  obtain ⟨h', g', d', t', o'⟩ := s'
  have e : o' = s.os := ho
  subst e
  exact I.call (g' := g') (t' := t') (d' := d') u hok hg hch
end

noncomputable abbrev XK := Value → Option Addr → Hp → Prop
noncomputable abbrev St := List (Option V)
noncomputable abbrev VK := V → Hp → Prop
noncomputable abbrev TE := St → Hp → VK → Prop
noncomputable abbrev TT := St → Hp → (Bool → Hp → Prop) → Prop
noncomputable abbrev TA := St → Hp → (List V → Hp → Prop) → Prop
structure Ends where
  nx : St → Hp → Prop
  rt : VK
  bk : St → Hp → Prop := fun _ _ => False
  ct : St → Hp → Prop := fun _ _ => False
noncomputable abbrev TS := Ends → St → Hp → Prop

noncomputable def EP (X : Cx) (pins : List (Addr × Obj)) (σ : St) (Q : VK) (u : Value) (s' : Shared) : Prop := ∃ v H', Inv X pins σ H' s' ∧ RelV v u ∧ Q v H'
noncomputable def TP (X : Cx) (pins : List (Addr × Obj)) (σ : St) (Q : Bool → Hp → Prop) (b : Bool) (s' : Shared) : Prop := ∃ H', Inv X pins σ H' s' ∧ Q b H'
noncomputable def AP (X : Cx) (pins : List (Addr × Obj)) (σ : St) (Q : List V → Hp → Prop) (us : List Value) (s' : Shared) : Prop := ∃ vs H', Inv X pins σ H' s' ∧ Vals vs us ∧ Q vs H'
noncomputable def SP (X : Cx) (pins : List (Addr × Obj)) (D : Ends) (f : Flow) (s' : Shared) : Prop :=
  match f with
  | .next => ∃ σ' H', Inv X pins σ' H' s' ∧ D.nx σ' H'
  | .brk => ∃ σ' H', Inv X pins σ' H' s' ∧ D.bk σ' H'
  | .cont => ∃ σ' H', Inv X pins σ' H' s' ∧ D.ct σ' H'
  | .ret u => ∃ v σ' H', Inv X pins σ' H' s' ∧ RelV v u ∧ D.rt v H'

noncomputable def PE (X : Cx) (e : Expr) (t : TE) : Prop :=
  ∀ (pins : List (Addr × Obj)) (s : Shared) (σ : St) (H : Hp) (Q : VK), Inv X pins σ H s → t σ H Q → wpAny (model X.prog X.w) X.A (eval e X.env) (EP X pins σ Q) X.xe s
noncomputable def PT (X : Cx) (e : Expr) (t : TT) : Prop :=
  ∀ (pins : List (Addr × Obj)) (s : Shared) (σ : St) (H : Hp) (Q : Bool → Hp → Prop), Inv X pins σ H s → t σ H Q → wpAny (model X.prog X.w) X.A (isTrue e X.env (eval e X.env)) (TP X pins σ Q) X.xe s
noncomputable def PW (X : Cx) (e : Expr) (t : TT) : Prop :=
  ∀ (whole : Sem Value) (pins : List (Addr × Obj)) (s : Shared) (σ : St) (H : Hp) (Q : Bool → Hp → Prop), Inv X pins σ H s → t σ H Q → wpAny (model X.prog X.w) X.A (isTrue e X.env whole) (TP X pins σ Q) X.xe s
theorem PW.pt {X : Cx} {e : Expr} {t : TT} (h : PW X e t) : PT X e t := h _
noncomputable def PA (X : Cx) (es : List Expr) (t : TA) : Prop :=
  ∀ (pos : Pos) (pins : List (Addr × Obj)) (s : Shared) (σ : St) (H : Hp) (Q : List V → Hp → Prop), Inv X pins σ H s → t σ H Q → wpAny (model X.prog X.w) X.A (spliced (backTo pos (starEach es X.env))) (AP X pins σ Q) X.xe s
noncomputable def PS (X : Cx) (st : Stmt) (t : TS) : Prop :=
  ∀ (pins : List (Addr × Obj)) (s : Shared) (σ : St) (H : Hp) (D : Ends), Inv X pins σ H s → t D σ H → wpAny (model X.prog X.w) X.A (exec st X.env) (SP X pins D) X.xe s
noncomputable def PSs (X : Cx) (st : List Stmt) (t : TS) : Prop :=
  ∀ (pins : List (Addr × Obj)) (s : Shared) (σ : St) (H : Hp) (D : Ends), Inv X pins σ H s → t D σ H → wpAny (model X.prog X.w) X.A (execs st X.env) (SP X pins D) X.xe s
theorem thn {α : Type} {t : Sem α} {Q Q' : α → Shared → Prop} {M : Model} {A : Around} {E : Value → Shared → Prop} {s : Shared} (h : wpAny M A t Q E s) (hQ : ∀ a s, Q a s → Q' a s) : wpAny M A t Q' E s := wpAny_mono h hQ fun _ _ x => x
end L2

namespace L2
open PySem PySem.Spec PyProof.Rows
section
variable {X : Cx}

noncomputable def tVar (i : Nat) : TE := fun σ H Q => ∃ v, σ[i]? = some (some v) ∧ Q v H
noncomputable def tC (v : V) : TE := fun _ H Q => Q v H
theorem pe_var {i : Nat} {x : Str} {pos : Pos} (hN : X.N[i]? = some x) (hv : Vis X.env.scope x) (hd : (x == ("__debug__" : Str)) = false := by decide) (hcd : (x == ("__classdict__" : Str)) = false := by decide) : PE X (.Name x pos) (tVar i) := by
  intro pins s σ H Q I h
  obtain ⟨v, e, h⟩ := h
  obtain ⟨m, hn, hl⟩ := I.loc
  obtain ⟨u, r, l⟩ := hl i x v hN e hv
  have fin : EP X pins σ Q u s := ⟨v, H, I, r, h⟩
  rcases l with ⟨hk, hm⟩ | ⟨hk, c, hc, hcell⟩
  · exact wpAny_Name (wpAny_loadName_local I.ok.kind hk hn hm fin) hd
  · rcases hk with hk | hk
    · exact wpAny_Name (wpAny_loadName_cell I.ok.kind hk hc hcell fin) hd
    · exact wpAny_Name (wpAny_loadName_free I.ok.kind hk hc hcell fin hcd) hd
theorem pe_int {i j pos} : PE X (.Constant (.int i) j pos) (tC (.int i)) := fun _ _ _ H _ I h => wpAny_Constant_int ⟨.int i, H, I.tok _, ⟨_, rfl⟩, h⟩
theorem pe_bl {b j pos} : PE X (.Constant (.bool b) j pos) (tC (.bl b)) := fun _ _ _ H _ I h => Constant_bool ⟨.bl b, H, I, rfl, h⟩
theorem pe_non {j pos} : PE X (.Constant .none j pos) (tC .non) := fun _ _ _ H _ I h => Constant_none ⟨.non, H, I, rfl, h⟩
theorem pe_str {x j pos} : PE X (.Constant (.str x) j pos) (tC (.str x)) := fun _ _ _ H _ I h => Calls.Constant_str ⟨.str x, H, I.tok _, ⟨_, rfl⟩, h⟩

noncomputable def Gl (X : Cx) (x : Str) : Prop := X.env.kindOf x = some .globalImplicit
theorem ld_glob {E : Value → Shared → Prop} {pins : List (Addr × Obj)} {s : Shared} {σ : St} {H : Hp} {x : Str} {u : Value} {pos : Pos} {Q : Value → Shared → Prop} (I : Inv X pins σ H s) (hg : Gl X x) (hm : X.mg x = some u) (h : Q u s)
    (hd : (x == ("__debug__" : Str)) = false := by decide) : wpAny (model X.prog X.w) X.A (eval (.Name x pos) X.env) Q E s :=
  Calls.Name_function_global I.ok.kind hg (Calls.loadGlobal_global (by rw [I.ok.glob]; exact I.mod.glob.keeps I.bk) hm h) hd
theorem ld_blt {E : Value → Shared → Prop} {pins : List (Addr × Obj)} {s : Shared} {σ : St} {H : Hp} {x : Str} {u : Value} {pos : Pos} {Q : Value → Shared → Prop} (I : Inv X pins σ H s) (hg : Gl X x) (hm : X.mg x = none) (hv : bootBuiltins x = some u) (h : Q u s)
    (hn : x ≠ "__name__" := by decide) (hd : (x == ("__debug__" : Str)) = false := by decide) : wpAny (model X.prog X.w) X.A (eval (.Name x pos) X.env) Q E s := by
  obtain ⟨mb, h1, h2⟩ := I.mod.blt
  exact Calls.Name_function_global I.ok.kind hg (Calls.loadGlobal_builtin (by rw [I.ok.glob]; exact I.mod.glob.keeps I.bk) hm (by rw [I.ok.blt]; exact h1.keeps I.bk) ((h2 x hn).trans hv) h) hd
theorem pe_bltn {x : Str} {v : V} {u : Value} {pos : Pos} (hg : Gl X x) (hm : X.mg x = none) (hv : bootBuiltins x = some u) (r : RelV v u) (hn : x ≠ "__name__" := by decide) (hd : (x == ("__debug__" : Str)) = false := by decide) : PE X (.Name x pos) (tC v) :=
  fun _ _ _ H _ I h => ld_blt I hg hm hv ⟨v, H, I, r, h⟩ hn hd

variable {a b : Expr} {ta tb : TE} {pos : Pos}
noncomputable def PC (X : Cx) (op : CmpOp) (a b : Expr) (t : TE) : Prop :=
  ∀ (pins : List (Addr × Obj)) (s : Shared) (σ : St) (H : Hp) (Q : VK), Inv X pins σ H s → t σ H Q →
    wpAny (model X.prog X.w) X.A (eval a X.env) (fun v s₁ => wpAny (model X.prog X.w) X.A (eval b X.env) (fun u s₂ => wpAny (model X.prog X.w) X.A (compareOp op v u) (EP X pins σ Q) X.xe s₂) X.xe s₁) X.xe s
noncomputable def tB (t : TE) : TT := fun σ H Q => t σ H fun x H1 => ∃ c, x = .bl c ∧ Q c H1
theorem pt_cmp {op : CmpOp} {t : TE} (h : PC X op a b t) (h1 : behindInMarks op b = false := by first | exact nobehind _ (by decide) (by decide) | rfl) : PT X (.Compare a [op] [b] pos) (tB t) := by
  intro pins s σ H Q I hw
  refine wpAny_isTrue_Compare1 (thn (h pins s σ H _ I hw) fun v s1 h1 => thn h1 fun u s2 h2 => thn h2 fun c s3 ⟨x, H1, I1, r1, q1⟩ => ?_) h1
  obtain ⟨d, rfl, q⟩ := q1
  cases r1
  exact wpAny_truthy_bool ⟨H1, I1, q⟩
theorem pt_val {e : Expr} {t : TE} (h : PE X e t) (he : ∀ whole, isTrue e X.env whole = (do let v ← whole; standAt e.pos; holding [v] (truthy v)) := by intro _; rfl) : PT X e (tB t) := by
  intro pins s σ H Q I hw
  refine isTrue_plain (thn (h pins s σ H _ I hw) fun v s1 ⟨x, H1, I1, r1, q1⟩ => ?_) (he _)
  obtain ⟨d, rfl, q⟩ := q1
  cases r1
  exact wpAny_truthy_bool ⟨H1, I1, q⟩

variable {tA tB' : TT} {rest : List Expr}
noncomputable def tOr (t u : TT) : TT := fun σ H Q => t σ H fun c H1 => if c = true then Q true H1 else u σ H1 Q
noncomputable def tNot (t : TT) : TT := fun σ H Q => t σ H fun c H1 => Q (!c) H1
theorem pw_or1 (ha : PT X a tA) : PW X (.BoolOp .Or [a] pos) tA := by
  intro wh pins s σ H Q I h
  refine isTrue_or (thn (ha pins s σ H Q I h) fun c s1 e => ?_)
  cases c with
  | false => exact isTrue_or_nil e
  | true => exact e
theorem pw_or (ha : PT X a tA) (hb : PW X (.BoolOp .Or (b :: rest) pos) tB') : PW X (.BoolOp .Or (a :: b :: rest) pos) (tOr tA tB') := by
  intro wh pins s σ H Q I h
  refine isTrue_or (thn (ha pins s σ H _ I h) fun c s1 ⟨H1, I1, q1⟩ => ?_)
  cases c with
  | true => exact ⟨H1, I1, q1⟩
  | false => exact hb wh pins s1 σ H1 Q I1 q1
theorem pt_not (ha : PT X a tA) : PT X (.UnaryOp .Not a pos) (tNot tA) := by
  intro pins s σ H Q I h
  exact isTrue_not (ha pins s σ H (fun c H1 => Q (!c) H1) I h)
noncomputable def tAndV (ta tb : TE) : TE := fun σ H Q => ta σ H fun x H1 => ∃ c, x = .bl c ∧ if c = true then tb σ H1 Q else Q (.bl false) H1
noncomputable def tNotV (ta : TE) : TE := fun σ H Q => ta σ H fun x H1 => ∃ c, x = .bl c ∧ Q (.bl (!c)) H1
theorem pe_one {op} {t : TE} (h : PE X a t) : PE X (.BoolOp op [a] pos) t := fun pins s σ H Q I hw => BoolOp_one (h pins s σ H Q I hw)
theorem pe_and (ha : PE X a ta) (hb : PE X (.BoolOp .And (b :: rest) pos) tb) : PE X (.BoolOp .And (a :: b :: rest) pos) (tAndV ta tb) := by
  intro pins s σ H Q I h
  refine BoolOp_and (thn (ha pins s σ H _ I h) fun v s1 ⟨x, H1, I1, r1, q1⟩ => ?_)
  obtain ⟨c, rfl, q1⟩ := q1
  cases r1
  refine wpAny_truthy_bool ?_
  cases c with
  | true => exact hb pins s1 σ H1 Q I1 q1
  | false => exact ⟨.bl false, H1, I1, rfl, q1⟩
theorem pe_not (ha : PE X a ta) : PE X (.UnaryOp .Not a pos) (tNotV ta) := by
  intro pins s σ H Q I h
  refine UnaryOp_ (thn (ha pins s σ H _ I h) fun v s1 ⟨x, H1, I1, r1, q1⟩ => ?_)
  obtain ⟨c, rfl, q1⟩ := q1
  cases r1
  exact not_of (wpAny_truthy_bool ⟨.bl (!c), H1, I1, rfl, q1⟩)
end
end L2

namespace L2
open PySem PySem.Spec PyProof.Rows

noncomputable def SqL (K : PySem.W.Frag) (H : Hp) (a : Addr) (xs : List V) : Prop :=
  Rd H a (.lst xs) ∨
    ∃ (o : Obj) (its : Array Value) (n : Nat), K.lookup a = some o ∧ o.cls = .type "list" ∧ o.dict = none ∧ o.data = .seq its n ∧ its.size ≤ sizeLine ∧ Vals xs its.toList
noncomputable def SqT (K : PySem.W.Frag) (H : Hp) (a : Addr) (xs : List V) : Prop :=
  Rd H a (.tup xs) ∨
    ∃ (o : Obj) (its : Array Value) (n : Nat), K.lookup a = some o ∧ o.cls = .type "tuple" ∧ o.data = .seq its n ∧ its.size ≤ sizeLine ∧ Vals xs its.toList
noncomputable def absV : Value → Option V
  | .none => some .non
  | .bool b => some (.bl b)
  | .int i _ => some (.int i)
  | .str x _ => some (.str x)
  | .bytes b _ => some (.byt b)
  | .float b _ => some (.flt b)
  | .ref a => some (.ref a)
  | .type n => some (.ty n)
  | _ => none
theorem RelV.abs {x : V} {u : Value} (r : RelV x u) : absV u = some x := by
  cases x with
  | non => cases r; rfl
  | bl _ => cases r; rfl
  | int _ => obtain ⟨t, rfl⟩ := r; rfl
  | str _ => obtain ⟨t, rfl⟩ := r; rfl
  | byt _ => obtain ⟨t, rfl⟩ := r; rfl
  | flt _ => obtain ⟨t, rfl⟩ := r; rfl
  | ref _ => cases r; rfl
  | ty _ => cases r; rfl
theorem RelV.inj {x y : V} {u : Value} (r : RelV x u) (q : RelV y u) : x = y := Option.some.inj (r.abs.symm.trans q.abs)
theorem Vals.inj : ∀ {xs ys : List V} {us : List Value}, Vals xs us → Vals ys us → xs = ys
  | _, _, _, .nil, .nil => rfl
  | _, _, _, .cons r t, .cons r' t' => by rw [r.inj r', Vals.inj t t']
section
variable {X : Cx} {pins : List (Addr × Obj)} {σ : St} {H : Hp} {s : Shared} {a : Addr} {xs ys : List V}
theorem SqL.of {K : PySem.W.Frag} (h : H a = some (.lst xs)) : SqL K H a xs := .inl (.inl h)
theorem SqT.of {K : PySem.W.Frag} (h : H a = some (.tup xs)) : SqT K H a xs := .inl (.inl h)
theorem Inv.list (I : Inv X pins σ H s) (h : SqL X.K H a xs) : ∃ its : List Value, Vals xs its ∧ PlainL s.heap a its.toArray ∧ xs.length ≤ sizeLine := by
  rcases h with h | ⟨o, its, n, hk, hc, hd, hs, hz, r⟩
  · obtain ⟨z, its, n, r, e⟩ := h.ok I.hok
    exact ⟨its, r, ⟨_, n, e, rfl, rfl, rfl⟩, z⟩
  · refine ⟨its.toList, r, ⟨o, n, I.kIn a o hk, hc, hd, by simpa using hs⟩, ?_⟩
    have e := r.length
    simp only [Array.length_toList] at e
    omega
theorem Inv.tuple (I : Inv X pins σ H s) (h : SqT X.K H a xs) : ∃ its : List Value, Vals xs its ∧ IsTup s.heap a its.toArray ∧ xs.length ≤ sizeLine := by
  rcases h with h | ⟨o, its, n, hk, hc, hs, hz, r⟩
  · obtain ⟨z, its, r, p⟩ := h.ok I.hok
    exact ⟨its, r, p.tup, z⟩
  · refine ⟨its.toList, r, ⟨o, I.kIn a o hk, hc, n, by simpa using hs⟩, ?_⟩
    have e := r.length
    simp only [Array.length_toList] at e
    omega
theorem Inv.list_inj (I : Inv X pins σ H s) (h : SqL X.K H a xs) (h' : SqL X.K H a ys) : xs = ys := by
  obtain ⟨its, r, ⟨o, n, e, _, _, d⟩, _⟩ := I.list h
  obtain ⟨its', r', ⟨o', n', e', _, _, d'⟩, _⟩ := I.list h'
  rw [e] at e'; cases e'
  rw [d] at d'
  injection d' with d1 _
  have : its = its' := by simpa using congrArg Array.toList d1
  subst this
  exact r.inj r'
theorem Inv.tuple_inj (I : Inv X pins σ H s) (h : SqT X.K H a xs) (h' : SqT X.K H a ys) : xs = ys := by
  obtain ⟨its, r, ⟨o, e, _, n, d⟩, _⟩ := I.tuple h
  obtain ⟨its', r', ⟨o', e', _, n', d'⟩, _⟩ := I.tuple h'
  rw [e] at e'; cases e'
  rw [d] at d'
  injection d' with d1 _
  have : its = its' := by simpa using congrArg Array.toList d1
  subst this
  exact r.inj r'
end

noncomputable abbrev Cx.wish (X : Cx) (E : Value → Shared → Prop) : Cx := { X with xe := E }
noncomputable abbrev Cx.nox (X : Cx) : Cx := X.wish fun _ _ => False
theorem Cx.Ok.wish {X : Cx} (ok : X.Ok) (E : Value → Shared → Prop) : (X.wish E).Ok :=
  ⟨ok.mod, ok.kind, ok.glob, ok.blt, ok.above, ok.inj, ok.has, ok.cab, ok.hd, ok.frames, ok.stk, ok.exf, ok.bs, ok.bsz, ok.noex, ok.exfs, ok.funs, ok.frf⟩
theorem Cx.Ok.unwish {X : Cx} {E : Value → Shared → Prop} (ok : (X.wish E).Ok) : X.Ok :=
  ⟨ok.mod, ok.kind, ok.glob, ok.blt, ok.above, ok.inj, ok.has, ok.cab, ok.hd, ok.frames, ok.stk, ok.exf, ok.bs, ok.bsz, ok.noex, ok.exfs, ok.funs, ok.frf⟩
section
variable {X : Cx} {pins : List (Addr × Obj)} {σ : St} {H : Hp} {s : Shared} {E : Value → Shared → Prop}
theorem Inv.wish (I : Inv X pins σ H s) (E : Value → Shared → Prop) : Inv (X.wish E) pins σ H s := ⟨I.ok.wish E, I.os, I.bare, I.base, I.loc, I.cell, I.free, I.freeC, I.pin, I.hok, I.len⟩
theorem Inv.unwish (I : Inv (X.wish E) pins σ H s) : Inv X pins σ H s := ⟨I.ok.unwish, I.os, I.bare, I.base, I.loc, I.cell, I.free, I.freeC, I.pin, I.hok, I.len⟩
theorem SP.unwish {D : Ends} {f : Flow} {s' : Shared} (h : SP (X.wish E) pins D f s') : SP X pins D f s' := by
  cases f with
  | next => obtain ⟨σ', H', I, q⟩ := h; exact ⟨σ', H', I.unwish, q⟩
  | brk => obtain ⟨σ', H', I, q⟩ := h; exact ⟨σ', H', I.unwish, q⟩
  | cont => obtain ⟨σ', H', I, q⟩ := h; exact ⟨σ', H', I.unwish, q⟩
  | ret u => obtain ⟨v, σ', H', I, r, q⟩ := h; exact ⟨v, σ', H', I.unwish, r, q⟩
theorem PSs.nox {st : List Stmt} {t : TS} (h : PSs X.nox st t) : PSs X st t := fun pins s σ H D I hw =>
  wpAny_mono (h pins s σ H D (I.wish _) hw) (fun _ _ q => q.unwish) fun _ _ z => False.elim z
end

section
variable {X : Cx} {st : Stmt} {rest : List Stmt} {t u : TS} {e : Expr} {te : TE} {pos : Pos}
noncomputable def tNext : TS := fun D σ H => D.nx σ H
noncomputable def tSeq (t u : TS) : TS := fun D σ H => t { D with nx := u D } σ H
theorem pss_nil : PSs X [] tNext := fun _ _ σ H _ I h => wpAny_execs_nil ⟨σ, H, I, h⟩
theorem pss_cons (h1 : PS X st t) (h2 : PSs X rest u) : PSs X (st :: rest) (tSeq t u) := by
  intro pins s σ H D I h
  refine wpAny_execs_cons (thn (h1 pins s σ H { D with nx := u D } I h) fun f s1 q => ?_)
  cases f with
  | next =>
    obtain ⟨σ', H', I', q⟩ := q
    exact h2 pins s1 σ' H' D I' q
  | ret v => exact q
  | brk => exact q
  | cont => exact q
theorem pss_one (h1 : PS X st t) : PSs X [st] t := by
  intro pins s σ H D I h
  refine wpAny_execs_cons (thn (h1 pins s σ H D I h) fun f s1 q => ?_)
  cases f with
  | next => exact wpAny_execs_nil q
  | ret v => exact q
  | brk => exact q
  | cont => exact q
theorem Inv.quiet {pins : List (Addr × Obj)} {σ : St} {H : Hp} {s : Shared} (I : Inv X pins σ H s) : interactive X.env = false := by simp [interactive, I.ok.kind]
noncomputable def tDrop (te : TE) : TS := fun D σ H => te σ H fun _ H1 => D.nx σ H1
theorem ps_expr (he : PE X e te) (hs : swapsWith e none pos.line X.env = pure false := by rfl) : PS X (.Expr e pos) (tDrop te) := by
  intro pins s σ H D I h
  exact wpAny_Expr_any (thn (he pins s σ H _ I h) fun v s1 ⟨x, H1, I1, r1, q1⟩ => ⟨σ, H1, I1, q1⟩) I.quiet hs
noncomputable def tRet (te : TE) : TS := fun D σ H => te σ H D.rt
theorem ps_ret (he : PE X e te) : PS X (.Return (some e) pos) (tRet te) := by
  intro pins s σ H D I h
  exact wpAny_Return_some (thn (he pins s σ H _ I h) fun v s1 ⟨x, H1, I1, r1, q1⟩ => ⟨x, σ, H1, I1, r1, q1⟩)
noncomputable def tIfS (c : TT) (t u : TS) : TS := fun D σ H => c σ H fun b H1 => if b = true then t D σ H1 else u D σ H1
theorem ps_if {c : Expr} {a b : List Stmt} {tc : TT} (hc : PT X c tc) (ha : PSs X a t) (hb : PSs X b u) : PS X (.If c a b pos) (tIfS tc t u) := by
  intro pins s σ H D I h
  refine wpAny_If (thn (hc pins s σ H _ I h) fun d s1 ⟨H1, I1, q1⟩ => ?_)
  cases d with
  | true => exact ha pins s1 σ H1 D I1 q1
  | false => exact hb pins s1 σ H1 D I1 q1
noncomputable def tNever : TS := fun _ _ _ => False
theorem ps_never : PS X st tNever := fun _ _ _ _ _ _ h => h.elim
end

noncomputable abbrev TG := V → St → Hp → (St → Hp → Prop) → Prop
noncomputable abbrev TGs := List V → St → Hp → (St → Hp → Prop) → Prop
noncomputable def PG (X : Cx) (target : Expr) (t : TG) : Prop :=
  ∀ (pins : List (Addr × Obj)) (s : Shared) (σ : St) (H : Hp) (v : V) (u : Value) (Q : St → Hp → Prop), Inv X pins σ H s → RelV v u → t v σ H Q →
    wpAny (model X.prog X.w) X.A (assign target X.env u) (fun _ s' => ∃ σ' H', Inv X pins σ' H' s' ∧ Q σ' H') X.xe s
noncomputable def PGs (X : Cx) (ts : List Expr) (t : TGs) : Prop :=
  ∀ (pins : List (Addr × Obj)) (s : Shared) (σ : St) (H : Hp) (vs : List V) (us : List Value) (Q : St → Hp → Prop), Inv X pins σ H s → Vals vs us → t vs σ H Q →
    wpAny (model X.prog X.w) X.A (assignInOrder ((assignEach ts X.env).map (·.2)) us) (fun _ s' => ∃ σ' H', Inv X pins σ' H' s' ∧ Q σ' H') X.xe s
noncomputable abbrev TSet := V → V → V → Hp → (Hp → Prop) → Prop
noncomputable def PSet (X : Cx) (t : TSet) : Prop :=
  ∀ (pins : List (Addr × Obj)) (s : Shared) (σ : St) (H : Hp) (o i v : V) (ov iv u : Value) (Q : Hp → Prop), Inv X pins σ H s → RelV o ov → RelV i iv → RelV v u → t o i v H Q →
    wpAny (model X.prog X.w) X.A (setItem ov iv u) (fun _ s' => ∃ H', Inv X pins σ H' s' ∧ Q H') X.xe s
section
variable {X : Cx} {pos : Pos}
noncomputable def gName (i : Nat) : TG := fun v σ H Q => Q (σ.set i (some v)) H
theorem pg_name {i : Nat} {x : Str} (hN : X.N.Nodup) (hi : X.N[i]? = some x) (hx : Loc X.env.scope x) (hf : X.fn x = true ∨ X.env.scope.names.lookup x = some .local := by first | exact .inl rfl | exact .inr rfl | assumption) : PG X (.Name x pos) (gName i) := by
  intro pins s σ H v u Q I r h
  exact wpAny_assign_Name (store_ok I hN hi hx r (fun s' I' => ⟨_, H, I', h⟩) hf)
noncomputable def gNil : TGs := fun vs σ H Q => vs = [] ∧ Q σ H
noncomputable def gCons (t : TG) (u : TGs) : TGs := fun vs σ H Q => ∃ v r, vs = v :: r ∧ t v σ H fun σ' H' => u r σ' H' Q
theorem pgs_nil : PGs X [] gNil := by
  intro pins s σ H vs us Q I r h
  obtain ⟨e, h⟩ := h
  subst e
  cases r
  exact assignInOrder_nil ⟨σ, H, I, h⟩
theorem pgs_cons {e : Expr} {es : List Expr} {t : TG} {u : TGs} (h1 : PG X e t) (h2 : PGs X es u)
    (hs : (assignEach (e :: es) X.env).map (·.2) = assign e X.env :: (assignEach es X.env).map (·.2) := by rfl) : PGs X (e :: es) (gCons t u) := by
  intro pins s σ H vs us Q I r h
  obtain ⟨v, vr, e1, h⟩ := h
  subst e1
  cases r with
  | cons r rr =>
    rw [hs]
    refine assignInOrder_cons (thn (h1 pins s σ H _ _ _ I r h) fun _ s1 ⟨σ1, H1, I1, q1⟩ => ?_)
    exact h2 pins s1 σ1 H1 _ _ Q I1 rr q1
noncomputable def gTup (K : PySem.W.Frag) (n : Nat) (t : TGs) : TG := fun v σ H Q => ∃ a xs, v = .ref a ∧ SqT K H a xs ∧ xs.length = n ∧ t xs σ H Q
theorem pg_tup {es : List Expr} {k : Nat} {t : TGs} {n : Nat} (hc : X.calm = true) (h : PGs X es t)
    (hn : (assignEach es X.env).length = n := by rfl) (hst : (assignEach es X.env).findIdx? (·.1) = none := by rfl) : PG X (.Tuple es k pos) (gTup X.K n t) := by
  intro pins s σ H v u Q I r hw
  obtain ⟨a, xs, e1, hq, hl, hw⟩ := hw
  subst e1
  cases r
  obtain ⟨its, rv, ht, hz⟩ := I.tuple hq
  refine assign_Tuple_tuple (I.ok.hd hc) ht (by simp [hn, ← hl, rv.length]) hst fun h' hx => ?_
  have I1 : Inv X pins σ H { s with heap := h' } := I.kept (t' := s.toks) fun b o e => hx b o (Nat.ne_of_lt (Heap.lt_size e)) e
  exact h pins _ σ H xs _ Q I1 (by simpa using rv) hw
noncomputable def gSub (to ti : TE) (t : TSet) : TG := fun v σ H Q => to σ H fun o H1 => ti σ H1 fun i H2 => t o i v H2 fun H3 => Q σ H3
theorem pg_sub {o i : Expr} {to ti : TE} {t : TSet} (ho : PE X o to) (hi : PE X i ti) (hs : PSet X t)
    (ha : ∀ v, assign (.Subscript o i pos) X.env v = (do
      let ov ← holding [v] (eval o X.env)
      let iv ← holding [v, ov] (eval i X.env)
      standAt pos
      holding [v, ov, iv] (setItem ov iv v)
      release [v, ov, iv] []) := by intro _; rfl) : PG X (.Subscript o i pos) (gSub to ti t) := by
  intro pins s σ H v u Q I r h
  rw [ha]
  refine wpAny_bind (wpAny_holding (thn (ho pins s σ H _ I h) fun ov s1 ⟨x, H1, I1, r1, q1⟩ => ?_))
  refine wpAny_bind (wpAny_holding (thn (hi pins s1 σ H1 _ I1 q1) fun iv s2 ⟨y, H2, I2, r2, q2⟩ => ?_))
  refine wpAny_bind (wpAny_standAt (wpAny_bind (wpAny_holding (thn (hs pins s2 σ H2 x y v ov iv u _ I2 r1 r2 r q2) fun _ s3 ⟨H3, I3, q3⟩ => ?_))))
  exact wpAny_release ⟨σ, H3, I3, q3⟩
noncomputable def tAsg (te : TE) (g : TG) : TS := fun D σ H => te σ H fun x H1 => g x σ H1 D.nx
theorem ps_asg {tg e : Expr} {te : TE} {g : TG} (he : PE X e te) (hg : PG X tg g) (hs : swapsWithSole [tg] e pos.line X.env = pure false := by rfl) (hw : swappedStores [tg] e X.env = pure none := by rfl)
    (h1 : (assignEach [tg] X.env).map (·.2) = [assign tg X.env] := by rfl) : PS X (.Assign [tg] e pos) (tAsg te g) := by
  intro pins s σ H D I h
  refine wpAny_Assign_stores (thn (he pins s σ H _ I h) fun v s1 ⟨x, H1, I1, r1, q1⟩ => ?_) hs hw
  rw [h1]
  exact thn (hg pins s1 σ H1 x v _ I1 r1 q1) fun _ s2 q => q
theorem ps_set {i : Nat} {x : Str} {e : Expr} {te : TE} {pos' : Pos} (hN : X.N.Nodup) (hi : X.N[i]? = some x) (hx : Loc X.env.scope x) (he : PE X e te) (hs : swapsWith e (some (.Name x pos')) pos.line X.env = pure false := by rfl) (hf : X.fn x = true ∨ X.env.scope.names.lookup x = some .local := by first | exact .inl rfl | exact .inr rfl | assumption) :
    PS X (.Assign [.Name x pos'] e pos) (tAsg te (gName i)) := by
  intro pins s σ H D I h
  refine wpAny_Assign_Name (thn (he pins s σ H _ I h) fun v s1 ⟨y, H1, I1, r1, q1⟩ => ?_) hs
  exact store_ok I1 hN hi hx r1 (fun s2 I2 => ⟨_, H1, I2, q1⟩) hf
end

section
variable {X : Cx} {pos : Pos}
noncomputable def tWhile (c : TT) (tb : TS) : TS := fun D σ H => ∃ W : Nat → St → Hp → Prop, (∃ m, W m σ H) ∧ ∀ m σ H, W m σ H →
  c σ H fun b H1 => if b = true then ∃ N : St → Hp → Prop, (∀ σ' H', N σ' H' → ∃ m', m' < m ∧ W m' σ' H') ∧ tb { D with nx := N, ct := N, bk := D.nx } σ H1 else D.nx σ H1
theorem ps_while {c : Expr} {body : List Stmt} {tc : TT} {tb : TS} (hp : PassesOwn (model X.prog X.w) X.A X.env X.xe) (hc : PT X c tc) (hb : PSs X body tb) : PS X (.While c body [] pos) (tWhile tc tb) := by
  intro pins s σ H D I h
  obtain ⟨W, ⟨m0, w0⟩, turn⟩ := h
  refine wpAny_While (codeAny_whileLoop (fun n s' => ∃ σ' H', Inv X pins σ' H' s' ∧ W n σ' H') ?_ m0 ⟨σ, H, I, w0⟩)
  rintro n s1 ⟨σ1, H1, I1, w1⟩
  refine wpAny_passesOwn hp (thn (hc pins s1 σ1 H1 _ I1 (turn n σ1 H1 w1)) fun b s2 ⟨H2, I2, q2⟩ => ?_)
  cases b with
  | true =>
    obtain ⟨N, hN, q2⟩ := q2
    rw [if_pos rfl]
    refine wpAny_passesOwn hp (thn (hb pins s2 σ1 H2 _ I2 q2) fun f s3 q3 => ?_)
    cases f with
    | next =>
      obtain ⟨σ3, H3, I3, n3⟩ := q3
      obtain ⟨m', hm, w3⟩ := hN σ3 H3 n3
      exact ⟨m', hm, σ3, H3, I3, w3⟩
    | cont =>
      obtain ⟨σ3, H3, I3, n3⟩ := q3
      obtain ⟨m', hm, w3⟩ := hN σ3 H3 n3
      exact ⟨m', hm, σ3, H3, I3, w3⟩
    | brk => exact q3
    | ret v => exact q3
  | false =>
    rw [if_neg Bool.false_ne_true]
    exact wpAny_execs_nil ⟨σ1, H2, I2, q2⟩
end

structure It where
  go : Nat → Hp → Prop
  yld : Nat → Hp → V → Hp → Prop
  stop : Nat → Hp → Prop
noncomputable def FpOk (X : Cx) (pins : List (Addr × Obj)) (H : Hp) (b : Addr) : Prop :=
  H b = none ∧ b ≠ X.env.locals ∧ b ∉ X.fs ∧ (b ∈ X.ex ∨ X.s₀.heap.objs.size ≤ b) ∧ (∀ x c, X.env.cells.lookup x = some c → c ≠ b) ∧ ∀ p ∈ X.pn ++ pins, p.1 ≠ b
theorem Inv.fpOk {X : Cx} {pins : List (Addr × Obj)} {σ : St} {H H' : Hp} {s : Shared} {b : Addr} (I : Inv X pins σ H s) (hb : s.heap.objs.size ≤ b) (hn : H' b = none) : FpOk X pins H' b := by
  refine ⟨hn, Nat.ne_of_gt (Nat.lt_of_lt_of_le I.lt hb), I.nofs hb, .inr (Nat.le_trans I.sz hb), fun x c e z => ?_, fun p hp z => ?_⟩
  · obtain ⟨v, q⟩ := I.cell x c e
    exact absurd (Nat.lt_of_lt_of_le q.lt (by rw [z]; exact hb)) (Nat.lt_irrefl _)
  · exact absurd (Nat.lt_of_lt_of_le (Heap.lt_size (I.pin p hp).1) (by rw [z]; exact hb)) (Nat.lt_irrefl _)
structure Turn (P : Program) (w : World) (K : PySem.W.Frag) (tg : Expr) (J : It) (fp : List Addr) (it : Addr) (tn : Nat → Heap → Prop) : Prop where
  mem : it ∈ fp
  obj : ∀ i h, tn i h → ∀ b ∈ fp, ∃ o, h.get? b = some o ∧ ∀ v, o.data ≠ .cell v
  keep : ∀ i h h', tn i h → (∀ b ∈ fp, ∀ o, h.get? b = some o → h'.get? b = some o) → tn i h'
  item : ∀ (X : Cx), X.prog = P → X.w = w → X.K = K → X.calm = true → ∀ (i : Nat) (pins : List (Addr × Obj)) (s : Shared) (σ : St) (H : Hp) (E : Value → Shared → Prop), Inv X pins σ H s → (∀ b ∈ fp, FpOk X pins H b) → tn i s.heap → J.go i H →
    wpAny (model P w) X.A (pyNext (.ref it)) (fun r s1 => ∃ u, r = some u ∧
      wpAny (model P w) X.A (letOwnedTupleGo tg (.ref it) u) (fun _ s2 => ∃ x H', Inv X pins σ H' s2 ∧ RelV x u ∧ J.yld i H x H' ∧ tn (i + 1) s2.heap ∧ ∀ b ∈ fp, H' b = none) E s1) E s
  done : ∀ (X : Cx), X.prog = P → X.w = w → X.K = K → X.calm = true → ∀ (i : Nat) (pins : List (Addr × Obj)) (s : Shared) (σ : St) (H : Hp) (E : Value → Shared → Prop), Inv X pins σ H s → (∀ b ∈ fp, FpOk X pins H b) → tn i s.heap → J.stop i H →
    wpAny (model P w) X.A (pyNext (.ref it)) (fun r s1 => r = none ∧ Inv X pins σ H s1) E s
  self : ∀ (A : Around) (i : Nat) (s : Shared) (Q : Value → Shared → Prop) (E : Value → Shared → Prop), tn i s.heap → Q (.ref it) s → wpAny (model P w) A (pyIter (.ref it)) Q E s
noncomputable abbrev TI := St → Hp → (It → Hp → Prop) → Prop
noncomputable def PIE (X : Cx) (pins : List (Addr × Obj)) (σ : St) (tg : Expr) (R : It → Hp → Prop) (itv : Value) (s2 : Shared) : Prop :=
  ∃ (it : Addr) (fp : List Addr) (tn : Nat → Heap → Prop) (J : It) (H' : Hp), itv = .ref it ∧ Inv X pins σ H' s2 ∧ Turn X.prog X.w X.K tg J fp it tn ∧ tn 0 s2.heap ∧ (∀ b ∈ fp, FpOk X pins H' b) ∧ R J H'
noncomputable def PI (X : Cx) (tg iter : Expr) (wi : TI) : Prop :=
  ∀ (pins : List (Addr × Obj)) (s : Shared) (σ : St) (H : Hp) (R : It → Hp → Prop), Inv X pins σ H s → wi σ H R →
    wpAny (model X.prog X.w) X.A (eval iter X.env) (fun v s1 => wpAny (model X.prog X.w) X.A (pyIter v) (PIE X pins σ tg R) X.xe s1) X.xe s

theorem go_of {M : Model} {A : Around} {E : Value → Shared → Prop} {s : Shared} {tg : Expr} {it : Addr} {u : Value} {o : Obj} {n : String} {vs : Array Value} {Q : Unit → Shared → Prop} (ho : s.heap.get? it = some o) (hc : o.cls = .type n) (hd : o.data = .fields vs)
    (hn : ["enumerate", "zip", "dict_itemiterator", "dict_reverseitemiterator", "odict_iterator", "itertools.zip_longest", "itertools.pairwise"].contains n = false) (hQ : Q () s) : wpAny M A (letOwnedTupleGo tg (.ref it) u) Q E s := by
  unfold letOwnedTupleGo
  cases tg <;> first
    | exact wpAny_pure hQ
    | (cases u <;> first
        | exact wpAny_pure hQ
        | (refine wpAny_bind (wpAny_load ho ?_)
           rw [hc, hd]
           show wpAny M A (if (["enumerate", "zip", "dict_itemiterator", "dict_reverseitemiterator", "odict_iterator", "itertools.zip_longest", "itertools.pairwise"].contains n && vs[0]? == some (rawInt _)) = true then _ else _) Q E s
           rw [if_neg (by intro h; rw [hn, Bool.false_and] at h; cases h)]
           exact wpAny_pure hQ))

noncomputable def Itl (K : PySem.W.Frag) (a : Addr) : It :=
  ⟨fun i H => ∃ xs x, SqL K H a xs ∧ xs[i]? = some x, fun i H x H' => H' = H ∧ ∀ xs, SqL K H a xs → xs[i]? = some x, fun i H => ∃ xs, SqL K H a xs ∧ xs.length ≤ i⟩
noncomputable def Itr (lo : Int) (n : Nat) : It := ⟨fun i _ => i < n, fun i H x H' => H' = H ∧ x = .int (lo + i), fun i _ => n ≤ i⟩
theorem turn_list {P : Program} {w : World} {K : PySem.W.Frag} {tg : Expr} (a it : Addr) : Turn P w K tg (Itl K a) [it] it (fun i h => h.IsListIter it a i) where
  mem := by simp
  obj := fun i h st b hb => by
    have e : b = it := by simpa using hb
    subst e
    obtain ⟨o, e, c, d⟩ := st
    exact ⟨o, e, fun v z => by rw [d] at z; cases z⟩
  keep := fun i h h' st k => st.at fun o e => k it (by simp) o e
  item := by
    intro X hP hw hK hc i pins s σ H E I hf st hg
    subst hP hw hK
    obtain ⟨xs, x, hq, hx⟩ := hg
    obtain ⟨its, rv, p, hz⟩ := I.list hq
    obtain ⟨u, hu, ru⟩ := rv.get hx
    obtain ⟨f0, f1, f2, f3, f4, f5⟩ := hf it (by simp)
    refine wpAny_pyNext_list_item st p.isList (x := u) (by simpa using hu) fun h' st' sb => ?_
    have I1 : Inv X pins σ H { s with heap := h' } := I.turned (t' := s.toks) (fun b o hb e => (sb.2 b hb).trans e) f0 f1 f3 f4 f5
    obtain ⟨o, e, c, d⟩ := id st'
    exact ⟨u, rfl, go_of (s := { s with heap := h' }) e c d (by decide) ⟨x, H, I1, ru, ⟨rfl, fun ys hy => by rw [I.list_inj hy hq]; exact hx⟩, st', fun b hb => (hf b hb).1⟩⟩
  done := by
    intro X hP hw hK hc i pins s σ H E I hf st hg
    subst hP hw hK
    obtain ⟨xs, hq, hx⟩ := hg
    obtain ⟨its, rv, p, hz⟩ := I.list hq
    obtain ⟨f0, f1, f2, f3, f4, f5⟩ := hf it (by simp)
    have hl := rv.length
    exact wpAny_pyNext_list_end (I.ok.hd hc) st p.isList (by simp; omega) fun h' eb => ⟨rfl, I.turned (t' := s.toks) (fun b o hb e => eb b o hb e) f0 f1 f3 f4 f5⟩
  self := fun _ _ _ _ _ st h => wpAny_pyIter_listiter st h
theorem turn_range {P : Program} {w : World} {K : PySem.W.Frag} {tg : Expr} (it : Addr) (lo : Int) (n : Nat) : Turn P w K tg (Itr lo n) [it] it (fun i h => IsRangeIter h it (lo + (i : Nat) * 1) ((n : Int) - (i : Nat)) 1) where
  mem := by simp
  obj := fun i h st b hb => by
    have e : b = it := by simpa using hb
    subst e
    exact ⟨_, st, fun v z => by
      have z' : Data.fields _ = Data.cell v := z
      cases z'⟩
  keep := fun i h h' st k => k it (by simp) _ st
  item := by
    intro X hP hw hK hc i pins s σ H E I hf st hg
    subst hP hw hK
    obtain ⟨f0, f1, f2, f3, f4, f5⟩ := hf it (by simp)
    have W := Walks.range (prog := X.prog) (w := X.w) (I.ok.hd hc) it lo 1 n
    refine W.item i s _ _ hg st fun v h' tk hv st' kk => ?_
    obtain ⟨t, rfl⟩ := hv
    have I1 : Inv X pins σ H { s with heap := h', toks := tk } := I.turned (fun b o hb e => kk b o (by simpa using hb) e) f0 f1 f3 f4 f5
    refine ⟨_, rfl, go_of (s := { s with heap := h', toks := tk }) (n := "range_iterator") st' rfl rfl (by decide) ⟨.int (lo + i), H, I1, ⟨t, ?_⟩, ⟨rfl, rfl⟩, st', fun b hb => (hf b hb).1⟩⟩
    rw [Int.mul_one]
  done := by
    intro X hP hw hK hc i pins s σ H E I hf st hg
    subst hP hw hK
    obtain ⟨f0, f1, f2, f3, f4, f5⟩ := hf it (by simp)
    exact wpAny_pyNext_range_end (I.ok.hd hc) st (by have : n ≤ i := hg; omega) fun h' eb => ⟨rfl, I.turned (t' := s.toks) (fun b o hb e => eb b o hb e) f0 f1 f3 f4 f5⟩
  self := fun _ _ _ _ _ st h => wpAny_pyIter_rangeiter st h
end L2

namespace L2
open PySem PySem.Spec PyProof.Rows
section
variable {X : Cx} {tg : Expr}
noncomputable def iList (K : PySem.W.Frag) (tl : TE) : TI := fun σ H R => tl σ H fun x H1 => ∃ a, x = .ref a ∧ (∃ xs, SqL K H1 a xs) ∧ R (Itl K a) H1
theorem pi_list {l : Expr} {tl : TE} (hl : PE X l tl) : PI X tg l (iList X.K tl) := by
  intro pins s σ H R I h
  refine thn (hl pins s σ H _ I h) fun v s1 ⟨x, H1, I1, r1, q1⟩ => ?_
  obtain ⟨a, e, ⟨xs, hq⟩, q⟩ := q1
  subst e
  cases r1
  obtain ⟨its, rv, p, hz⟩ := I1.list hq
  refine wpAny_pyIter_list p.isList ?_
  refine ⟨s1.heap.objs.size, [s1.heap.objs.size], _, _, H1, rfl, I1.kept (t' := s1.toks) fun b o e => Heap.get?_push_of_some _ e, turn_list a _, ⟨_, Heap.get?_push_size _ rfl, rfl, rfl⟩, fun b hb => ?_, q⟩
  have e : b = s1.heap.objs.size := by simpa using hb
  subst e
  exact I1.fpOk (Nat.le_refl _) (I1.hok.fresh (Nat.le_refl _))
theorem range_it {pins : List (Addr × Obj)} {σ : St} {H : Hp} {s : Shared} {R : It → Hp → Prop} {E : Value → Shared → Prop} {lo hi : Int} {t u v : Tok} {tk : Nat} (I : Inv X pins σ H s) (h1 : -(2 ^ 62) ≤ lo) (h2 : lo < 2 ^ 62) (h3 : -(2 ^ 62) ≤ hi) (h4 : hi < 2 ^ 62)
    (q : R (Itr lo (hi - lo).toNat) H) : wpAny (model X.prog X.w) X.A (pyIter (.ref s.heap.objs.size)) (PIE X pins σ tg R) E { s with heap := s.heap.push { cls := .type "range", data := .fields #[.int lo t, .int hi u, .int 1 v] }, toks := tk } := by
  refine wpAny_pyIter_range (IsRange.new ..) (small_one h1 h2 h3 h4) ?_
  have I1 : Inv X pins σ H { s with heap := s.heap.push { cls := .type "range", data := .fields #[.int lo t, .int hi u, .int 1 v] }, toks := tk } := I.kept fun b o e => Heap.get?_push_of_some _ e
  refine ⟨(s.heap.push { cls := .type "range", data := .fields #[.int lo t, .int hi u, .int 1 v] }).objs.size, [(s.heap.push { cls := .type "range", data := .fields #[.int lo t, .int hi u, .int 1 v] }).objs.size], _, _, H, rfl,
    I1.kept (t' := tk) fun b o e => Heap.get?_push_of_some _ e, turn_range _ lo (hi - lo).toNat, ?_, fun b hb => ?_, q⟩
  · have e1 : lo + ((0 : Nat) : Int) * 1 = lo := by simp
    have e2 : (((hi - lo).toNat : Nat) : Int) - ((0 : Nat) : Int) = Builtin.Range.rangeSize lo hi 1 := by rw [rangeSize_one]; split <;> omega
    show IsRangeIter _ _ (lo + ((0 : Nat) : Int) * 1) ((((hi - lo).toNat : Nat) : Int) - ((0 : Nat) : Int)) 1
    rw [e1, e2]
    exact Heap.get?_push_size _ rfl
  · have e : b = (s.heap.push { cls := .type "range", data := .fields #[.int lo t, .int hi u, .int 1 v] }).objs.size := by simpa using hb
    subst e
    exact I1.fpOk (Nat.le_refl _) (I1.hok.fresh (Nat.le_refl _))
noncomputable def iRng1 (ta : TA) : TI := fun σ H R => ta σ H fun vs H1 => ∃ j : Int, vs = [.int j] ∧ -(2 ^ 62) ≤ j ∧ j < 2 ^ 62 ∧ R (Itr 0 j.toNat) H1
theorem pi_range1 {a : Expr} {ta : TA} {p pos : Pos} (hg : Gl X "range") (hm : X.mg "range" = none) (ha : PA X [a] ta) (hs : starEach [a] X.env = [(false, eval a X.env)] := by rfl) : PI X tg (.Call (.Name "range" p) [a] [] pos) (iRng1 ta) := by
  intro pins s σ H R I h
  refine Call_ (ld_blt I hg hm boot_range (PyProof.Rows.callWith_type1 (thn (ha pos pins s σ H _ I h) fun us s1 ⟨vs, H1, I1, r1, q1⟩ => ?_) hs rfl))
  obtain ⟨j, e, q1, q2, q⟩ := q1
  subst e
  cases r1 with
  | cons r rr =>
    cases rr
    obtain ⟨t, rfl⟩ := r
    exact call_range_1 (range_it I1 (by omega) (by omega) q1 q2 (by simpa using q))
noncomputable def tFor (wi : TI) (g : TG) (tb : TS) : TS := fun D σ H => wi σ H fun J H1 => ∃ W : Nat → Nat → St → Hp → Prop, (∃ m, W 0 m σ H1) ∧ ∀ i m σ H, W i m σ H →
  (J.stop i H ∧ D.nx σ H) ∨ (J.go i H ∧ ∃ N : St → Hp → Prop, (∀ σ' H', N σ' H' → ∃ m', m' < m ∧ W (i + 1) m' σ' H') ∧ ∀ x H', J.yld i H x H' → g x σ H' fun σ2 H2 => tb { D with nx := N, ct := N, bk := D.nx } σ2 H2)
noncomputable def pinsAt (fp : List Addr) (h : Heap) : List (Addr × Obj) := fp.filterMap fun b => (h.get? b).map fun o => (b, o)
theorem mem_pinsAt {fp : List Addr} {h : Heap} {b : Addr} {o : Obj} (hb : b ∈ fp) (e : h.get? b = some o) : (b, o) ∈ pinsAt fp h := List.mem_filterMap.mpr ⟨b, hb, by rw [e]; rfl⟩
theorem of_pinsAt {fp : List Addr} {h : Heap} {p : Addr × Obj} (hp : p ∈ pinsAt fp h) : p.1 ∈ fp ∧ h.get? p.1 = some p.2 := by
  obtain ⟨b, hb, e⟩ := List.mem_filterMap.mp hp
  cases q : h.get? b with
  | none => rw [q] at e; cases e
  | some o =>
    rw [q] at e
    have e' : (b, o) = p := Option.some.inj e
    subst e'
    exact ⟨hb, q⟩
theorem Inv.pinned {pins : List (Addr × Obj)} {σ : St} {H : Hp} {s : Shared} {fp : List Addr} (I : Inv X pins σ H s) (hf : ∀ b ∈ fp, FpOk X pins H b) (ho : ∀ b ∈ fp, ∃ o, s.heap.get? b = some o ∧ ∀ v, o.data ≠ .cell v) : Inv X (pins ++ pinsAt fp s.heap) σ H s :=
  I.pins_of fun p hp => (List.mem_append.mp hp).elim (fun z => I.pin p (List.mem_append_right _ z)) fun z => by
    obtain ⟨hb, e⟩ := of_pinsAt z
    obtain ⟨f0, f1, f2, _⟩ := hf p.1 hb
    obtain ⟨o, e', d⟩ := ho p.1 hb
    rw [e] at e'; cases e'
    exact ⟨e, f0, f1, f2, d⟩
theorem Inv.unpinned {pins pl : List (Addr × Obj)} {σ : St} {H : Hp} {s : Shared} (I : Inv X (pins ++ pl) σ H s) : Inv X pins σ H s := I.pins_of fun p hp => I.pin p (List.mem_append_right _ (List.mem_append_left _ hp))
theorem ps_for {iter : Expr} {body : List Stmt} {wi : TI} {g : TG} {tb : TS} {pos : Pos} (hp : PassesOwn (model X.prog X.w) X.A X.env X.xe) (hc : X.calm = true) (hi : PI X tg iter wi) (hg : PG X tg g) (hb : PSs X body tb)
    (hs : ∀ x, foldedSetIterable iter X.env x = pure x := by intro _; rfl) : PS X (.For tg iter body [] pos) (tFor wi g tb) := by
  intro pins s σ H D I h
  refine wpAny_For (thn (hi pins s σ H _ I h) fun v s1 h1 => thn h1 fun itv s2 h2 => ?_) hs
  obtain ⟨it, fp, tn, J, H2, e, I2, T, st2, f2, W, ⟨m0, w0⟩, turn⟩ := h2
  subst e
  -- what stays true of the iterator's objects through the loop
  have stat : ∀ {H' : Hp}, (∀ b ∈ fp, H' b = none) → ∀ b ∈ fp, FpOk X pins H' b := fun hn b hb => ⟨hn b hb, (f2 b hb).2⟩
  refine codeAny_forLoop_any (fun n s' => ∃ i σ' H', Inv X pins σ' H' s' ∧ tn i s'.heap ∧ (∀ b ∈ fp, H' b = none) ∧ W i n σ' H') ?_ m0 ⟨0, σ, H2, I2, st2, fun b hb => (f2 b hb).1, w0⟩
  rintro n s3 ⟨i, σ3, H3, I3, st3, fr3, w3⟩
  rcases turn i n σ3 H3 w3 with ⟨stop, qn⟩ | ⟨go, N, hN, step⟩
  · refine wpAny_passesOwn hp (thn (T.done X rfl rfl rfl hc i pins s3 σ3 H3 X.xe I3 (stat fr3) st3 stop) fun r s4 ⟨hr, I4⟩ => ?_)
    subst hr
    exact wpAny_execs_nil ⟨σ3, H3, I4, qn⟩
  · refine wpAny_passesOwn hp (thn (T.item X rfl rfl rfl hc i pins s3 σ3 H3 X.xe I3 (stat fr3) st3 go) fun r s4 ⟨u, hr, h4⟩ => ?_)
    subst hr
    refine wpAny_passesOwn hp (thn h4 fun _ s5 ⟨x, H5, I5, r5, y5, st5, fr5⟩ => ?_)
    have I5' := I5.pinned (stat fr5) (T.obj _ _ st5)
    refine wpAny_passesOwn hp (thn (hg _ s5 σ3 H5 x u _ I5' r5 (step x H5 y5)) fun _ s6 ⟨σ6, H6, I6, q6⟩ => ?_)
    refine wpAny_passesOwn hp (thn (hb _ s6 σ6 H6 _ I6 q6) fun f s7 q7 => ?_)
    have again : ∀ {σ7 : St} {H7 : Hp}, Inv X (pins ++ pinsAt fp s5.heap) σ7 H7 s7 → N σ7 H7 → ∃ m, m < n ∧ ∃ i σ' H', Inv X pins σ' H' s7 ∧ tn i s7.heap ∧ (∀ b ∈ fp, H' b = none) ∧ W i m σ' H' := fun {σ7 H7} I7 n7 => by
      obtain ⟨m', hm, w7⟩ := hN σ7 H7 n7
      refine ⟨m', hm, i + 1, σ7, H7, I7.unpinned, T.keep _ _ _ st5 fun b hb o e => (I7.pin (b, o) (List.mem_append_right _ (List.mem_append_right _ (mem_pinsAt hb e)))).1, fun b hb => ?_, w7⟩
      obtain ⟨o, e, d⟩ := T.obj _ _ st5 b hb
      exact (I7.pin (b, o) (List.mem_append_right _ (List.mem_append_right _ (mem_pinsAt hb e)))).2.1
    cases f with
    | next => obtain ⟨σ7, H7, I7, n7⟩ := q7; exact again I7 n7
    | cont => obtain ⟨σ7, H7, I7, n7⟩ := q7; exact again I7 n7
    | brk => obtain ⟨σ7, H7, I7, q7⟩ := q7; exact ⟨σ7, H7, I7.unpinned, q7⟩
    | ret v => obtain ⟨x7, σ7, H7, I7, r7, q7⟩ := q7; exact ⟨x7, σ7, H7, I7.unpinned, r7, q7⟩
end

theorem for_list {K : PySem.W.Frag} {a : Addr} {xs : List V} {g : TG} {tb : TS} {D : Ends} {σ : St} {H : Hp} (Pv : Nat → St → Hp → Prop) (h0 : Pv 0 σ H) (hl : ∀ i σ H, i ≤ xs.length → Pv i σ H → SqL K H a xs)
    (hs : ∀ i x σ H, xs[i]? = some x → Pv i σ H → g x σ H fun σ2 H2 => tb { D with nx := Pv (i + 1), ct := Pv (i + 1), bk := D.nx } σ2 H2) (hd : ∀ σ H, Pv xs.length σ H → D.nx σ H) :
    ∃ W : Nat → Nat → St → Hp → Prop, (∃ m, W 0 m σ H) ∧ ∀ i m σ H, W i m σ H →
      ((Itl K a).stop i H ∧ D.nx σ H) ∨ ((Itl K a).go i H ∧ ∃ N : St → Hp → Prop, (∀ σ' H', N σ' H' → ∃ m', m' < m ∧ W (i + 1) m' σ' H') ∧ ∀ x H', (Itl K a).yld i H x H' → g x σ H' fun σ2 H2 => tb { D with nx := N, ct := N, bk := D.nx } σ2 H2) := by
  refine ⟨fun i m σ H => m = xs.length - i ∧ i ≤ xs.length ∧ Pv i σ H, ⟨xs.length, by simp, Nat.zero_le _, h0⟩, ?_⟩
  rintro i m σ H ⟨rfl, hi, p⟩
  have q := hl i σ H hi p
  by_cases hlt : i < xs.length
  · refine .inr ⟨⟨xs, xs[i], q, by simp [hlt]⟩, Pv (i + 1), fun σ' H' p' => ⟨xs.length - (i + 1), by omega, rfl, hlt, p'⟩, fun x H' y => ?_⟩
    obtain ⟨e, y⟩ := y
    subst e
    exact hs i x σ _ (y xs q) p
  · have e : i = xs.length := by omega
    subst e
    exact .inl ⟨⟨xs, q, Nat.le_refl _⟩, hd σ H p⟩
theorem for_range {lo : Int} {n : Nat} {g : TG} {tb : TS} {D : Ends} {σ : St} {H : Hp} (Pv : Nat → St → Hp → Prop) (h0 : Pv 0 σ H)
    (hs : ∀ i σ H, i < n → Pv i σ H → g (.int (lo + i)) σ H fun σ2 H2 => tb { D with nx := Pv (i + 1), ct := Pv (i + 1), bk := D.nx } σ2 H2) (hd : ∀ σ H, Pv n σ H → D.nx σ H) :
    ∃ W : Nat → Nat → St → Hp → Prop, (∃ m, W 0 m σ H) ∧ ∀ i m σ H, W i m σ H →
      ((Itr lo n).stop i H ∧ D.nx σ H) ∨ ((Itr lo n).go i H ∧ ∃ N : St → Hp → Prop, (∀ σ' H', N σ' H' → ∃ m', m' < m ∧ W (i + 1) m' σ' H') ∧ ∀ x H', (Itr lo n).yld i H x H' → g x σ H' fun σ2 H2 => tb { D with nx := N, ct := N, bk := D.nx } σ2 H2) := by
  refine ⟨fun i m σ H => m = n - i ∧ i ≤ n ∧ Pv i σ H, ⟨n, by simp, Nat.zero_le _, h0⟩, ?_⟩
  rintro i m σ H ⟨rfl, hi, p⟩
  by_cases hlt : i < n
  · refine .inr ⟨hlt, Pv (i + 1), fun σ' H' p' => ⟨n - (i + 1), by omega, rfl, hlt, p'⟩, fun x H' y => ?_⟩
    obtain ⟨e, y⟩ := y
    subst e y
    exact hs i σ _ hlt p
  · have e : i = n := by omega
    subst e
    exact .inl ⟨Nat.le_refl _, hd σ H p⟩
end L2

namespace L2
open PySem PySem.Spec PyProof.Rows

noncomputable abbrev R2 := V → V → Hp → VK → Prop
noncomputable def OpR (X : Cx) (f : Value → Value → Sem Value) (r : R2) : Prop :=
  ∀ (pins : List (Addr × Obj)) (s : Shared) (σ : St) (H : Hp) (x y : V) (v u : Value) (Q : VK), Inv X pins σ H s → RelV x v → RelV y u → r x y H Q →
    wpAny (model X.prog X.w) X.A (f v u) (EP X pins σ Q) X.xe s
noncomputable def UnR (X : Cx) (f : Value → Sem Value) (r : V → Hp → VK → Prop) : Prop :=
  ∀ (pins : List (Addr × Obj)) (s : Shared) (σ : St) (H : Hp) (x : V) (v : Value) (Q : VK), Inv X pins σ H s → RelV x v → r x H Q →
    wpAny (model X.prog X.w) X.A (f v) (EP X pins σ Q) X.xe s
noncomputable def CallR (X : Cx) (f : Value) (r : List V → Hp → VK → Prop) : Prop :=
  ∀ (pins : List (Addr × Obj)) (s : Shared) (σ : St) (H : Hp) (xs : List V) (us : List Value) (Q : VK), Inv X pins σ H s → Vals xs us → r xs H Q →
    wpAny (model X.prog X.w) X.A (call f us) (EP X pins σ Q) X.xe s
noncomputable def tOp (r : R2) (ta tb : TE) : TE := fun σ H Q => ta σ H fun x H1 => tb σ H1 fun y H2 => r x y H2 Q
noncomputable def tUn (r : V → Hp → VK → Prop) (ta : TE) : TE := fun σ H Q => ta σ H fun x H1 => r x H1 Q
noncomputable def rI (C : Int → Int → Prop) (g : Int → Int → V) : R2 := fun x y H Q => ∃ i j, x = .int i ∧ y = .int j ∧ C i j ∧ Q (g i j) H
noncomputable def rI0 (g : Int → Int → V) : R2 := fun x y H Q => ∃ i j, x = .int i ∧ y = .int j ∧ Q (g i j) H
noncomputable def rU (g : Int → V) : V → Hp → VK → Prop := fun x H Q => ∃ i, x = .int i ∧ Q (g i) H

section
variable {X : Cx} {a b c : Expr} {ta tb tc : TE} {pos : Pos}

theorem binT (ha : PE X a ta) (hb : PE X b tb) {pins : List (Addr × Obj)} {s : Shared} {σ : St} {H : Hp} {R : V → V → Hp → Prop} (I : Inv X pins σ H s)
    (h : ta σ H fun x H1 => tb σ H1 fun y H2 => R x y H2) {Q : Value → Shared → Prop} {f : Value → Value → Sem Value}
    (hf : ∀ v u s2 x y H2, Inv X pins σ H2 s2 → RelV x v → RelV y u → R x y H2 → wpAny (model X.prog X.w) X.A (f v u) Q X.xe s2) :
    wpAny (model X.prog X.w) X.A (eval a X.env) (fun v s₁ => wpAny (model X.prog X.w) X.A (eval b X.env) (fun u s₂ => wpAny (model X.prog X.w) X.A (f v u) Q X.xe s₂) X.xe s₁) X.xe s := by
  refine thn (ha pins s σ H _ I h) fun v s1 ⟨x, H1, I1, r1, q1⟩ => ?_
  refine thn (hb pins s1 σ H1 _ I1 q1) fun u s2 ⟨y, H2, I2, r2, q2⟩ => ?_
  exact hf v u s2 x y H2 I2 r1 r2 q2

theorem pe_op {op : Operator} {r : R2} (ho : OpR X (binaryOp op) r) (ha : PE X a ta) (hb : PE X b tb) : PE X (.BinOp a op b pos) (tOp r ta tb) := by
  intro pins s σ H Q I h
  exact wpAny_BinOp (binT ha hb I h fun v u s2 x y H2 I2 rx ry q => ho pins s2 σ H2 x y v u Q I2 rx ry q)
theorem pe_un {op : UnaryOp} {r : V → Hp → VK → Prop} (ho : UnR X (unaryOp op) r) (ha : PE X a ta) : PE X (.UnaryOp op a pos) (tUn r ta) := by
  intro pins s σ H Q I h
  exact UnaryOp_ (thn (ha pins s σ H _ I h) fun v s1 ⟨x, H1, I1, r1, q1⟩ => ho pins s1 σ H1 x v Q I1 r1 q1)
theorem opI {f : Value → Value → Sem Value} {C : Int → Int → Prop} {g : Int → Int → Int}
    (rule : ∀ (i j : Int) (t u : Tok) (s : Shared) (Q : Value → Shared → Prop) (E : Value → Shared → Prop), C i j → Q (.int (g i j) s.toks) { s with toks := s.toks + 1 } → wpAny (model X.prog X.w) X.A (f (.int i t) (.int j u)) Q E s) :
    OpR X f (rI C fun i j => .int (g i j)) := by
  intro pins s σ H x y v u Q I rx ry h
  obtain ⟨i, j, rfl, rfl, hc, q⟩ := h
  obtain ⟨t, rfl⟩ := rx
  obtain ⟨t', rfl⟩ := ry
  exact rule i j t t' s _ _ hc ⟨.int (g i j), H, I.tok _, ⟨_, rfl⟩, q⟩
theorem opI0 {f : Value → Value → Sem Value} {g : Int → Int → Int}
    (rule : ∀ (i j : Int) (t u : Tok) (s : Shared) (Q : Value → Shared → Prop) (E : Value → Shared → Prop), Q (.int (g i j) s.toks) { s with toks := s.toks + 1 } → wpAny (model X.prog X.w) X.A (f (.int i t) (.int j u)) Q E s) :
    OpR X f (rI0 fun i j => .int (g i j)) := by
  intro pins s σ H x y v u Q I rx ry h
  obtain ⟨i, j, rfl, rfl, q⟩ := h
  obtain ⟨t, rfl⟩ := rx
  obtain ⟨t', rfl⟩ := ry
  exact rule i j t t' s _ _ ⟨.int (g i j), H, I.tok _, ⟨_, rfl⟩, q⟩
theorem opB0 {f : Value → Value → Sem Value} {g : Int → Int → Bool}
    (rule : ∀ (i j : Int) (t u : Tok) (s : Shared) (Q : Value → Shared → Prop) (E : Value → Shared → Prop), Q (.bool (g i j)) s → wpAny (model X.prog X.w) X.A (f (.int i t) (.int j u)) Q E s) :
    OpR X f (rI0 fun i j => .bl (g i j)) := by
  intro pins s σ H x y v u Q I rx ry h
  obtain ⟨i, j, rfl, rfl, q⟩ := h
  obtain ⟨t, rfl⟩ := rx
  obtain ⟨t', rfl⟩ := ry
  exact rule i j t t' s _ _ ⟨.bl (g i j), H, I, rfl, q⟩

noncomputable def CDiv (i j : Int) : Prop := 0 < j ∧ j < 1073741824
noncomputable def CPow (i j : Int) : Prop := 0 ≤ j ∧ j ≤ 1000000 ∧ i.natAbs < 2 ^ 64
noncomputable def CMul (i j : Int) : Prop := (-(2 ^ 64) < i ∧ i < 2 ^ 64) ∨ (-(2 ^ 64) < j ∧ j < 2 ^ 64)
theorem CMul.ok {i j : Int} (h : CMul i j) : IntMulOk i j := by
  rcases h with ⟨h1, h2⟩ | ⟨h1, h2⟩
  · exact .of_left (intBits_le_64 h1 h2)
  · exact .of_right (intBits_le_64 h1 h2)
theorem op_add : OpR X (binaryOp .Add) (rI0 fun i j => .int (i + j)) := opI0 fun _ _ _ _ _ _ _ q => add_int q
theorem op_sub : OpR X (binaryOp .Sub) (rI0 fun i j => .int (i - j)) := opI0 fun _ _ _ _ _ _ _ q => sub_int q
theorem op_mul : OpR X (binaryOp .Mult) (rI CMul fun i j => .int (i * j)) := opI fun _ _ _ _ _ _ _ hc q => mul_int q hc.ok
theorem op_fdiv : OpR X (binaryOp .FloorDiv) (rI CDiv fun i j => .int (i / j)) := opI fun i j _ _ _ _ _ hc q => by
  have h1 : (0 : Int) < j := hc.1
  have h2 : j < 1073741824 := hc.2
  exact floordiv_int (by omega) (by rw [Int.fdiv_eq_ediv_of_nonneg i (by omega)]; exact q) (.inl (PyProof.noPylong_small (by omega)))
theorem op_mod : OpR X (binaryOp .Mod) (rI (fun _ j => 0 < j) fun i j => .int (i % j)) := opI fun i j _ _ _ _ _ hc q => by
  have h1 : (0 : Int) < j := hc
  exact mod_int' (by omega) (by rw [Int.fmod_eq_emod_of_nonneg i (by omega)]; exact q)
theorem op_pow : OpR X (binaryOp .Pow) (rI CPow fun i j => .int (i ^ j.toNat)) := opI fun _ _ _ _ _ _ _ hc q => pow_int_small hc.1 hc.2.1 hc.2.2 q
theorem unI {f : Value → Sem Value} {g : Int → Int}
    (rule : ∀ (i : Int) (t : Tok) (s : Shared) (Q : Value → Shared → Prop) (E : Value → Shared → Prop), Q (.int (g i) s.toks) { s with toks := s.toks + 1 } → wpAny (model X.prog X.w) X.A (f (.int i t)) Q E s) :
    UnR X f (rU fun i => .int (g i)) := by
  intro pins s σ H x v Q I rx h
  obtain ⟨i, rfl, q⟩ := h
  obtain ⟨t, rfl⟩ := rx
  exact rule i t s _ _ ⟨.int (g i), H, I.tok _, ⟨_, rfl⟩, q⟩
theorem un_neg : UnR X (unaryOp .USub) (rU fun i => .int (-i)) := unI fun _ _ _ _ _ q => neg_int q
end

noncomputable def scal : V → V → Bool
  | .non, .non => true | .non, .int _ => true | .int _, .non => true | .non, .bl _ => true | .bl _, .non => true | .non, .str _ => true | .str _, .non => true
  | .int _, .int _ => true | .bl _, .bl _ => true | .str _, .str _ => true | .byt _, .byt _ => true
  | .int _, .str _ => true | .str _, .int _ => true | .bl _, .str _ => true | .str _, .bl _ => true
  | _, _ => false
noncomputable def rEq : R2 := fun x y H Q => scal x y = true ∧ Q (.bl (decide (x = y))) H
noncomputable def rNe : R2 := fun x y H Q => scal x y = true ∧ Q (.bl (!decide (x = y))) H

theorem dec_int {i j : Int} : decide (V.int i = V.int j) = (i == j) := by
  rw [Bool.eq_iff_iff]
  simp
theorem dec_bl {i j : Bool} : decide (V.bl i = V.bl j) = (i == j) := by
  rw [Bool.eq_iff_iff]
  simp
theorem dec_str {i j : Str} : decide (V.str i = V.str j) = (i == j) := by
  rw [Bool.eq_iff_iff]
  simp
theorem dec_byt {i j : Array UInt8} : decide (V.byt i = V.byt j) = (i.toList == j.toList) := by
  rw [Bool.eq_iff_iff]
  cases i
  cases j
  simp

section
variable {X : Cx} {a b c : Expr} {ta tb tc : TE} {pos : Pos}
theorem fin_bl {pins : List (Addr × Obj)} {σ : St} {H : Hp} {s : Shared} {Q : VK} {k k' : Bool} (I : Inv X pins σ H s) (q : Q (.bl k) H) (e : k = k') : EP X pins σ Q (.bool k') s := by
  subst e
  exact ⟨.bl k, H, I, rfl, q⟩
theorem op_eq : OpR X (compareOp .Eq) rEq := by
  intro pins s σ H x y v u Q I rx ry h
  obtain ⟨hs, q⟩ := h
  cases x with
  | non =>
    cases rx
    cases y with
    | non => cases ry; exact PySem.EqNone.eq_none_none (fin_bl I q (by simp))
    | bl j => cases ry; exact PySem.EqNone.eq_none_bool (fin_bl I q (by simp))
    | int j => obtain ⟨t', rfl⟩ := ry; exact PySem.EqNone.eq_none_int (fin_bl I q (by simp))
    | str j => obtain ⟨t', rfl⟩ := ry; exact PySem.EqNone.eq_none_str (fin_bl I q (by simp))
    | _ => exact absurd (show false = true from hs) Bool.false_ne_true
  | bl i =>
    cases rx
    cases y with
    | non => cases ry; exact PySem.EqNone.eq_bool_none (fin_bl I q (by simp))
    | bl j => cases ry; exact eq_bool (fin_bl I q dec_bl)
    | str j => obtain ⟨t', rfl⟩ := ry; exact PySem.EqMixed.eq_bool_str (fin_bl I q (by simp))
    | _ => exact absurd (show false = true from hs) Bool.false_ne_true
  | int i =>
    obtain ⟨t, rfl⟩ := rx
    cases y with
    | non => cases ry; exact PySem.EqNone.eq_int_none (fin_bl I q (by simp))
    | int j => obtain ⟨t', rfl⟩ := ry; exact eq_int (fin_bl I q dec_int)
    | str j => obtain ⟨t', rfl⟩ := ry; exact PySem.EqMixed.eq_int_str (fin_bl I q (by simp))
    | _ => exact absurd (show false = true from hs) Bool.false_ne_true
  | str i =>
    obtain ⟨t, rfl⟩ := rx
    cases y with
    | non => cases ry; exact PySem.EqNone.eq_str_none (fin_bl I q (by simp))
    | bl j => cases ry; exact PySem.EqMixed.eq_str_bool (fin_bl I q (by simp))
    | int j => obtain ⟨t', rfl⟩ := ry; exact PySem.EqMixed.eq_str_int (fin_bl I q (by simp))
    | str j => obtain ⟨t', rfl⟩ := ry; exact eq_str (fin_bl I q dec_str)
    | _ => exact absurd (show false = true from hs) Bool.false_ne_true
  | byt i =>
    obtain ⟨t, rfl⟩ := rx
    cases y with
    | byt j => obtain ⟨t', rfl⟩ := ry; exact PySem.W.eq_bytes (fin_bl I q dec_byt)
    | _ => exact absurd (show false = true from hs) Bool.false_ne_true
  | _ => cases y <;> exact absurd (show false = true from hs) Bool.false_ne_true
theorem op_ne : OpR X (compareOp .NotEq) rNe := by
  intro pins s σ H x y v u Q I rx ry h
  obtain ⟨hs, q⟩ := h
  cases x with
  | non =>
    cases rx
    cases y with
    | non => cases ry; exact PySem.EqNone.ne_none_none (fin_bl I q (by simp))
    | bl j => cases ry; exact PySem.EqNone.ne_none_bool (fin_bl I q (by simp))
    | int j => obtain ⟨t', rfl⟩ := ry; exact PySem.EqNone.ne_none_int (fin_bl I q (by simp))
    | str j => obtain ⟨t', rfl⟩ := ry; exact PySem.EqNone.ne_none_str (fin_bl I q (by simp))
    | _ => exact absurd (show false = true from hs) Bool.false_ne_true
  | bl i =>
    cases rx
    cases y with
    | non => cases ry; exact PySem.EqNone.ne_bool_none (fin_bl I q (by simp))
    | bl j => cases ry; exact ne_bool (fin_bl I q (congrArg not dec_bl))
    | str j => obtain ⟨t', rfl⟩ := ry; exact PySem.EqMixed.ne_bool_str (fin_bl I q (by simp))
    | _ => exact absurd (show false = true from hs) Bool.false_ne_true
  | int i =>
    obtain ⟨t, rfl⟩ := rx
    cases y with
    | non => cases ry; exact PySem.EqNone.ne_int_none (fin_bl I q (by simp))
    | int j => obtain ⟨t', rfl⟩ := ry; exact ne_int (fin_bl I q (congrArg not dec_int))
    | str j => obtain ⟨t', rfl⟩ := ry; exact PySem.EqMixed.ne_int_str (fin_bl I q (by simp))
    | _ => exact absurd (show false = true from hs) Bool.false_ne_true
  | str i =>
    obtain ⟨t, rfl⟩ := rx
    cases y with
    | non => cases ry; exact PySem.EqNone.ne_str_none (fin_bl I q (by simp))
    | bl j => cases ry; exact PySem.EqMixed.ne_str_bool (fin_bl I q (by simp))
    | int j => obtain ⟨t', rfl⟩ := ry; exact PySem.EqMixed.ne_str_int (fin_bl I q (by simp))
    | str j => obtain ⟨t', rfl⟩ := ry; exact ne_str (fin_bl I q (congrArg not dec_str))
    | _ => exact absurd (show false = true from hs) Bool.false_ne_true
  | byt i =>
    obtain ⟨t, rfl⟩ := rx
    cases y with
    | byt j => obtain ⟨t', rfl⟩ := ry; exact PySem.W.ne_bytes (fin_bl I q (congrArg not dec_byt))
    | _ => exact absurd (show false = true from hs) Bool.false_ne_true
  | _ => cases y <;> exact absurd (show false = true from hs) Bool.false_ne_true

theorem op_lt : OpR X (compareOp .Lt) (rI0 fun i j => .bl (decide (i < j))) := opB0 fun _ _ _ _ _ _ _ q => lt_int q
theorem op_le : OpR X (compareOp .LtE) (rI0 fun i j => .bl (decide (i ≤ j))) := opB0 fun _ _ _ _ _ _ _ q => le_int q
theorem op_gt : OpR X (compareOp .Gt) (rI0 fun i j => .bl (decide (j < i))) := opB0 fun _ _ _ _ _ _ _ q => gt_int q
theorem op_isN : OpR X (compareOp .Is) (fun x y H Q => y = .non ∧ Q (.bl (decide (x = .non))) H) := by
  intro pins s σ H x y v u Q I rx ry h
  obtain ⟨rfl, q⟩ := h
  cases ry
  refine is_none_gen (fin_bl I q ?_)
  cases x <;> first
    | (cases rx; rfl)
    | (obtain ⟨t, rfl⟩ := rx; rfl)
theorem op_notN : OpR X (compareOp .IsNot) (fun x y H Q => y = .non ∧ Q (.bl (!decide (x = .non))) H) := by
  intro pins s σ H x y v u Q I rx ry h
  obtain ⟨rfl, q⟩ := h
  cases ry
  refine isnot_none_gen (fin_bl I q ?_)
  cases x <;> first
    | (cases rx; rfl)
    | (obtain ⟨t, rfl⟩ := rx; rfl)

theorem nomark (b : Expr) {op : CmpOp} (h : op ≠ .In := by decide) (h2 : op ≠ .NotIn := by decide) : behindInMarks op b = false := by
  have e1 : (op == CmpOp.In) = false := by cases op <;> first | rfl | exact absurd rfl h
  have e2 : (op == CmpOp.NotIn) = false := by cases op <;> first | rfl | exact absurd rfl h2
  cases b <;> simp [behindInMarks, e1, e2]
theorem pe_cmpR {op : CmpOp} {r : R2} (ho : OpR X (compareOp op) r) (ha : PE X a ta) (hb : PE X b tb) (hm : behindInMarks op b = false) : PE X (.Compare a [op] [b] pos) (tOp r ta tb) := by
  intro pins s σ H Q I h
  exact wpAny_Compare1 (binT ha hb I h fun v u s2 x y H2 I2 rx ry q => ho pins s2 σ H2 x y v u Q I2 rx ry q) hm
noncomputable def tTest (t : TE) : TT := fun σ H Q => t σ H fun x H' => ∃ k, x = .bl k ∧ Q k H'
theorem pt_cmpR {op : CmpOp} {r : R2} (ho : OpR X (compareOp op) r) (ha : PE X a ta) (hb : PE X b tb) (hm : behindInMarks op b = false) : PT X (.Compare a [op] [b] pos) (tTest (tOp r ta tb)) := by
  intro pins s σ H Q I h
  refine wpAny_isTrue_Compare1 (thn (ha pins s σ H _ I h) fun v s1 ⟨x, H1, I1, r1, q1⟩ => thn (hb pins s1 σ H1 _ I1 q1) fun u s2 ⟨y, H2, I2, r2, q2⟩ =>
    thn (ho pins s2 σ H2 x y v u _ I2 r1 r2 q2) fun c s3 ⟨z, H3, I3, r3, k, e, q3⟩ => ?_) hm
  subst e
  cases r3
  exact wpAny_truthy_bool ⟨H3, I3, q3⟩
noncomputable def tChain (r r' : R2) (ta tb tc : TE) : TE := fun σ H Q => ta σ H fun x H1 => tb σ H1 fun y H2 => r x y H2 fun z H3 => ∃ k, z = .bl k ∧
  (if k = true then tc σ H3 fun w' H4 => r' y w' H4 Q else Q (.bl false) H3)
theorem pt_chain {op op' : CmpOp} {r r' : R2} (ho : OpR X (compareOp op) r) (ho' : OpR X (compareOp op') r') (ha : PE X a ta) (hb : PE X b tb) (hc : PE X c tc)
    (hm : lastMarks [op, op'] [b, c] = false := by with_unfolding_all rfl) : PT X (.Compare a [op, op'] [b, c] pos) (tTest (tChain r r' ta tb tc)) := by
  intro pins s σ H Q I h
  refine isTrue_chain (thn (ha pins s σ H _ I h) fun v s1 ⟨x, H1, I1, r1, q1⟩ => test_link (thn (hb pins s1 σ H1 _ I1 q1) fun u s2 ⟨y, H2, I2, r2, q2⟩ =>
    thn (ho pins s2 σ H2 x y v u _ I2 r1 r2 q2) fun d s3 ⟨z, H3, I3, r3, k, e, q3⟩ => ?_)) hm
  subst e
  cases r3
  refine wpAny_truthy_bool ?_
  cases k with
  | false =>
    obtain ⟨k', e', q'⟩ := q3
    cases e'
    exact ite_ff ⟨H3, I3, q'⟩
  | true =>
    refine ite_tt (test_last (thn (hc pins s3 σ H3 _ I3 q3) fun w' s4 ⟨z', H4, I4, r4, q4⟩ => thn (ho' pins s4 σ H4 y z' u w' _ I4 r2 r4 q4) fun d' s5 ⟨z2, H5, I5, r5, k2, e2, q5⟩ => ?_))
    subst e2
    cases r5
    exact wpAny_truthy_bool ⟨H5, I5, q5⟩

theorem line63 : (sizeLine : Nat) < 2 ^ 63 := by rw [sizeLine_eq]; decide
theorem vals1 {x : V} {us : List Value} (r : Vals [x] us) : ∃ u, us = [u] ∧ RelV x u := by
  cases r with
  | cons r1 r2 => cases r2; exact ⟨_, rfl, r1⟩
theorem vals2 {x y : V} {us : List Value} (r : Vals [x, y] us) : ∃ u w', us = [u, w'] ∧ RelV x u ∧ RelV y w' := by
  cases r with
  | cons r1 r2 =>
    cases r2 with
    | cons r3 r4 => cases r4; exact ⟨_, _, rfl, r1, r3⟩
theorem call_min2 (hc : X.calm = true) : CallR X (.builtin "min") (fun xs H Q => ∃ i j, xs = [.int i, .int j] ∧ Q (.int (if j < i then j else i)) H) := by
  intro pins s σ H xs us Q I r h
  obtain ⟨i, j, rfl, q⟩ := h
  obtain ⟨u, w', rfl, ⟨t, rfl⟩, ⟨t', rfl⟩⟩ := vals2 r
  refine min_two_ints (I.ok.hd hc) fun h' tk k => ⟨_, H, I.kept k, ?_, q⟩
  by_cases hj : j < i
  · rw [if_pos hj, if_pos hj]; exact ⟨_, rfl⟩
  · rw [if_neg hj, if_neg hj]; exact ⟨_, rfl⟩
end
end L2

namespace L2
open PySem PySem.Spec PyProof.Rows

structure ObjM (h : Heap) (x dx C : Addr) (mA : Str → Option Value) : Prop where
  obj : h.get? x = some (PySem.W.instObj C dx)
  ns : h.Ns1 dx mA
  ne : dx ≠ x

theorem lookIn_ns {h : Heap} {dx : Addr} {mA : Str → Option Value} (n : h.Ns1 dx mA) : ∃ od, h.get? dx = some od ∧ ∀ name, PySem.W.lookIn name od = some (mA name) := by
  obtain ⟨o, es, ep, ho, hd, hk, _, hm⟩ := n
  refine ⟨o, ho, fun name => ?_⟩
  have e := hm name
  unfold nsFind findBy at e
  rw [← Array.find?_toList] at e
  unfold PySem.W.lookIn
  rw [hd]
  dsimp only
  split
  · rename_i y q
    rw [q] at e
    exact congrArg some e
  · rename_i q
    rw [q] at e
    have a : es.toList.any (·.refKey) = false := by
      rw [List.any_eq_false]
      intro y hy
      obtain ⟨z, t, hkey⟩ := hk y (Array.mem_toList_iff.mp hy)
      simp [DictEntry.refKey, hkey]
    have a' : ¬ es.toList.any (·.refKey) = true := by rw [a]; exact Bool.false_ne_true
    rw [if_neg a']
    exact congrArg some e

theorem ObjM.look {h : Heap} {x dx C : Addr} {mA : Str → Option Value} (I : ObjM h x dx C mA) : ∃ od, PySem.W.InstAt h x (PySem.W.instObj C dx) C (some od) ∧ ∀ name, PySem.W.lookIn name od = some (mA name) :=
  let ⟨od, ho, hl⟩ := lookIn_ns I.ns
  ⟨od, ⟨I.obj, rfl, rfl, ho⟩, hl⟩

section
variable {prog : Program} {w : World} {A : Around} {E : Value → Shared → Prop} {s : Shared} {K : PySem.W.Frag} {x dx C f : Addr} {mA : Str → Option Value} {name : Str} {v : Value}

end

section
variable {P : Program} {w : World} {H H' : Hp} {h h' : Heap} {a C dx : Addr} {fs fs' : List (Str × V)}
theorem ins_get (hok : HOk P w H h) (e : H a = some (.ins C dx fs)) : ∃ mA, ObjM h a dx C mA ∧ (∀ f, RelO (fs.lookup f) (mA f)) ∧ PySem.Within mA (fs.map (·.1)) ∧ fs.length ≤ 1000 ∧ H dx = some (.own a) := by
  obtain ⟨d, z, ne, ob, mA, n, r, q⟩ := (show ObjOk P w H h a (.ins C dx fs) from hok a _ e)
  exact ⟨mA, ⟨ob, n, ne⟩, r, q, z, d⟩
end

structure Cls (K : PySem.W.Frag) (C : Addr) : Prop where
  pg : PySem.W.plainGet K C Str.empty = true
  hd : PySem.W.hasDictIn K C = true
  po : PySem.W.plainOver K C = true
  sa : PySem.W.findIn K (.ref C) "__setattr__" = some (some (.builtin "object.__setattr__"))
theorem Cls.get {K : PySem.W.Frag} {C : Addr} (c : Cls K C) (f : Str) : PySem.W.plainGet K C f = true := c.pg
section
variable {X : Cx} {pins : List (Addr × Obj)} {σ : St} {H : Hp} {s : Shared} {a C dx : Addr} {fs : List (Str × V)} {f : Str} {v : V} {A : Around} {E : Value → Shared → Prop}

end

section
variable {X : Cx} {o e value : Expr} {f : Str} {pos pos' tpos : Pos} {ta tv : TE}
end

section
variable {X : Cx} {pins : List (Addr × Obj)} {σ : St} {H : Hp} {s : Shared} {A : Around} {E : Value → Shared → Prop} {Q : Value → Shared → Prop} {c : Value} {b : Bool}
inductive TyOf (K : PySem.W.Frag) (H : Hp) : V → Value → Prop where
  | non : TyOf K H .non (.type "NoneType")
  | bl (x : Bool) : TyOf K H (.bl x) (.type "bool")
  | int (i : Int) : TyOf K H (.int i) (.type "int")
  | str (x : Str) : TyOf K H (.str x) (.type "str")
  | flt (x : UInt64) : TyOf K H (.flt x) (.type "float")
  | lst {a : Addr} {xs : List V} (e : H a = some (.lst xs)) : TyOf K H (.ref a) (.type "list")
  | frz {a : Addr} {o : Obj} {xs : List V} (e : H a = some (.frz o (.lst xs))) : TyOf K H (.ref a) (.type "list")
  | tup {a : Addr} {xs : List V} (e : H a = some (.tup xs)) : TyOf K H (.ref a) (.type "tuple")
  | dK {a : Addr} {kvs : List (Key × V)} (e : H a = some (.dK kvs)) : TyOf K H (.ref a) (.type "dict")
  | dT {a : Addr} {kvs : List (List Key × V)} (e : H a = some (.dT kvs)) : TyOf K H (.ref a) (.type "dict")
  | ins {a C dx : Addr} {fs : List (Str × V)} (e : H a = some (.ins C dx fs)) (cl : Cls K C) (ha : PySem.W.findIn K (.ref C) "__class__" = some (some (.builtin "object.__class__")))
      (hn : PySem.W.specialIn K (.builtin "object.__class__") "__get__" = some (some (.builtin "getset_descriptor.__get__"))) (htk : PySem.W.takesIn K (.builtin "object.__class__") = some true)
      (hm : PySem.W.mroIn K C (.type "object") = some true) : TyOf K H (.ref a) (.ref C)
theorem isinst_ok {x : V} {u t : Value} (I : Inv X pins σ H s) (rx : RelV x u) (ty : TyOf X.K H x t) (e : PySem.W.kitOne X.K t c = some b) (h : ∀ tk, Q (.bool b) { s with toks := tk }) :
    wpAny (model X.prog X.w) A (call (.builtin "isinstance") [u, c]) Q E s := by
  cases ty with
  | non => cases (show u = Value.none from rx); exact PySem.W.kia_one PySem.W.kitx_none I.kIn True.intro e (fun z => nomatch z) h
  | bl y => cases (show u = Value.bool y from rx); exact PySem.W.kia_one PySem.W.kitx_bool I.kIn True.intro e (fun z => nomatch z) h
  | int i => obtain ⟨t, q⟩ := (show ∃ t, u = Value.int i t from rx); cases q; exact PySem.W.kia_one PySem.W.kitx_int I.kIn True.intro e (fun z => nomatch z) h
  | str y => obtain ⟨t, q⟩ := (show ∃ t, u = Value.str y t from rx); cases q; exact PySem.W.kia_one PySem.W.kitx_str I.kIn True.intro e (fun z => nomatch z) h
  | flt y => obtain ⟨t, q⟩ := (show ∃ t, u = Value.float y t from rx); cases q; exact PySem.W.kia_one PySem.W.kitx_float I.kIn True.intro e (fun z => nomatch z) h
  | @lst a xs ea =>
    cases (show u = Value.ref a from rx)
    obtain ⟨_, _, n, _, h1⟩ := (show ObjOk X.prog X.w H s.heap a (.lst xs) from I.hok a _ ea)
    exact PySem.W.kia_one PySem.W.kitx_list I.kIn ⟨_, h1, rfl⟩ e (fun z => nomatch z) h
  | @frz a ob xs ea =>
    cases (show u = Value.ref a from rx)
    obtain ⟨_, _, _, n, _, h1⟩ := (show ObjOk X.prog X.w H s.heap a (.frz ob (.lst xs)) from I.hok a _ ea)
    exact PySem.W.kia_one PySem.W.kitx_list I.kIn ⟨_, h1, rfl⟩ e (fun z => nomatch z) h
  | @tup a xs ea =>
    cases (show u = Value.ref a from rx)
    obtain ⟨_, _, _, p⟩ := (show ObjOk X.prog X.w H s.heap a (.tup xs) from I.hok a _ ea)
    obtain ⟨o, h1, h2, _⟩ := p
    exact PySem.W.kia_one PySem.W.kitx_tuple I.kIn ⟨o, h1, h2⟩ e (fun z => nomatch z) h
  | @dK a kvs ea =>
    cases (show u = Value.ref a from rx)
    obtain ⟨_, _, vs, _, p⟩ := (show ObjOk X.prog X.w H s.heap a (.dK kvs) from I.hok a _ ea)
    obtain ⟨o, es, ep, h1, h2, _⟩ := p
    exact PySem.W.kia_one PySem.W.kitx_dict I.kIn ⟨o, h1, h2.1⟩ e (fun z => nomatch z) h
  | @dT a kvs ea =>
    cases (show u = Value.ref a from rx)
    obtain ⟨_, _, xs, _, o, es, ep, h1, h2, _⟩ := (show ObjOk X.prog X.w H s.heap a (.dT kvs) from I.hok a _ ea)
    exact PySem.W.kia_one PySem.W.kitx_dict I.kIn ⟨o, h1, h2.1⟩ e (fun z => nomatch z) h
  | @ins a C dx fs ea cl ha hn htk hm =>
    cases (show u = Value.ref a from rx)
    obtain ⟨mA, O, _⟩ := ins_get I.hok ea
    obtain ⟨od, J, _⟩ := O.look
    exact PySem.W.kia_one (PySem.W.kitx_own (cl.get _) cl.hd ha hn htk hm) I.kIn J e (fun z => nomatch z) h
end
end L2

namespace L2
open PySem PySem.Spec PyProof.Rows

structure Room (k : Nat) (A : Around) : Prop where
  hd : A.handled = none
  dp : A.depth + 3 * k + 5 < recursionLimit
  un : A.units + 16 * k + 200 < cLine
  gd : A.guards = some []
theorem Room.mono {j k : Nat} {A : Around} (r : Room k A) (h : j ≤ k) : Room j A := ⟨r.hd, by have := r.dp; omega, by have := r.un; omega, r.gd⟩
theorem Room.deeper {k : Nat} {A : Around} (r : Room (k + 1) A) (env : Env) : Room k (A.deeper env) :=
  ⟨r.hd, by have := r.dp; show A.depth + 1 + 3 * k + 5 < _; omega, by have := r.un; show A.units + 3 + 16 * k + 200 < _; omega, r.gd⟩
theorem Room.depth {k : Nat} {A : Around} (r : Room k A) : A.depth < recursionLimit := by have := r.dp; omega
theorem Room.units {k : Nat} {A : Around} (r : Room k A) : A.units + 64 < cLine := by have := r.un; omega
noncomputable def tNil : TA := fun _ H Q => Q [] H
noncomputable def tCons (ta : TE) (tr : TA) : TA := fun σ H Q => ta σ H fun x H1 => tr σ H1 fun xs H2 => Q (x :: xs) H2
section
variable {X : Cx} {e : Expr} {es : List Expr} {te : TE} {t : TA} {pos : Pos}
theorem pa_nil : PA X [] tNil := fun _ _ _ _ H Q I h => Calls.spliced_nil ⟨[], H, I, .nil, h⟩
theorem pa_cons (ha : PE X e te) (hr : PA X es t) (hs : starEach (e :: es) X.env = (false, eval e X.env) :: starEach es X.env := by rfl) : PA X (e :: es) (tCons te t) := by
  intro pos pins s σ H Q I h
  rw [hs]
  show wpAny _ _ (spliced ((false, eval e X.env) :: backTo pos (starEach es X.env))) _ _ s
  refine Calls.spliced_cons (thn (ha pins s σ H _ I h) fun u s1 ⟨x, H1, I1, r1, q1⟩ => ?_)
  exact thn (hr pos pins s1 σ H1 _ I1 q1) fun us s2 ⟨xs, H2, I2, r2, q2⟩ => ⟨x :: xs, H2, I2, .cons r1 r2, q2⟩

noncomputable def tTup (t : TA) : TE := fun σ H Q => t σ H fun xs H1 => xs.length ≤ sizeLine ∧ ∀ p, H1 p = none → Q (.ref p) (upd H1 p (.tup xs))
noncomputable def tLst (t : TA) : TE := fun σ H Q => t σ H fun xs H1 => xs.length ≤ sizeLine ∧ ∀ p, H1 p = none → Q (.ref p) (upd H1 p (.lst xs))
theorem pe_tup {x1} (h : PA X es t) : PE X (.Tuple es x1 pos) (tTup t) := by
  intro pins s σ H Q I hq
  refine wpAny_Tuple_spliced (thn (h pos pins s σ H _ I hq) fun us s1 ⟨xs, H1, I1, r, z, q⟩ => ⟨by rw [← r.length]; exact z, ?_⟩)
  have hf : H1 s1.heap.objs.size = none := I1.hok.fresh (Nat.le_refl _)
  refine ⟨.ref s1.heap.objs.size, upd H1 s1.heap.objs.size (.tup xs), I1.laid (t' := s1.toks) (fun b u e => Heap.get?_push_of_some _ e) (Nat.le_refl _) ?_, rfl, q _ hf⟩
  exact ⟨z, us, r, ⟨_, Heap.get?_push_size _ rfl, rfl, ⟨_, rfl⟩, rfl⟩⟩
theorem pe_lst (h : PA X es t) : PE X (.List es pos) (tLst t) := by
  intro pins s σ H Q I hq
  refine wpAny_List_spliced (thn (h pos pins s σ H _ I hq) fun us s1 ⟨xs, H1, I1, r, z, q⟩ => ⟨by rw [← r.length]; exact z, ?_⟩)
  have hf : H1 s1.heap.objs.size = none := I1.hok.fresh (Nat.le_refl _)
  refine ⟨.ref s1.heap.objs.size, upd H1 s1.heap.objs.size (.lst xs), I1.laid (t' := s1.toks) (fun b u e => Heap.get?_push_of_some _ e) (Nat.le_refl _) ?_, rfl, q _ hf⟩
  exact ⟨z, us, 0, r, Heap.get?_push_size _ rfl⟩
end

noncomputable abbrev Sp := List V → Hp → VK → XK → Prop
noncomputable abbrev CXT := List Env → Hp → Shared → XK → Value → Shared → Prop

structure Env0 (P : Program) (w : World) (K : PySem.W.Frag) (mg : Str → Option Value) (base : Heap) (A : Around) (outer : List Env) (s : Shared) (H : Hp) : Prop where
  frames : A.frames = some outer
  mod : Mod K mg base
  bs : ∀ b o, base.get? b = some o → s.heap.get? b = some o ∧ H b = none
  bsz : base.objs.size ≤ s.heap.objs.size
  funs : s.heap.FunFrames base outer
  frf : ∀ b ∈ frs outer, H b = none
  hok : HOk P w H s.heap
  bare : AllBare s.gens
noncomputable def CE (outer : List Env) (P : Program) (w : World) (H : Hp) (s : Shared) (Q : VK) (u : Value) (s' : Shared) : Prop :=
  ∃ v H', s'.os = s.os ∧ AllBare s'.gens ∧ Un (frs outer) [] H H' s.heap s'.heap ∧ HOk P w H' s'.heap ∧ RelV v u ∧ Q v H'
noncomputable def CR (CX : CXT) (outer : List Env) (P : Program) (w : World) (H : Hp) (s : Shared) (Q : VK) (E : XK) (r : Result) (s' : Shared) : Prop :=
  match r with
  | .ok (.ret u) => CE outer P w H s Q u s'
  | .ok _ => False
  | .error e => CX outer H s E e s'
structure FnOk (P : Program) (w : World) (K : PySem.W.Frag) (mg : Str → Option Value) (base : Heap) (CX : CXT) (k : Nat) (f : Addr) (fd : FuncData) (ps : List Str) (sp : Sp) : Prop where
  len : ∀ vs H Q E, sp vs H Q E → vs.length = ps.length
  run : ∀ (A : Around) (outer : List Env) (s : Shared) (H : Hp) (args : Args) (us : List Value) (vs : List V) (Q : VK) (E : XK), Room k A → Env0 P w K mg base A outer s H → BindsTo s fd args (ps.zip us) → Vals vs us → sp vs H Q E →
    codeAny (model P w) A (.call (.ref f) args) (CR CX outer P w H s Q E) s
section
variable {X : Cx} {pins : List (Addr × Obj)} {σ : St} {H : Hp} {s s' : Shared}
theorem Inv.env0 (I : Inv X pins σ H s) : Env0 X.prog X.w X.K X.mg X.base X.A X.stack s H :=
  ⟨I.ok.frames, I.ok.mod, I.bs, Nat.le_trans I.ok.bsz I.sz, I.stack, I.stkFree, I.hok, I.bare⟩
theorem Inv.after {Q : VK} {u : Value} (I : Inv X pins σ H s) (h : CE X.stack X.prog X.w H s Q u s') : EP X pins σ Q u s' := by
  obtain ⟨v, H', os, bare, un, hok, r, q⟩ := h
  obtain ⟨hh, g, d, t, os'⟩ := s'
  obtain rfl : os' = s.os := os
  exact ⟨v, H', I.call (h' := hh) (g' := g) (d' := d) (t' := t) (ch := []) un hok bare (fun b z => absurd z (by simp)), r, q⟩
end

noncomputable def tCall (sp : Sp) (dvs : List V) (E : XK) (t : TA) : TE := fun σ H Q => t σ H fun vs H1 => sp (vs ++ dvs) H1 Q E
noncomputable def Binds (K : PySem.W.Frag) (fd : FuncData) (ps : List Str) (ds : List Value) : Prop :=
  ∀ (s : Shared) (us : List Value), K.In s.heap → (us ++ ds).length = ps.length → BindsTo s fd ⟨us, []⟩ (ps.zip (us ++ ds))
theorem Binds.all {K : PySem.W.Frag} {fd : FuncData} {ps : List Str} (h : ∀ us : List Value, us.length = ps.length → bindArgs fd ⟨us, []⟩ = pure (ps.zip us)) : Binds K fd ps [] := fun s us _ hl => by
  rw [List.append_nil] at hl ⊢
  exact .of_eq (h us hl)

noncomputable def Passes (CX : CXT) (X : Cx) (E : XK) : Prop := ∀ (pins : List (Addr × Obj)) (σ : St) (H : Hp) (s : Shared) (e : Value) (s' : Shared), Inv X pins σ H s → CX X.stack H s E e s' → X.xe e s'

section
variable {X : Cx} {CX : CXT} {k : Nat} {f C : Addr} {fd : FuncData} {ps : List Str} {sp : Sp} {dvs : List V} {ds : List Value} {E : XK} {x m : Str} {p pos apos : Pos} {e o : Expr} {es : List Expr} {ta : TE} {t : TA}

theorem run_fn {pins : List (Addr × Obj)} {σ : St} {H : Hp} {s : Shared} {Q : VK} {us : List Value} {vs : List V} (F : FnOk X.prog X.w X.K X.mg X.base CX k f fd ps sp) (hr : Room k X.A) (hb : Binds X.K fd ps ds) (hd : Vals dvs ds) (hx : Passes CX X E)
    (I : Inv X pins σ H s) (r : Vals vs us) (h : sp (vs ++ dvs) H Q E) : wpAny (model X.prog X.w) X.A (call (.ref f) us) (EP X pins σ Q) X.xe s := by
  have r2 : Vals (vs ++ dvs) (us ++ ds) := r.append hd
  have hl : (us ++ ds).length = ps.length := by rw [← r2.length]; exact F.len _ _ _ _ h
  refine wpAny_call (codeAny_mono (F.run X.A X.stack s H ⟨us, []⟩ (us ++ ds) (vs ++ dvs) Q E hr I.env0 (hb s us I.kIn hl) r2 h) fun r s' hq => ?_)
  cases r with
  | error e => exact hx pins σ H s e s' I hq
  | ok fl =>
    cases fl with
    | ret u => exact I.after hq
    | next => exact False.elim hq
    | brk => exact False.elim hq
    | cont => exact False.elim hq

theorem pe_call (F : FnOk X.prog X.w X.K X.mg X.base CX k f fd ps sp) (hr : Room k X.A) (hg : Gl X x) (hm : X.mg x = some (.ref f)) (hk : PySem.W.keepIn X.K (.ref f) = true) (hb : Binds X.K fd ps ds) (hd : Vals dvs ds) (hx : Passes CX X E)
    (ha : PA X (e :: es) t) (hdb : (x == ("__debug__" : Str)) = false := by decide) (he : starEach (e :: es) X.env = (false, eval e X.env) :: starEach es X.env := by rfl) (hpl : (backTo pos (starEach es X.env)).any (·.1) = false := by rfl) :
    PE X (.Call (.Name x p) (e :: es) [] pos) (tCall sp dvs E t) := by
  intro pins s σ H Q I h
  refine wpAny_Call_Name_kw (ld_glob I hg hm ?_ hdb)
  refine PySem.W.callWith_K (h₀ := X.base) I.ok.mod.kin hk (thn (ha pos pins s σ H _ I h) fun us s1 ⟨vs, H1, I1, r, q⟩ => ⟨I1.kIn, ?_⟩) he hpl
  exact run_fn F hr hb hd hx I1 r q
end

section
variable {X : Cx} {CX : CXT} {k : Nat} {f C : Addr} {fd : FuncData} {ps ks : List Str} {sp : Sp} {E : XK} {x m : Str} {p pos apos kpos : Pos} {e o : Expr} {es : List Expr} {kws : List Keyword} {te ta : TE} {t tk : TA} {nm : Option Str}
variable {g : List Value → List Value → List Value} {gV : List V → List V → List V}
end

structure FnScope (N P : List Str) (sc : Scope) : Prop where
  kind : sc.kind = .function
  co : sc.isCoroutine = false
  gen : sc.isGenerator = false
  nd : N.Nodup
  pre : N.take P.length = P
  par : ∀ x ∈ P, sc.names.lookup x = some .local ∨ sc.names.lookup x = some .cell
  nofree : ∀ y ∈ sc.names, y.2 ≠ .free

theorem bindL_out {kindOf : Str → Option NameKind} {x : Str} : ∀ {binds : List (Str × Value)} {m : Str → Option Value}, (∀ v, (x, v) ∉ binds) → bindL kindOf binds m x = m x
  | [], _, _ => rfl
  | (n, v) :: r, m, h => by
    unfold bindL
    rw [bindL_out fun w hw => h w (List.mem_cons_of_mem _ hw)]
    split
    · have : x ≠ n := by rintro rfl; exact h v List.mem_cons_self
      simp [this]
    · rfl
theorem bindC_out {kindOf : Str → Option NameKind} {x : Str} : ∀ {binds : List (Str × Value)} {m : Str → Option Value}, (∀ v, (x, v) ∉ binds) → bindC kindOf binds m x = m x
  | [], _, _ => rfl
  | (n, v) :: r, m, h => by
    unfold bindC
    rw [bindC_out fun w hw => h w (List.mem_cons_of_mem _ hw)]
    split
    · rfl
    · have : x ≠ n := by rintro rfl; exact h v List.mem_cons_self
      simp [this]
theorem bindL_get {kindOf : Str → Option NameKind} {x : Str} {v : Value} : ∀ {P : List Str} {vs : List Value} {i : Nat} {m : Str → Option Value}, P.Nodup → P[i]? = some x → vs[i]? = some v → kindOf x = some .local →
    bindL kindOf (P.zip vs) m x = some v
  | [], _, _, _, _, h, _, _ => by simp at h
  | _ :: _, [], _, _, _, _, h, _ => by simp at h
  | p :: P, w :: vs, 0, m, nd, h1, h2, hk => by
    simp at h1 h2; subst h1; subst h2
    show bindL kindOf ((p, w) :: P.zip vs) m p = _
    unfold bindL
    rw [bindL_out fun v hv => (List.nodup_cons.mp nd).1 (List.of_mem_zip hv).1, if_pos hk]
    simp
  | p :: P, w :: vs, i + 1, m, nd, h1, h2, hk => by
    show bindL kindOf ((p, w) :: P.zip vs) m x = _
    unfold bindL
    exact bindL_get (i := i) (List.nodup_cons.mp nd).2 (by simpa using h1) (by simpa using h2) hk
theorem bindC_get {kindOf : Str → Option NameKind} {x : Str} {v : Value} : ∀ {P : List Str} {vs : List Value} {i : Nat} {m : Str → Option Value}, P.Nodup → P[i]? = some x → vs[i]? = some v → kindOf x ≠ some .local →
    bindC kindOf (P.zip vs) m x = some v
  | [], _, _, _, _, h, _, _ => by simp at h
  | _ :: _, [], _, _, _, _, h, _ => by simp at h
  | p :: P, w :: vs, 0, m, nd, h1, h2, hk => by
    simp at h1 h2; subst h1; subst h2
    show bindC kindOf ((p, w) :: P.zip vs) m p = _
    unfold bindC
    rw [bindC_out fun v hv => (List.nodup_cons.mp nd).1 (List.of_mem_zip hv).1, if_neg hk]
    simp
  | p :: P, w :: vs, i + 1, m, nd, h1, h2, hk => by
    show bindC kindOf ((p, w) :: P.zip vs) m x = _
    unfold bindC
    exact bindC_get (i := i) (List.nodup_cons.mp nd).2 (by simpa using h1) (by simpa using h2) hk

noncomputable def start (N : List Str) (vs : List V) : St := vs.map some ++ List.replicate (N.length - vs.length) none

noncomputable def cxOf (CX : CXT) (P : Program) (w : World) (K : PySem.W.Frag) (mg : Str → Option Value) (base : Heap) (N : List Str) (qual : Str) (scope : Scope) (f : Addr) (cd : Value) (A : Around) (outer : List Env) (s : Shared) (H : Hp) (E : XK) : Cx where
  prog := P
  w := w
  K := K
  mg := mg
  base := base
  A := A.deeper (envOfC qual scope s.heap.objs.size f cd)
  N := N
  s₀ := s
  H₀ := H
  env := envOfC qual scope s.heap.objs.size f cd
  outer := outer
  stack := envOfC qual scope s.heap.objs.size f cd :: outer
  ex := []
  calm := true
  fn := fun _ => true
  pn := []
  xe := fun e s' => wpAny (model P w) (A.deeper (envOfC qual scope s.heap.objs.size f cd)) (leaving (envOfC qual scope s.heap.objs.size f cd) e) (fun _ s'' => CX outer H s E e s'') (fun e' s'' => CX outer H s E e' s'') s'

theorem cell_has {sc : Scope} {n : Nat} {x : Str} (h : sc.names.lookup x = some .cell) : ∃ c, (cellsFrom n sc.names []).lookup x = some c := by
  have q := PySem.W.cellsFrom_some sc.names n [] (.inl h)
  exact Option.isSome_iff_exists.mp q

theorem inv_start {CX : CXT} {P : Program} {w : World} {K : PySem.W.Frag} {mg : Str → Option Value} {base : Heap} {N ps : List Str} {qual : Str} {scope : Scope} {f : Addr} {cd : Value} {A : Around} {outer : List Env} {s s1 : Shared} {H : Hp} {E : XK} {us : List Value} {vs : List V}
    (S : FnScope N ps scope) (hd : A.handled = none) (e0 : Env0 P w K mg base A outer s H) (hl : vs.length = ps.length) (r : Vals vs us)
    (x : InCallC s s.heap.objs.size (bindL (envOfC qual scope s.heap.objs.size f cd).kindOf (ps.zip us) fun _ => none) (cellsFrom (s.heap.objs.size + 1) scope.names []) (bindC (envOfC qual scope s.heap.objs.size f cd).kindOf (ps.zip us) fun _ => none) s1) :
    Inv (cxOf CX P w K mg base N qual scope f cd A outer s H E) [] (start N vs) H s1 := by
  have hpl : ps.length ≤ N.length := by have := congrArg List.length S.pre; rw [List.length_take] at this; omega
  obtain ⟨h1, tk, rfl, hk⟩ := x.done
  have noA : ∀ b : Addr, b ∉ (cxOf CX P w K mg base N qual scope f cd A outer s H E).ex := fun b z => absurd (show b ∈ ([] : List Addr) from z) (by simp)
  refine ⟨⟨e0.mod, S.kind, rfl, rfl, Nat.le_refl _, fun y z c h1 h2 => ?_, fun y hy => ?_, fun y c _ h => ?_, fun _ => hd, Around.frames_deeper e0.frames, .inr ⟨rfl, rfl⟩, fun b z => absurd z (noA b), e0.bs, e0.bsz, fun b _ _ => noA b, fun b z => absurd z (noA b), e0.funs, e0.frf⟩,
    rfl, e0.bare, Un.kept hk, ⟨_, x.toInCall.ns, fun i y v h1 h2 h3 => ?_⟩, fun y c h => ⟨_, x.cell y c h⟩, e0.hok.fresh (Nat.le_refl _), fun y c h => ?_, fun p hp => absurd (show p ∈ ([] : List (Addr × Obj)) from hp) (by simp), e0.hok.kept hk, ?_⟩
  · exact name_of_addr x.apart (PySem.mem_of_lookup h1) (PySem.mem_of_lookup h2)
  · have hy : scope.names.lookup y = some .cell ∨ scope.names.lookup y = some .free := hy
    rcases hy with hy | hy
    · exact cell_has hy
    · exact absurd rfl (S.nofree _ (PySem.mem_of_lookup hy))
  · exact Nat.le_of_lt (x.above y c (PySem.mem_of_lookup h))
  · have hi : i < vs.length := by
      unfold start at h2
      by_cases hi : i < vs.length
      · exact hi
      · rw [List.getElem?_append_right (by simpa using hi)] at h2
        rw [List.getElem?_replicate] at h2
        split at h2 <;> cases h2
    have ha : vs[i]? = some v := by
      unfold start at h2
      rw [List.getElem?_append_left (by simpa using hi), List.getElem?_map] at h2
      cases e : vs[i]? with
      | none => rw [e] at h2; cases h2
      | some a => rw [e] at h2; cases h2; rfl
    obtain ⟨u, hu, rv⟩ := r.get ha
    have hp : ps[i]? = some y := by
      rw [← S.pre, List.getElem?_take_of_lt (by omega)]; exact h1
    have ndP : ps.Nodup := by rw [← S.pre]; exact S.nd.sublist (List.take_sublist _ _)
    refine ⟨u, rv, ?_⟩
    rcases S.par y (List.mem_of_getElem? hp) with k | k
    · exact .inl ⟨k, bindL_get ndP hp hu k⟩
    · obtain ⟨c, e⟩ := cell_has (n := s.heap.objs.size + 1) k
      refine .inr ⟨.inl k, c, e, ?_⟩
      have q := x.cell y c e
      rw [bindC_get ndP hp hu (by show scope.names.lookup y ≠ _; rw [k]; decide)] at q
      exact q
  · exact e0.hok.fresh (Nat.le_of_lt (x.above y c (PySem.mem_of_lookup h)))
  · unfold start
    show _ = N.length
    rw [List.length_append, List.length_map, List.length_replicate]
    omega

theorem fn_of {CX : CXT} {P : Program} {w : World} {K : PySem.W.Frag} {mg : Str → Option Value} {base : Heap} {k : Nat} {f : Addr} {name qual : Str} {params : Arguments} {body : List Stmt} {scope : Scope} {dV kV doc pm cdv ct oc : Value} {an od : Option Addr}
    {osl : Array (Option Value)} {N ps : List Str} {sp : Sp} (lk : K.lookup f = some ⟨oc, od, .func (PySem.W.fnOf name qual params body scope dV kV doc pm an cdv ct), osl⟩) (hcd : PySem.W.codeIn K cdv qual = true) (S : FnScope N ps scope)
    (len : ∀ vs H Q E, sp vs H Q E → vs.length = ps.length)
    (hbody : ∀ (A : Around) (outer : List Env) (s : Shared) (H : Hp) (vs : List V) (Q : VK) (E : XK), Room k (A.deeper (envOfC qual scope s.heap.objs.size f cdv)) → sp vs H Q E →
      ∃ t, PSs (cxOf CX P w K mg base N qual scope f cdv A outer s H E) body t ∧ t { nx := fun _ H' => Q .non H', rt := Q } (start N vs) H) :
    FnOk P w K mg base CX (k + 1) f (PySem.W.fnOf name qual params body scope dV kV doc pm an cdv ct) ps sp := by
  refine ⟨len, fun A outer s H args us vs Q E hr e0 hb r hsp => ?_⟩
  have hl := len _ _ _ _ hsp
  have KX : K.In s.heap := e0.mod.kin.keeps fun b o e => (e0.bs b o e).1
  have lim : s.heap.NoLimit := e0.mod.nolimit.keeps fun b o e => (e0.bs b o e).1
  have hkind : ∀ y ∈ ps.zip us, scope.names.lookup y.1 = some .local ∨ (scope.names.lookup y.1 = some .cell ∧ ((cellsFrom (s.heap.objs.size + 1) scope.names []).lookup y.1).isSome = true) := fun ⟨n, v⟩ hy => by
    rcases S.par n (List.of_mem_zip hy).1 with q | q
    · exact .inl q
    · exact .inr ⟨q, PySem.W.cellsFrom_some _ _ _ (.inl q)⟩
  refine codeAny_call_function hr.depth (KX _ _ lk) rfl S.co S.gen rfl (PySem.W.codeRec_of KX hcd) (hb _ _ _ _ ?_)
  refine wpAny_newFunctionEnv_cells S.kind hkind fun env he s1 x => ?_
  subst he
  refine ⟨lim.keeps x.toInCall.keep, codeAny_func ?_⟩
  obtain ⟨t, ht, hq⟩ := hbody A outer s H vs Q E (hr.deeper _) hsp
  have I : Inv (cxOf CX P w K mg base N qual scope f cdv A outer s H E) [] (start N vs) H s1 := inv_start S hr.hd e0 hl r x
  refine wpAny_mono (ht [] s1 (start N vs) H _ I hq) (fun fl s' hs => ?_) fun e s' hs => hs
  have fin : ∀ {σ' : St} {H' : Hp} {v : V} {u : Value}, Inv (cxOf CX P w K mg base N qual scope f cdv A outer s H E) [] σ' H' s' → RelV v u → Q v H' → CE outer P w H s Q u s' :=
    fun {σ' H' v u} J rv q => ⟨v, H', J.os, J.bare, J.base, J.hok, rv, q⟩
  cases fl with
  | ret u =>
    obtain ⟨v, σ', H', J, rv, q⟩ := hs
    exact fin J rv q
  | next =>
    obtain ⟨σ', H', J, q⟩ := hs
    exact fin (v := V.non) (u := Value.none) J rfl q
  | brk =>
    obtain ⟨_, _, _, q⟩ := hs
    exact False.elim q
  | cont =>
    obtain ⟨_, _, _, q⟩ := hs
    exact False.elim q
end L2

namespace L2
open PySem PySem.Spec PyProof.Rows
section
variable {X : Cx} {x : Str} {p pos : Pos} {e : Expr} {es : List Expr} {t : TA} {id T : String} {r : List V → Hp → VK → Prop}

noncomputable def tCB (r : List V → Hp → VK → Prop) (t : TA) : TE := fun σ H Q => t σ H fun vs H1 => r vs H1 Q
theorem pe_callB (hc : CallR X (.builtin id) r) (hg : Gl X x) (hm : X.mg x = none) (hv : bootBuiltins x = some (.builtin id)) (ha : PA X (e :: es) t) (hn : x ≠ "__name__" := by decide) (hdb : (x == ("__debug__" : Str)) = false := by decide)
    (he : starEach (e :: es) X.env = (false, eval e X.env) :: starEach es X.env := by rfl) (hpl : (backTo pos (starEach es X.env)).any (·.1) = false := by rfl) : PE X (.Call (.Name x p) (e :: es) [] pos) (tCB r t) := by
  intro pins s σ H Q I h
  refine wpAny_Call_Name_kw (ld_blt I hg hm hv ?_ hn hdb)
  exact PyProof.Rows.callWith_builtin1 (thn (ha pos pins s σ H _ I h) fun us s1 ⟨vs, H1, I1, r1, q1⟩ => hc pins s1 σ H1 vs us Q I1 r1 q1) he hpl
theorem pe_callTy (hc : CallR X (.type T) r) (hg : Gl X x) (hm : X.mg x = none) (hv : bootBuiltins x = some (.type T)) (ha : PA X (e :: es) t) (hn : x ≠ "__name__" := by decide) (hdb : (x == ("__debug__" : Str)) = false := by decide)
    (he : starEach (e :: es) X.env = (false, eval e X.env) :: starEach es X.env := by rfl) (hpl : (backTo pos (starEach es X.env)).any (·.1) = false := by rfl) : PE X (.Call (.Name x p) (e :: es) [] pos) (tCB r t) := by
  intro pins s σ H Q I h
  refine wpAny_Call_Name_kw (ld_blt I hg hm hv ?_ hn hdb)
  exact PyProof.Rows.callWith_type1 (thn (ha pos pins s σ H _ I h) fun us s1 ⟨vs, H1, I1, r1, q1⟩ => hc pins s1 σ H1 vs us Q I1 r1 q1) he hpl
end
end L2

namespace HT
open PySem PyProof.Rows

section
open PySem.SeqAt
open PySem.AutoSeq1 (wpAny_loadPart')
open PySem.MeetsSeq PySem.MeetsSeq2 PySem.MeetsSeq3

end

section
variable {prog : Program} {w : World} {A : Around} {E : Value → Shared → Prop} {s : Shared}

noncomputable def sIx (n d : Nat) : Option Int → Nat
  | none => d
  | some v => if v < 0 then (v + (n : Int)).toNat else min v.toNat n
theorem sIx_nat (n d k : Nat) : sIx n d (some (k : Int)) = min k n := by
  show (if (k : Int) < 0 then ((k : Int) + (n : Int)).toNat else min (k : Int).toNat n) = min k n
  rw [if_neg (by omega), Int.toNat_natCast]
end
end HT

namespace L2
open PySem PySem.Spec PyProof.Rows

noncomputable abbrev TO := St → Hp → (Option Int → Hp → Prop) → Prop
noncomputable def PO (X : Cx) (e : Option Expr) (t : TO) : Prop :=
  ∀ (pins : List (Addr × Obj)) (s : Shared) (σ : St) (H : Hp) (Q : Option Int → Hp → Prop), Inv X pins σ H s → t σ H Q →
    wpAny (model X.prog X.w) X.A (evalPart e X.env) (fun u s' => ∃ o H', Inv X pins σ H' s' ∧ IsPart u o ∧ Q o H') X.xe s
noncomputable def tPart (t : TE) : TO := fun σ H Q => t σ H fun x H1 => ∃ i, x = .int i ∧ Q (some i) H1

section
variable {X : Cx} {e : Expr} {te : TE} {lo hi : Option Expr} {tl th : TO} {pos p2 : Pos}

theorem po_some (h : PE X e te) : PO X (some e) (tPart te) := by
  intro pins s σ H Q I hw
  rw [evalPart_some]
  refine thn (h pins s σ H _ I hw) fun u s1 ⟨x, H1, I1, r1, q1⟩ => ?_
  obtain ⟨i, rfl, q⟩ := q1
  obtain ⟨t, rfl⟩ := r1
  exact ⟨some i, H1, I1, .int i t, q⟩

noncomputable def SlR (X : Cx) (r : V → Option Int → Option Int → Hp → VK → Prop) : Prop :=
  ∀ (pins : List (Addr × Obj)) (s : Shared) (σ : St) (H : Hp) (x : V) (v vl vu : Value) (lo hi : Option Int) (sl : Addr) (Q : VK), Inv X pins σ H s → RelV x v → s.heap.IsSliceOf sl vl vu .none → IsPart vl lo → IsPart vu hi → r x lo hi H Q →
    ∃ T id, typeLookup (.type T) "__getitem__" = pure (some (.builtin id)) ∧ s.TypeIs v T ∧ wpAny (model X.prog X.w) X.A (getItem v (.ref sl)) (EP X pins σ Q) X.xe s
noncomputable def tSl (r : V → Option Int → Option Int → Hp → VK → Prop) (te : TE) (tl th : TO) : TE := fun σ H Q => te σ H fun x H1 => tl σ H1 fun l H2 => th σ H2 fun u H3 => r x l u H3 Q
theorem pe_slice {r : V → Option Int → Option Int → Hp → VK → Prop} (hr : SlR X r) (he : PE X e te) (hl : PO X lo tl) (hu : PO X hi th) : PE X (.Subscript e (.Slice lo hi none p2) pos) (tSl r te tl th) := by
  intro pins s σ H Q I h
  refine Subscript_ (thn (he pins s σ H _ I h) fun v s1 ⟨x, H1, I1, r1, q1⟩ => ?_)
  refine wpAny_Slice (thn (hl pins s1 σ H1 _ I1 q1) fun vl s2 ⟨l, H2, I2, pl, q2⟩ => thn (hu pins s2 σ H2 _ I2 q2) fun vu s3 ⟨u, H3, I3, pu, q3⟩ => ?_)
  rw [evalPart_none]
  refine wpAny_pure ?_
  have I4 : Inv X pins σ H3 { s3 with heap := s3.heap.push { cls := .type "slice", data := .fields #[vl, vu, .none] } } := I3.kept (t' := s3.toks) fun b ob q => Heap.get?_push_of_some _ q
  obtain ⟨T, id, hT, ht, hg⟩ := hr pins { s3 with heap := s3.heap.push { cls := .type "slice", data := .fields #[vl, vu, .none] } } σ H3 x v vl vu l u s3.heap.objs.size Q I4 r1 (Heap.IsSliceOf.new ..) pl pu q3
  show wpAny (model X.prog X.w) X.A (subscriptTail e (.Slice lo hi none p2) v (.ref s3.heap.objs.size)) (EP X pins σ Q) X.xe { s3 with heap := s3.heap.push { cls := .type "slice", data := .fields #[vl, vu, .none] } }
  exact tail_any (ops := [.ref s3.heap.objs.size, v]) ht hT hg (by with_unfolding_all rfl)

noncomputable def cutV (xs : List V) (lo hi : Option Int) : List V := (xs.drop (HT.sIx xs.length 0 lo)).take (HT.sIx xs.length xs.length hi - HT.sIx xs.length 0 lo)
theorem cutV_length (xs : List V) (lo hi : Option Int) : (cutV xs lo hi).length ≤ xs.length := by
  unfold cutV
  rw [List.length_take, List.length_drop]
  omega
end
end L2

namespace L2
open PySem PySem.Spec PyProof.Rows

noncomputable def ixN (n : Nat) (i : Int) : Option Nat := if 0 ≤ i then (if i < n then some i.toNat else none) else if -(n : Int) ≤ i then some (i + n).toNat else none
noncomputable def atI {α : Type} (xs : List α) (i : Int) : Option α := (ixN xs.length i).bind fun j => xs[j]?
theorem ixN_seq {n : Nat} {i : Int} {j : Nat} (h : ixN n i = some j) : seqIndex? i n = some j ∧ j < n ∧ -(n : Int) ≤ i ∧ i < n := by
  unfold ixN at h
  by_cases h0 : 0 ≤ i
  · rw [if_pos h0] at h
    by_cases h1 : i < n
    · rw [if_pos h1] at h
      have e : i.toNat = j := Option.some.inj h
      exact ⟨by rw [seqIndex_of h0 h1, e], by omega, by omega, h1⟩
    · rw [if_neg h1] at h; cases h
  · rw [if_neg h0] at h
    by_cases h1 : -(n : Int) ≤ i
    · rw [if_pos h1] at h
      have e : (i + n).toNat = j := Option.some.inj h
      exact ⟨by rw [seqIndex_neg (by omega) h1, e], by omega, h1, by omega⟩
    · rw [if_neg h1] at h; cases h
theorem atI_get {α : Type} {xs : List α} {i : Int} {v : α} (h : atI xs i = some v) : ∃ j, seqIndex? i xs.length = some j ∧ xs[j]? = some v ∧ j < xs.length ∧ -(xs.length : Int) ≤ i ∧ i < xs.length := by
  unfold atI at h
  cases e : ixN xs.length i with
  | none => rw [e] at h; cases h
  | some j =>
    rw [e] at h
    obtain ⟨h1, h2, h3, h4⟩ := ixN_seq e
    exact ⟨j, h1, h, h2, h3, h4⟩
theorem atI_nat {α : Type} {xs : List α} {j : Nat} {v : α} (h : xs[j]? = some v) : atI xs (j : Int) = some v := by
  have hj : j < xs.length := (List.getElem?_eq_some_iff.mp h).1
  have e : ixN xs.length (j : Int) = some j := by
    unfold ixN
    rw [if_pos (by omega), if_pos (by omega)]; simp
  unfold atI; rw [e]; exact h
noncomputable def PlainIx (b : Expr) : Prop := ∀ o i, subscripted b false o i = operate [o, i] (getItem o i)
noncomputable def IxR (X : Cx) (r : R2) : Prop :=
  ∀ (value slice : Expr) (pins : List (Addr × Obj)) (s : Shared) (σ : St) (H : Hp) (x y : V) (v u : Value) (Q : VK), Inv X pins σ H s → RelV x v → RelV y u → r x y H Q →
    subscripted slice false v u = operate [v, u] (getItem v u) → wpAny (model X.prog X.w) X.A (subscriptTail value slice v u) (EP X pins σ Q) X.xe s
noncomputable def MtR (X : Cx) (id : String) (r : V → List V → Hp → VK → Prop) : Prop :=
  ∀ (pins : List (Addr × Obj)) (s : Shared) (σ : St) (H : Hp) (x : V) (xs : List V) (v : Value) (us : List Value) (Q : VK), Inv X pins σ H s → RelV x v → Vals xs us → r x xs H Q →
    wpAny (model X.prog X.w) X.A (call (.builtin id) (v :: us)) (EP X pins σ Q) X.xe s
section
variable {X : Cx} {a b : Expr} {ta tb : TE} {pos : Pos}
theorem pe_ix {r : R2} (hr : IxR X r) (ha : PE X a ta) (hb : PE X b tb) (hs : PlainIx b) : PE X (.Subscript a b pos) (tOp r ta tb) := by
  intro pins s σ H Q I h
  exact Subscript_ (binT ha hb I h fun v u s2 x y H2 I2 rx ry q => hr a b pins s2 σ H2 x y v u Q I2 rx ry q (hs _ _))

noncomputable def rIxL (K : PySem.W.Frag) : R2 := fun x y H Q => ∃ p xs i v, x = .ref p ∧ y = .int i ∧ SqL K H p xs ∧ atI xs i = some v ∧ Q v H
noncomputable def rIxT (K : PySem.W.Frag) : R2 := fun x y H Q => ∃ p xs i v, x = .ref p ∧ y = .int i ∧ SqT K H p xs ∧ atI xs i = some v ∧ Q v H
theorem ix_list : IxR X (rIxL X.K) := by
  intro value slice pins s σ H x y v u Q I rx ry h hs
  obtain ⟨p, xs, i, z, rfl, rfl, hq, he, q⟩ := h
  cases rx
  obtain ⟨t, rfl⟩ := ry
  obtain ⟨its, r, pl, hz⟩ := I.list hq
  obtain ⟨j, h1, h2, h3, h4, h5⟩ := atI_get he
  obtain ⟨w, ew, rw'⟩ := r.get h2
  have hl := r.length
  have hn := line63
  have fin : EP X pins σ Q w s := ⟨z, H, I, rw', q⟩
  by_cases h0 : 0 ≤ i
  · have hj : i.toNat = j := by
      rw [seqIndex_of h0 h5] at h1
      exact Option.some.inj h1
    exact item_listR pl.isList h0 (by omega) (by rw [hj]; simpa using ew) fin hs
  · have hj : (i + (its.toArray.size : Int)).toNat = j := by
      rw [seqIndex_neg (by omega) h4] at h1
      rw [List.size_toArray, ← hl]
      exact Option.some.inj h1
    exact subscriptTail_builtinR (x := w) pl.isList.typeIs slot_list_getitem.lookup
      (wpAny_getItem_list_neg (Q := fun r s' => r = w ∧ EP X pins σ Q r s') pl.isList (by omega) (by rw [List.size_toArray] <;> omega) (by omega) (by rw [hj]; simpa using ew) ⟨rfl, fin⟩) hs
theorem ix_tup : IxR X (rIxT X.K) := by
  intro value slice pins s σ H x y v u Q I rx ry h hs
  obtain ⟨p, xs, i, z, rfl, rfl, hq, he, q⟩ := h
  cases rx
  obtain ⟨t, rfl⟩ := ry
  obtain ⟨its, r, pl, hz⟩ := I.tuple hq
  obtain ⟨j, h1, h2, h3, h4, h5⟩ := atI_get he
  obtain ⟨w, ew, rw'⟩ := r.get h2
  have hl := r.length
  have hn := line63
  have fin : EP X pins σ Q w s := ⟨z, H, I, rw', q⟩
  exact subscriptTail_builtinR (x := w) pl.typeIs slot_tuple_getitem.lookup
    (getItem_tuple (j := j) (Q := fun r s' => r = w ∧ EP X pins σ Q r s') pl (by omega) (by omega) (by rw [List.size_toArray, ← hl]; exact h1) (by simpa using ew) ⟨rfl, fin⟩) hs
theorem mapSeq_set (its : List Value) (n j : Nat) (u : Value) : Obj.mapSeq (·.setIfInBounds j u) { cls := .type "list", data := .seq its.toArray n } = { cls := .type "list", data := .seq (its.set j u).toArray n } := by
  simp [Obj.mapSeq]
theorem Inv.lst {pins : List (Addr × Obj)} {σ : St} {H : Hp} {s : Shared} {p : Addr} {xs : List V} (I : Inv X pins σ H s) (h : H p = some (.lst xs)) :
    ∃ (its : List Value) (n : Nat), Vals xs its ∧ s.heap.get? p = some { cls := .type "list", data := .seq its.toArray n } ∧ xs.length ≤ sizeLine := by
  obtain ⟨z, its, n, r, e⟩ := I.hok p _ h
  exact ⟨its, n, r, e, z⟩
theorem Inv.lstUpd {pins : List (Addr × Obj)} {σ : St} {H : Hp} {s : Shared} {p : Addr} {xs ys : List V} {its its' : List Value} {n n' : Nat} {f : Obj → Obj} (I : Inv X pins σ H s) (h : H p = some (.lst xs))
    (ho : s.heap.get? p = some { cls := .type "list", data := .seq its.toArray n }) (hf : f { cls := .type "list", data := .seq its.toArray n } = { cls := .type "list", data := .seq its'.toArray n' }) (r : Vals ys its') (hz : ys.length ≤ sizeLine) (t : Nat) :
    Inv X pins σ (upd H p (.lst ys)) { s with heap := s.heap.update p f, toks := t } := by
  have e : (s.heap.update p f).get? p = some { cls := .type "list", data := .seq its'.toArray n' } := by
    rw [Heap.get?_update_self f ho (by rw [hf] <;> rfl), hf]
  refine I.write (x := p) (e := p) (by rw [h]; trivial) (.inl rfl) (fun b u hb q => (Heap.get?_update_other _ _ (Ne.symm hb)).trans q) ⟨_, e⟩ ?_
  exact ⟨hz, its', n', r, e⟩
noncomputable def rSetL : V → V → V → Hp → (Hp → Prop) → Prop := fun o i v H Q => ∃ p xs k j, o = .ref p ∧ i = .int k ∧ H p = some (.lst xs) ∧ ixN xs.length k = some j ∧ Q (upd H p (.lst (xs.set j v)))
theorem set_list : PSet X rSetL := by
  intro pins s σ H o i v ov iv u Q I ro ri rv h
  obtain ⟨p, xs, k, j, rfl, rfl, hp, hj, q⟩ := h
  cases ro
  obtain ⟨t, rfl⟩ := ri
  obtain ⟨its, n, r, ho, hz⟩ := I.lst hp
  obtain ⟨h1, h2, h3, h4⟩ := ixN_seq hj
  have hl := r.length
  have hn := line63
  have I' : Inv X pins σ (upd H p (.lst (xs.set j v))) { s with heap := s.heap.update p (Obj.mapSeq (·.setIfInBounds j u)) } :=
    I.lstUpd hp ho (mapSeq_set its n j u) (r.set rv j) (by rw [List.length_set]; exact hz) s.toks
  by_cases h0 : 0 ≤ k
  · have hk : k.toNat = j := by
      rw [seqIndex_of h0 h4] at h1
      exact Option.some.inj h1
    exact PySem.W.ki_setAt ho h0 (by omega) (by rw [List.size_toArray, ← hl]; exact h4) (by rw [hk]; exact ⟨_, I', q⟩)
  · have hk : (k + (its.toArray.size : Int)).toNat = j := by
      rw [seqIndex_neg (by omega) h3] at h1
      rw [List.size_toArray, ← hl]
      exact Option.some.inj h1
    exact PySem.W.ki_setBack ho (by omega) (by rw [List.size_toArray, ← hl]; exact h3) (by omega) (by rw [hk]; exact ⟨_, I', q⟩)

theorem slice_bounds (lo hi : Option Int) (n : Nat) : (sliceBounds lo hi none n).1 = ((HT.sIx n 0 lo : Nat) : Int) ∧ (sliceBounds lo hi none n).2.1 = ((HT.sIx n n hi : Nat) : Int) ∧ (sliceBounds lo hi none n).2.2 = 1 := by
  refine ⟨?_, ?_, rfl⟩
  · cases lo with
    | none => simp [sliceBounds, HT.sIx]
    | some i =>
      simp only [sliceBounds, HT.sIx, Option.getD_none, show (1 : Int) > 0 by decide, if_true]
      by_cases h : i < 0
      · simp only [h, if_true] <;> omega
      · simp only [h, if_false] <;> omega
  · cases hi with
    | none => simp [sliceBounds, HT.sIx]
    | some i =>
      simp only [sliceBounds, HT.sIx, Option.getD_none, show (1 : Int) > 0 by decide, if_true]
      by_cases h : i < 0
      · simp only [h, if_true] <;> omega
      · simp only [h, if_false] <;> omega
theorem slicePick_cut (its : List Value) (lo hi : Option Int) : slicePick its.toArray lo hi none = ((its.drop (HT.sIx its.length 0 lo)).take (HT.sIx its.length its.length hi - HT.sIx its.length 0 lo)).toArray := by
  obtain ⟨h1, h2, h3⟩ := slice_bounds lo hi its.toArray.size
  unfold slicePick
  rw [h1, h2, h3]
  simp only [sliceRange_one, pick_run, List.size_toArray] <;> rfl
noncomputable def rSlL (K : PySem.W.Frag) : V → Option Int → Option Int → Hp → VK → Prop := fun x lo hi H Q => ∃ a xs, x = .ref a ∧ SqL K H a xs ∧ ∀ p, H p = none → Q (.ref p) (upd H p (.lst (cutV xs lo hi)))
theorem sl_list : SlR X (rSlL X.K) := by
  intro pins s σ H x v vl vu lo hi sl Q I rx hs pl pu h
  obtain ⟨a, xs, rfl, hx, q⟩ := h
  cases rx
  obtain ⟨its, r, ht, hz⟩ := I.list hx
  have hlen := r.length
  refine ⟨"list", _, slot_list_getitem.lookup, ht.isList.typeIs, ?_⟩
  refine wpAny_getItem_list_slice ht.isList hs pl pu .none (by simp) ?_ (by rw [List.size_toArray] <;> omega)
  rw [slicePick_cut, ← hlen]
  refine ⟨.ref s.heap.objs.size, _, I.laid (t' := s.toks) (o := .lst (cutV xs lo hi)) (fun b ob q => Heap.get?_push_of_some _ q) (Nat.le_refl _) ?_, rfl, q _ (I.hok.fresh (Nat.le_refl _))⟩
  exact ⟨Nat.le_trans (cutV_length xs lo hi) hz, _, 0, (r.drop (HT.sIx xs.length 0 lo)).take (HT.sIx xs.length xs.length hi - HT.sIx xs.length 0 lo), Heap.get?_push_size _ rfl⟩

noncomputable def flatV : V → Bool
  | .non => true
  | .bl _ => true
  | .int _ => true
  | .str _ => true
  | _ => false
noncomputable def eqV : V → V → Bool
  | .non, .non => true
  | .bl a, .bl b => a == b
  | .bl a, .int b => (if a then 1 else 0) == b
  | .int a, .bl b => a == (if b then 1 else 0)
  | .int a, .int b => a == b
  | .str a, .str b => a == b
  | _, _ => false
theorem eqAt_V {A : Around} {s : Shared} {y x : V} {u v : Value} (ry : RelV y u) (rx : RelV x v) (fy : flatV y = true) (fx : flatV x = true) : SeqAt.EqAt A s u v (eqV y x) := by
  cases y with
  | non =>
    cases ry
    cases x with
    | non => cases rx; exact SeqAt.EqAt.same _
    | bl b => cases rx; exact SeqAt.EqAt.none_bool b
    | int b => obtain ⟨t, rfl⟩ := rx; exact SeqAt.EqAt.none_int b t
    | str b => obtain ⟨t, rfl⟩ := rx; exact SeqAt.EqAt.none_str b t
    | _ => exact absurd (show false = true from fx) Bool.false_ne_true
  | bl a =>
    cases ry
    cases x with
    | non => cases rx; exact SeqAt.EqAt.bool_none a
    | bl b => cases rx; exact SeqAt.EqAt.bool_bool a b
    | int b => obtain ⟨t, rfl⟩ := rx; exact SeqAt.EqAt.bool_int a b t
    | str b => obtain ⟨t, rfl⟩ := rx; exact SeqAt.EqAt.bool_str a b t
    | _ => exact absurd (show false = true from fx) Bool.false_ne_true
  | int a =>
    obtain ⟨t', rfl⟩ := ry
    cases x with
    | non => cases rx; exact SeqAt.EqAt.int_none a t'
    | bl b => cases rx; exact SeqAt.EqAt.int_bool a t' b
    | int b => obtain ⟨t, rfl⟩ := rx; exact SeqAt.EqAt.int_int a t' b t
    | str b => obtain ⟨t, rfl⟩ := rx; exact SeqAt.EqAt.int_str a t' b t
    | _ => exact absurd (show false = true from fx) Bool.false_ne_true
  | str a =>
    obtain ⟨t', rfl⟩ := ry
    cases x with
    | non => cases rx; exact SeqAt.EqAt.str_none a t'
    | bl b => cases rx; exact SeqAt.EqAt.str_bool a t' b
    | int b => obtain ⟨t, rfl⟩ := rx; exact SeqAt.EqAt.str_int a t' b t
    | str b => obtain ⟨t, rfl⟩ := rx; exact SeqAt.EqAt.str_str a t' b t
    | _ => exact absurd (show false = true from fx) Bool.false_ne_true
  | _ => exact absurd (show false = true from fy) Bool.false_ne_true
theorem call_len_seq : CallR X (.builtin "len") (fun xs H Q => ∃ p ys, xs = [.ref p] ∧ (SqL X.K H p ys ∨ SqT X.K H p ys) ∧ Q (.int ys.length) H) := by
  intro pins s σ H xs us Q I r h
  obtain ⟨p, ys, rfl, hq, q⟩ := h
  obtain ⟨u, rfl, rx⟩ := vals1 r
  cases rx
  have hn := line63
  rcases hq with hq | hq
  · obtain ⟨its, r', pl, hz⟩ := I.list hq
    have hlen := r'.length
    exact Calls.call_len_list pl.isList (by simp only [List.size_toArray] <;> omega) ⟨.int ys.length, H, I.tok _, ⟨s.toks + 1, by rw [List.size_toArray, hlen]⟩, q⟩
  · obtain ⟨its, r', pl, hz⟩ := I.tuple hq
    have hlen := r'.length
    exact len_tuple pl (by simp only [List.size_toArray] <;> omega) ⟨.int ys.length, H, I.tok _, ⟨s.toks + 1, by rw [List.size_toArray, hlen]⟩, q⟩
theorem call_list_of : CallR X (.type "list") (fun xs H Q => ∃ p ys, xs = [.ref p] ∧ (SqL X.K H p ys ∨ SqT X.K H p ys) ∧ ∀ l, H l = none → Q (.ref l) (upd H l (.lst ys))) := by
  intro pins s σ H xs us Q I r h
  obtain ⟨p, ys, rfl, hq, q⟩ := h
  obtain ⟨u, rfl, rx⟩ := vals1 r
  cases rx
  have fin : ∀ (its : List Value), Vals ys its → ys.length ≤ sizeLine → ∀ (h' : Heap) (c' : Nat), (∀ b o', s.heap.get? b = some o' → h'.get? b = some o') →
      h'.get? s.heap.objs.size = some { cls := .type "list", dict := none, data := .seq its.toArray c', slots := #[] } → EP X pins σ Q (.ref s.heap.objs.size) { s with heap := h' } := fun its r' hz h' c' kp e =>
    ⟨.ref s.heap.objs.size, _, I.laid (t' := s.toks) kp (Nat.le_refl _) (show ObjOk X.prog X.w _ h' _ (.lst ys) from ⟨hz, its, c', r', e⟩), rfl, q _ (I.hok.fresh (Nat.le_refl _))⟩
  rcases hq with hq | hq
  · obtain ⟨its, r', pl, hz⟩ := I.list hq
    have hlen := r'.length
    obtain ⟨o, ho, hc, n, hd⟩ := pl.isList
    exact call_list_seq p (.inl rfl) ho hc hd (fun h' c' kp e => fin its r' hz h' c' kp e) (by simp only [List.size_toArray] <;> omega)
  · obtain ⟨its, r', pl, hz⟩ := I.tuple hq
    have hlen := r'.length
    obtain ⟨o, ho, hc, n, hd⟩ := pl
    exact call_list_seq p (.inr rfl) ho hc hd (fun h' c' kp e => fin its r' hz h' c' kp e) (by simp only [List.size_toArray] <;> omega)
noncomputable def tyV (K : PySem.W.Frag) (T : String) (x : V) (H : Hp) : Prop := match x with
  | .str _ => T = "str"
  | .int _ => T = "int"
  | .ref p => (T = "list" ∧ ∃ xs, SqL K H p xs) ∨ (T = "tuple" ∧ ∃ o, K.lookup p = some o ∧ o.cls = .type "tuple" ∧ o.dict = none) ∨
      (T = "dict" ∧ ((∃ kvs, H p = some (.dK kvs)) ∨ ∃ kvs, H p = some (.dT kvs))) ∨ (T = "set" ∧ ∃ S n, H p = some (.set S n))
  | _ => False
theorem tyV_is {pins : List (Addr × Obj)} {σ : St} {H : Hp} {s : Shared} {T : String} {x : V} {v : Value} (I : Inv X pins σ H s) (r : RelV x v) (ty : tyV X.K T x H) :
    s.TypeIs v T ∧ ∀ a, v = .ref a → ∃ ob, s.heap.get? a = some ob ∧ ob.dict = none := by
  cases x with
  | str z =>
    obtain ⟨t, rfl⟩ := r
    cases (show T = "str" from ty)
    exact ⟨typeIs_str s z t, fun _ e => nomatch e⟩
  | int i =>
    obtain ⟨t, rfl⟩ := r
    cases (show T = "int" from ty)
    exact ⟨typeIs_int s i t, fun _ e => nomatch e⟩
  | ref p =>
    cases r
    rcases ty with ⟨rfl, xs, hq⟩ | ⟨rfl, o, hk, hc, hd⟩ | ⟨rfl, hk⟩ | ⟨rfl, S, n, hk⟩
    · obtain ⟨its, _, pl, _⟩ := I.list hq
      refine ⟨pl.isList.typeIs, fun a e => ?_⟩
      cases e
      obtain ⟨o, n, e, c, hd, _⟩ := pl
      exact ⟨o, e, hd⟩
    · refine ⟨⟨o, I.kIn p o hk, hc⟩, fun a e => ?_⟩
      cases e
      exact ⟨o, I.kIn _ o hk, hd⟩
    · have z : ∃ o, s.heap.get? p = some o ∧ o.ExactDict := by
        rcases hk with ⟨kvs, hk⟩ | ⟨kvs, hk⟩
        · obtain ⟨_, _, _, _, o, _, _, e, ex, _⟩ := I.hok p _ hk
          exact ⟨o, e, ex⟩
        · obtain ⟨_, _, _, _, o, _, _, e, ex, _⟩ := I.hok p _ hk
          exact ⟨o, e, ex⟩
      obtain ⟨o, e, ex⟩ := z
      refine ⟨⟨o, e, ex.1⟩, fun a e2 => ?_⟩
      cases e2
      exact ⟨o, e, ex.2.1⟩
    · obtain ⟨o, _, _, _, e, ex, _⟩ := I.hok p _ hk
      refine ⟨⟨o, e, ex.1⟩, fun a e2 => ?_⟩
      cases e2
      exact ⟨o, e, ex.2.1⟩
  | _ => exact False.elim ty
noncomputable def tBM (K : PySem.W.Frag) (T : String) (r : V → List V → Hp → VK → Prop) (to : TE) (t : TA) : TE := fun σ H Q => to σ H fun x H1 => tyV K T x H1 ∧ t σ H1 fun xs H2 => r x xs H2 Q
variable {o e : Expr} {es : List Expr} {to : TE} {t : TA} {name : Str} {apos cpos : Pos} {T id : String} {r : V → List V → Hp → VK → Prop}
theorem pe_bm (pa : PlainAttrs T) (slot : Slot T name id) (hty : typeOf (.builtin id) = pure (.type "method_descriptor")) (hm : MtR X id r) (ho : PE X o to) (ha : PA X (e :: es) t)
    (hbase : attributeBase o name X.env (eval o X.env) = eval o X.env := by rfl)
    (hfew : ((backTo cpos (starEach (e :: es) X.env)).all (fun x => !x.1) && (backToKw cpos (keywordEach [] X.env)).all (fun x => x.1.isSome)
      && decide ((e :: es).length + ([] : List Keyword).length + (if ([] : List Keyword).isEmpty then 0 else 1) < 30)) = true := by rfl)
    (hline : (apos.endLine == cpos.line) = true := by rfl) (hs : starEach (e :: es) X.env = (false, eval e X.env) :: starEach es X.env := by rfl) (hplain : (backTo cpos (starEach es X.env)).any (·.1) = false := by rfl) :
    PE X (.Call (.Attribute o name apos) (e :: es) [] cpos) (tBM X.K T r to t) := by
  intro pins s σ H Q I h
  refine wpAny_Call_method_late hbase hfew hline rfl (thn (ho pins s σ H _ I h) fun v s1 ⟨x, H1, I1, r1, ty, q1⟩ => ?_)
  obtain ⟨h1, h2⟩ := tyV_is I1 r1 ty
  refine ⟨T, id, pa, slot, hty, h1, h2, ?_⟩
  have hA := ha cpos pins s1 σ H1 _ I1 q1
  rw [hs] at hA ⊢
  refine Calls.callWith_builtin (by show (false || (backTo cpos (starEach es X.env)).any (·.1)) = false; rw [hplain] <;> rfl) (Calls.evalArgs_plain ?_)
  exact thn hA fun us s2 ⟨vs, H2, I2, r2, q2⟩ => hm pins s2 σ H2 x vs v us Q I2 r1 r2 q2
end
end L2

namespace L2
open PySem PySem.Spec PyProof.Rows

noncomputable def MtM (X : Cx) (id : String) (r : V → List V → Hp → VK → Prop) : Prop :=
  ∀ (pins : List (Addr × Obj)) (s : Shared) (σ : St) (H : Hp) (x : V) (xs : List V) (v : Value) (us : List Value) (Q : VK), Inv X pins σ H s → RelV x v → Vals xs us → r x xs H Q →
    wpAny (model X.prog X.w) X.A (call (.builtin id) (v :: us)) (EP X pins σ Q) X.xe s

theorem Vals.one : ∀ {x : V} {us : List Value}, Vals [x] us → ∃ u, us = [u] ∧ RelV x u
  | _, _, .cons r .nil => ⟨_, rfl, r⟩
theorem Vals.two : ∀ {x y : V} {us : List Value}, Vals [x, y] us → ∃ u v, us = [u, v] ∧ RelV x u ∧ RelV y v
  | _, _, _, .cons r (.cons q .nil) => ⟨_, _, rfl, r, q⟩
theorem Vals.rep {xs : List V} {us : List Value} (h : Vals xs us) : ∀ k : Nat, Vals (List.replicate k xs).flatten (List.replicate k us).flatten
  | 0 => .nil
  | k + 1 => by
    rw [List.replicate_succ, List.replicate_succ, List.flatten_cons, List.flatten_cons]
    exact Vals.append h (Vals.rep h k)
theorem foldl_rep (its : List Value) : ∀ (k : Nat) (acc : List Value),
    List.foldl (fun x1 x2 => x1 ++ x2) acc.toArray (List.replicate k its.toArray) = (acc ++ (List.replicate k its).flatten).toArray
  | 0, acc => by simp
  | k + 1, acc => by
    have e : acc.toArray ++ its.toArray = (acc ++ its).toArray := by simp
    have e2 : (acc ++ its) ++ (List.replicate k its).flatten = acc ++ (List.replicate (k + 1) its).flatten := by
      rw [List.replicate_succ, List.flatten_cons, List.append_assoc]
    rw [← e2, ← foldl_rep its k (acc ++ its), ← e, List.replicate_succ, List.foldl_cons]

section
variable {X : Cx} {pins : List (Addr × Obj)} {σ : St} {H : Hp} {s : Shared} {l b : Addr} {xs ys zs : List V}

theorem Inv.lset {its its' : List Value} {n : Nat} {f : Array Value → Array Value} {t' : Nat} (I : Inv X pins σ H s) (hH : H l = some (.lst xs))
    (e : s.heap.get? l = some { cls := .type "list", data := .seq its.toArray n }) (hf : f its.toArray = its'.toArray) (hv : Vals ys its') (hz : ys.length ≤ sizeLine) :
    Inv X pins σ (upd H l (.lst ys)) { s with heap := s.heap.update l (Obj.mapSeq f), toks := t' } := by
  have q := PySem.IsL.update e f
  rw [hf] at q
  refine I.write (x := l) (e := l) (by rw [hH]; exact trivial) (.inl rfl) (fun b' u hb hu => (Heap.get?_update_other s.heap (Obj.mapSeq f) (Ne.symm hb)).trans hu) ⟨_, q⟩ ?_
  exact ⟨hz, its', _, hv, q⟩
theorem Inv.lnew {its : List Value} {t' : Nat} (I : Inv X pins σ H s) (hv : Vals ys its) (hz : ys.length ≤ sizeLine) :
    Inv X pins σ (upd H s.heap.objs.size (.lst ys)) { s with heap := s.heap.push { cls := .type "list", data := .seq its.toArray }, toks := t' } :=
  I.laid (fun _ _ q => Heap.get?_push_of_some _ q) (Nat.le_refl _) ⟨hz, its, 0, hv, Heap.get?_push_size _ rfl⟩
theorem Inv.fresh (I : Inv X pins σ H s) : H s.heap.objs.size = none := I.hok.fresh (Nat.le_refl _)
theorem Inv.lstM (I : Inv X pins σ H s) (hH : H l = some (.lst xs)) : xs.length ≤ sizeLine ∧ ∃ (its : List Value) (n : Nat), Vals xs its ∧ xs.length = its.length ∧ s.heap.get? l = some { cls := .type "list", data := .seq its.toArray n } := by
  obtain ⟨z, its, n, r, e⟩ := I.hok l _ hH
  exact ⟨z, its, n, r, r.length, e⟩

theorem notLongL {n : Nat} (h : n ≤ sizeLine) : Builtin.List.listTooLong n = false := by
  unfold Builtin.List.listTooLong
  exact decide_eq_false (by omega)
end

section
variable {X : Cx}

noncomputable def rAppend : V → List V → Hp → VK → Prop := fun x vs H Q => ∃ l xs y, x = .ref l ∧ vs = [y] ∧ H l = some (.lst xs) ∧ xs.length < sizeLine ∧ Q .non (upd H l (.lst (xs ++ [y])))
theorem mt_append : MtM X "list.append" rAppend := by
  intro pins s σ H x vs v us Q I rx rv h
  obtain ⟨l, xs, y, rfl, rfl, hH, hz, q⟩ := h
  cases rx
  obtain ⟨u, rfl, ru⟩ := rv.one
  obtain ⟨z, its, n, r, hl, e⟩ := I.lstM hH
  refine call_meets F.slot_list_append ⟨_, e, rfl⟩ F.entry_list_append (F.args_list_append_2 _ _) (PySem.list_append l its.toArray n u (by rw [List.size_toArray]; omega)) ⟨e, ?_⟩
  refine ⟨.non, _, I.lset (its' := its ++ [u]) hH e (by simp) (r.append (.cons ru .nil)) ?_, rfl, q⟩
  rw [List.length_append, List.length_singleton]
  omega

noncomputable def rCat : R2 := fun x y H Q => ∃ l b xs zs, x = .ref l ∧ y = .ref b ∧ H l = some (.lst xs) ∧ H b = some (.lst zs) ∧ xs.length + zs.length ≤ sizeLine ∧ ∀ p, H p = none → Q (.ref p) (upd H p (.lst (xs ++ zs)))
theorem op_cat : OpR X (binaryOp .Add) rCat := by
  intro pins s σ H x y v u Q I rx ry h
  obtain ⟨l, b, xs, zs, rfl, rfl, hH, hB, hz, q⟩ := h
  cases rx
  cases ry
  obtain ⟨z, its, n, r, hl, e⟩ := I.lstM hH
  obtain ⟨z2, its2, n2, r2, hl2, e2⟩ := I.lstM hB
  refine PySem.P.add_list e e2 ?_ (by rw [List.size_toArray, List.size_toArray]; omega)
  have ea : its.toArray ++ its2.toArray = (its ++ its2).toArray := by simp
  rw [ea]
  exact ⟨.ref _, _, I.lnew (t' := s.toks) (r.append r2) (by rw [List.length_append]; omega), rfl, q _ I.fresh⟩
noncomputable def rRep : R2 := fun x y H Q => ∃ l k xs, x = .ref l ∧ y = .int k ∧ H l = some (.lst xs) ∧ -(2 ^ 63) ≤ k ∧ k < 2 ^ 63 ∧ xs.length * k.toNat ≤ sizeLine ∧
  ∀ p, H p = none → Q (.ref p) (upd H p (.lst (List.replicate k.toNat xs).flatten))
theorem len_rep {α : Type} (xs : List α) (k : Nat) : (List.replicate k xs).flatten.length = k * xs.length := by
  induction k with
  | zero => simp
  | succ k ih => rw [List.replicate_succ, List.flatten_cons, List.length_append, ih, Nat.succ_mul, Nat.add_comm]
theorem op_rep : OpR X (binaryOp .Mult) rRep := by
  intro pins s σ H x y v u Q I rx ry h
  obtain ⟨l, k, xs, rfl, rfl, hH, h1, h2, hz, q⟩ := h
  cases rx
  obtain ⟨t, rfl⟩ := ry
  obtain ⟨z, its, n, r, hl, e⟩ := I.lstM hH
  have hlen : its.toArray.size * k.toNat ≤ sizeLine := by rw [List.size_toArray, ← hl]; exact hz
  have hcap : ¬ its.toArray.size * k.toNat > (2 ^ 63 - 1) / 8 := by
    have : (sizeLine : Nat) ≤ (2 ^ 63 - 1) / 8 := by decide
    omega
  have hfit : ¬ (!Builtin.List.listFitsIndex k) = true := by
    rw [fitsIndex_both h1 h2]
    exact Bool.false_ne_true
  have hlong : ¬ Builtin.List.listTooLong (its.toArray.size * k.toNat) = true := by
    rw [notLongL hlen]
    exact Bool.false_ne_true
  have hnew : List.foldl (fun x1 x2 => x1 ++ x2) #[] (List.replicate (if its.toArray.isEmpty = true then 0 else k.toNat) its.toArray) = (List.replicate k.toNat its).flatten.toArray := by
    have f0 : ∀ m : Nat, List.foldl (fun x1 x2 => x1 ++ x2) #[] (List.replicate m its.toArray) = (List.replicate m its).flatten.toArray := fun m => by
      have := foldl_rep its m []
      rw [List.nil_append] at this
      exact this
    rw [f0]
    cases its with
    | nil => simp
    | cons a r' => rw [if_neg (by simp)]
  refine wpAny_binaryOp_repeat_ref (T := "list") (U := "int") (by decide) ⟨_, e, rfl⟩ (fun s' => typeIs_int s' k t) noFill_list_mul F.fills_int_mul F.slot_int_rmul repeat_list F.slot_int_index.lookup
    (call_meets F.slot_int_rmul (typeIs_int s k t) F.entry_int_rmul (F.args_int_rmul_2 _ _) (int___rmul___int_list k t l its.toArray n)
      ⟨e, rfl, ⟨_, e, rfl⟩, call_meets F.slot_list_mul ⟨_, e, rfl⟩ F.entry_list_mul (F.args_list_mul_2 _ _) (AutoListH.list___mul___list_int_3 l its.toArray n k t hfit hcap hlong) ⟨e, ?_⟩⟩)
  rw [hnew]
  exact ⟨.ref _, _, I.lnew (t' := s.toks) (r.rep k.toNat) (by rw [len_rep, Nat.mul_comm]; exact hz), rfl, q _ I.fresh⟩

end

section
variable {prog : Program} {w : World} {A : Around} {E : Value → Shared → Prop} {s : Shared}
set_option maxRecDepth 100000 in
end

section
variable {X : Cx}
end
end L2

namespace L2
open PySem PySem.Spec PyProof.Rows

section
variable {κ : Type} [DecidableEq κ]
noncomputable def valV (kvs : List (κ × V)) (k : κ) : Option V := (kvs.find? fun kv => decide (kv.1 = k)).map (·.2)
noncomputable def putK (kvs : List (κ × V)) (k : κ) (v : V) : List (κ × V) :=
  if (kvs.any fun kv => decide (kv.1 = k)) = true then kvs.map (fun kv => if kv.1 = k then (kv.1, v) else kv) else kvs ++ [(k, v)]
theorem valV_pos {p : κ × V} {r : List (κ × V)} {k : κ} (e : p.1 = k) : valV (p :: r) k = some p.2 := by simp [valV, List.find?_cons, e]
theorem valV_neg {p : κ × V} {r : List (κ × V)} {k : κ} (e : ¬ p.1 = k) : valV (p :: r) k = valV r k := by simp [valV, List.find?_cons, e]
theorem valV_any (k : κ) : ∀ kvs : List (κ × V), (kvs.any fun kv => decide (kv.1 = k)) = (valV kvs k).isSome
  | [] => rfl
  | p :: r => by
    rw [List.any_cons]
    by_cases e : p.1 = k
    · simp only [valV_pos e, decide_eq_true e, Bool.true_or, Option.isSome_some]
    · rw [valV_neg e, decide_eq_false e, Bool.false_or]; exact valV_any k r
theorem valV_map (k j : κ) (y : V) : ∀ kvs : List (κ × V), valV (kvs.map fun kv => if kv.1 = k then (kv.1, y) else kv) j = (valV kvs j).map fun x => if j = k then y else x
  | [] => rfl
  | p :: r => by
    have ih := valV_map k j y r
    rw [List.map_cons]
    by_cases h : p.1 = k
    · rw [if_pos h]
      by_cases e : p.1 = j
      · rw [valV_pos (p := (p.1, y)) e, valV_pos e, Option.map_some, if_pos (e.symm.trans h)]
      · rw [valV_neg (p := (p.1, y)) e, valV_neg e, ih]
    · rw [if_neg h]
      by_cases e : p.1 = j
      · rw [valV_pos (p := p) e, valV_pos e, Option.map_some, if_neg (fun z => h (e.trans z))]
      · rw [valV_neg (p := p) e, valV_neg e, ih]
theorem valV_snoc (k j : κ) (y : V) : ∀ kvs : List (κ × V), valV kvs k = none → valV (kvs ++ [(k, y)]) j = if j = k then some y else valV kvs j
  | [], _ => by
    by_cases e : k = j
    · rw [if_pos e.symm]; exact valV_pos (p := (k, y)) e
    · rw [if_neg (fun z => e z.symm)]; exact valV_neg (p := (k, y)) e
  | p :: r, hn => by
    rw [List.cons_append]
    have hk : ¬ p.1 = k := fun z => by rw [valV_pos z] at hn; cases hn
    rw [valV_neg hk] at hn
    have ih := valV_snoc k j y r hn
    by_cases e : p.1 = j
    · rw [valV_pos e, valV_pos e, if_neg (fun z => hk (e.trans z))]
    · rw [valV_neg e, valV_neg e, ih]
theorem valV_put (kvs : List (κ × V)) (k j : κ) (y : V) : valV (putK kvs k y) j = if j = k then some y else valV kvs j := by
  unfold putK
  by_cases a : (kvs.any fun kv => decide (kv.1 = k)) = true
  · rw [if_pos a, valV_map]
    rw [valV_any] at a
    by_cases e : j = k
    · obtain ⟨x, hx⟩ := Option.isSome_iff_exists.mp a
      rw [if_pos e, e, hx, Option.map_some, if_pos rfl]
    · rw [if_neg e]
      cases valV kvs j with
      | none => rfl
      | some x => rw [Option.map_some, if_neg e]
  · rw [if_neg a]
    refine valV_snoc k j y kvs ?_
    rw [valV_any] at a
    cases q : valV kvs k with
    | none => rfl
    | some x => rw [q] at a; exact (a rfl).elim
theorem length_putK (kvs : List (κ × V)) (k : κ) (v : V) : (putK kvs k v).length ≤ kvs.length + 1 := by
  unfold putK
  split
  · rw [List.length_map]; omega
  · rw [List.length_append, List.length_cons, List.length_nil]; omega
theorem RelO.isSome_eq {o : Option V} {u : Option Value} (r : RelO o u) : o.isSome = u.isSome := by
  cases o with
  | none => cases u with
    | none => rfl
    | some _ => exact (show False from r).elim
  | some _ => cases u with
    | none => exact (show False from r).elim
    | some _ => rfl
theorem KV.val {kvs : List (κ × V)} {vs : List (κ × Value)} (r : KV kvs vs) (k : κ) : RelO (valV kvs k) (valueAt vs k) := by
  unfold KV at r
  induction r with
  | nil => exact True.intro
  | @cons p q ps qs h t ih =>
    obtain ⟨h1, h2⟩ := h
    by_cases e : p.1 = k
    · have e' : q.1 = k := h1.symm.trans e
      have b : valueAt (q :: qs) k = some q.2 := by simp [valueAt, List.find?_cons, e']
      rw [valV_pos e, b]; exact h2
    · have e' : ¬ q.1 = k := fun z => e (h1.trans z)
      have b : valueAt (q :: qs) k = valueAt qs k := by simp [valueAt, List.find?_cons, e']
      rw [valV_neg e, b]; exact ih
theorem KV.any {kvs : List (κ × V)} {vs : List (κ × Value)} (r : KV kvs vs) (k : κ) : (kvs.any fun kv => decide (kv.1 = k)) = vs.any fun kv => decide (kv.1 = k) := by
  unfold KV at r
  induction r with
  | nil => rfl
  | cons h t ih => rw [List.any_cons, List.any_cons, ih, h.1]
theorem KV.repl {kvs : List (κ × V)} {vs : List (κ × Value)} (r : KV kvs vs) (k : κ) {y : V} {u : Value} (ry : RelV y u) :
    KV (kvs.map fun kv => if kv.1 = k then (kv.1, y) else kv) (vs.map fun kv => if kv.1 = k then (kv.1, u) else kv) := by
  unfold KV at r ⊢
  induction r with
  | nil => exact .nil
  | @cons p q ps qs h t ih =>
    rw [List.map_cons, List.map_cons]
    refine .cons ?_ ih
    obtain ⟨h1, h2⟩ := h
    by_cases e : p.1 = k
    · rw [if_pos e, if_pos (h1.symm.trans e)]; exact ⟨h1, ry⟩
    · rw [if_neg e, if_neg (fun z => e (h1.trans z))]; exact ⟨h1, h2⟩
theorem KV.put {kvs : List (κ × V)} {vs : List (κ × Value)} (r : KV kvs vs) (k : κ) {y : V} {u : Value} (ry : RelV y u) : KV (putK kvs k y) (stored vs k u) := by
  unfold putK stored
  rw [r.any k]
  by_cases e : (vs.any fun kv => decide (kv.1 = k)) = true
  · rw [if_pos e, if_pos e]; exact r.repl k ry
  · rw [if_neg e, if_neg e]; exact Paired.snoc r ⟨rfl, ry⟩
theorem KV.length {kvs : List (κ × V)} {vs : List (κ × Value)} (r : KV kvs vs) : kvs.length = vs.length := Paired.length r
end


theorem kV_is {P : Program} {w : World} {k : Key} {u : Value} (r : RelV (kV k) u) : (mixKind P w).is k u = true := by
  cases k with
  | inl i => obtain ⟨t, e⟩ := (show ∃ t, u = Value.int i t from r); subst e; exact mixKind_int P w i t
  | inr x => obtain ⟨t, e⟩ := (show ∃ t, u = Value.str x t from r); subst e; exact mixKind_str P w x t
theorem items_are {P : Program} {w : World} : ∀ {ks : List Key} {us : List Value}, Vals (ks.map kV) us → ItemsAre (mixKind P w) ks us
  | [], _, r => by rw [List.map_nil] at r; cases r; exact .nil
  | k :: ks, _, r => by
    rw [List.map_cons] at r
    cases r with
    | cons h t => exact .cons (kV_is h) (items_are t)

noncomputable abbrev KT (H : Hp) : List (List Key × V) → List (List Key × Addr × Value) → Prop := Paired fun p q => p.1 = q.1 ∧ H q.2.1 = some (.tup (p.1.map kV)) ∧ RelV p.2 q.2.2
theorem KT.val {H : Hp} {kvs : List (List Key × V)} {xs : List (List Key × Addr × Value)} (r : KT H kvs xs) (k : List Key) : RelO (valV kvs k) ((atKey xs k).map (·.2)) := by
  induction r with
  | nil => exact True.intro
  | @cons p q ps qs h t ih =>
    obtain ⟨h1, _, h2⟩ := h
    by_cases e : p.1 = k
    · have e' : q.1 = k := h1.symm.trans e
      have b : atKey (q :: qs) k = some q.2 := by simp [atKey, List.find?_cons, e']
      rw [valV_pos e, b]; exact h2
    · have e' : ¬ q.1 = k := fun z => e (h1.trans z)
      have b : atKey (q :: qs) k = atKey qs k := by simp [atKey, List.find?_cons, e']
      rw [valV_neg e, b]; exact ih
theorem KT.repl {H : Hp} {kvs : List (List Key × V)} {xs : List (List Key × Addr × Value)} (r : KT H kvs xs) (k : List Key) {y : V} {u : Value} (ry : RelV y u) :
    KT H (kvs.map fun kv => if kv.1 = k then (kv.1, y) else kv) (xs.map (putAt k u)) := by
  induction r with
  | nil => exact .nil
  | @cons p q ps qs h t ih =>
    rw [List.map_cons, List.map_cons]
    refine .cons ?_ ih
    obtain ⟨h1, h2, h3⟩ := h
    unfold putAt
    by_cases e : p.1 = k
    · rw [if_pos e, if_pos (h1.symm.trans e)]; exact ⟨h1, h2, ry⟩
    · rw [if_neg e, if_neg (fun z => e (h1.trans z))]; exact ⟨h1, h2, h3⟩
theorem KT.put {H : Hp} {kvs : List (List Key × V)} {xs : List (List Key × Addr × Value)} (r : KT H kvs xs) (k : List Key) {b : Addr} {y : V} {u : Value} (hb : H b = some (.tup (k.map kV))) (ry : RelV y u) :
    KT H (putK kvs k y) (storedH xs k b u) := by
  have e : (kvs.any fun kv => decide (kv.1 = k)) = (atKey xs k).isSome := by
    rw [valV_any, (r.val k).isSome_eq, Option.isSome_map]
  unfold putK storedH
  rw [e]
  by_cases q : (atKey xs k).isSome = true
  · rw [if_pos q, if_pos q]; exact r.repl k ry
  · rw [if_neg q, if_neg q]; exact Paired.snoc r ⟨rfl, hb, ry⟩
theorem KT.keeps {H H' : Hp} {kvs : List (List Key × V)} {xs : List (List Key × Addr × Value)} (r : KT H kvs xs) (ht : ∀ b ys, H b = some (.tup ys) → H' b = some (.tup ys)) : KT H' kvs xs :=
  Paired.mapP r fun _ _ z => ⟨z.1, ht _ _ z.2.1, z.2.2⟩

section
variable {P : Program} {w : World} {H : Hp} {h : Heap} {a : Addr}
theorem rd_of {u : HO} (ok : HOk P w H h) (e : Rd H a u) : ObjOk P w H h a u := e.ok ok
theorem dk_rd {kvs : List (Key × V)} (ok : HOk P w H h) (e : Rd H a (.dK kvs)) : kvs.length ≤ sizeLine ∧ (a == sysModules) = false ∧ ∃ vs, KV kvs vs ∧ h.DictOf (mixKind P w) a vs :=
  show ObjOk P w H h a (.dK kvs) from rd_of ok e
theorem dk_of {kvs : List (Key × V)} (ok : HOk P w H h) (e : H a = some (.dK kvs)) : kvs.length ≤ sizeLine ∧ (a == sysModules) = false ∧ ∃ vs, KV kvs vs ∧ h.DictOf (mixKind P w) a vs := dk_rd ok (.inl e)
theorem key_of {ks : List Key} (ok : HOk P w H h) (e : H a = some (.tup (ks.map kV))) : (tupleKind (mixKind P w)).is h ks a := by
  obtain ⟨_, its, r, o, h1, h2, ⟨n, h3⟩, _⟩ := (show ObjOk P w H h a (.tup (ks.map kV)) from ok a _ e)
  exact ⟨o, its.toArray, n, h1, h2, h3, by simpa using items_are r⟩
theorem dt_rd {kvs : List (List Key × V)} (ok : HOk P w H h) (e : Rd H a (.dT kvs)) : kvs.length ≤ sizeLine ∧ (a == sysModules) = false ∧
    ∃ xs, KT H kvs xs ∧ h.DictOfH (tupleKind (mixKind P w)) a xs := by
  obtain ⟨z, y, xs, r, o, es, ep, h1, h2, h3, h4, h5⟩ := (show ObjOk P w H h a (.dT kvs) from rd_of ok e)
  refine ⟨z, y, xs, r, o, es, ep, h1, h2, h3, h4, fun x hx => ?_, h5⟩
  have all : ∀ {l : List (List Key × V)} {m : List (List Key × Addr × Value)}, KT H l m → ∀ x ∈ m, (tupleKind (mixKind P w)).is h x.1 x.2.1 := by
    intro l m q
    induction q with
    | nil => intro x hx; exact nomatch hx
    | @cons p q ps qs hq t ih =>
      intro x hx
      rcases List.mem_cons.mp hx with e | hx
      · subst e
        exact key_of ok (by rw [← hq.1]; exact hq.2.1)
      · exact ih x hx
  exact all r x hx
theorem dt_of {kvs : List (List Key × V)} (ok : HOk P w H h) (e : H a = some (.dT kvs)) : kvs.length ≤ sizeLine ∧ (a == sysModules) = false ∧
    ∃ xs, KT H kvs xs ∧ h.DictOfH (tupleKind (mixKind P w)) a xs := dt_rd ok (.inl e)
end

noncomputable def DGet (H : Hp) (a : Addr) (y : V) (r : Option V) : Prop :=
  (∃ kvs k, Rd H a (.dK kvs) ∧ y = kV k ∧ r = valV kvs k) ∨ ∃ kvs k b, Rd H a (.dT kvs) ∧ y = .ref b ∧ H b = some (.tup (k.map kV)) ∧ r = valV kvs k
noncomputable def DPut (H : Hp) (a : Addr) (y v : V) (H' : Hp) : Prop :=
  (∃ kvs k, H a = some (.dK kvs) ∧ y = kV k ∧ kvs.length < sizeLine ∧ H' = upd H a (.dK (putK kvs k v))) ∨
  ∃ kvs k b, H a = some (.dT kvs) ∧ y = .ref b ∧ H b = some (.tup (k.map kV)) ∧ kvs.length < sizeLine ∧ H' = upd H a (.dT (putK kvs k v))
theorem DGet.k {H : Hp} {a : Addr} {kvs : List (Key × V)} {k : Key} (e : H a = some (.dK kvs)) : DGet H a (kV k) (valV kvs k) := .inl ⟨kvs, k, .inl e, rfl, rfl⟩
theorem DPut.k {H : Hp} {a : Addr} {kvs : List (Key × V)} {k : Key} {v : V} (e : H a = some (.dK kvs)) (hl : kvs.length < sizeLine) : DPut H a (kV k) v (upd H a (.dK (putK kvs k v))) := .inl ⟨kvs, k, e, rfl, hl, rfl⟩
section
variable {X : Cx} {pins : List (Addr × Obj)} {σ : St} {H : Hp} {s : Shared} {a : Addr} {y v : V} {u r : Value} {o : Option V} {A : Around} {E : Value → Shared → Prop}

theorem Inv.big (I : Inv X pins σ H s) : sysModules < s.heap.objs.size := by
  have h : mainGlobals < s.heap.objs.size := (I.mod.glob.keeps I.bk).lt
  exact Nat.lt_trans (by decide) h

theorem d_in {Q : Value → Shared → Prop} (hu : A.units + 1 < cLine) (I : Inv X pins σ H s) (g : DGet H a y o) (ry : RelV y u) (h : ∀ s', Inv X pins σ H s' → Q (.bool o.isSome) s') :
    wpAny (model X.prog X.w) A (compareOp .In u (.ref a)) Q E s := by
  rcases g with ⟨kvs, k, e, ey, l⟩ | ⟨kvs, k, b, e, ey, eb, l⟩
  · subst ey
    obtain ⟨z, hd, vs, rel, dd⟩ := dk_rd I.hok e
    refine wpAny_in_of (kV_is ry) hd dd.mapOf ?_
    rw [← (rel.val k).isSome_eq, ← l]
    exact h _ (I.tok _)
  · subst ey
    cases (show u = Value.ref b from ry)
    obtain ⟨z, hd, xs, rel, dd⟩ := dt_rd I.hok e
    refine wpAny_in_heap (tupleKind_room_in1 hu) (key_of I.hok eb) hd dd ?_
    have q := (rel.val k).isSome_eq
    rw [Option.isSome_map] at q
    rw [← q, ← l]
    exact h _ (I.tok _)
theorem d_write {h' : Heap} {t' : Nat} {ob : HO} (I : Inv X pins σ H s) (mu : Mut (H a)) (hs : Heap.SameBut a s.heap h') (he : ∃ q, h'.get? a = some q) (new : ObjOk X.prog X.w (upd H a ob) h' a ob) :
    Inv X pins σ (upd H a ob) { s with heap := h', toks := t' } :=
  I.write (x := a) (e := a) mu (.inl rfl) (fun b q hb z => (hs.2 b hb).trans z) he new
theorem dk_new {P : Program} {w : World} {H' : Hp} {h' : Heap} {kvs : List (Key × V)} {vs : List (Key × Value)} (z : kvs.length ≤ sizeLine) (hd : (a == sysModules) = false) (rel : KV kvs vs) (dd : h'.DictOf (mixKind P w) a vs) :
    ObjOk P w H' h' a (.dK kvs) := ⟨z, hd, vs, rel, dd⟩
theorem d_setItem {H' : Hp} {Q : Unit → Shared → Prop} (hu : A.units + 1 < cLine) (I : Inv X pins σ H s) (g : DPut H a y v H') (ry : RelV y u) (rv : RelV v r) (h : ∀ s', Inv X pins σ H' s' → Q () s') :
    wpAny (model X.prog X.w) A (setItem (.ref a) u r) Q E s := by
  rcases g with ⟨kvs, k, e, ey, l, eH⟩ | ⟨kvs, k, b, e, ey, eb, l, eH⟩
  · subst ey eH
    obtain ⟨z, hd, vs, rel, dd⟩ := dk_of I.hok e
    have hz : vs.length ≤ sizeLine := by rw [← rel.length]; exact z
    have hl : (putK kvs k v).length ≤ sizeLine := by have := length_putK kvs k v; omega
    refine wpAny_setItem_pairs (hsz := hz) (kV_is ry) dd fun h' dd' hs => h _ ?_
    have he : ∃ q, h'.get? a = some q := let ⟨q, _, _, hq, _⟩ := dd'; ⟨q, hq⟩
    exact d_write I (by rw [e]; exact True.intro) hs he (dk_new hl hd (rel.put k rv) dd')
  · subst ey eH
    cases (show u = Value.ref b from ry)
    obtain ⟨z, hd, xs, rel, dd⟩ := dt_of I.hok e
    have hz : xs.length ≤ sizeLine := by rw [← Paired.length rel]; exact z
    have hl : (putK kvs k v).length ≤ sizeLine := by have := length_putK kvs k v; omega
    refine wpAny_setItem_heap (hsz := hz) (tupleKind_room_in1 hu) (key_of I.hok eb) dd fun h' dd' hs => h _ ?_
    obtain ⟨q, es, ep, hq, h2, h3, h4, _, h5⟩ := dd'
    refine d_write I (by rw [e]; exact True.intro) hs ⟨q, hq⟩ ⟨hl, hd, _, (rel.put k eb rv).keeps fun c ys ec => ?_, q, es, ep, hq, h2, h3, h4, h5⟩
    rw [upd_ne (ne_of ec e (fun z => nomatch z))]
    exact ec
end

section
variable {X : Cx} {pins : List (Addr × Obj)} {σ : St} {H : Hp} {s : Shared} {a : Addr} {kvs : List (Key × V)} {k : Key} {u : Value} {A : Around} {E : Value → Shared → Prop}
end


noncomputable def tDIn (ty td : TE) : TE := fun σ H Q => ty σ H fun y H1 => td σ H1 fun x H2 => ∃ a o, x = .ref a ∧ DGet H2 a y o ∧ Q (.bl o.isSome) H2
noncomputable def sDPut (td ty tv : TE) : TS := fun D σ H => tv σ H fun v H1 => td σ H1 fun x H2 => ty σ H2 fun y H3 => ∃ a H4, x = .ref a ∧ DPut H3 a y v H4 ∧ D.nx σ H4
section
variable {X : Cx} {o i e value : Expr} {pos pos' tpos : Pos} {td ty tv : TE}
theorem pc_din (hu : X.A.units + 1 < cLine) (hi : PE X i ty) (ho : PE X o td) : PC X .In i o (tDIn ty td) := by
  intro pins s σ H Q I h
  refine thn (hi pins s σ H _ I h) fun iv s1 ⟨y, H1, I1, ry, q1⟩ => thn (ho pins s1 σ H1 _ I1 q1) fun u s2 ⟨x, H2, I2, rx, a, ov, ex, g, q2⟩ => ?_
  subst ex
  obtain rfl : u = Value.ref a := rx
  exact d_in hu I2 g ry fun s3 I3 => ⟨.bl ov.isSome, H2, I3, rfl, q2⟩
theorem ps_dput (hu : X.A.units + 1 < cLine) (ho : PE X o td) (hi : PE X i ty) (hv : PE X value tv) (hs : swapsWith value (some (.Subscript o i pos')) pos.line X.env = pure false) :
    PS X (.Assign [.Subscript o i pos'] value pos) (sDPut td ty tv) := by
  intro pins s σ H D I h
  refine wpAny_Assign_Subscript (thn (hv pins s σ H _ I h) fun r s1 ⟨v, H1, I1, rv, q1⟩ => thn (ho pins s1 σ H1 _ I1 q1) fun u s2 ⟨x, H2, I2, rx, q2⟩ => thn (hi pins s2 σ H2 _ I2 q2) fun iv s3 ⟨y, H3, I3, ry, a, H4, ex, g, q3⟩ => ?_) hs
  subst ex
  obtain rfl : u = Value.ref a := rx
  exact d_setItem hu I3 g ry rv fun s4 I4 => ⟨σ, H4, I4, q3⟩
end


theorem dk_empty {P : Program} {w : World} {H : Hp} (h : Heap) (hb : sysModules < h.objs.size) : ObjOk P w H (h.push { cls := .type "dict", data := .dict #[] }) h.objs.size (.dK []) :=
  ⟨Nat.zero_le _, beq_eq_false_iff_ne.mpr (Ne.symm (Nat.ne_of_lt hb)), [], .nil, Heap.DictOf.new h⟩
noncomputable def tDNewK : TE := fun _ H Q => ∀ p, H p = none → Q (.ref p) (upd H p (.dK []))
section
variable {X : Cx} {pos : Pos}
theorem pe_dnewK : PE X (.Dict [] [] pos) tDNewK := fun pins s σ H Q I h =>
  wpAny_Dict_empty ⟨.ref s.heap.objs.size, _, I.laid (a := s.heap.objs.size) (o := .dK []) (t' := s.toks) (fun _ _ q => Heap.get?_push_of_some _ q) (Nat.le_refl _) (dk_empty s.heap I.big), rfl, h _ (I.hok.fresh (Nat.le_refl _))⟩
end

section
variable {X : Cx} {pins : List (Addr × Obj)} {σ : St} {H : Hp} {s : Shared} {a : Addr} {y d : V} {u r : Value} {o : Option V} {A : Around} {E : Value → Shared → Prop}
end

section
variable {X : Cx} {o e f : Expr} {apos cpos : Pos} {td ty tx : TE}
end

section
variable {X : Cx} {pins : List (Addr × Obj)} {σ : St} {H : Hp} {s : Shared} {a : Addr} {kvs : List (Key × V)} {A : Around} {E : Value → Shared → Prop}
end


section
variable {X : Cx} {pins : List (Addr × Obj)} {σ : St} {H : Hp} {s : Shared} {a : Addr} {y : V} {u : Value} {A : Around} {E : Value → Shared → Prop}
end
end L2

namespace Att
open PySem PySem.W PySem.Calls PyProof.Rows

theorem ints_of_wellAll {P : Params} {h : Heap} : ∀ (ns : List Int) (vs : List Value), WellAll P h vs (ns.map WData.int) → IntsAre vs ns := by
  intro ns
  induction ns with
  | nil =>
    intro vs w
    rw [List.map_nil] at w
    cases w
    exact .nil
  | cons n ns ih =>
    intro vs w
    rw [List.map_cons] at w
    cases w with
    | cons a b =>
      cases a
      exact .cons _ _ (ih _ b)

theorem script_of {l : OpenLaw} {n : Nat} (hn : l.most = some n) {P : Params} {h : Heap} {args : List WData} {vals : List Value}
    (hpre : l.row.toRowW.claim.pre args = true) (hwl : WellAll P h vals args) :
    ∃ a vs ns, vals = [Value.ref a] ∧ args = [WData.list (ns.map WData.int)] ∧ h.get? a = some { cls := .type "list", data := .seq vs.toArray } ∧ IntsAre vs ns ∧ ns.length ≤ n := by
  have hsh : WShape.hasAll [] args [.list .int] = true := (pre_splitW hpre).1
  have hc : l.pre.holds [] { args := args } = true := (pre_splitW hpre).2
  obtain ⟨d, r, rfl, h1, h2⟩ := hasAllW_cons hsh
  obtain rfl := hasAllW_nil h2
  obtain ⟨xs, rfl, h3⟩ := hasW_list h1
  obtain ⟨ns, rfl⟩ := items_int h3
  have hlen : ns.length ≤ n := by
    unfold OpenLaw.pre at hc
    have h4 : (WTm.not (.lt (.lit (.int (n : Int))) (.len (.arg 0)))).holds [] { args := [.list (ns.map .int)] } = true := by
      have h4 := (holds_andW hc).1
      rw [hn] at h4
      exact h4
    have h5 := condW_of h4 (w_not (w_lt w_lit (w_len_list (w_arg rfl))))
    rw [List.length_map] at h5
    refine Nat.le_of_not_lt fun q => ?_
    have q' : (n : Int) < ((ns.length : Nat) : Int) := by omega
    first
      | (rw [decide_eq_true q'] at h5; exact absurd h5 (by decide))
      | (simp at h5; omega)
  cases hwl with
  | cons w1 w2 =>
    cases w2
    cases w1 with
    | list ho hall => exact ⟨_, _, ns, rfl, rfl, ho, ints_of_wellAll ns _ hall, hlen⟩

theorem post_true (l : OpenLaw) (args : List WData) : l.row.toRowW.claim.post args (.bool true) args = true :=
  postW_of (r := l.row.toRowW) (X := (true == true))
    (show WShape.has [] (.bool true) .bool = true by first | rfl | decide | simp [WShape.has, WShape.arms, WShape.armsAll])
    (show (WTm.eq .res (.lit (.bool true))).value [] { args := args, res := some (.bool true), after := args } = some (.bool (true == true)) from w_eq_bool (w_res rfl) w_lit) rfl

theorem attach_call {l : OpenLaw} {n : Nat} {q : Program} {loose : List Str} {XP : (Str → Option Value) → Heap → Prop} {YP : World → Heap → Prop} {d : DefRec}
    (hn : l.most = some n) (hdf : d.params.defaults = [])
    (call : ∀ (w : World) (s₀ s₁ : Shared) (mg mb : Str → Option Value) (fa : Addr) (o : Obj) (pm cd doc : Value) (a : Addr) (vs : List Value) (ns : List Int),
      Ground q loose [] XP w s₀ mg mb s₁.heap → YP w s₁.heap →
      s₁.heap.get? fa = some o → o.data = .func (docDef d.name d.params d.body d.scope pm cd doc) → s₁.heap.CodeRec cd d.name → mg d.name = some (.ref fa) →
      s₁.heap.get? a = some { cls := .type "list", data := .seq vs.toArray } → IntsAre vs ns → ns.length ≤ n → s₁.gens = #[] →
      codeAny (model l.prog w) callerA (.call (.ref fa) ⟨[.ref a], []⟩) (fun r s' => r = .ok (.ret (.bool true)) ∧ OldK s₁.heap s'.heap ∧ s'.os = s₁.os ∧ AllBare s'.gens) s₁) :
    WalkO q loose XP YP l.row.toRowW d [] (fun f vs => PySem.call f vs) := by
  intro w s₀ s₁ mg mb G Y fa o pm cd doc dV kV ho hd hcd hD hmg hg args vals as hpre hlay hrd hwl hlo
  obtain rfl : dV = .none := Dflts.none hD hdf
  obtain rfl : kV = .none := Dflts.noKw hD
  obtain ⟨a, vs, ns, rfl, rfl, hobj, hints, hlen⟩ := script_of hn hpre hwl
  refine enter_call (codeAny_mono (call w s₀ s₁ mg mb fa o pm cd doc a vs ns G Y ho (fd_plain hd) hcd hmg hobj hints hlen hg) fun r s' hq => ?_)
  obtain ⟨rfl, h2, h3, h4⟩ := hq
  exact ⟨.inl ⟨.bool true, .bool true, [], rfl, fun _ => rfl, .bool true, post_true l _, fun _ => ⟨List.Pairwise.nil, fun _ hm => (nomatch hm)⟩⟩, h2, h3, h4⟩

section
variable {prog : Program} {w : World} {A : Around} {E : Value → Shared → Prop} {s : Shared} {K : Frag}

end
end Att

namespace L2
open PySem PySem.Spec PyProof.Rows

theorem vals_ints : ∀ {vs : List Value} {ns : List Int}, IntsAre vs ns → Vals (ns.map V.int) vs
  | _, _, .nil => .nil
  | _, _, .cons n t h => .cons ⟨t, rfl⟩ (vals_ints h)

end L2

namespace L2
open PySem PySem.Spec PyProof.Rows

end L2


namespace L2
open PySem PySem.Spec PyProof.Rows

noncomputable def defArgs (s : Stmt) : Arguments := match s with
  | .FunctionDef _ a _ _ _ _ _ _ _ _ => a
  | _ => { posonlyargs := [], args := [], vararg := none, kwonlyargs := [], kw_defaults := [], kwarg := none, defaults := [] }
noncomputable def defBody (s : Stmt) : List Stmt := match s with
  | .FunctionDef _ _ b _ _ _ _ _ _ _ => b
  | _ => []
noncomputable def defScope (s : Stmt) : Scope := match s with
  | .FunctionDef _ _ _ _ _ _ sc _ _ _ => sc
  | _ => { kind := .function, names := [], isGenerator := false, isCoroutine := false }

noncomputable abbrev CX0 : CXT := fun _ _ _ _ _ _ => False
noncomputable abbrev E0 : XK := fun _ _ _ => False
theorem pass0 {X : Cx} : Passes CX0 X E0 := fun _ _ _ _ _ _ _ h => h.elim

structure Fun (K : PySem.W.Frag) (x qual : Str) (st : Stmt) (f : Addr) (fd : FuncData) : Prop where
  ex : ∃ (oc : Value) (od : Option Addr) (kV doc pm : Value) (an : Option Addr) (cdv ct : Value) (osl : Array (Option Value)),
    fd = PySem.W.fnOf x qual (defArgs st) (defBody st) (defScope st) .none kV doc pm an cdv ct ∧ K.lookup f = some ⟨oc, od, .func fd, osl⟩ ∧ PySem.W.codeIn K cdv qual = true
  kp : PySem.W.keepIn K (.ref f) = true
section
variable {P : Program} {w : World} {K : PySem.W.Frag} {mg : Str → Option Value} {base : Heap}
theorem Fun.ok {x qual : Str} {st : Stmt} {f : Addr} {fd : FuncData} {N ps : List Str} {k : Nat} {sp : Sp} (F : Fun K x qual st f fd) (S : FnScope N ps (defScope st)) (len : ∀ vs H Q E, sp vs H Q E → vs.length = ps.length)
    (hbody : ∀ (cdv : Value) (A : Around) (outer : List Env) (s : Shared) (H : Hp) (vs : List V) (Q : VK) (E : XK), Room k (A.deeper (envOfC qual (defScope st) s.heap.objs.size f cdv)) → sp vs H Q E →
      ∃ t, PSs (cxOf CX0 P w K mg base N qual (defScope st) f cdv A outer s H E).nox (defBody st) t ∧ t { nx := fun _ H' => Q .non H', rt := Q } (start N vs) H) : FnOk P w K mg base CX0 (k + 1) f fd ps sp := by
  obtain ⟨oc, od, kV, doc, pm, an, cdv, ct, osl, rfl, lk, hcd⟩ := F.ex
  refine fn_of lk hcd S len fun A outer s H vs Q E hr hsp => ?_
  obtain ⟨t, h, q⟩ := hbody cdv A outer s H vs Q E hr hsp
  exact ⟨t, h.nox, q⟩
theorem Fun.binds {x qual : Str} {st : Stmt} {f : Addr} {fd : FuncData} {ps : List Str} (F : Fun K x qual st f fd)
    (h : ∀ (kV doc pm : Value) (an : Option Addr) (cdv ct : Value) (us : List Value), us.length = ps.length → bindArgs (PySem.W.fnOf x qual (defArgs st) (defBody st) (defScope st) .none kV doc pm an cdv ct) ⟨us, []⟩ = pure (ps.zip us)) : Binds K fd ps [] := by
  obtain ⟨oc, od, kV, doc, pm, an, cdv, ct, osl, rfl, lk, hcd⟩ := F.ex
  exact .all (h kV doc pm an cdv ct)
theorem fun_mk {x qual : Str} {st : Stmt} {f : Addr} {oc : Value} {od an : Option Addr} {osl : Array (Option Value)} {kV doc pm cdv ct : Value} (l : K.lookup f = some ⟨oc, od, .func (PySem.W.fnOf x qual (defArgs st) (defBody st) (defScope st) .none kV doc pm an cdv ct), osl⟩)
    (c : PySem.W.codeIn K cdv qual = true) (k : PySem.W.keepIn K (.ref f) = true) : Fun K x qual st f (PySem.W.fnOf x qual (defArgs st) (defBody st) (defScope st) .none kV doc pm an cdv ct) := ⟨⟨oc, od, kV, doc, pm, an, cdv, ct, osl, rfl, l, c⟩, k⟩
end
theorem hu_of {A : Around} {k : Nat} (hr : Room k A) : A.units + 1 < cLine := Nat.lt_of_le_of_lt (Nat.add_le_add_left (by decide : 1 ≤ 64) _) hr.units
section
variable {X : Cx}
theorem pv (i : Nat) {x : Str} {pos : Pos} (hN : X.N[i]? = some x := by rfl) (hv : Vis X.env.scope x := by first | exact Or.inl rfl | exact Or.inr (Or.inl rfl) | exact Or.inr (Or.inr rfl)) (hd : (x == ("__debug__" : Str)) = false := by decide)
    (hcd : (x == ("__classdict__" : Str)) = false := by decide) : PE X (.Name x pos) (tVar i) := pe_var hN hv hd hcd
end

theorem iteF {A B : Prop} (h : B) : if false = true then A else B := by
  rw [if_neg Bool.false_ne_true]
  exact h
theorem iteT {A B : Prop} (h : A) : if true = true then A else B := by
  rw [if_pos rfl]
  exact h
theorem ite2 {c A B : Prop} [Decidable c] (h1 : c → A) (h2 : ¬ c → B) : if c then A else B := by
  by_cases h : c
  · rw [if_pos h]
    exact h1 h
  · rw [if_neg h]
    exact h2 h
noncomputable def Same (H H' : Hp) : Prop := ∀ b o, H b = some o → H' b = some o
theorem Same.refl (H : Hp) : Same H H := fun _ _ h => h
theorem Same.trans {H H1 H2 : Hp} (a : Same H H1) (b : Same H1 H2) : Same H H2 := fun c o h => b c o (a c o h)
theorem Same.free {H H' : Hp} (e : Same H H') {l : Addr} (h : H' l = Option.none) : H l = Option.none := by
  cases q : H l with
  | none => rfl
  | some o =>
    rw [e l o q] at h
    cases h
theorem Same.seq {K : PySem.W.Frag} {H H' : Hp} {a : Addr} {xs : List V} (e : Same H H') (h : SqL K H a xs) : SqL K H' a xs := by
  rcases h with (h | ⟨o, h⟩) | h
  · exact .inl (.inl (e _ _ h))
  · exact .inl (.inr ⟨o, e _ _ h⟩)
  · exact .inr h

section
variable {κ : Type} [DecidableEq κ]
end
end L2


set_option Elab.async false
set_option linter.all false
set_option maxRecDepth 100000
set_option maxHeartbeats 4000000
namespace L2
open PySem PySem.Spec PyProof.Rows

theorem clos_aux (env : Env) : ∀ (l : List (Str × NameKind)) (cs : List (Str × Addr)), (∀ n, (n, NameKind.free) ∈ l → ∃ c, env.cells.lookup n = some c) → (∀ x c, cs.lookup x = some c → env.cells.lookup x = some c) →
    ∃ cl, (forIn l cs fun x s => if (x.snd == NameKind.free) = true then do let c ← cellOf env x.fst; pure (ForInStep.yield ((x.fst, c) :: s)) else pure (ForInStep.yield s)) = (pure cl : Sem (List (Str × Addr))) ∧
      (∀ x c, cl.lookup x = some c → env.cells.lookup x = some c) ∧ (∀ n, (n, NameKind.free) ∈ l → ∃ c, cl.lookup n = some c) ∧ ∀ n c, cs.lookup n = some c → ∃ c', cl.lookup n = some c'
  | [], cs, _, h => ⟨cs, rfl, h, (fun _ z => nomatch z), (fun n c e => ⟨c, e⟩)⟩
  | (n, k) :: r, cs, hf, h => by
    by_cases hk : k = .free
    · subst hk
      obtain ⟨c, hc⟩ := hf n List.mem_cons_self
      have e : cellOf env n = pure c := by unfold cellOf; rw [hc]
      obtain ⟨cl, e1, h1, h2, h3⟩ := clos_aux env r ((n, c) :: cs) (fun m hm => hf m (List.mem_cons_of_mem _ hm)) (fun x c' q => by
        rw [List.lookup_cons] at q
        by_cases hx : x = n
        · subst hx; simp at q; subst q; exact hc
        · have : (x == n) = false := by simpa using hx
          rw [this] at q; exact h x c' q)
      refine ⟨cl, ?_, h1, fun m hm => ?_, fun m c' q => ?_⟩
      · rw [List.forIn_cons]
        show ((do let c ← cellOf env n; pure (ForInStep.yield ((n, c) :: cs))) >>= _) = _
        rw [e]
        exact e1
      · rcases List.mem_cons.mp hm with z | z
        · cases z; exact h3 n c (by simp)
        · exact h2 m z
      · by_cases hx : m = n
        · subst hx; exact h3 m c (by simp)
        · have : (m == n) = false := by simpa using hx
          exact h3 m c' (by rw [List.lookup_cons, this]; exact q)
    · have hb : (k == NameKind.free) = false := by simpa using hk
      obtain ⟨cl, e1, h1, h2, h3⟩ := clos_aux env r cs (fun m hm => hf m (List.mem_cons_of_mem _ hm)) h
      refine ⟨cl, ?_, h1, fun m hm => ?_, h3⟩
      · rw [List.forIn_cons]
        dsimp only
        rw [hb]
        exact e1
      · rcases List.mem_cons.mp hm with z | z
        · cases z; exact absurd rfl hk
        · exact h2 m z

theorem closureFor_of {scope : Scope} {env : Env} (h : ∀ n, (n, NameKind.free) ∈ scope.names → ∃ c, env.cells.lookup n = some c) :
    ∃ cl, closureFor scope env = pure cl ∧ (∀ x c, cl.lookup x = some c → env.cells.lookup x = some c) ∧ ∀ n, (n, NameKind.free) ∈ scope.names → ∃ c, cl.lookup n = some c := by
  obtain ⟨cl, e, h1, h2, _⟩ := clos_aux env scope.names [] h (fun _ _ z => by simp at z)
  refine ⟨cl, ?_, h1, h2⟩
  simp only [closureFor]
  rw [e]
  rfl

noncomputable def compCx (X : Cx) (scope : Scope) (N' : List Str) (cl : List (Str × Addr)) (C : Addr) (s : Shared) (H : Hp) (fp : List Addr) (pins : List (Addr × Obj)) : Cx where
  prog := X.prog
  w := X.w
  K := X.K
  mg := X.mg
  base := X.base
  A := X.A
  N := N'
  s₀ := s
  H₀ := H
  env := compEnvC scope cl C X.env
  outer := X.stack
  stack := X.stack
  ex := fp
  calm := X.calm
  fn := fun _ => false
  pn := X.pn ++ pins
  xe := fun _ _ => False

structure CompScope (sc : Scope) (out : Scope) : Prop where
  kind : sc.kind = .function
  cell : ∀ y ∈ sc.names, y.2 ≠ .cell
  loc : ∀ y ∈ sc.names, y.2 = .local → sc.names.lookup y.1 = some .local
  free : ∀ y ∈ sc.names, y.2 = .free → out.names.lookup y.1 = some .cell ∨ out.names.lookup y.1 = some .free

noncomputable def inSt (ρ : List (Option Nat)) (σ : St) : St := ρ.map fun o => match o with | some i => (σ[i]?).getD none | none => none
noncomputable def SlotOk (sc : Scope) (env : Env) (N N' : List Str) (ρ : List (Option Nat)) : Prop :=
  ρ.length = N'.length ∧ ∀ (j i : Nat) (x : Str), ρ[j]? = some (some i) → N'[j]? = some x → N[i]? = some x ∧ Vis env.scope x ∧ (x, NameKind.free) ∈ sc.names

theorem lookup_relabel {names : List (Str × NameKind)} {env : Env} {x : Str} {k : NameKind} (h : (names.map fun (n, k) => if (k == NameKind.free && env.scope.kind == .function && env.kindOf n == some .cell) then (n, NameKind.cell) else (n, k)).lookup x = some k)
    (hk : k = .cell ∨ k = .free) (hc : ∀ y ∈ names, y.2 ≠ .cell) : (x, NameKind.free) ∈ names := by
  induction names with
  | nil => simp at h
  | cons p r ih =>
    obtain ⟨n, k'⟩ := p
    by_cases hx : x = n
    · subst hx
      have hk' : k' = .free := by
        by_cases hc' : (k' == NameKind.free && env.scope.kind == .function && env.kindOf x == some .cell) = true
        · simp only [Bool.and_eq_true, beq_iff_eq] at hc'
          exact hc'.1.1
        · simp only [List.map_cons] at h
          rw [if_neg hc'] at h
          simp at h
          subst h
          rcases hk with z | z
          · exact absurd z (hc (x, k') List.mem_cons_self)
          · exact z
      rw [hk']; exact List.mem_cons_self
    · have hb : (x == n) = false := by simpa using hx
      refine List.mem_cons_of_mem _ (ih ?_ fun y hy => hc y (List.mem_cons_of_mem _ hy))
      simp only [List.map_cons] at h
      by_cases hc' : (k' == NameKind.free && env.scope.kind == .function && env.kindOf n == some .cell) = true
      · rw [if_pos hc', List.lookup_cons, hb] at h; exact h
      · rw [if_neg hc', List.lookup_cons, hb] at h; exact h

theorem lookup_relabel_free : ∀ {names : List (Str × NameKind)} {env : Env} {x : Str}, (x, NameKind.free) ∈ names → (names.map fun (n, k) => if (k == NameKind.free && env.scope.kind == .function && env.kindOf n == some .cell) then (n, NameKind.cell) else (n, k)).lookup x = some .cell ∨
    (names.map fun (n, k) => if (k == NameKind.free && env.scope.kind == .function && env.kindOf n == some .cell) then (n, NameKind.cell) else (n, k)).lookup x = some .free ∨ names.lookup x ≠ some .free := by
  intro names env x hm
  by_cases hl : names.lookup x = some .free
  · induction names with
    | nil => simp at hl
    | cons p r ih =>
      obtain ⟨n, k'⟩ := p
      by_cases hx : x = n
      · subst hx
        simp at hl
        subst hl
        by_cases hc' : (NameKind.free == NameKind.free && env.scope.kind == .function && env.kindOf x == some .cell) = true
        · left; simp only [List.map_cons]; rw [if_pos hc']; simp
        · right; left; simp only [List.map_cons]; rw [if_neg hc']; simp
      · have hb : (x == n) = false := by simpa using hx
        rw [List.lookup_cons, hb] at hl
        have hm' : (x, NameKind.free) ∈ r := by
          rcases List.mem_cons.mp hm with z | z
          · cases z; exact absurd rfl hx
          · exact z
        have q := ih hm' hl
        simp only [List.map_cons]
        by_cases hc' : (k' == NameKind.free && env.scope.kind == .function && env.kindOf n == some .cell) = true
        · rw [if_pos hc', List.lookup_cons, hb, List.lookup_cons, hb]; exact q
        · rw [if_neg hc', List.lookup_cons, hb, List.lookup_cons, hb]; exact q
  · exact .inr (.inr hl)

section
variable {X : Cx} {pins : List (Addr × Obj)} {σ : St} {H : Hp} {s : Shared} {scope : Scope} {N' : List Str} {ρ : List (Option Nat)} {cl : List (Str × Addr)} {fp : List Addr} {C D : Addr}

theorem comp_ok (I : Inv X pins σ H s) (S : CompScope scope X.env.scope) (hf : ∀ b ∈ fp, FpOk X pins H b) (h1 : ∀ x c, cl.lookup x = some c → X.env.cells.lookup x = some c) (h2 : ∀ n, (n, NameKind.free) ∈ scope.names → ∃ c, cl.lookup n = some c)
    (hC : s.heap.objs.size ≤ C) (hfs : ∀ b ∈ fp, b < s.heap.objs.size) : (compCx X scope N' cl C s H fp pins).Ok where
  mod := I.ok.mod
  kind := S.kind
  glob := I.ok.glob
  blt := I.ok.blt
  above := hC
  inj := fun x y c e1 e2 => I.ok.inj x y c (h1 x c e1) (h1 y c e2)
  has := fun x hk => h2 x (by
    rcases hk with hk | hk
    · exact lookup_relabel (env := X.env) hk (.inl rfl) S.cell
    · exact lookup_relabel (env := X.env) hk (.inr rfl) S.cell)
  cab := fun _ _ z => nomatch z
  hd := I.ok.hd
  frames := I.ok.frames
  stk := .inl rfl
  exf := fun b hb => ⟨Nat.ne_of_lt (Nat.lt_of_lt_of_le (hfs b hb) hC), fun x c e => (hf b hb).2.2.2.2.1 x c (h1 x c e)⟩
  bs := I.bs
  bsz := Nat.le_trans I.ok.bsz I.sz
  noex := fun b o e hb => by
    rcases (hf b hb).2.2.2.1 with z | z
    · exact I.ok.noex b o e z
    · exact absurd (Nat.lt_of_lt_of_le (Nat.lt_of_lt_of_le (Heap.lt_size e) I.ok.bsz) z) (Nat.lt_irrefl _)
  exfs := fun b hb z => by
    rcases List.mem_cons.mp (I.stkSub b z) with q | q
    · exact (hf b hb).2.1 q
    · exact (hf b hb).2.2.1 q
  funs := I.stack
  frf := I.stkFree

theorem comp_start {h₁ : Heap} {tk : Nat} (I : Inv X pins σ H s) (S : CompScope scope X.env.scope) (hρ : SlotOk scope X.env X.N N' ρ) (hf : ∀ b ∈ fp, FpOk X pins H b) (h1 : ∀ x c, cl.lookup x = some c → X.env.cells.lookup x = some c)
    (h2 : ∀ n, (n, NameKind.free) ∈ scope.names → ∃ c, cl.lookup n = some c) (hC : s.heap.objs.size ≤ C) (hfs : ∀ b ∈ fp, b < s.heap.objs.size) (hn : h₁.Ns C (fun _ => none)) (hk : ∀ b o, s.heap.get? b = some o → h₁.get? b = some o)
    (hl : ∀ x, (x, NameKind.free) ∈ scope.names → scope.names.lookup x = some .free) :
    Inv (compCx X scope N' cl C s H fp pins) [] (inSt ρ σ) H { s with heap := h₁, toks := tk } where
  ok := comp_ok I S hf h1 h2 hC hfs
  os := rfl
  bare := I.bare
  base := Un.kept hk
  loc := by
    refine ⟨_, hn, fun j x v e1 e2 hv => ?_⟩
    obtain ⟨m, hm, hl'⟩ := I.loc
    unfold inSt at e2
    rw [List.getElem?_map] at e2
    cases hr : ρ[j]? with
    | none => rw [hr] at e2; simp at e2
    | some o =>
      cases o with
      | none => rw [hr] at e2; simp at e2
      | some i =>
        rw [hr] at e2
        obtain ⟨q1, q2, q3⟩ := hρ.2 j i x hr e1
        have e3 : σ[i]? = some (some v) := by
          cases hσ : σ[i]? with
          | none => simp [hσ] at e2
          | some z => simp [hσ] at e2; rw [e2]
        obtain ⟨u, r, lk⟩ := hl' i x v q1 e3 q2
        refine ⟨u, r, ?_⟩
        obtain ⟨c, hc⟩ := h2 x q3
        have hkind : (relabel scope X.env).names.lookup x = some .cell ∨ (relabel scope X.env).names.lookup x = some .free := by
          rcases lookup_relabel_free (env := X.env) q3 with z | z | z
          · exact .inl z
          · exact .inr z
          · exact absurd (hl x q3) z
        refine .inr ⟨hkind, c, hc, ?_⟩
        rcases lk with ⟨k, _⟩ | ⟨_, c', e', z⟩
        · rcases S.free (x, .free) q3 rfl with z | z
          · have k' : X.env.scope.names.lookup x = some .local := k
            rw [z] at k'; cases k'
          · have k' : X.env.scope.names.lookup x = some .local := k
            rw [z] at k'; cases k'
        · have := h1 x c hc
          rw [e'] at this; cases this
          obtain ⟨o, ho, hd⟩ := z
          exact ⟨o, hk _ _ ho, hd⟩
  cell := fun x c e => by
    obtain ⟨v, o, ho, hd⟩ := I.cell x c (h1 x c e)
    exact ⟨v, o, hk _ _ ho, hd⟩
  free := I.hok.fresh hC
  freeC := fun x c e => I.freeC x c (h1 x c e)
  pin := fun p hp => by
    have hp' : p ∈ X.pn ++ pins := by simpa [compCx] using hp
    obtain ⟨e, n, ne, nf, d⟩ := I.pin p hp'
    refine ⟨hk _ _ e, n, Nat.ne_of_lt (Nat.lt_of_lt_of_le (Heap.lt_size e) hC), fun z => ?_, d⟩
    rcases List.mem_cons.mp (I.stkSub p.1 z) with q | q
    · exact ne q
    · exact nf q
  hok := I.hok.kept hk
  len := by
    show (inSt ρ σ).length = N'.length
    unfold inSt
    rw [List.length_map]; exact hρ.1
end

theorem HOk.track {P : Program} {w : World} {H : Hp} {h : Heap} {D : Addr} {o : HO} (x : HOk P w H h) (n : H D = none) (new : ObjOk P w (upd H D o) h D o) : HOk P w (upd H D o) h := fun b u e => by
  by_cases hb : b = D
  · subst hb; rw [upd_same] at e; cases e; exact new
  · rw [upd_ne hb] at e
    exact (x b u e).stay (fun c v _ q => q) (fun c q => by rw [upd_ne (ne_of_none q n)]; exact q) fun c xs q => by rw [upd_ne (ne_of_none q n)]; exact q

section
variable {prog : Program} {w : World} {A : Around} {R : Result → Shared → Prop} {s : Shared}
theorem compLoop_gen {elt target iter : Expr} {ifs : List Expr} {scope : Scope} {pos : Pos} {it acc : Value} {env : Env} (I : Nat → Shared → Prop)
    (turn : ∀ n s, I n s → wpAny (model prog w) A (pyNext it) (fun r s₁ => match r with
      | none => R (.ok .next) s₁
      | some v => wpAny (model prog w) A (letOwnedTupleGo target it v) (fun _ s₁' => wpAny (model prog w) A (assign target env v) (fun _ s₂ =>
          wpAny (model prog w) A (forIn ifs true fun c r => if r = true then do let ok ← isTrue c env (eval c env); pure (ForInStep.yield ok) else pure (ForInStep.yield r)) (fun ok s₃ =>
            if ok = true then wpAny (model prog w) A (eval elt env) (fun x s₄ =>
              wpAny (model prog w) A (call (.builtin "list.append") [acc, x]) (fun _ s₅ => ∃ m, m < n ∧ I m s₅) (fun _ _ => False) s₄) (fun _ _ => False) s₃
            else ∃ m, m < n ∧ I m s₃) (fun _ _ => False) s₂) (fun _ _ => False) s₁') (fun _ _ => False) s₁) (fun _ _ => False) s)
    (n : Nat) (h : I n s) :
    codeAny (model prog w) A (.compLoop (.ListComp elt [⟨target, iter, ifs, 0⟩] scope pos) 0 it acc env) R s := by
  refine codeAny_loop rfl I (fun n s hI => ?_) n h
  show wpAny _ A ((compTurn (.ListComp elt [⟨target, iter, ifs, 0⟩] scope pos) 0 it acc env).onRaise (fun x => do noteFrame x env; theTreesLotGoes x)) _ _ s
  refine wpAny_noted ?_
  rw [compTurn_list]
  refine wpAny_bind (wpAny_standAt (wpAny_bind (wpAny_mono (turn n s hI) (fun r s₁ h₁ => ?_) fun _ _ h' => h'.elim)))
  cases r with
  | none => exact wpAny_pure h₁
  | some v =>
    refine wpAny_bind (wpAny_mono h₁ (fun _ s₁' h₁ => ?_) fun _ _ h' => h'.elim)
    refine wpAny_bind (wpAny_mono h₁ (fun _ s₂ h₂ => wpAny_bind (wpAny_mono h₂ (fun ok s₃ h₃ => ?_) fun _ _ h' => h'.elim)) fun _ _ h' => h'.elim)
    cases ok with
    | false => exact wpAny_pure ⟨rfl, h₃⟩
    | true =>
      exact wpAny_bind (wpAny_bind (wpAny_mono h₃ (fun x s₄ h₄ => wpAny_bind (wpAny_mono h₄ (fun _ s₅ h₅ => wpAny_pure (wpAny_pure ⟨rfl, h₅⟩)) fun _ _ h' => h'.elim)) fun _ _ h' => h'.elim))
end

noncomputable def PTs (X : Cx) (ifs : List Expr) (t : TT) : Prop :=
  ∀ (pins : List (Addr × Obj)) (s : Shared) (σ : St) (H : Hp) (Q : Bool → Hp → Prop), Inv X pins σ H s → t σ H Q →
    wpAny (model X.prog X.w) X.A (forIn ifs true fun c r => if r = true then do let ok ← isTrue c X.env (eval c X.env); pure (ForInStep.yield ok) else pure (ForInStep.yield r)) (TP X pins σ Q) X.xe s
noncomputable def tYes : TT := fun _ H Q => Q true H
theorem pts_nil {X : Cx} : PTs X [] tYes := fun _ _ _ H _ I h => wpAny_tests_nil ⟨H, I, h⟩
noncomputable def Outs (ρ : List (Option Nat)) (σ σ2 : St) : Prop := σ2.length = ρ.length ∧ ∀ (j : Nat) v, (inSt ρ σ)[j]? = some (some v) → σ2[j]? = some (some v)
noncomputable def CompW (ρ : List (Option Nat)) (g : TG) (tt : TT) (te : TE) (σ : St) (Q : VK) (J : It) (H1 : Hp) : Prop := ∃ W : Nat → Nat → List V → Hp → Prop, (∃ m, W 0 m [] H1) ∧ ∀ i m ys H', W i m ys H' →
  (J.stop i H' ∧ ys.length ≤ sizeLine ∧ ∀ p, H' p = none → Q (.ref p) (upd H' p (.lst ys))) ∨
  (J.go i H' ∧ ys.length < sizeLine ∧ ∃ N : List V → Hp → Prop, (∀ ys' H'', N ys' H'' → ∃ m', m' < m ∧ W (i + 1) m' ys' H'') ∧ ∀ x H2, J.yld i H' x H2 → g x (inSt ρ σ) H2 fun σ2 H3 => Outs ρ σ σ2 ∧ tt σ2 H3 fun ok H4 => if ok = true then te σ2 H4 fun v H5 => N (ys ++ [v]) H5 else N ys H4)
noncomputable def tComp (ρ : List (Option Nat)) (wi : TI) (g : TG) (tt : TT) (te : TE) : TE := fun σ H Q => wi σ H fun J H1 => CompW ρ g tt te σ Q J H1

theorem comp_run {X : Cx} {elt iter tg : Expr} {ifs : List Expr} {scope : Scope} {pos : Pos} {N' : List Str} {ρ : List (Option Nat)} {wi : TI} {g : TG} {tt : TT} {te : TE} {cl : List (Str × Addr)} {RR : Value → Addr → Result → Shared → Prop} (hc : X.calm = true) (hi : PI X tg iter wi) (S : CompScope scope X.env.scope) (hρ : SlotOk scope X.env X.N N' ρ)
    (hl : ∀ x, (x, NameKind.free) ∈ scope.names → scope.names.lookup x = some .free)
    (inner : ∀ (cl : List (Str × Addr)) (C : Addr) (s : Shared) (H : Hp) (fp : List Addr) (pins : List (Addr × Obj)), PG (compCx X scope N' cl C s H fp pins) tg g ∧ PTs (compCx X scope N' cl C s H fp pins) ifs tt ∧ PE (compCx X scope N' cl C s H fp pins) elt te)
    {pins : List (Addr × Obj)} {s : Shared} {σ : St} {H : Hp} {Q : VK} (I : Inv X pins σ H s) (h : tComp ρ wi g tt te σ H Q)
    (h1 : ∀ x c, cl.lookup x = some c → X.env.cells.lookup x = some c) (h2 : ∀ n, (n, NameKind.free) ∈ scope.names → ∃ c, cl.lookup n = some c)
    (fin : ∀ D C s' H' m, Inv X pins σ H' s' → Q (.ref D) H' → s'.heap.Ns C m → FpOk X pins H' C → RR (.ref D) C (.ok .next) s') :
    wpAny (model X.prog X.w) X.A (eval iter X.env) (fun x s₁ => wpAny (model X.prog X.w) X.A (pyIter x) (fun it s₂ => wpAny (model X.prog X.w) X.A (newList []) (fun acc s₃ =>
      wpAny (model X.prog X.w) X.A (newFunctionEnv scope X.env.globals cl [] X.env.qual none .none (some X.env)) (fun cenv s₄ =>
        codeAny (model X.prog X.w) X.A (.compStart (.ListComp elt [⟨tg, iter, ifs, 0⟩] scope pos) 0 it acc { cenv with scope := relabel scope X.env }) (RR acc cenv.locals) s₄) X.xe s₃) X.xe s₂) X.xe s₁) X.xe s := by
  refine thn (hi pins s σ H _ I h) fun v s1 h1' => thn h1' fun itv s2 hx => ?_
  obtain ⟨it, fp, tn, J, H2, e, I2, T, st2, f2, W, ⟨m0, w0⟩, turn⟩ := hx
  subst e
  have hfs : ∀ b ∈ fp, b < s2.heap.objs.size := fun b hb => by
    obtain ⟨o, e, _⟩ := T.obj _ _ st2 b hb
    exact Heap.lt_size e
  refine wpAny_newObj_type (wpAny_newFunctionEnv S.cell (by intro y hy; simp at hy) (fun h₁ hns₁ hsb₁ => ?_) S.kind)
  dsimp only at hns₁ hsb₁ ⊢
  generalize hH2 : s2.heap.push { cls := .type "list", dict := none, data := .seq ([] : List Value).toArray } = G at hns₁ hsb₁ ⊢
  have hC : G.objs.size = s2.heap.objs.size + 1 := by rw [← hH2, Heap.size_push]
  have hDC : s2.heap.objs.size ≠ G.objs.size := by rw [hC]; exact Nat.ne_of_lt (Nat.lt_succ_self _)
  have hCle : s2.heap.objs.size ≤ G.objs.size := by rw [hC]; exact Nat.le_succ _
  have old : ∀ b o, s2.heap.get? b = some o → h₁.get? b = some o := fun b o e => hsb₁.extBut b o (Nat.ne_of_lt (Nat.lt_of_lt_of_le (Heap.lt_size e) hCle)) (Heap.get?_push_of_some _ (hH2 ▸ Heap.get?_push_of_some _ e))
  have hacc : h₁.get? s2.heap.objs.size = some { cls := .type "list", dict := none, data := .seq ([] : List Value).toArray } := hsb₁.extBut _ _ hDC (Heap.get?_push_of_some _ (hH2 ▸ Heap.get?_push_size _ rfl))
  have hns₂ : h₁.Ns G.objs.size (fun _ => none) := hns₁
  generalize hXX : compCx X scope N' cl G.objs.size s2 H2 fp pins = XX at *
  have IN : ∀ (tk : Nat), Inv XX [] (inSt ρ σ) H2 { s2 with heap := h₁, toks := tk } := fun tk => hXX ▸ comp_start (N' := N') I2 S hρ f2 h1 h2 hCle hfs hns₂ old hl
  obtain ⟨pg, pt, pe⟩ := inner cl G.objs.size s2 H2 fp pins
  rw [hXX] at pg pt pe
  have eP : XX.prog = X.prog := by rw [← hXX]; rfl
  have eW : XX.w = X.w := by rw [← hXX]; rfl
  have eK : XX.K = X.K := by rw [← hXX]; rfl
  have eA : XX.A = X.A := by rw [← hXX]; rfl
  have eE : XX.env = compEnvC scope cl G.objs.size X.env := by rw [← hXX]; rfl
  have eL : XX.env.locals = G.objs.size := by rw [eE]; rfl
  have ec : XX.calm = true := by rw [← hXX]; exact hc
  have ex : XX.xe = fun _ _ => False := by rw [← hXX]; rfl
  have es0 : XX.s₀ = s2 := by rw [← hXX]; rfl
  have eex : XX.ex = fp := by rw [← hXX]; rfl
  have efs : XX.fs = frs X.stack := by rw [← hXX]; rfl
  have eH0 : XX.H₀ = H2 := by rw [← hXX]; rfl
  have epn : XX.pn = X.pn ++ pins := by rw [← hXX]; rfl
  have ecl : XX.env.cells = cl := by rw [eE]; rfl
  -- what stays true of the iterator's records
  have stat : ∀ {H' : Hp} {ps : List (Addr × Obj)}, (∀ b ∈ fp, H' b = none) → (∀ p ∈ ps, p.1 = s2.heap.objs.size) → ∀ b ∈ fp, FpOk XX ps H' b := fun {H' ps} hn hp b hb => by
    refine ⟨hn b hb, ?_, ?_, ?_, ?_, ?_⟩
    · rw [eL]; exact Nat.ne_of_lt (Nat.lt_of_lt_of_le (hfs b hb) hCle)
    · rw [efs]
      intro z
      rcases List.mem_cons.mp (I2.stkSub b z) with q | q
      · exact (f2 b hb).2.1 q
      · exact (f2 b hb).2.2.1 q
    · rw [eex]; exact .inl hb
    · rw [ecl]; exact fun x c e => (f2 b hb).2.2.2.2.1 x c (h1 x c e)
    · intro p hp' z
      rw [epn] at hp'
      rcases List.mem_append.mp hp' with q | q
      · exact (f2 b hb).2.2.2.2.2 p q z
      · rw [hp p q] at z
        exact absurd (hfs b hb) (by rw [z]; exact Nat.lt_irrefl _)
  have nofsD : s2.heap.objs.size ∉ XX.fs := by
    rw [efs]; intro z
    rcases List.mem_cons.mp (I2.stkSub _ z) with q | q
    · exact absurd I2.lt (by rw [← q]; exact Nat.lt_irrefl _)
    · exact I2.nofs (Nat.le_refl _) q
  have pinD : ∀ {σ' : St} {H' : Hp} {s' : Shared} {its : List Value} {n : Nat}, Inv XX [] σ' H' s' → H' s2.heap.objs.size = none → s'.heap.get? s2.heap.objs.size = some { cls := .type "list", data := .seq its.toArray n } →
      Inv XX [(s2.heap.objs.size, { cls := .type "list", data := .seq its.toArray n })] σ' H' s' := fun {σ' H' s' its n} I' hn ho => I'.pins_of fun p hp => by
    have e : p = (s2.heap.objs.size, { cls := .type "list", data := .seq its.toArray n }) := by simpa using hp
    subst e
    refine ⟨ho, hn, by rw [eL]; exact hDC, nofsD, fun v z => ?_⟩
    have z' : Data.seq its.toArray n = Data.cell v := z
    cases z'
  have loop : ∀ s₃ : Shared, (∃ tk, s₃ = { s2 with heap := h₁, toks := tk }) →
      codeAny (model X.prog X.w) X.A (.compLoop (.ListComp elt [⟨tg, iter, ifs, 0⟩] scope pos) 0 (.ref it) (.ref s2.heap.objs.size) (compEnvC scope cl G.objs.size X.env)) (RR (.ref s2.heap.objs.size) G.objs.size) s₃ := by
    rintro s₃ ⟨tk, rfl⟩
    refine compLoop_gen (fun n s' => ∃ i ys its k H', Inv XX [] (inSt ρ σ) H' s' ∧ tn i s'.heap ∧ (∀ b ∈ fp, H' b = none) ∧ H' s2.heap.objs.size = none ∧ Vals ys its ∧
      s'.heap.get? s2.heap.objs.size = some { cls := .type "list", data := .seq its.toArray k } ∧ W i n ys H') ?_ m0
      ⟨0, [], [], 0, H2, IN tk, T.keep _ _ _ st2 fun b _ o e => old b o e, fun b hb => (f2 b hb).1, I2.hok.fresh (Nat.le_refl _), .nil, hacc, w0⟩
    rintro n s3 ⟨i, ys, its, k, H3, I3, st3, fr3, hD3, rv, ho3, w3⟩
    rcases turn i n ys H3 w3 with ⟨stop, hz, qn⟩ | ⟨go, hz, N, hN, step⟩
    · have I3p := pinD I3 hD3 ho3
      have q := T.done XX eP eW eK ec i _ s3 (inSt ρ σ) H3 (fun _ _ => False) I3p (stat fr3 (by simp)) st3 stop
      rw [eA] at q
      refine thn q fun r s4 ⟨hr, I4⟩ => ?_
      subst hr
      have ho4 := (I4.pin (s2.heap.objs.size, { cls := .type "list", data := .seq its.toArray k }) (by simp)).1
      obtain ⟨m, hm, _⟩ := I4.loc
      rw [eL] at hm
      have hun : Un (frs X.stack) fp H2 (upd H3 s2.heap.objs.size (.lst ys)) s2.heap s4.heap := by
        have u := I4.base
        rw [efs, eex, eH0, es0] at u
        refine ⟨u.keep, u.slot, fun b o e n hx => ?_, u.there, fun b xs e => ?_, fun b o xs e => ?_, fun b ps e => ?_⟩
        · rw [upd_ne (Nat.ne_of_lt (Heap.lt_size e))]; exact u.free b o e n hx
        · have q := u.tups b xs e
          rw [upd_ne (ne_of_none q hD3)]; exact q
        · have q := u.frzs b o xs e
          rw [upd_ne (ne_of_none q hD3)]; exact q
        · obtain ⟨more, q⟩ := u.tbls b ps e
          exact ⟨more, by rw [upd_ne (ne_of_none q hD3)]; exact q⟩
      have hok : HOk X.prog X.w (upd H3 s2.heap.objs.size (.lst ys)) s4.heap := by
        have q := I4.hok
        rw [eP, eW] at q
        exact q.track hD3 ⟨hz, its, k, rv, ho4⟩
      have hfr : ∀ b ∈ fp, (b ∈ X.ex ∨ X.s₀.heap.objs.size ≤ b) ∧ b ≠ X.env.locals ∧ (∀ x c, X.env.cells.lookup x = some c → c ≠ b) ∧ ∀ p ∈ X.pn ++ pins, p.1 ≠ b := fun b hb => ⟨(f2 b hb).2.2.2.1, (f2 b hb).2.1, (f2 b hb).2.2.2.2.1, (f2 b hb).2.2.2.2.2⟩
      have IO : Inv X pins σ (upd H3 s2.heap.objs.size (.lst ys)) s4 := I2.call' (by have := I4.os; rw [es0] at this; exact this) hun hok I4.bare hfr
      refine fin _ _ s4 _ m IO (qn _ hD3) hm (I2.fpOk hCle ?_)
      rw [upd_ne (Ne.symm hDC)]
      have := I4.free
      rw [eL] at this
      exact this
    · have I3p := pinD I3 hD3 ho3
      have q := T.item XX eP eW eK ec i _ s3 (inSt ρ σ) H3 (fun _ _ => False) I3p (stat fr3 (by simp)) st3 go
      rw [eA] at q
      refine thn q fun r s4 ⟨u, hr, h4⟩ => ?_
      subst hr
      refine thn h4 fun _ s5 ⟨x, H5, I5, r5, y5, st5, fr5⟩ => ?_
      have I5' := I5.pinned (stat fr5 (by simp)) (T.obj _ _ st5)
      have qa := pg _ s5 (inSt ρ σ) H5 x u _ I5' r5 (step x H5 y5)
      rw [eP, eW, eA, eE, ex] at qa
      refine thn qa fun _ s6 ⟨σ6, H6, I6, ⟨ou1, ou2⟩, q6⟩ => ?_
      have hw6 : (inSt ρ σ).length = σ6.length := by rw [ou1]; unfold inSt; rw [List.length_map]
      have qt := pt _ s6 σ6 H6 _ I6 q6
      rw [eP, eW, eA, eE, ex] at qt
      refine thn qt fun ok s7 ⟨H7, I7, q7⟩ => ?_
      have back : ∀ {s8 : Shared} {H8 : Hp}, Inv XX ([(s2.heap.objs.size, { cls := .type "list", data := .seq its.toArray k })] ++ pinsAt fp s5.heap) σ6 H8 s8 → tn (i + 1) s8.heap ∧ (∀ b ∈ fp, H8 b = none) ∧ H8 s2.heap.objs.size = none ∧
          s8.heap.get? s2.heap.objs.size = some { cls := .type "list", data := .seq its.toArray k } := fun {s8 H8} I8 => by
        refine ⟨T.keep _ _ _ st5 fun b hb o e => (I8.pin (b, o) (List.mem_append_right _ (List.mem_append_right _ (mem_pinsAt hb e)))).1, fun b hb => ?_, ?_, ?_⟩
        · obtain ⟨o, e, d⟩ := T.obj _ _ st5 b hb
          exact (I8.pin (b, o) (List.mem_append_right _ (List.mem_append_right _ (mem_pinsAt hb e)))).2.1
        · exact (I8.pin (s2.heap.objs.size, { cls := .type "list", data := .seq its.toArray k }) (by simp)).2.1
        · exact (I8.pin (s2.heap.objs.size, { cls := .type "list", data := .seq its.toArray k }) (by simp)).1
      cases ok with
      | false =>
        obtain ⟨m', hm, w7⟩ := hN _ _ q7
        obtain ⟨b1, b2, b3, b4⟩ := back I7
        exact ⟨m', hm, i + 1, ys, its, k, H7, (I7.pins_of (pins' := []) (fun _ z => nomatch z)).weak hw6 ou2, b1, b2, b3, rv, b4, w7⟩
      | true =>
        have qe := pe _ s7 σ6 H7 _ I7 q7
        rw [eP, eW, eA, eE, ex] at qe
        refine thn qe fun y s8 ⟨v8, H8, I8, r8, n8⟩ => ?_
        obtain ⟨m', hm, w8⟩ := hN _ _ n8
        obtain ⟨b1, b2, b3, b4⟩ := back I8
        have hlen := rv.length
        refine call_meets F.slot_list_append ⟨_, b4, rfl⟩ F.entry_list_append (F.args_list_append_2 _ _) (PySem.list_append s2.heap.objs.size its.toArray k y (by rw [List.size_toArray]; omega)) ⟨b4, ?_⟩
        have qL := PySem.IsL.update b4 (fun xs => xs.push y)
        have I8' : Inv XX [] σ6 H8 s8 := I8.pins_of (fun _ z => nomatch z)
        have I9 : Inv XX [] σ6 H8 { s8 with heap := s8.heap.update s2.heap.objs.size (Obj.mapSeq fun xs => xs.push y), toks := s8.toks } := I8'.turned (it := s2.heap.objs.size) (fun b o hb e => (Heap.get?_update_other s8.heap _ (Ne.symm hb)).trans e) b3
          (by rw [eL]; exact hDC) (.inr (by rw [es0]; exact Nat.le_refl _)) (by
            rw [ecl]; intro x c e z
            obtain ⟨v, qc⟩ := I2.cell x c (h1 x c e)
            exact absurd qc.lt (by rw [z]; exact Nat.lt_irrefl _)) (by
            intro p hp z
            have hp' : p ∈ X.pn ++ pins := by rw [epn] at hp; simpa using hp
            exact absurd (Heap.lt_size (I2.pin p hp').1) (by rw [z]; exact Nat.lt_irrefl _))
        have hnd : s2.heap.objs.size ∉ fp := fun z => Nat.lt_irrefl _ (hfs _ z)
        rw [show its.toArray.push y = (its ++ [y]).toArray by simp] at qL
        refine ⟨m', hm, i + 1, ys ++ [v8], its ++ [y], _, H8, I9.weak hw6 ou2, T.keep _ _ _ b1 fun b hb o e => (Heap.get?_update_other s8.heap _ (by rintro rfl; exact hnd hb)).trans e, b2, b3, rv.append (.cons r8 .nil), qL, w8⟩
  refine codeAny_compStart_list (loop _ ⟨_, rfl⟩) (T.self X.A 0 _ _ _ (T.keep _ _ _ st2 fun b _ o e => old b o e) (loop _ ⟨_, rfl⟩))
theorem pe_comp {X : Cx} {elt iter tg : Expr} {ifs : List Expr} {scope : Scope} {pos : Pos} (N' : List Str) (ρ : List (Option Nat)) {wi : TI} {g : TG} {tt : TT} {te : TE} (hc : X.calm = true) (hi : PI X tg iter wi) (S : CompScope scope X.env.scope) (hρ : SlotOk scope X.env X.N N' ρ)
    (hl : ∀ x, (x, NameKind.free) ∈ scope.names → scope.names.lookup x = some .free)
    (inner : ∀ (cl : List (Str × Addr)) (C : Addr) (s : Shared) (H : Hp) (fp : List Addr) (pins : List (Addr × Obj)), PG (compCx X scope N' cl C s H fp pins) tg g ∧ PTs (compCx X scope N' cl C s H fp pins) ifs tt ∧ PE (compCx X scope N' cl C s H fp pins) elt te)
    (hs : ∀ x, foldedSetIterable iter X.env x = pure x := by intro _; rfl) : PE X (.ListComp elt [⟨tg, iter, ifs, 0⟩] scope pos) (tComp ρ wi g tt te) := by
  intro pins s σ H Q I h
  obtain ⟨cl, hcl, h1, h2⟩ := closureFor_of (scope := scope) (env := X.env) (fun n hn => I.ok.has n (S.free (n, .free) hn rfl))
  rw [eval_ListComp]
  refine wpAny_comprehension_free (use := none) rfl hs hcl S.kind S.loc ?_
  refine comp_run (RR := fun acc C => compPost (model X.prog X.w) X.A X.xe none (EP X pins σ Q) acc C) hc hi S hρ hl inner I h h1 h2 ?_
  intro D C s' H' m I' q hm hf
  refine ⟨m, hm, fun h' sb => ⟨.ref D, H', ?_, rfl, q⟩⟩
  exact I'.turned (t' := s'.toks) (fun b o hb e => (sb.2 b hb).trans e) hf.1 hf.2.1 hf.2.2.2.1 hf.2.2.2.2.1 hf.2.2.2.2.2

theorem ps_setcomp {X : Cx} {elt iter tg : Expr} {ifs : List Expr} {scope : Scope} {pos pos' spos : Pos} {i : Nat} {x : Str} (N' : List Str) (ρ : List (Option Nat)) {wi : TI} {g : TG} {tt : TT} {te : TE} (hN : X.N.Nodup) (hix : X.N[i]? = some x) (hx : Loc X.env.scope x)
    (hc : X.calm = true) (hi : PI X tg iter wi) (S : CompScope scope X.env.scope) (hρ : SlotOk scope X.env X.N N' ρ)
    (hl : ∀ x, (x, NameKind.free) ∈ scope.names → scope.names.lookup x = some .free)
    (inner : ∀ (cl : List (Str × Addr)) (C : Addr) (s : Shared) (H : Hp) (fp : List Addr) (pins : List (Addr × Obj)), PG (compCx X scope N' cl C s H fp pins) tg g ∧ PTs (compCx X scope N' cl C s H fp pins) ifs tt ∧ PE (compCx X scope N' cl C s H fp pins) elt te)
    (hsw : swapsWith (.ListComp elt [⟨tg, iter, ifs, 0⟩] scope pos) (some (.Name x pos')) spos.line X.env = pure true := by rfl)
    (hs : ∀ x, foldedSetIterable iter X.env x = pure x := by intro _; rfl) (hf : X.fn x = true ∨ X.env.scope.names.lookup x = some .local := by first | exact .inl rfl | exact .inr rfl | assumption) :
    PS X (.Assign [.Name x pos'] (.ListComp elt [⟨tg, iter, ifs, 0⟩] scope pos) spos) (tAsg (tComp ρ wi g tt te) (gName i)) := by
  intro pins s σ H Dn I h
  obtain ⟨cl, hcl, h1, h2⟩ := closureFor_of (scope := scope) (env := X.env) (fun n hn => I.ok.has n (S.free (n, .free) hn rfl))
  rw [exec_Assign_Name_used _ _ _ _ hsw]
  refine wpAny_bind (wpAny_standAt (wpAny_bind ?_))
  show wpAny _ X.A (do let _ ← comprehension (.ListComp elt [⟨tg, iter, ifs, 0⟩] scope pos) scope X.env _ (newList []) false (eval iter X.env) (some (assign (.Name x pos') X.env))) _ _ s
  refine wpAny_bind (wpAny_mono (wpAny_comprehension_free (use := some (assign (.Name x pos') X.env)) (Q := fun _ s' => SP X pins Dn .next s') rfl hs hcl S.kind S.loc ?_) (fun _ s' hq => wpAny_pure (wpAny_pure hq)) fun _ _ e => e)
  refine comp_run (RR := fun acc C => compPost (model X.prog X.w) X.A X.xe (some (assign (.Name x pos') X.env)) (fun _ s' => SP X pins Dn .next s') acc C) hc hi S hρ hl inner I h h1 h2 ?_
  intro D C s' H' m I' q hm hfC
  obtain ⟨oC, es, ep, hoC, hr⟩ := id hm
  have pin : Inv X (pins ++ pinsAt [C] s'.heap) σ H' s' := I'.pinned (fun b hb => by
    have e : b = C := by simpa using hb
    subst e
    exact hfC) (fun b hb => by
    have e : b = C := by simpa using hb
    subst e
    exact ⟨oC, hoC, fun v z => by rw [hr.1] at z; cases z⟩)
  show wpAny _ X.A (assign (.Name x pos') X.env (.ref D)) _ _ _
  refine wpAny_assign_Name ?_
  refine store_ok (M := model X.prog X.w) (A := X.A) (E := X.xe) pin hN hix hx (v := .ref D) (u := .ref D) rfl (fun s'' I'' => ?_) hf
  have pC := (I''.pin (C, oC) (List.mem_append_right _ (List.mem_append_right _ (mem_pinsAt (by simp) hoC))))
  refine ⟨m, ⟨oC, es, ep, pC.1, hr⟩, fun h' sb => ⟨_, H', ?_, q⟩⟩
  have I2 : Inv X pins (σ.set i (some (.ref D))) H' s'' := I''.unpinned
  exact I2.turned (t' := s''.toks) (fun b o hb e => (sb.2 b hb).trans e) hfC.1 hfC.2.1 hfC.2.2.2.1 hfC.2.2.2.2.1 hfC.2.2.2.2.2

theorem inSt_cons (σ : St) (o : Option Nat) (ρ : List (Option Nat)) : inSt (o :: ρ) σ = (match o with | some i => (σ[i]?).getD none | none => none) :: inSt ρ σ := rfl
theorem outs1 {ρ : List (Option Nat)} {σ : St} (o : Option V) : Outs (none :: ρ) σ (o :: inSt ρ σ) := by
  refine ⟨by unfold inSt; simp, fun j v e => ?_⟩
  cases j with
  | zero => rw [inSt_cons] at e; simp at e
  | succ j => rw [inSt_cons] at e; simpa using e
theorem comp_by {J : It} {n : Nat} {X : Nat → V → Prop} {ρ : List (Option Nat)} {tt : TT} {te : TE} {σ : St} {H : Hp} {Q : VK} (Pv : Nat → List V → Hp → Prop) (h0 : Pv 0 [] H) (hlen : n ≤ sizeLine)
    (hy : ∀ i ys H, i ≤ n → Pv i ys H → ys.length ≤ i) (hgo : ∀ i ys H, i < n → Pv i ys H → J.go i H) (hyl : ∀ i ys H x H', i < n → Pv i ys H → J.yld i H x H' → H' = H ∧ X i x) (hst : ∀ ys H, Pv n ys H → J.stop n H)
    (hs : ∀ i x ys H, i < n → X i x → Pv i ys H → tt (some x :: inSt ρ σ) H fun ok H4 => if ok = true then te (some x :: inSt ρ σ) H4 fun v H5 => Pv (i + 1) (ys ++ [v]) H5 else Pv (i + 1) ys H4)
    (hd : ∀ ys H, Pv n ys H → ∀ p, H p = none → Q (.ref p) (upd H p (.lst ys))) :
    CompW (none :: ρ) (gName 0) tt te σ Q J H := by
  refine ⟨fun i m ys H => m = n - i ∧ i ≤ n ∧ Pv i ys H, ⟨n, by simp, Nat.zero_le _, h0⟩, ?_⟩
  rintro i m ys H ⟨rfl, hi, p⟩
  have hl := hy i ys H hi p
  by_cases hlt : i < n
  · refine .inr ⟨hgo i ys H hlt p, by omega, Pv (i + 1), fun ys' H'' p' => ⟨n - (i + 1), by omega, rfl, hlt, p'⟩, fun x H' y => ?_⟩
    obtain ⟨e, y2⟩ := hyl i ys H x H' hlt p y
    subst e
    exact ⟨outs1 _, hs i x ys _ hlt y2 p⟩
  · have e : i = n := by omega
    subst e
    exact .inl ⟨hst ys H p, by omega, hd ys H p⟩
theorem comp_list {K : PySem.W.Frag} {a : Addr} {xs : List V} {ρ : List (Option Nat)} {tt : TT} {te : TE} {σ : St} {H : Hp} {Q : VK} (Pv : Nat → List V → Hp → Prop) (h0 : Pv 0 [] H) (hlen : xs.length ≤ sizeLine) (hl : ∀ i ys H, i ≤ xs.length → Pv i ys H → SqL K H a xs ∧ ys.length ≤ i)
    (hs : ∀ i x ys H, xs[i]? = some x → Pv i ys H → tt (some x :: inSt ρ σ) H fun ok H4 => if ok = true then te (some x :: inSt ρ σ) H4 fun v H5 => Pv (i + 1) (ys ++ [v]) H5 else Pv (i + 1) ys H4)
    (hd : ∀ ys H, Pv xs.length ys H → ∀ p, H p = none → Q (.ref p) (upd H p (.lst ys))) :
    CompW (none :: ρ) (gName 0) tt te σ Q (Itl K a) H :=
  comp_by (n := xs.length) (X := fun i x => xs[i]? = some x) Pv h0 hlen (fun i ys H hi p => (hl i ys H hi p).2) (fun i ys H hi p => ⟨xs, xs[i], (hl i ys H (Nat.le_of_lt hi) p).1, by simp [hi]⟩) (fun i ys H x H' hi p y => ⟨y.1, y.2 xs (hl i ys H (Nat.le_of_lt hi) p).1⟩)
    (fun ys H p => ⟨xs, (hl _ ys H (Nat.le_refl _) p).1, Nat.le_refl _⟩) (fun i x ys H _ e p => hs i x ys H e p) hd
end L2

set_option Elab.async false
set_option linter.all false
set_option maxRecDepth 100000
set_option maxHeartbeats 4000000
namespace L2
open PySem PySem.Spec PyProof.Rows

noncomputable def cutC {α : Type} (xs : List α) (lo hi : Option Int) : List α := (xs.drop (HT.sIx xs.length 0 lo)).take (HT.sIx xs.length xs.length hi - HT.sIx xs.length 0 lo)
section
variable {X : Cx}
end

section
variable {X : Cx}
noncomputable def clsV : V → Option Value
  | .ty n => some (.type n)
  | .ref a => some (.ref a)
  | _ => none
theorem call_isi : CallR X (.builtin "isinstance") (fun xs H Q => ∃ x c t cv b, xs = [x, c] ∧ clsV c = some cv ∧ TyOf X.K H x t ∧ PySem.W.kitOne X.K t cv = some b ∧ Q (.bl b) H) := by
  intro pins s σ H xs us Q I r h
  obtain ⟨x, c, t, cv, b, rfl, rc, ty, e, q⟩ := h
  obtain ⟨u, w', rfl, rx, rw'⟩ := r.two
  have : w' = cv := by
    cases c with
    | ref a => cases rc; exact rw'
    | ty a => cases rc; exact rw'
    | _ => cases rc
  subst this
  exact isinst_ok I rx ty e fun tk => ⟨.bl b, H, I.tok _, rfl, q⟩
end
end L2

set_option Elab.async false
set_option linter.all false
set_option maxRecDepth 100000
set_option maxHeartbeats 4000000
namespace L2
open PySem PySem.Spec PyProof.Rows

noncomputable def compB (sc out : Scope) (N N' : List Str) (ρ : List (Option Nat)) : Bool :=
  decide (sc.kind = .function) && sc.names.all (fun y => decide (y.2 ≠ .cell)) && sc.names.all (fun y => decide (y.2 = .local → sc.names.lookup y.1 = some .local)) &&
  sc.names.all (fun y => decide (y.2 = .free → sc.names.lookup y.1 = some .free ∧ (out.names.lookup y.1 = some .cell ∨ out.names.lookup y.1 = some .free))) &&
  decide (ρ.length = N'.length) && decide N'.Nodup &&
  (ρ.zip N').all (fun p => match p.1 with | none => true | some i => decide (N[i]? = some p.2) && decide (out.names.lookup p.2 = some .local ∨ out.names.lookup p.2 = some .cell ∨ out.names.lookup p.2 = some .free) && sc.names.any (fun y => decide (y = (p.2, NameKind.free))))
structure CompF (sc : Scope) (env : Env) (N N' : List Str) (ρ : List (Option Nat)) : Prop where
  S : CompScope sc env.scope
  sl : SlotOk sc env N N' ρ
  hl : ∀ x, (x, NameKind.free) ∈ sc.names → sc.names.lookup x = some .free
  nd : N'.Nodup
theorem compF_of {sc : Scope} {env : Env} {N N' : List Str} {ρ : List (Option Nat)} (h : compB sc env.scope N N' ρ = true) : CompF sc env N N' ρ := by
  unfold compB at h
  simp only [Bool.and_eq_true, decide_eq_true_eq, List.all_eq_true] at h
  obtain ⟨⟨⟨⟨⟨⟨h1, h2⟩, h3⟩, h4⟩, h5⟩, h6⟩, h7⟩ := h
  refine ⟨⟨h1, h2, h3, fun y hy e => (h4 y hy e).2⟩, ⟨h5, fun j i x e1 e2 => ?_⟩, fun x hx => (h4 _ hx rfl).1, h6⟩
  have hm : (some i, x) ∈ ρ.zip N' := by
    refine List.mem_of_getElem? (i := j) ?_
    rw [List.getElem?_zip_eq_some]
    exact ⟨e1, e2⟩
  have q := h7 _ hm
  simp only [Bool.and_eq_true, decide_eq_true_eq, List.any_eq_true] at q
  obtain ⟨⟨q1, q2⟩, y, hy, e⟩ := q
  exact ⟨q1, q2, e ▸ hy⟩

theorem pe_compB {X : Cx} {elt iter tg : Expr} {ifs : List Expr} {scope : Scope} {pos : Pos} (N' : List Str) (ρ : List (Option Nat)) {wi : TI} {g : TG} {tt : TT} {te : TE} (hc : X.calm = true) (hi : PI X tg iter wi) (h : compB scope X.env.scope X.N N' ρ = true)
    (inner : ∀ (cl : List (Str × Addr)) (C : Addr) (s : Shared) (H : Hp) (fp : List Addr) (pins : List (Addr × Obj)), PG (compCx X scope N' cl C s H fp pins) tg g ∧ PTs (compCx X scope N' cl C s H fp pins) ifs tt ∧ PE (compCx X scope N' cl C s H fp pins) elt te)
    (hs : ∀ x, foldedSetIterable iter X.env x = pure x := by intro _; rfl) : PE X (.ListComp elt [⟨tg, iter, ifs, 0⟩] scope pos) (tComp ρ wi g tt te) :=
  have F := compF_of h
  pe_comp N' ρ hc hi F.S F.sl F.hl inner hs
theorem ps_setcompB {X : Cx} {elt iter tg : Expr} {ifs : List Expr} {scope : Scope} {pos pos' spos : Pos} {i : Nat} {x : Str} (N' : List Str) (ρ : List (Option Nat)) {wi : TI} {g : TG} {tt : TT} {te : TE} (hN : X.N.Nodup) (hix : X.N[i]? = some x) (hx : Loc X.env.scope x)
    (hc : X.calm = true) (hi : PI X tg iter wi) (h : compB scope X.env.scope X.N N' ρ = true)
    (inner : ∀ (cl : List (Str × Addr)) (C : Addr) (s : Shared) (H : Hp) (fp : List Addr) (pins : List (Addr × Obj)), PG (compCx X scope N' cl C s H fp pins) tg g ∧ PTs (compCx X scope N' cl C s H fp pins) ifs tt ∧ PE (compCx X scope N' cl C s H fp pins) elt te)
    (hsw : swapsWith (.ListComp elt [⟨tg, iter, ifs, 0⟩] scope pos) (some (.Name x pos')) spos.line X.env = pure true := by rfl)
    (hs : ∀ x, foldedSetIterable iter X.env x = pure x := by intro _; rfl) (hf : X.fn x = true ∨ X.env.scope.names.lookup x = some .local := by first | exact .inl rfl | exact .inr rfl | assumption) :
    PS X (.Assign [.Name x pos'] (.ListComp elt [⟨tg, iter, ifs, 0⟩] scope pos) spos) (tAsg (tComp ρ wi g tt te) (gName i)) :=
  have F := compF_of h
  ps_setcomp N' ρ hN hix hx hc hi F.S F.sl F.hl inner hsw hs hf

end L2
namespace L2
open PySem
noncomputable def mkSc (l : List (Str × NameKind)) : Scope := { kind := .function, names := l, isGenerator := false, isCoroutine := false, more := [] }
end L2

namespace L2
open PySem
theorem bt_len : bootBuiltins "len" = some (.builtin "len") := by decide +kernel
theorem bt_isinstance : bootBuiltins "isinstance" = some (.builtin "isinstance") := by decide +kernel
theorem bt_min : bootBuiltins "min" = some (.builtin "min") := by decide +kernel
theorem bt_sum : bootBuiltins "sum" = some (.builtin "sum") := by decide +kernel
theorem bt_sorted : bootBuiltins "sorted" = some (.builtin "sorted") := by decide +kernel
theorem bt_int : bootBuiltins "int" = some (.type "int") := by decide +kernel
theorem bt_bool : bootBuiltins "bool" = some (.type "bool") := by decide +kernel
theorem bt_list : bootBuiltins "list" = some (.type "list") := by decide +kernel
theorem bt_tuple : bootBuiltins "tuple" = some (.type "tuple") := by decide +kernel
end L2

set_option Elab.async false
set_option linter.all false
set_option maxRecDepth 100000
set_option maxHeartbeats 4000000
namespace L2
open PySem PySem.Spec PyProof.Rows

theorem szl {n : Nat} (h : n ≤ 1000000) : n ≤ sizeLine := by rw [sizeLine_eq]; omega
theorem szlt {n : Nat} (h : n < 1000000) : n < sizeLine := by rw [sizeLine_eq]; omega
theorem same_new {H : Hp} {p : Addr} (h : H p = none) (o : HO) : Same H (upd H p o) := fun b u q => by rw [upd_ne (ne_of_none q h)]; exact q
theorem dT {p : Prop} [Decidable p] (h : decide p = true) : p := of_decide_eq_true h
theorem dF {p : Prop} [Decidable p] (h : ¬ decide p = true) : ¬ p := fun z => h (decide_eq_true z)

theorem cell_in {ns : List Int} {k : Int} (h0 : 0 ≤ k) (h : k < (ns.length : Int)) : atI (ns.map V.int) k = some (.int (ns.getD k.toNat 0)) := by
  have hk : k.toNat < ns.length := by omega
  have ek : k = ((k.toNat : Nat) : Int) := by omega
  have q : atI (ns.map V.int) ((k.toNat : Nat) : Int) = some (.int (ns.getD k.toNat 0)) := atI_nat (by rw [List.getElem?_map, List.getElem?_eq_getElem hk]; simp [List.getD_eq_getElem?_getD, hk])
  rw [← ek] at q
  exact q
noncomputable def isInt : V → Bool
  | .int _ => true
  | _ => false
noncomputable def plainV : V → Bool
  | .int _ => true
  | .bl _ => true
  | .non => true
  | .str _ => true
  | _ => false
noncomputable def spWhole : Sp := fun vs H Q _ => ∃ x, vs = [x] ∧ plainV x = true ∧ Q (.bl (isInt x)) H
theorem take_snoc {α : Type} {l : List α} {i : Nat} {c : α} (h : l[i]? = some c) : l.take (i + 1) = l.take i ++ [c] := by
  rw [List.take_succ, h]; rfl
end L2
namespace L2
open PySem
end L2
namespace L2
open PySem
theorem seq_any {t u : TS} {D : Ends} {σ : St} {H : Hp} (M : St → Hp → Prop) (hu : ∀ σ' H', M σ' H' → u D σ' H') (ht : (∀ σ' H', M σ' H' → u D σ' H') → t { D with nx := u D } σ H) : tSeq t u D σ H := ht hu
theorem ndF {p : Prop} [Decidable p] (h : p) : (!decide p) = false := by rw [decide_eq_true h]; rfl
theorem ndT {p : Prop} [Decidable p] (h : ¬ p) : (!decide p) = true := by rw [decide_eq_false h]; rfl
theorem iteE {b : Bool} {A B : Prop} {v : Bool} (e : b = v) (h : if v = true then A else B) : if b = true then A else B := by rw [e]; exact h
end L2
namespace L2
open PySem
end L2

set_option Elab.async false
set_option linter.all false
set_option maxRecDepth 100000
set_option maxHeartbeats 4000000
namespace L2
open PySem PySem.Spec PyProof.Rows

inductive Tr where
  | v (x : V)
  | lst (l : List Tr)
  | tup (l : List Tr)
mutual
inductive TrIs (K : PySem.W.Frag) (H : Hp) : V → Tr → Prop
  | flat {x : V} : flatV x = true → TrIs K H x (.v x)
  | lst {p : Addr} {xs : List V} {l : List Tr} : SqL K H p xs → TrsIs K H xs l → TrIs K H (.ref p) (.lst l)
  | tup {p : Addr} {xs : List V} {l : List Tr} : SqT K H p xs → TrsIs K H xs l → TrIs K H (.ref p) (.tup l)
inductive TrsIs (K : PySem.W.Frag) (H : Hp) : List V → List Tr → Prop
  | nil : TrsIs K H [] []
  | cons {x : V} {t : Tr} {xs : List V} {l : List Tr} : TrIs K H x t → TrsIs K H xs l → TrsIs K H (x :: xs) (t :: l)
end
mutual
noncomputable def eqT : Tr → Tr → Bool
  | .v x, .v y => eqV x y
  | .lst l, .lst m => eqTs l m
  | .tup l, .tup m => eqTs l m
  | _, _ => false
noncomputable def eqTs : List Tr → List Tr → Bool
  | [], [] => true
  | x :: l, y :: m => eqT x y && eqTs l m
  | _, _ => false
end
mutual
noncomputable def simT : Tr → Tr → Bool
  | .v _, .v _ => true
  | .lst l, .lst m => simTs l m
  | .tup l, .tup m => simTs l m
  | _, _ => false
noncomputable def simTs : List Tr → List Tr → Bool
  | x :: l, y :: m => simT x y && simTs l m
  | _, _ => true
end
mutual
noncomputable def depT : Tr → Nat
  | .v _ => 0
  | .lst l => depTs l + 1
  | .tup l => depTs l + 1
noncomputable def depTs : List Tr → Nat
  | [] => 0
  | x :: l => max (depT x) (depTs l)
end
theorem eqV_refl {x : V} (h : flatV x = true) : eqV x x = true := by
  cases x <;> first | rfl | (simp [eqV]; done) | (simp [flatV] at h)
mutual
/-- a tree of flat values -/
noncomputable def okT : Tr → Bool
  | .v x => flatV x
  | .lst l => okTs l
  | .tup l => okTs l
noncomputable def okTs : List Tr → Bool
  | [] => true
  | x :: l => okT x && okTs l
end
mutual
theorem eqT_refl : ∀ t : Tr, okT t = true → eqT t t = true
  | .v x, h => by rw [eqT]; exact eqV_refl (by simpa [okT] using h)
  | .lst l, h => by rw [eqT]; exact eqTs_refl l (by simpa [okT] using h)
  | .tup l, h => by rw [eqT]; exact eqTs_refl l (by simpa [okT] using h)
theorem eqTs_refl : ∀ l : List Tr, okTs l = true → eqTs l l = true
  | [], _ => by rw [eqTs]
  | x :: l, h => by
    rw [okTs, Bool.and_eq_true] at h
    rw [eqTs, eqT_refl x h.1, eqTs_refl l h.2]; rfl
end
mutual
theorem simT_refl : ∀ t : Tr, simT t t = true
  | .v x => by rw [simT]
  | .lst l => by rw [simT]; exact simTs_refl l
  | .tup l => by rw [simT]; exact simTs_refl l
theorem simTs_refl : ∀ l : List Tr, simTs l l = true
  | [] => by simp [simTs]
  | x :: l => by rw [simTs, simT_refl x, simTs_refl l]; rfl
end
mutual
theorem TrIs.ok {K : PySem.W.Frag} {H : Hp} : ∀ {x : V} {t : Tr}, TrIs K H x t → okT t = true
  | _, _, .flat h => by rw [okT]; exact h
  | _, _, .lst _ h => by rw [okT]; exact h.ok
  | _, _, .tup _ h => by rw [okT]; exact h.ok
theorem TrsIs.ok {K : PySem.W.Frag} {H : Hp} : ∀ {xs : List V} {l : List Tr}, TrsIs K H xs l → okTs l = true
  | _, _, .nil => by rw [okTs]
  | _, _, .cons h r => by rw [okTs, h.ok, r.ok]; rfl
end
theorem TrsIs.length {K : PySem.W.Frag} {H : Hp} : ∀ {xs : List V} {l : List Tr}, TrsIs K H xs l → xs.length = l.length
  | _, _, .nil => rfl
  | _, _, .cons _ r => by simp [r.length]
theorem eqTs_len : ∀ {l m : List Tr}, l.length ≠ m.length → eqTs l m = false
  | [], [], h => absurd rfl h
  | [], _ :: _, _ => by rw [eqTs] <;> simp
  | _ :: _, [], _ => by rw [eqTs] <;> simp
  | x :: l, y :: m, h => by
    rw [eqTs, eqTs_len (l := l) (m := m) (fun e => h (by simp [e])), Bool.and_false]
section
variable {X : Cx} {pins : List (Addr × Obj)} {σ : St} {H : Hp} {s : Shared}
mutual
theorem TrIs.inj (I : Inv X pins σ H s) : ∀ {t t' : Tr} {x : V}, TrIs X.K H x t → TrIs X.K H x t' → t = t'
  | .v x, t', _, .flat h, h' => by
    cases h' with
    | flat _ => rfl
    | lst _ _ => cases h
    | tup _ _ => cases h
  | .lst l, t', _, .lst (p := p) (xs := xs) hq hr, h' => by
    cases h' with
    | flat h => cases h
    | lst hq' hr' =>
      have e := I.list_inj hq hq'
      subst e
      rw [TrsIs.inj I hr hr']
    | tup hq' hr' =>
      obtain ⟨_, _, ⟨o, n, e1, c1, _⟩, _⟩ := I.list hq
      obtain ⟨_, _, ⟨o', e2, c2, _⟩, _⟩ := I.tuple hq'
      rw [e1] at e2; cases e2
      rw [c1] at c2; simp at c2
  | .tup l, t', _, .tup (p := p) (xs := xs) hq hr, h' => by
    cases h' with
    | flat h => cases h
    | tup hq' hr' =>
      have e := I.tuple_inj hq hq'
      subst e
      rw [TrsIs.inj I hr hr']
    | lst hq' hr' =>
      obtain ⟨_, _, ⟨o, n, e1, c1, _⟩, _⟩ := I.list hq'
      obtain ⟨_, _, ⟨o', e2, c2, _⟩, _⟩ := I.tuple hq
      rw [e1] at e2; cases e2
      rw [c1] at c2; simp at c2
theorem TrsIs.inj (I : Inv X pins σ H s) : ∀ {l l' : List Tr} {xs : List V}, TrsIs X.K H xs l → TrsIs X.K H xs l' → l = l'
  | [], _, _, .nil, h' => by cases h'; rfl
  | t :: l, _, _, .cons h r, h' => by
    cases h' with
    | cons h2 r2 => rw [TrIs.inj I h h2, TrsIs.inj I r r2]
end
theorem range_all_eq {α : Type} {e : Nat → Bool} {f : α → Bool} : ∀ {l : List α}, (∀ j x, l[j]? = some x → e j = f x) → (List.range l.length).all e = l.all f := by
  intro l h
  rw [Bool.eq_iff_iff]
  simp only [List.all_eq_true, List.mem_range]
  constructor
  · intro q x hx
    obtain ⟨i, hi, hx⟩ := List.mem_iff_getElem.mp hx
    rw [← h i x (by rw [List.getElem?_eq_getElem hi, hx])]
    exact q i hi
  · intro q i hi
    rw [h i l[i] (List.getElem?_eq_getElem hi)]
    exact q _ (List.getElem_mem hi)
theorem eqTs_zip : ∀ {l m : List Tr}, l.length = m.length → eqTs l m = (l.zip m).all fun p => eqT p.1 p.2
  | [], [], _ => by rw [eqTs]; rfl
  | [], _ :: _, h => by simp at h
  | _ :: _, [], h => by simp at h
  | x :: l, y :: m, h => by
    rw [eqTs, eqTs_zip (l := l) (m := m) (by simpa using h)]
    rfl
theorem TrsIs.at {K : PySem.W.Frag} {H : Hp} : ∀ {xs : List V} {l : List Tr} {j : Nat} {t : Tr}, TrsIs K H xs l → l[j]? = some t → ∃ x, xs[j]? = some x ∧ TrIs K H x t
  | _, _, _, _, .nil, h => by simp at h
  | _, _, 0, _, .cons h _, e => by simp at e; subst e; exact ⟨_, rfl, h⟩
  | _, _, j + 1, _, .cons _ r, e => by
    obtain ⟨x, h1, h2⟩ := r.at (j := j) (by simpa using e)
    exact ⟨x, by simpa using h1, h2⟩
theorem simTs_at : ∀ {l m : List Tr} {j : Nat} {t t' : Tr}, simTs l m = true → l[j]? = some t → m[j]? = some t' → simT t t' = true
  | [], _, _, _, _, _, h, _ => by simp at h
  | _ :: _, [], _, _, _, _, _, h => by simp at h
  | x :: l, y :: m, 0, t, t', h, e1, e2 => by
    simp at e1 e2; subst e1 e2
    rw [simTs, Bool.and_eq_true] at h; exact h.1
  | x :: l, y :: m, j + 1, t, t', h, e1, e2 => by
    rw [simTs, Bool.and_eq_true] at h
    exact simTs_at (j := j) h.2 (by simpa using e1) (by simpa using e2)
theorem depTs_at : ∀ {l : List Tr} {j : Nat} {t : Tr}, l[j]? = some t → depT t ≤ depTs l
  | [], _, _, h => by simp at h
  | x :: l, 0, t, h => by simp at h; subst h; rw [depTs]; omega
  | x :: l, j + 1, t, h => by
    have := depTs_at (l := l) (j := j) (t := t) (by simpa using h)
    rw [depTs]; omega
theorem items_eq {A : Around} {l m : List Tr} {xs ys : List V} {its jts : List Value} (hr : TrsIs X.K H xs l) (hr' : TrsIs X.K H ys m) (rv : Vals xs its) (rv' : Vals ys jts)
    (ih : ∀ (j : Nat) (t t' : Tr) (x y : V) (u v : Value), l[j]? = some t → m[j]? = some t' → TrIs X.K H x t → RelV x u → TrIs X.K H y t' → RelV y v → SeqAt.EqAt A.in1 s u v (eqT t t')) :
    ∀ j (h1 : j < its.toArray.size) (h2 : j < jts.toArray.size), SeqAt.EqAt A.in1 s its.toArray[j] jts.toArray[j] (match l[j]?, m[j]? with | some t, some t' => eqT t t' | _, _ => true) := by
  intro j h1 h2
  have l1 := hr.length; have l2 := hr'.length; have l3 := rv.length; have l4 := rv'.length
  rw [List.size_toArray] at h1 h2
  obtain ⟨t, ht⟩ : ∃ t, l[j]? = some t := ⟨l[j]'(by omega), List.getElem?_eq_getElem (by omega)⟩
  obtain ⟨t', ht'⟩ : ∃ t', m[j]? = some t' := ⟨m[j]'(by omega), List.getElem?_eq_getElem (by omega)⟩
  obtain ⟨x, hx, hxt⟩ := hr.at ht
  obtain ⟨y, hy, hyt⟩ := hr'.at ht'
  obtain ⟨u, hu, ru⟩ := rv.get hx
  obtain ⟨v, hv, rw'⟩ := rv'.get hy
  rw [ht, ht']
  have e1 : its.toArray[j] = u := by
    have := List.getElem?_eq_getElem (l := its) (i := j) h1
    rw [hu] at this
    simpa using (Option.some.inj this).symm
  have e2 : jts.toArray[j] = v := by
    have := List.getElem?_eq_getElem (l := jts) (i := j) h2
    rw [hv] at this
    simpa using (Option.some.inj this).symm
  rw [e1, e2]
  exact ih j t t' x y u v ht ht' hxt ru hyt rw'
theorem all_items {l m : List Tr} (h : l.length = m.length) : (List.range l.length).all (fun j => match l[j]?, m[j]? with | some t, some t' => eqT t t' | _, _ => true) = eqTs l m := by
  rw [eqTs_zip h]
  have e : l.length = (l.zip m).length := by rw [List.length_zip]; omega
  rw [e]
  refine range_all_eq fun j p hp => ?_
  obtain ⟨h1, h2⟩ := List.getElem?_zip_eq_some.mp hp
  rw [h1, h2]
theorem RcAt_lists {A : Around} {p q : Addr} {xs ys : List V} {l m : List Tr} (I : Inv X pins σ H s) (hu : A.units < cLine) (hq : SqL X.K H p xs) (hr : TrsIs X.K H xs l) (hq' : SqL X.K H q ys) (hr' : TrsIs X.K H ys m)
    (ih : ∀ (j : Nat) (t t' : Tr) (x y : V) (u v : Value), l[j]? = some t → m[j]? = some t' → TrIs X.K H x t → RelV x u → TrIs X.K H y t' → RelV y v → SeqAt.EqAt A.in1 s u v (eqT t t')) :
    SeqAt.RcAt A s (.ref p) (.ref q) (eqTs l m) ∧ SeqAt.RcNeAt A s (.ref p) (.ref q) (!eqTs l m) := by
  obtain ⟨its, rv, pl, _⟩ := I.list hq
  obtain ⟨jts, rv', pl', _⟩ := I.list hq'
  have l1 := hr.length; have l2 := hr'.length; have l3 := rv.length; have l4 := rv'.length
  by_cases hl : l.length = m.length
  · have e : its.toArray.size = l.length := by rw [List.size_toArray]; omega
    have a := SeqAt.RcAt.lists (A := A) pl.isList pl'.isList (by rw [List.size_toArray, List.size_toArray]; omega) hu (items_eq hr hr' rv rv' ih)
    have b := SeqAt.RcNeAt.lists (A := A) pl.isList pl'.isList (by rw [List.size_toArray, List.size_toArray]; omega) hu (items_eq hr hr' rv rv' ih)
    rw [e, all_items hl] at a b
    exact ⟨a, b⟩
  · rw [eqTs_len hl]
    have hne : (its.toArray.size != jts.toArray.size) = true := by
      rw [List.size_toArray, List.size_toArray]
      simp only [bne_iff_ne, ne_eq]; omega
    exact ⟨SeqAt.RcAt.lists_lengths pl.isList pl'.isList hne hu, SeqAt.RcNeAt.lists_lengths pl.isList pl'.isList hne hu⟩
theorem RcAt_tuples {A : Around} {p q : Addr} {xs ys : List V} {l m : List Tr} (I : Inv X pins σ H s) (hu : A.units < cLine) (hq : SqT X.K H p xs) (hr : TrsIs X.K H xs l) (hq' : SqT X.K H q ys) (hr' : TrsIs X.K H ys m)
    (ih : ∀ (j : Nat) (t t' : Tr) (x y : V) (u v : Value), l[j]? = some t → m[j]? = some t' → TrIs X.K H x t → RelV x u → TrIs X.K H y t' → RelV y v → SeqAt.EqAt A.in1 s u v (eqT t t')) :
    SeqAt.RcAt A s (.ref p) (.ref q) (eqTs l m) ∧ SeqAt.RcNeAt A s (.ref p) (.ref q) (!eqTs l m) := by
  obtain ⟨its, rv, pl, _⟩ := I.tuple hq
  obtain ⟨jts, rv', pl', _⟩ := I.tuple hq'
  have l1 := hr.length; have l2 := hr'.length; have l3 := rv.length; have l4 := rv'.length
  have a := SeqAt.RcAt.tuples (A := A) (show s.heap.IsTuple p its.toArray from pl) (show s.heap.IsTuple q jts.toArray from pl') hu (items_eq hr hr' rv rv' ih)
  have b := SeqAt.RcNeAt.tuples (A := A) (show s.heap.IsTuple p its.toArray from pl) (show s.heap.IsTuple q jts.toArray from pl') hu (items_eq hr hr' rv rv' ih)
  have e : ((List.range (min its.toArray.size jts.toArray.size)).all (fun j => match l[j]?, m[j]? with | some t, some t' => eqT t t' | _, _ => true) && its.toArray.size == jts.toArray.size) = eqTs l m := by
    by_cases hl : l.length = m.length
    · have e1 : min its.toArray.size jts.toArray.size = l.length := by rw [List.size_toArray, List.size_toArray]; omega
      have e2 : (its.toArray.size == jts.toArray.size) = true := by rw [List.size_toArray, List.size_toArray]; simp; omega
      rw [e1, e2, all_items hl, Bool.and_true]
    · have e2 : (its.toArray.size == jts.toArray.size) = false := by rw [List.size_toArray, List.size_toArray]; simp; omega
      rw [e2, eqTs_len hl, Bool.and_false]
  rw [e] at a b
  exact ⟨a, b⟩
theorem eqAt_T (I : Inv X pins σ H s) (n : Nat) : ∀ (A : Around) (t t' : Tr) (x y : V) (u v : Value), depT t ≤ n → A.units + n < cLine → simT t t' = true → TrIs X.K H x t → RelV x u → TrIs X.K H y t' → RelV y v → SeqAt.EqAt A s u v (eqT t t') := by
  induction n with
  | zero =>
    intro A t t' x y u v hd hu hs hx rx hy ry
    cases hx with
    | flat fx =>
      cases hy with
      | flat fy => rw [eqT]; exact eqAt_V rx ry fx fy
      | lst _ _ => simp [simT] at hs
      | tup _ _ => simp [simT] at hs
    | lst _ _ => simp [depT] at hd
    | tup _ _ => simp [depT] at hd
  | succ n ih =>
    intro A t t' x y u v hd hu hs hx rx hy ry
    cases hx with
    | flat fx =>
      cases hy with
      | flat fy => rw [eqT]; exact eqAt_V rx ry fx fy
      | lst _ _ => simp [simT] at hs
      | tup _ _ => simp [simT] at hs
    | @lst p xs l hq hr =>
      cases hy with
      | flat fy => simp [simT] at hs
      | tup _ _ => simp [simT] at hs
      | @lst q ys m hq' hr' =>
        cases rx; cases ry
        rw [depT] at hd
        rw [simT] at hs
        by_cases e : p = q
        · subst e
          have e1 := TrIs.inj I (TrIs.lst hq hr) (TrIs.lst hq' hr')
          rw [← e1, eqT_refl _ (TrIs.lst hq hr).ok]
          exact SeqAt.EqAt.same _
        · rw [eqT]
          refine SeqAt.EqAt.of_refs e (RcAt_lists I (by omega) hq hr hq' hr' fun j t t' x y u v h1 h2 h3 h4 h5 h6 => ?_).1
          exact ih A.in1 t t' x y u v (by have := depTs_at h1; omega) (by show A.units + 1 + n < cLine; omega) (simTs_at hs h1 h2) h3 h4 h5 h6
    | @tup p xs l hq hr =>
      cases hy with
      | flat fy => simp [simT] at hs
      | lst _ _ => simp [simT] at hs
      | @tup q ys m hq' hr' =>
        cases rx; cases ry
        rw [depT] at hd
        rw [simT] at hs
        by_cases e : p = q
        · subst e
          have e1 := TrIs.inj I (TrIs.tup hq hr) (TrIs.tup hq' hr')
          rw [← e1, eqT_refl _ (TrIs.tup hq hr).ok]
          exact SeqAt.EqAt.same _
        · rw [eqT]
          refine SeqAt.EqAt.of_refs e (RcAt_tuples I (by omega) hq hr hq' hr' fun j t t' x y u v h1 h2 h3 h4 h5 h6 => ?_).1
          exact ih A.in1 t t' x y u v (by have := depTs_at h1; omega) (by show A.units + 1 + n < cLine; omega) (simTs_at hs h1 h2) h3 h4 h5 h6
end

section
variable {X : Cx}
noncomputable def rEqX (K : PySem.W.Frag) (neg : Bool) : R2 := fun x y H Q => ∃ t t', TrIs K H x t ∧ TrIs K H y t' ∧ (∃ p, x = .ref p) ∧ (∃ p, y = .ref p) ∧ simT t t' = true ∧ depT t ≤ 60 ∧ Q (.bl (if neg then !eqT t t' else eqT t t')) H
theorem eqX_aux {neg : Bool} (hu : X.A.units + 64 < cLine) : OpR X (compareOp (if neg then .NotEq else .Eq)) (rEqX X.K neg) := by
  intro pins s σ H x y v u Q I rx ry h
  obtain ⟨t, t', hx, hy, ⟨p, rfl⟩, ⟨q, rfl⟩, hs, hd, q'⟩ := h
  cases rx; cases ry
  have done : ∀ l m, SeqAt.RcAt X.A s (.ref p) (.ref q) (eqTs l m) ∧ SeqAt.RcNeAt X.A s (.ref p) (.ref q) (!eqTs l m) → Q (.bl (if neg then !eqTs l m else eqTs l m)) H →
      wpAny (model X.prog X.w) X.A (compareOp (if neg then .NotEq else .Eq) (.ref p) (.ref q)) (EP X pins σ Q) X.xe s := fun l m hb hq => by
    cases neg with
    | false => exact hb.1 X.prog X.w X.xe _ ⟨.bl _, H, I, rfl, hq⟩
    | true => exact hb.2 X.prog X.w X.xe _ ⟨.bl _, H, I, rfl, hq⟩
  cases hx with
  | flat fx => cases fx
  | @lst _ xs l hq hr =>
    cases hy with
    | flat fy => cases fy
    | tup _ _ => simp [simT] at hs
    | @lst _ ys m hq' hr' =>
      rw [depT] at hd
      rw [simT] at hs
      rw [eqT] at q'
      refine done l m (RcAt_lists I (by omega) hq hr hq' hr' fun j t t' x y u v h1 h2 h3 h4 h5 h6 => ?_) q'
      exact eqAt_T I 60 X.A.in1 t t' x y u v (by have := depTs_at h1; omega) (by show X.A.units + 1 + 60 < cLine; omega) (simTs_at hs h1 h2) h3 h4 h5 h6
  | @tup _ xs l hq hr =>
    cases hy with
    | flat fy => cases fy
    | lst _ _ => simp [simT] at hs
    | @tup _ ys m hq' hr' =>
      rw [depT] at hd
      rw [simT] at hs
      rw [eqT] at q'
      refine done l m (RcAt_tuples I (by omega) hq hr hq' hr' fun j t t' x y u v h1 h2 h3 h4 h5 h6 => ?_) q'
      exact eqAt_T I 60 X.A.in1 t t' x y u v (by have := depTs_at h1; omega) (by show X.A.units + 1 + 60 < cLine; omega) (simTs_at hs h1 h2) h3 h4 h5 h6
theorem op_eqS (hu : X.A.units + 64 < cLine) : OpR X (compareOp .Eq) (rEqX X.K false) := eqX_aux (neg := false) hu
theorem op_neS (hu : X.A.units + 64 < cLine) : OpR X (compareOp .NotEq) (rEqX X.K true) := eqX_aux (neg := true) hu
theorem hu64 {A : Around} {k : Nat} (hr : Room k A) : A.units + 64 < cLine := by have := hr.un; omega
end
end L2

set_option Elab.async false
set_option linter.all false
set_option maxRecDepth 100000
set_option maxHeartbeats 4000000
namespace L2
open PySem PySem.Spec PyProof.Rows

section
variable {X : Cx}
end

theorem len_put {k : Key} {v : V} {kvs : List (Key × V)} : (putK kvs k v).length ≤ kvs.length + 1 := by
  unfold putK
  split
  · rw [List.length_map]; omega
  · rw [List.length_append]; simp
end L2

set_option Elab.async false
set_option linter.all false
set_option maxRecDepth 100000
set_option maxHeartbeats 4000000
namespace L2
open PySem PySem.Spec PyProof.Rows

end L2
namespace L2
open PySem
end L2
namespace L2
open PySem
noncomputable def intTs (ns : List Int) : List Tr := ns.map fun i => Tr.v (.int i)
theorem intTs_is {K : PySem.W.Frag} {H : Hp} : ∀ ns : List Int, TrsIs K H (ns.map V.int) (intTs ns)
  | [] => .nil
  | _ :: r => .cons (.flat rfl) (intTs_is r)
theorem intTs_dep : ∀ ns : List Int, depTs (intTs ns) = 0
  | [] => by simp [intTs, depTs]
  | n :: r => by
    show depTs (Tr.v (.int n) :: intTs r) = 0
    rw [depTs, intTs_dep r, depT]; rfl
end L2
namespace L2
open PySem
end L2

set_option Elab.async false
set_option linter.all false
set_option maxRecDepth 100000
set_option maxHeartbeats 4000000
namespace L2
open PySem PySem.Spec PyProof.Rows

end L2

set_option Elab.async false
set_option linter.all false
set_option maxRecDepth 100000
set_option maxHeartbeats 4000000
namespace L2
open PySem PySem.Spec PyProof.Rows
theorem cutV_map (ns : List Int) (lo hi : Option Int) : cutV (ns.map V.int) lo hi = (cutC ns lo hi).map V.int := by
  unfold cutV cutC
  rw [List.length_map, List.map_take, List.map_drop]
end L2

set_option Elab.async false
set_option linter.all false
set_option maxRecDepth 100000
set_option maxHeartbeats 4000000
namespace L2
open PySem PySem.Spec PyProof.Rows
section
variable {X : Cx} {pins : List (Addr × Obj)} {σ : St} {H : Hp} {s : Shared} {h' : Heap}
theorem Inv.turnedL {t' : Nat} {ch : List Addr} (I : Inv X pins σ H s) (k : ∀ b o, b ∉ ch → s.heap.get? b = some o → h'.get? b = some o) (hf : ∀ b ∈ ch, FpOk X pins H b) : Inv X pins σ H { s with heap := h', toks := t' } := by
  have nit : ∀ b u, H b = some u → b ∉ ch := fun b u e z => by rw [(hf b z).1] at e; cases e
  have hL : X.env.locals ∉ ch := fun z => (hf _ z).2.1 rfl
  refine I.step (g' := s.gens) (d' := s.drawn) (ch := ch) (fun b hb => ?_) (fun b o _ _ hc e _ => k b o hc e) (fun b o _ _ hc e _ => ⟨o.slots, k b o hc e⟩) (fun _ _ _ _ n => n)
    (fun b o hc e => ⟨o, k b o hc e⟩) (fun _ _ e => e) (fun _ _ _ e => e) (fun b ps e => ⟨#[], by rw [e]; simp⟩) (fun m hm => ?_) (fun b u e => ?_) I.bare
  · obtain ⟨f0, f1, f2, f3, f4, f5⟩ := hf b hb
    exact ⟨f3, f1, f4, f5⟩
  · obtain ⟨o, es, ep, ho, r⟩ := hm
    exact ⟨o, es, ep, k _ o hL ho, r⟩
  · refine (I.hok b u e).stay (fun c v hc q => k c v ?_ q) (fun _ q => q) fun _ _ q => q
    rcases hc with z | z
    · rw [z]; exact nit b u e
    · exact nit c _ z
end
noncomputable def Ite (K : PySem.W.Frag) (a : Addr) : It :=
  ⟨fun i H => ∃ xs x, SqL K H a xs ∧ xs[i]? = some x, fun i H v H' => ∃ x T, (∀ xs, SqL K H a xs → xs[i]? = some x) ∧ H T = none ∧ v = .ref T ∧ H' = upd H T (.tup [.int i, x]), fun i H => ∃ xs, SqL K H a xs ∧ xs.length ≤ i⟩
theorem turn_enum {P : Program} {w : World} {K : PySem.W.Frag} {elts : List Expr} {x1 : Nat} {pos : Pos} (a e it : Addr) (hei : e ≠ it) : Turn P w K (.Tuple elts x1 pos) (Ite K a) [e, it] e (fun i h => (∃ old, IsEnum h e it i old) ∧ h.IsListIter it a i) where
  mem := by simp
  obj := fun i h st b hb => by
    obtain ⟨⟨old, he⟩, hit⟩ := st
    rcases List.mem_cons.mp hb with rfl | hb
    · exact ⟨_, he, fun v z => by cases z⟩
    · have e : b = it := by simpa using hb
      subst e
      obtain ⟨o, e, c, d⟩ := hit
      exact ⟨o, e, fun v z => by rw [d] at z; cases z⟩
  keep := fun i h h' st k => by
    obtain ⟨⟨old, he⟩, hit⟩ := st
    exact ⟨⟨old, k e (by simp) _ he⟩, hit.at fun o e => k it (by simp) o e⟩
  item := by
    intro X hP hw hK hc i pins s σ H E I hf st hg
    subst hP hw hK
    obtain ⟨xs, x, hq, hx⟩ := hg
    obtain ⟨its, rv, p, hz⟩ := I.list hq
    obtain ⟨u, hu, ru⟩ := rv.get hx
    obtain ⟨⟨old, he⟩, hit⟩ := st
    refine wpAny_pyNext_enum_item he hit p.isList (x := u) (by simpa using hu) hei fun h1 ho hit' hT hsz hk => ⟨_, rfl, ?_⟩
    refine wpAny_letOwnedTupleGo_enum ho fun h2 he2 hs2 => ?_
    have hTn : H s.heap.objs.size = none := I.hok.fresh (Nat.le_refl _)
    have helt : e < s.heap.objs.size := Heap.lt_size he
    have hilt : it < s.heap.objs.size := by obtain ⟨_, x, _⟩ := hit; exact Heap.lt_size x
    have I1 : Inv X pins σ (upd H s.heap.objs.size (.tup [.int i, x])) { s with heap := s.heap.push { cls := .type "tuple", data := .seq #[.int i s.toks, u] }, toks := s.toks + 1 } := I.laid (t' := s.toks + 1) (o := .tup [.int i, x]) (fun b o e => Heap.get?_push_of_some _ e) (Nat.le_refl _) ⟨szl (by show 2 ≤ 1000000; decide), [.int i s.toks, u], .cons ⟨_, rfl⟩ (.cons ru .nil), IsTupN.new _ _⟩
    have I2 : Inv X pins σ (upd H s.heap.objs.size (.tup [.int i, x])) { s with heap := h2, toks := s.toks + 1 } := by
      refine Inv.turnedL (s := { s with heap := s.heap.push { cls := .type "tuple", data := .seq #[.int i s.toks, u] }, toks := s.toks + 1 }) (h' := h2) (ch := [e, it]) (t' := s.toks + 1) I1 (fun b o hb q => ?_) (fun b hb => ?_)
      · have nbe : b ≠ e := fun z => hb (by simp [z])
        have nbi : b ≠ it := fun z => hb (by simp [z])
        show h2.get? b = some o
        rw [hs2.2 b nbe]
        rcases Heap.get?_push_cases q with ⟨rfl, rfl⟩ | q
        · exact hT
        · exact hk b o nbe nbi q
      · obtain ⟨f0, f1, f2, f3, f4, f5⟩ := hf b hb
        have nb : b ≠ s.heap.objs.size := by
          rcases List.mem_cons.mp hb with rfl | hb
          · exact Nat.ne_of_lt helt
          · have : b = it := by simpa using hb
            subst this
            exact Nat.ne_of_lt hilt
        exact ⟨by rw [upd_ne nb]; exact f0, f1, f2, f3, f4, f5⟩
    refine ⟨.ref s.heap.objs.size, _, I2, rfl, ⟨x, _, fun ys hy => by rw [I.list_inj hy hq]; exact hx, hTn, rfl, rfl⟩, ⟨⟨_, by simpa using he2⟩, hit'.at fun o y => (hs2.2 it hei.symm).trans y⟩, fun b hb => ?_⟩
    obtain ⟨f0, f1, f2, f3, f4, f5⟩ := hf b hb
    have nb : b ≠ s.heap.objs.size := by
      rcases List.mem_cons.mp hb with rfl | hb
      · exact Nat.ne_of_lt helt
      · have : b = it := by simpa using hb
        subst this
        exact Nat.ne_of_lt hilt
    rw [upd_ne nb]
    exact f0
  done := by
    intro X hP hw hK hc i pins s σ H E I hf st hg
    subst hP hw hK
    obtain ⟨xs, hq, hx⟩ := hg
    obtain ⟨its, rv, p, hz⟩ := I.list hq
    obtain ⟨⟨old, he⟩, hit⟩ := st
    have hl := rv.length
    refine wpAny_pyNext_enum_end (I.ok.hd hc) he hit p.isList (by simp; omega) fun h' eb => ⟨rfl, ?_⟩
    exact I.turnedL (ch := [e, it]) (t' := s.toks) (fun b o hb q => eb b o (fun z => hb (by simp [z])) q) hf
  self := fun _ _ _ _ _ st h => by
    obtain ⟨⟨old, he⟩, _⟩ := st
    exact wpAny_pyIter_enum he h
noncomputable def iEnum (K : PySem.W.Frag) (ta : TA) : TI := fun σ H R => ta σ H fun vs H1 => ∃ a : Addr, vs = [.ref a] ∧ (∃ xs, SqL K H1 a xs) ∧ R (Ite K a) H1
theorem pi_enum {X : Cx} {a : Expr} {ta : TA} {p pos : Pos} {elts : List Expr} {x1 : Nat} {pos2 : Pos} (hg : Gl X "enumerate") (hm : X.mg "enumerate" = none) (ha : PA X [a] ta) (hs : starEach [a] X.env = [(false, eval a X.env)] := by rfl) : PI X (.Tuple elts x1 pos2) (.Call (.Name "enumerate" p) [a] [] pos) (iEnum X.K ta) := by
  intro pins s σ H R I h
  refine Call_ (ld_blt I hg hm boot_enumerate (PyProof.Rows.callWith_type1 (thn (ha pos pins s σ H _ I h) fun us s1 ⟨vs, H1, I1, r1, q1⟩ => ?_) hs rfl))
  obtain ⟨l, rfl, ⟨xs, hq⟩, q⟩ := q1
  cases r1 with
  | cons r rr =>
    cases rr
    cases r
    obtain ⟨its, rv, pl, hz⟩ := I1.list hq
    refine call_enumerate_list pl.isList fun h' he hit hsz hk => ?_
    refine wpAny_pyIter_enum he ?_
    refine ⟨_, [s1.heap.objs.size + 1, s1.heap.objs.size], _, _, H1, rfl, I1.kept (t' := s1.toks) hk, turn_enum l _ _ (Nat.ne_of_gt (Nat.lt_succ_self _)), ⟨⟨_, he⟩, hit⟩, fun b hb => ?_, q⟩
    rcases List.mem_cons.mp hb with rfl | hb
    · exact I1.fpOk (Nat.le_succ _) (I1.hok.fresh (Nat.le_succ _))
    · have e : b = s1.heap.objs.size := by simpa using hb
      subst e
      exact I1.fpOk (Nat.le_refl _) (I1.hok.fresh (Nat.le_refl _))
theorem for_enum {K : PySem.W.Frag} {a : Addr} {xs : List V} {g : TG} {tb : TS} {D : Ends} {σ : St} {H : Hp} (Pv : Nat → St → Hp → Prop) (h0 : Pv 0 σ H) (hl : ∀ i σ H, i ≤ xs.length → Pv i σ H → SqL K H a xs)
    (hs : ∀ i x T σ H, xs[i]? = some x → Pv i σ H → H T = none → g (.ref T) σ (upd H T (.tup [.int i, x])) fun σ2 H2 => tb { D with nx := Pv (i + 1), ct := Pv (i + 1), bk := D.nx } σ2 H2) (hd : ∀ σ H, Pv xs.length σ H → D.nx σ H) :
    ∃ W : Nat → Nat → St → Hp → Prop, (∃ m, W 0 m σ H) ∧ ∀ i m σ H, W i m σ H →
      ((Ite K a).stop i H ∧ D.nx σ H) ∨ ((Ite K a).go i H ∧ ∃ N : St → Hp → Prop, (∀ σ' H', N σ' H' → ∃ m', m' < m ∧ W (i + 1) m' σ' H') ∧ ∀ x H', (Ite K a).yld i H x H' → g x σ H' fun σ2 H2 => tb { D with nx := N, ct := N, bk := D.nx } σ2 H2) := by
  refine ⟨fun i m σ H => m = xs.length - i ∧ i ≤ xs.length ∧ Pv i σ H, ⟨xs.length, by simp, Nat.zero_le _, h0⟩, ?_⟩
  rintro i m σ H ⟨rfl, hi, p⟩
  have q := hl i σ H hi p
  by_cases hlt : i < xs.length
  · refine .inr ⟨⟨xs, xs[i], q, List.getElem?_eq_getElem hlt⟩, Pv (i + 1), fun σ' H' p' => ⟨xs.length - (i + 1), by omega, rfl, hlt, p'⟩, fun v H' y => ?_⟩
    obtain ⟨x, T, hx, hT, rfl, rfl⟩ := y
    exact hs i x T σ H (hx xs q) p hT
  · have e : i = xs.length := by omega
    subst e
    exact .inl ⟨⟨xs, q, Nat.le_refl _⟩, hd σ H p⟩
end L2

set_option Elab.async false
set_option linter.all false
set_option maxRecDepth 100000
set_option maxHeartbeats 4000000
namespace Bd
structure Bond where
  x : Nat
  y : Nat
  c : Int
structure Sv where
  v : Nat → Int
  p : Nat → Option Nat
  low : Option Nat
noncomputable def upF {α : Type} (f : Nat → α) (i : Nat) (a : α) : Nat → α := fun j => if j = i then a else f j
theorem upF_same {α : Type} {f : Nat → α} {i : Nat} {a : α} : upF f i a i = a := if_pos rfl
theorem upF_ne {α : Type} {f : Nat → α} {i j : Nat} {a : α} (h : j ≠ i) : upF f i a j = f j := if_neg h
noncomputable def relax (i : Nat) (b : Bond) (s : Sv) : Sv := if s.v b.x > s.v b.y + b.c then ⟨upF s.v b.x (s.v b.y + b.c), upF s.p b.x (some i), some b.x⟩ else s
noncomputable def rnd (B : List Bond) : Nat → Sv → Sv
  | 0, s => s
  | k + 1, s => match B[k]? with
    | some b => relax k b (rnd B k s)
    | none => rnd B k s
noncomputable def round (B : List Bond) (s : Sv) : Sv := rnd B B.length { s with low := none }
noncomputable def go (B : List Bond) : Nat → Sv → Sv ⊕ Sv
  | 0, s => .inr s
  | k + 1, s => match (round B s).low with
    | none => .inl (round B s)
    | some _ => go B k (round B s)
noncomputable def st0 : Sv := ⟨fun _ => 0, fun _ => none, none⟩
noncomputable def pb (B : List Bond) (p : Nat → Option Nat) (x : Nat) : Bond := match p x with
  | some i => B.getD i ⟨0, 0, 0⟩
  | none => ⟨0, 0, 0⟩
noncomputable def it (B : List Bond) (p : Nat → Option Nat) : Nat → Nat → Nat
  | 0, x => x
  | k + 1, x => it B p k (pb B p x).y
noncomputable def sm (B : List Bond) (p : Nat → Option Nat) : Nat → Nat → Int
  | 0, _ => 0
  | k + 1, x => (pb B p x).c + sm B p k (pb B p x).y
theorem it_succ (B : List Bond) (p : Nat → Option Nat) (k x : Nat) : it B p (k + 1) x = (pb B p (it B p k x)).y := by
  induction k generalizing x with
  | zero => rfl
  | succ k ih => exact ih _
theorem it_add (B : List Bond) (p : Nat → Option Nat) (j k x : Nat) : it B p (j + k) x = it B p k (it B p j x) := by
  induction j generalizing x with
  | zero => rw [Nat.zero_add]; rfl
  | succ j ih => rw [Nat.succ_add]; exact ih _
theorem sm_succ (B : List Bond) (p : Nat → Option Nat) (k x : Nat) : sm B p (k + 1) x = sm B p k x + (pb B p (it B p k x)).c := by
  induction k generalizing x with
  | zero => simp [sm, it]
  | succ k ih => rw [sm, ih, sm, it]; omega
noncomputable def Alive (B : List Bond) (p : Nat → Option Nat) (k x : Nat) : Prop := ∀ j < k, ∃ i, p (it B p j x) = some i
theorem Alive.tail {B : List Bond} {p : Nat → Option Nat} {k x : Nat} (h : Alive B p (k + 1) x) : Alive B p k (pb B p x).y := fun j hj => h (j + 1) (by omega)
structure Inv (B : List Bond) (r j : Nat) (s : Sv) (last : Nat → Nat) : Prop where
  le : ∀ x, last x ≤ r
  par : ∀ x i, s.p x = some i → ∃ b, B[i]? = some b ∧ b.x = x ∧ s.v b.y + b.c ≤ s.v x ∧ last x ≤ last b.y + 1
  has : ∀ x, 1 ≤ last x → ∃ i, s.p x = some i
  ok1 : ∀ k < j, ∀ b, B[k]? = some b → s.v b.x ≤ s.v b.y + b.c ∨ r ≤ last b.y
  ok2 : ∀ k, j ≤ k → ∀ b, B[k]? = some b → s.v b.x ≤ s.v b.y + b.c ∨ r ≤ last b.y + 1
  neg : ∀ k x, Alive B s.p (k + 1) x → it B s.p (k + 1) x = x → sm B s.p (k + 1) x < 0
  lowN : s.low = none → ∀ x, last x + 1 ≤ r
  lowS : ∀ x, s.low = some x → last x = r
theorem pb_of {B : List Bond} {p : Nat → Option Nat} {x i : Nat} {b : Bond} (h : p x = some i) (e : B[i]? = some b) : pb B p x = b := by
  unfold pb; rw [h]; simp only []; rw [List.getD_eq_getElem?_getD, e]; rfl
theorem step_walk {B : List Bond} {v : Nat → Int} {p : Nat → Option Nat} {i : Nat} {b : Bond} (hb : B[i]? = some b) (hlt : v b.x > v b.y + b.c)
    (par : ∀ x i, p x = some i → ∃ b, B[i]? = some b ∧ b.x = x ∧ v b.y + b.c ≤ v x) :
    ∀ k x, Alive B (upF p b.x (some i)) k x → v (it B (upF p b.x (some i)) k x) + sm B (upF p b.x (some i)) k x ≤ v x ∧
      ((it B (upF p b.x (some i)) k x = it B p k x ∧ sm B (upF p b.x (some i)) k x = sm B p k x ∧ Alive B p k x) ∨ v (it B (upF p b.x (some i)) k x) + sm B (upF p b.x (some i)) k x < v x) := by
  intro k
  induction k with
  | zero => intro x _; exact ⟨by simp [it, sm], .inl ⟨rfl, rfl, fun j hj => by omega⟩⟩
  | succ k ih =>
    intro x ha
    obtain ⟨l, hl⟩ := ha 0 (by omega)
    change upF p b.x (some i) x = some l at hl
    have ha' := ha.tail
    by_cases hx : x = b.x
    · have e : pb B (upF p b.x (some i)) x = b := pb_of (by rw [hx]; exact upF_same) hb
      simp only [it, sm]
      rw [e] at ha' ⊢
      obtain ⟨h1, _⟩ := ih _ ha'
      subst hx
      exact ⟨by omega, .inr (by omega)⟩
    · have hp : upF p b.x (some i) x = p x := upF_ne hx
      rw [hp] at hl
      obtain ⟨b', hb', hx', hv⟩ := par _ _ hl
      have e : pb B (upF p b.x (some i)) x = b' := pb_of (by rw [hp]; exact hl) hb'
      have e2 : pb B p x = b' := pb_of hl hb'
      simp only [it, sm]
      rw [e] at ha' ⊢
      rw [e2]
      obtain ⟨h1, h2⟩ := ih _ ha'
      refine ⟨by omega, ?_⟩
      rcases h2 with ⟨h2, h3, h4⟩ | h2
      · refine .inl ⟨h2, by rw [h3], fun j hj => ?_⟩
        cases j with
        | zero => exact ⟨_, hl⟩
        | succ j =>
          show ∃ i, p (it B p j (pb B p x).y) = some i
          rw [e2]
          exact h4 j (by omega)
      · exact .inr (by omega)
theorem Inv.step {B : List Bond} {r j : Nat} {s : Sv} {last : Nat → Nat} (h : Inv B r j s last) {b : Bond} (hb : B[j]? = some b) : ∃ last', Inv B r (j + 1) (relax j b s) last' := by
  unfold relax
  by_cases c : s.v b.x > s.v b.y + b.c
  · rw [if_pos c]
    have hy : r ≤ last b.y + 1 := by
      rcases h.ok2 j (Nat.le_refl _) b hb with g | g
      · omega
      · exact g
    have hv : ∀ x, upF s.v b.x (s.v b.y + b.c) x ≤ s.v x := fun x => by
      by_cases e : x = b.x
      · rw [e, upF_same]; omega
      · rw [upF_ne e]; exact Int.le_refl _
    have hl : ∀ x, last x ≤ upF last b.x r x := fun x => by
      by_cases e : x = b.x
      · rw [e, upF_same]; exact h.le _
      · rw [upF_ne e]; exact Nat.le_refl _
    refine ⟨upF last b.x r, ⟨fun x => ?_, fun x i e => ?_, fun x e => ?_, fun k hk b' hb' => ?_, fun k hk b' hb' => ?_, fun k x ha e => ?_, fun e => ?_, fun x e => ?_⟩⟩
    · by_cases e : x = b.x
      · rw [e, upF_same]; exact Nat.le_refl _
      · rw [upF_ne e]; exact h.le _
    · by_cases ex : x = b.x
      · subst ex
        simp only [] at e ⊢
        rw [upF_same] at e
        cases e
        refine ⟨b, hb, rfl, ?_, ?_⟩
        · rw [upF_same]
          by_cases ey : b.y = b.x
          · rw [ey, upF_same]; rw [ey] at c; omega
          · rw [upF_ne ey]; exact Int.le_refl _
        · rw [upF_same]
          have := hl b.y
          omega
      · simp only [] at e ⊢
        rw [upF_ne ex] at e
        obtain ⟨b', g1, g2, g3, g4⟩ := h.par x i e
        refine ⟨b', g1, g2, ?_, ?_⟩
        · rw [upF_ne ex]
          have := hv b'.y
          omega
        · rw [upF_ne ex]
          have := hl b'.y
          omega
    · simp only []
      by_cases ex : x = b.x
      · rw [ex, upF_same]; exact ⟨_, rfl⟩
      · rw [upF_ne ex] at e ⊢
        exact h.has x e
    · simp only []
      by_cases ey : b'.y = b.x
      · right; rw [ey, upF_same]; exact Nat.le_refl _
      · by_cases ek : k = j
        · subst ek
          rw [hb] at hb'; cases hb'
          left; rw [upF_same, upF_ne ey]; exact Int.le_refl _
        · rcases h.ok1 k (by omega) b' hb' with g | g
          · left; rw [upF_ne ey]; have := hv b'.x; omega
          · right; have := hl b'.y; omega
    · simp only []
      by_cases ey : b'.y = b.x
      · right; rw [ey, upF_same]; omega
      · rcases h.ok2 k (by omega) b' hb' with g | g
        · left; rw [upF_ne ey]; have := hv b'.x; omega
        · right; have := hl b'.y; omega
    · have := step_walk hb c (fun x i e => by obtain ⟨b', g1, g2, g3, _⟩ := h.par x i e; exact ⟨b', g1, g2, g3⟩) (k + 1) x ha
      simp only [] at e ⊢
      rw [e] at this
      obtain ⟨_, ⟨g1, g2, g3⟩ | g⟩ := this
      · rw [g2]; exact h.neg k x g3 g1.symm
      · omega
    · cases e
    · cases e; exact upF_same
  · rw [if_neg c]
    refine ⟨last, h.le, h.par, h.has, fun k hk b' hb' => ?_, fun k hk => h.ok2 k (by omega), h.neg, h.lowN, h.lowS⟩
    by_cases ek : k = j
    · subst ek
      rw [hb] at hb'; cases hb'
      left; omega
    · exact h.ok1 k (by omega) b' hb'
theorem Inv.rnd {B : List Bond} {r : Nat} {s : Sv} {last : Nat → Nat} (h : Inv B r 0 s last) : ∀ k, k ≤ B.length → ∃ last', Inv B r k (Bd.rnd B k s) last'
  | 0, _ => ⟨last, h⟩
  | k + 1, hk => by
    obtain ⟨l1, h1⟩ := Inv.rnd h k (by omega)
    have e : B[k]? = some B[k] := List.getElem?_eq_getElem (by omega)
    unfold Bd.rnd
    rw [e]
    exact h1.step e
theorem Inv.next {B : List Bond} {r : Nat} {s : Sv} {last : Nat → Nat} (h : Inv B r B.length s last) : Inv B (r + 1) 0 { s with low := none } last :=
  ⟨fun x => by have := h.le x; omega, h.par, h.has, fun k hk => by omega, fun k _ b hb => by
    have := h.ok1 k (List.getElem?_eq_some_iff.mp hb).1 b hb
    rcases this with g | g
    · exact .inl g
    · right; omega, h.neg, fun _ x => by have := h.le x; omega, fun x e => by cases e⟩
theorem Inv.start (B : List Bond) : Inv B 1 0 { st0 with low := none } (fun _ => 0) :=
  ⟨fun _ => Nat.zero_le _, fun x i e => (by cases e), fun x e => (by omega), fun k hk b hb => (by omega), fun k hk b hb => .inr (Nat.le_refl _), fun k x ha => (by obtain ⟨i, hi⟩ := ha 0 (by omega); cases hi), fun _ x => Nat.le_refl _, fun x e => (by cases e)⟩
theorem Inv.holds {B : List Bond} {r : Nat} {s : Sv} {last : Nat → Nat} (h : Inv B r B.length s last) (e : s.low = none) : ∀ b ∈ B, s.v b.x ≤ s.v b.y + b.c := fun b hb => by
  obtain ⟨k, hk, rfl⟩ := List.mem_iff_getElem.mp hb
  rcases h.ok1 k hk _ (List.getElem?_eq_getElem hk) with g | g
  · exact g
  · have := h.lowN e B[k].y
    omega
theorem go_inl {B : List Bond} : ∀ {k r : Nat} {s : Sv} {last : Nat → Nat}, Inv B r 0 { s with low := none } last → ∀ {s'}, go B k s = .inl s' → ∀ b ∈ B, s'.v b.x ≤ s'.v b.y + b.c
  | 0, r, s, last, h, s', e => by cases e
  | k + 1, r, s, last, h, s', e => by
    obtain ⟨l1, h1⟩ := h.rnd B.length (Nat.le_refl _)
    change Inv B r B.length (round B s) l1 at h1
    unfold go at e
    split at e
    · rename_i c; cases e
      exact h1.holds c
    · exact go_inl h1.next e
theorem go_inr {B : List Bond} : ∀ {k r : Nat} {s : Sv} {last : Nat → Nat}, Inv B r 0 { s with low := none } last → ∀ {s'}, go B (k + 1) s = .inr s' → ∃ last x, Inv B (r + k) B.length s' last ∧ s'.low = some x
  | k, r, s, last, h, s', e => by
    obtain ⟨l1, h1⟩ := h.rnd B.length (Nat.le_refl _)
    change Inv B r B.length (round B s) l1 at h1
    unfold go at e
    split at e
    · cases e
    · rename_i x c
      cases k with
      | zero => cases e; exact ⟨l1, x, h1, c⟩
      | succ k =>
        obtain ⟨l2, x2, g1, g2⟩ := go_inr (k := k) h1.next e
        exact ⟨l2, x2, by rw [show r + (k + 1) = r + 1 + k by omega]; exact g1, g2⟩
theorem nodup_le {α : Type} [DecidableEq α] : ∀ {l k : List α}, l.Nodup → (∀ x ∈ l, x ∈ k) → l.length ≤ k.length
  | [], _, _, _ => Nat.zero_le _
  | a :: l, k, hn, hs => by
    have ha := hs a List.mem_cons_self
    have h2 := List.nodup_cons.mp hn
    have := nodup_le (l := l) (k := k.erase a) h2.2 fun x hx => (List.mem_erase_of_ne (show x ≠ a from fun e => h2.1 (by rw [← e]; exact hx))).mpr (hs x (List.mem_cons_of_mem _ hx))
    rw [List.length_erase_of_mem ha] at this
    have : 0 < k.length := List.length_pos_of_mem ha
    simp only [List.length_cons]
    omega
theorem pigeon {n : Nat} {u : Nat → Nat} (h : ∀ i, i ≤ n → u i < n) : ∃ i j, i < j ∧ j ≤ n ∧ u i = u j := by
  apply Classical.byContradiction
  intro c
  have hn : ((List.range (n + 1)).map u).Nodup := by
    rw [List.nodup_iff_pairwise_ne, List.pairwise_map]
    refine (List.pairwise_lt_range (n := n + 1)).imp_of_mem fun {i j} hi hj hij e => c ⟨i, j, hij, ?_, e⟩
    have := List.mem_range.mp hj
    omega
  have := nodup_le hn (k := List.range n) fun x hx => by
    obtain ⟨i, hi, rfl⟩ := List.mem_map.mp hx
    have := List.mem_range.mp hi
    exact List.mem_range.mpr (h i (by omega))
  simp at this
  omega
theorem least {P : Nat → Prop} : ∀ n, P n → ∃ m, m ≤ n ∧ P m ∧ ∀ k < m, ¬ P k := by
  intro n
  induction n using Nat.strongRecOn with
  | ind n ih =>
    intro h
    by_cases c : ∃ k, k < n ∧ P k
    · obtain ⟨k, hk, pk⟩ := c
      obtain ⟨m, h1, h2, h3⟩ := ih k hk pk
      exact ⟨m, by omega, h2, h3⟩
    · exact ⟨n, Nat.le_refl _, h, fun k hk pk => c ⟨k, hk, pk⟩⟩
structure Ring (n : Nat) (B : List Bond) (p : Nat → Option Nat) (x0 m : Nat) : Prop where
  walk : ∀ j < n, ∃ i b, p (it B p j x0) = some i ∧ B[i]? = some b ∧ b.x = it B p j x0
  lt : ∀ k, k ≤ n → it B p k x0 < n
  pos : 0 < m
  le : m ≤ n
  back : it B p m (it B p n x0) = it B p n x0
  least : ∀ k, 0 < k → k < m → it B p k (it B p n x0) ≠ it B p n x0
  alive : ∀ k, ∃ i b, p (it B p k (it B p n x0)) = some i ∧ B[i]? = some b ∧ b.x = it B p k (it B p n x0)
  neg : sm B p m (it B p n x0) < 0
theorem Inv.ring {B : List Bond} {n : Nat} {s : Sv} {last : Nat → Nat} {x0 : Nat} (hn : 0 < n) (h : Inv B n B.length s last) (e : s.low = some x0) (hB : ∀ b ∈ B, b.x < n ∧ b.y < n) : ∃ m, Ring n B s.p x0 m := by
  have hl : ∀ k, k ≤ n → n ≤ last (it B s.p k x0) + k := by
    intro k
    induction k with
    | zero => intro _; have := h.lowS _ e; show n ≤ last x0 + 0; omega
    | succ k ih =>
      intro hk
      have := ih (by omega)
      obtain ⟨i, hi⟩ := h.has (it B s.p k x0) (by omega)
      obtain ⟨b, g1, g2, g3, g4⟩ := h.par _ _ hi
      rw [it_succ, pb_of hi g1]
      omega
  have hw : Alive B s.p n x0 := fun j hj => h.has _ (by have := hl j (by omega); omega)
  have hstep : ∀ x i, s.p x = some i → x < n ∧ it B s.p 1 x < n := fun x i hi => by
    obtain ⟨b, g1, g2, _⟩ := h.par x i hi
    have := hB b (List.mem_of_getElem? g1)
    show x < n ∧ (pb B s.p x).y < n
    rw [pb_of hi g1]
    exact ⟨g2 ▸ this.1, this.2⟩
  have hlt : ∀ k, k ≤ n → it B s.p k x0 < n := fun k hk => by
    by_cases c : k < n
    · obtain ⟨i, hi⟩ := hw k c
      exact (hstep _ _ hi).1
    · obtain ⟨i, hi⟩ := hw (n - 1) (by omega)
      have := (hstep _ _ hi).2
      rw [show k = (n - 1) + 1 by omega, it_add]
      exact this
  obtain ⟨i, j, hij, hj, eij⟩ := pigeon (u := fun k => it B s.p k x0) hlt
  change it B s.p i x0 = it B s.p j x0 at eij
  have hper : it B s.p (j - i) (it B s.p n x0) = it B s.p n x0 := by
    have e1 : it B s.p n x0 = it B s.p (n - i) (it B s.p i x0) := by rw [← it_add]; congr 1; omega
    rw [e1, ← it_add, Nat.add_comm, it_add]
    congr 1
    rw [← it_add, show i + (j - i) = j by omega, eij]
  obtain ⟨m, hm1, ⟨hm2, hm3⟩, hm4⟩ := least (P := fun m => 0 < m ∧ it B s.p m (it B s.p n x0) = it B s.p n x0) (j - i) ⟨by omega, hper⟩
  have hP : ∀ q, it B s.p (q * (j - i)) (it B s.p n x0) = it B s.p n x0 := fun q => by
    induction q with
    | zero => rw [Nat.zero_mul]; rfl
    | succ q ih => rw [Nat.succ_mul, it_add, ih]; exact hper
  have hback : it B s.p n x0 = it B s.p (n - (j - i)) x0 := by
    have e1 : it B s.p n x0 = it B s.p (n - j) (it B s.p j x0) := by rw [← it_add]; congr 1; omega
    rw [e1, ← eij, ← it_add]
    congr 1
    omega
  have hat : ∀ k, ∃ l, l < n ∧ it B s.p k (it B s.p n x0) = it B s.p l x0 := fun k => by
    have hp : 0 < j - i := by omega
    have hm := Nat.mod_lt k hp
    refine ⟨n - (j - i) + k % (j - i), by omega, ?_⟩
    have e1 : it B s.p k (it B s.p n x0) = it B s.p (k % (j - i)) (it B s.p n x0) := by
      have := Nat.div_add_mod k (j - i)
      conv => lhs; rw [← this, Nat.mul_comm, it_add, hP]
    rw [e1, hback, ← it_add]
  have hal : ∀ k, ∃ i b, s.p (it B s.p k (it B s.p n x0)) = some i ∧ B[i]? = some b ∧ b.x = it B s.p k (it B s.p n x0) := fun k => by
    obtain ⟨l, hl1, hl2⟩ := hat k
    obtain ⟨i, hi⟩ := hw l hl1
    rw [hl2]
    obtain ⟨b, g1, g2, _⟩ := h.par _ _ hi
    exact ⟨i, b, hi, g1, g2⟩
  refine ⟨m, fun j hj => (by obtain ⟨i, hi⟩ := hw j hj; obtain ⟨b, g1, g2, _⟩ := h.par _ _ hi; exact ⟨i, b, hi, g1, g2⟩), hlt, hm2, by omega, hm3, fun k k1 k2 e => hm4 k k2 ⟨k1, e⟩, hal, ?_⟩
  obtain ⟨m', rfl⟩ : ∃ m', m = m' + 1 := ⟨m - 1, by omega⟩
  exact h.neg m' _ (fun j _ => by obtain ⟨i, b, g, _⟩ := hal j; exact ⟨i, g⟩) hm3
noncomputable def ringL (B : List Bond) (p : Nat → Option Nat) (s m : Nat) : List Nat := (List.range m).map fun k => (p (it B p k s)).getD 0
noncomputable def ringGo (B : List Bond) (p : Nat → Option Nat) (s : Nat) : Nat → Nat → List Nat
  | 0, _ => []
  | f + 1, x => if x = s then [] else (p x).getD 0 :: ringGo B p s f (pb B p x).y
theorem ringGo_eq {B : List Bond} {p : Nat → Option Nat} {s m : Nat} (hb : it B p m s = s) (hl : ∀ k, 0 < k → k < m → it B p k s ≠ s) : ∀ (f j : Nat), 0 < j → j ≤ m → m - j ≤ f → ringGo B p s f (it B p j s) = (List.range (m - j)).map fun k => (p (it B p (j + k) s)).getD 0
  | 0, j, h0, h1, h2 => by rw [show m - j = 0 by omega]; rfl
  | f + 1, j, h0, h1, h2 => by
    unfold ringGo
    by_cases c : j = m
    · subst c
      rw [if_pos hb, Nat.sub_self]; rfl
    · rw [if_neg (hl j h0 (by omega)), ← it_succ, ringGo_eq hb hl f (j + 1) (by omega) (by omega) (by omega)]
      rw [show m - j = (m - (j + 1)) + 1 by omega, List.range_succ_eq_map, List.map_cons, List.map_map, Nat.add_zero]
      congr 1
      refine List.map_congr_left fun k _ => ?_
      show (p (it B p (j + 1 + k) s)).getD 0 = (p (it B p (j + (k + 1)) s)).getD 0
      rw [show j + 1 + k = j + (k + 1) by omega]
noncomputable def bd0 : Bond := ⟨0, 0, 0⟩
noncomputable def sumC (B : List Bond) : List Nat → Int
  | [] => 0
  | i :: R => (B.getD i bd0).c + sumC B R
theorem sumC_app (B : List Bond) (R S : List Nat) : sumC B (R ++ S) = sumC B R + sumC B S := by
  induction R with
  | nil => simp [sumC]
  | cons i R ih => rw [List.cons_append, sumC, sumC, ih]; omega
noncomputable def WF (n : Nat) (B : List Bond) : Prop := ∀ b ∈ B, b.x < n ∧ b.y < n
noncomputable def Holds (f : Nat → Int) (B : List Bond) : Prop := ∀ b ∈ B, f b.x - f b.y ≤ b.c
structure RingOk (B : List Bond) (R : List Nat) (u : Nat → Nat) : Prop where
  pos : 0 < R.length
  nd : R.Nodup
  bond : ∀ k i, R[k]? = some i → ∃ b, B[i]? = some b ∧ b.x = u k ∧ b.y = u (k + 1)
  back : u R.length = u 0
  neg : sumC B R < 0
theorem RingOk.sum {B : List Bond} {R : List Nat} {u : Nat → Nat} {f : Nat → Int} (h : Holds f B) (hb : ∀ k i, R[k]? = some i → ∃ b, B[i]? = some b ∧ b.x = u k ∧ b.y = u (k + 1)) : ∀ k, k ≤ R.length → f (u 0) - f (u k) ≤ sumC B (R.take k)
  | 0, _ => by simp [sumC]
  | k + 1, hk => by
    have ih := RingOk.sum h hb k (by omega)
    have e : R[k]? = some R[k] := List.getElem?_eq_getElem (by omega)
    obtain ⟨b, g1, g2, g3⟩ := hb k _ e
    have hh := h b (List.mem_of_getElem? g1)
    rw [List.take_add_one, e, sumC_app]
    have : sumC B (some R[k]).toList = b.c := by
      show (B.getD R[k] bd0).c + 0 = b.c
      rw [List.getD_eq_getElem?_getD, g1]
      simp
    rw [this]
    rw [g2, g3] at hh
    omega
theorem RingOk.none {B : List Bond} {R : List Nat} {u : Nat → Nat} (r : RingOk B R u) {f : Nat → Int} (h : Holds f B) : False := by
  have := RingOk.sum h r.bond R.length (Nat.le_refl _)
  rw [List.take_length, r.back] at this
  have := r.neg
  omega
noncomputable def ringOf (n : Nat) (B : List Bond) (s : Sv) : List Nat :=
  (s.p (it B s.p n (s.low.getD 0))).getD 0 :: ringGo B s.p (it B s.p n (s.low.getD 0)) n (pb B s.p (it B s.p n (s.low.getD 0))).y
theorem ringL_sum {B : List Bond} {p : Nat → Option Nat} {e : Nat} (h : ∀ k, ∃ i b, p (it B p k e) = some i ∧ B[i]? = some b ∧ b.x = it B p k e) : ∀ m, sumC B (ringL B p e m) = sm B p m e
  | 0 => rfl
  | m + 1 => by
    have ih := ringL_sum h m
    obtain ⟨i, b, h1, h2, h3⟩ := h m
    unfold ringL at ih ⊢
    rw [List.range_succ, List.map_append, sumC_app, ih, sm_succ, pb_of h1 h2]
    show _ + (sumC B [(p (it B p m e)).getD 0]) = _
    rw [h1]
    show _ + ((B.getD i bd0).c + 0) = _
    rw [List.getD_eq_getElem?_getD, h2]
    simp
theorem Ring.eq {n : Nat} {B : List Bond} {s : Sv} {x0 m : Nat} (r : Ring n B s.p x0 m) (e : s.low = some x0) : ringOf n B s = ringL B s.p (it B s.p n x0) m := by
  unfold ringOf
  rw [e]
  simp only [Option.getD_some]
  have := ringGo_eq r.back r.least n 1 (by omega) r.pos (by have := r.le; omega)
  rw [it_succ] at this
  change ringGo B s.p (it B s.p n x0) n (pb B s.p (it B s.p n x0)).y = _ at this
  rw [this]
  unfold ringL
  obtain ⟨m', hm⟩ : ∃ m', m = m' + 1 := ⟨m - 1, by have := r.pos; omega⟩
  subst hm
  rw [List.range_succ_eq_map, List.map_cons, List.map_map]
  congr 1
  refine List.map_congr_left fun k _ => ?_
  show _ = (s.p (it B s.p (k + 1) (it B s.p n x0))).getD 0
  rw [Nat.add_comm 1 k]
theorem Ring.ok {n : Nat} {B : List Bond} {s : Sv} {x0 m : Nat} (r : Ring n B s.p x0 m) (e : s.low = some x0) : RingOk B (ringOf n B s) (fun k => it B s.p k (it B s.p n x0)) := by
  rw [r.eq e]
  have hlen : (ringL B s.p (it B s.p n x0) m).length = m := by unfold ringL; rw [List.length_map, List.length_range]
  refine ⟨by rw [hlen]; exact r.pos, ?_, fun k i hk => ?_, ?_, ?_⟩
  · unfold ringL
    rw [List.nodup_iff_pairwise_ne, List.pairwise_map]
    refine (List.pairwise_lt_range (n := m)).imp_of_mem fun {i j} hi hj hij ee => ?_
    have hi := List.mem_range.mp hi
    have hj := List.mem_range.mp hj
    obtain ⟨i1, b1, g1, g2, g3⟩ := r.alive i
    obtain ⟨i2, b2, k1, k2, k3⟩ := r.alive j
    rw [g1, k1] at ee
    simp only [Option.getD_some] at ee
    subst ee
    rw [g2] at k2
    cases k2
    -- the walk would be back too soon
    have hij2 : it B s.p i (it B s.p n x0) = it B s.p j (it B s.p n x0) := g3.symm.trans k3
    have : it B s.p (m - j + i) (it B s.p n x0) = it B s.p n x0 := by
      rw [Nat.add_comm, it_add, hij2, ← it_add, show j + (m - j) = m by omega]
      exact r.back
    exact r.least (m - j + i) (by omega) (by omega) this
  · unfold ringL at hk
    rw [List.getElem?_map] at hk
    have hlt : k < m := by
      cases c : (List.range m)[k]? with
      | none => rw [c] at hk; cases hk
      | some z => have := (List.getElem?_eq_some_iff.mp c).1; simpa using this
    rw [List.getElem?_range hlt] at hk
    obtain ⟨i1, b1, g1, g2, g3⟩ := r.alive k
    simp only [Option.map_some, g1, Option.getD_some, Option.some.injEq] at hk
    subst hk
    refine ⟨b1, g2, g3, ?_⟩
    show b1.y = it B s.p (k + 1) (it B s.p n x0)
    rw [it_succ, pb_of g1 g2]
  · rw [hlen]; exact r.back
  · rw [ringL_sum r.alive]; exact r.neg
theorem go_ok {n : Nat} {B : List Bond} (hn : 0 < n) (w : WF n B) : (∃ s, go B n st0 = .inl s ∧ Holds (fun i => s.v i - s.v 0) B) ∨ ∃ s x0 m, go B n st0 = .inr s ∧ s.low = some x0 ∧ Ring n B s.p x0 m := by
  cases c : go B n st0 with
  | inl s =>
    refine .inl ⟨s, rfl, fun b hb => ?_⟩
    have := go_inl (Inv.start B) c b hb
    simp only []
    omega
  | inr s =>
    obtain ⟨k, rfl⟩ : ∃ k, n = k + 1 := ⟨n - 1, by omega⟩
    obtain ⟨last, x, h1, h2⟩ := go_inr (Inv.start B) c
    rw [Nat.add_comm] at h1
    obtain ⟨m, hm⟩ := h1.ring hn h2 w
    exact .inr ⟨s, x, m, rfl, h2, hm⟩
end Bd
namespace L2
open PySem PySem.Spec PyProof.Rows Bd
section
variable {es : List Expr} {env : Env} {p : Pos}
theorem star_C {c : Const} {n : Nat} : starEach (.Constant c n p :: es) env = (false, eval (.Constant c n p) env) :: starEach es env := rfl
theorem star_N {x : Str} : starEach (.Name x p :: es) env = (false, eval (.Name x p) env) :: starEach es env := rfl
theorem star_B {a b : Expr} {o : Operator} : starEach (.BinOp a o b p :: es) env = (false, eval (.BinOp a o b p) env) :: starEach es env := rfl
theorem star_S {a b : Expr} : starEach (.Subscript a b p :: es) env = (false, eval (.Subscript a b p) env) :: starEach es env := rfl
theorem star_L {as : List Expr} : starEach (.List as p :: es) env = (false, eval (.List as p) env) :: starEach es env := rfl
theorem star_U {o : UnaryOp} {a : Expr} : starEach (.UnaryOp o a p :: es) env = (false, eval (.UnaryOp o a p) env) :: starEach es env := rfl
end
@[irreducible] def PAq (X : Cx) (es : List Expr) (t : TA) : Prop := PA X es t
section
variable {X : Cx} {e : Expr} {es : List Expr} {te : TE} {t : TA} {pos : Pos}
theorem paq_nil : PAq X [] tNil := by unfold PAq; exact pa_nil
theorem paq_cons (ha : PE X e te) (hr : PAq X es t) (hs : starEach (e :: es) X.env = (false, eval e X.env) :: starEach es X.env) : PAq X (e :: es) (tCons te t) := by unfold PAq at *; exact pa_cons ha hr hs
theorem pe_lstq (h : PAq X es t) : PE X (.List es pos) (tLst t) := by unfold PAq at h; exact pe_lst h
theorem pe_tupq {x1 : Nat} (h : PAq X es t) : PE X (.Tuple es x1 pos) (tTup t) := by unfold PAq at h; exact pe_tup h
end
noncomputable def optV : Option Nat → V
  | none => .non
  | some i => .int (i : Int)
noncomputable def rl (n : Nat) (f : Nat → V) : List V := (List.range n).map f
noncomputable def vl (n : Nat) (f : Nat → Int) : List V := rl n fun i => .int (f i)
noncomputable def pl (n : Nat) (p : Nat → Option Nat) : List V := rl n fun i => optV (p i)
theorem rl_len (n : Nat) (f : Nat → V) : (rl n f).length = n := by unfold rl; rw [List.length_map, List.length_range]
theorem vl_len (n : Nat) (f : Nat → Int) : (vl n f).length = n := rl_len _ _
theorem pl_len (n : Nat) (f : Nat → Option Nat) : (pl n f).length = n := rl_len _ _
theorem rl_get {n x : Nat} {f : Nat → V} (h : x < n) : (rl n f)[x]? = some (f x) := by unfold rl; rw [List.getElem?_map, List.getElem?_range h]; rfl
theorem rl_at {n x : Nat} {f : Nat → V} (h : x < n) : atI (rl n f) (x : Int) = some (f x) := atI_nat (rl_get h)
theorem vl_at {n x : Nat} {f : Nat → Int} (h : x < n) : atI (vl n f) (x : Int) = some (.int (f x)) := rl_at h
theorem pl_at {n x : Nat} {f : Nat → Option Nat} (h : x < n) : atI (pl n f) (x : Int) = some (optV (f x)) := rl_at h
theorem ixN_nat {n x : Nat} (h : x < n) : ixN n (x : Int) = some x := by
  unfold ixN
  rw [if_pos (by omega), if_pos (by omega)]
  rfl
theorem rl_set {n x : Nat} {f : Nat → V} {a : V} : (rl n f).set x a = rl n (upF f x a) := by
  refine List.ext_getElem? fun k => ?_
  rw [List.getElem?_set]
  by_cases hk : k < n
  · rw [rl_get hk, rl_get hk, rl_len]
    by_cases e : x = k
    · subst e; rw [if_pos rfl, if_pos hk, upF_same]
    · rw [if_neg e, upF_ne (Ne.symm e)]
  · have h1 : (rl n f)[k]? = none := List.getElem?_eq_none (by rw [rl_len]; omega)
    have h2 : (rl n (upF f x a))[k]? = none := List.getElem?_eq_none (by rw [rl_len]; omega)
    rw [h1, h2, rl_len]
    by_cases e : x = k
    · subst e; rw [if_pos rfl, if_neg hk]
    · rw [if_neg e]
theorem vl_set {n x : Nat} {f : Nat → Int} {a : Int} : (vl n f).set x (.int a) = vl n (upF f x a) := by
  unfold vl
  rw [rl_set]
  congr 1
  funext j
  unfold upF
  split <;> rfl
theorem pl_set {n x : Nat} {f : Nat → Option Nat} {a : Nat} : (pl n f).set x (.int (a : Int)) = pl n (upF f x (some a)) := by
  unfold pl
  rw [rl_set]
  congr 1
  funext j
  unfold upF
  split <;> rfl
theorem rep_rl (n : Nat) (a : V) : (List.replicate n [a]).flatten = rl n fun _ => a := by
  unfold rl
  induction n with
  | zero => rfl
  | succ n ih => rw [List.replicate_succ', List.flatten_concat, ih, List.range_succ, List.map_append]; rfl
theorem vl_snoc {i : Nat} {f : Nat → Int} {x : Int} : vl i f ++ [.int x] = vl (i + 1) (upF f i x) := by
  unfold vl rl
  rw [List.range_succ, List.map_append]
  congr 1
  · refine List.map_congr_left fun k hk => ?_
    have := List.mem_range.mp hk
    rw [upF_ne (by omega)]
  · show _ = [V.int (upF f i x i)]
    rw [upF_same]
theorem mod_nat (i : Int) {n : Nat} (h : 0 < n) : ∃ x : Nat, x < n ∧ i % (n : Int) = (x : Int) := by
  have h0 := Int.emod_nonneg i (show (n : Int) ≠ 0 by omega)
  have h1 := Int.emod_lt_of_pos i (show (0 : Int) < n by omega)
  exact ⟨(i % (n : Int)).toNat, by omega, by omega⟩
theorem pickI {L : List Int} {i : Int} (h0 : 0 ≤ i) (h1 : i < (L.length : Int)) : ∃ z ∈ L, atI (L.map V.int) i = some (.int z) := by
  have e : L[i.toNat]? = some L[i.toNat] := List.getElem?_eq_getElem (by omega)
  refine ⟨L[i.toNat], List.getElem_mem _, ?_⟩
  have h : atI (L.map V.int) ((i.toNat : Nat) : Int) = some (.int L[i.toNat]) := atI_nat (by rw [List.getElem?_map, e]; rfl)
  rwa [Int.toNat_of_nonneg h0] at h
theorem pickN {L : List Int} {i : Int} (n : Nat) (hn : L.length = n) (h0 : 0 ≤ i) (h1 : i < (n : Int)) : ∃ z ∈ L, atI (L.map V.int) i = some (.int z) := pickI h0 (by rw [hn]; exact h1)
theorem cutC_n {α : Type} (xs : List α) (a m : Nat) : (cutC xs (some (a : Int)) (some ((a : Int) + (m : Int)))).length ≤ m := by
  unfold cutC
  rw [show (a : Int) + (m : Int) = ((a + m : Nat) : Int) by omega, HT.sIx_nat, HT.sIx_nat, List.length_take]
  omega
theorem while_ix {c : TT} {tb : TS} {D : Ends} {σ : St} {H : Hp} (k : Nat) (Pv : Nat → St → Hp → Prop) (h0 : Pv 0 σ H)
    (hs : ∀ i σ H, i ≤ k → Pv i σ H → c σ H fun b H1 => if b = true then i < k ∧ tb { D with nx := Pv (i + 1), ct := Pv (i + 1), bk := D.nx } σ H1 else D.nx σ H1)
    (mono : ∀ σ H Q Q', (∀ b H1, Q b H1 → Q' b H1) → c σ H Q → c σ H Q') : tWhile c tb D σ H := by
  refine ⟨fun m σ H => ∃ i, i ≤ k ∧ m = k - i ∧ Pv i σ H, ⟨_, 0, Nat.zero_le _, rfl, h0⟩, ?_⟩
  rintro m σ H ⟨i, hi, rfl, p⟩
  refine mono σ H _ _ (fun b H1 q => ?_) (hs i σ H hi p)
  cases b with
  | true => exact ⟨Pv (i + 1), fun σ' H' p' => ⟨k - (i + 1), by have := q.1; omega, i + 1, by have := q.1; omega, rfl, p'⟩, q.2⟩
  | false => exact q
noncomputable def intsV (R : List Nat) : List V := (R.map fun i => ((i : Nat) : Int)).map V.int
theorem intsV_len (R : List Nat) : (intsV R).length = R.length := by unfold intsV; rw [List.length_map, List.length_map]
theorem intsV_get {R : List Nat} {k i : Nat} (h : R[k]? = some i) : (intsV R)[k]? = some (.int (i : Int)) := by unfold intsV; rw [List.getElem?_map, List.getElem?_map, h]; rfl
theorem intsV_snoc (R : List Nat) (i : Nat) : intsV R ++ [.int (i : Int)] = intsV (R ++ [i]) := by unfold intsV; rw [List.map_append, List.map_append]; rfl
noncomputable def BondAt (H : Hp) (v : V) (b : Bond) : Prop := ∃ t, v = .ref t ∧ H t = some (.tup [.int (b.x : Int), .int (b.y : Int), .int b.c])
noncomputable def BsIs (H : Hp) (vs : List V) (B : List Bond) : Prop := vs.length = B.length ∧ ∀ (i : Nat) (v : V) (b : Bond), vs[i]? = some v → B[i]? = some b → BondAt H v b
noncomputable def BondsAt (H : Hp) (l : Addr) (B : List Bond) : Prop := ∃ vs, H l = some (.lst vs) ∧ BsIs H vs B
theorem BondAt.over {H H' : Hp} {v : V} {b : Bond} (h : BondAt H v b) (e : Same H H') : BondAt H' v b := by
  obtain ⟨t, h1, h2⟩ := h
  exact ⟨t, h1, e _ _ h2⟩
theorem BsIs.over {H H' : Hp} {vs : List V} {B : List Bond} (h : BsIs H vs B) (e : Same H H') : BsIs H' vs B := ⟨h.1, fun i v b x y => (h.2 i v b x y).over e⟩
theorem BondsAt.over {H H' : Hp} {l : Addr} {B : List Bond} (h : BondsAt H l B) (e : Same H H') : BondsAt H' l B := by
  obtain ⟨vs, h1, h2⟩ := h
  exact ⟨vs, e _ _ h1, h2.over e⟩
theorem BsIs.snoc {H : Hp} {vs : List V} {B : List Bond} {v : V} {b : Bond} (h : BsIs H vs B) (hv : BondAt H v b) : BsIs H (vs ++ [v]) (B ++ [b]) := by
  refine ⟨by rw [List.length_append, List.length_append, h.1]; rfl, fun i x c hx hc => ?_⟩
  by_cases hi : i < vs.length
  · rw [List.getElem?_append_left hi] at hx
    rw [List.getElem?_append_left (by rw [← h.1]; exact hi)] at hc
    exact h.2 i x c hx hc
  · have hlt := (List.getElem?_eq_some_iff.mp hx).1
    rw [List.length_append, List.length_singleton] at hlt
    have e : i = vs.length := by omega
    subst e
    rw [List.getElem?_append_right (Nat.le_refl _), Nat.sub_self] at hx
    rw [h.1, List.getElem?_append_right (Nat.le_refl _), Nat.sub_self] at hc
    cases hx; cases hc
    exact hv
noncomputable def Fr2 (H H' : Hp) (v l : Addr) : Prop := ∀ a o, H a = some o → a ≠ v → a ≠ l → H' a = some o
noncomputable def setR (n : Nat) (B : List Bond) : V × List V := match go B n st0 with
  | .inl s => (.str "values", vl n fun i => s.v i - s.v 0)
  | .inr s => (.str "ring", intsV (ringOf n B s))
theorem setR_ok {n : Nat} {B : List Bond} (hn : 0 < n) (w : WF n B) : (∃ f, setR n B = (.str "values", vl n f) ∧ f 0 = 0 ∧ Holds f B) ∨ ∃ R u, setR n B = (.str "ring", intsV R) ∧ RingOk B R u := by
  unfold setR
  rcases go_ok hn w with ⟨s, e, h⟩ | ⟨s, x0, m, e, hl, r⟩
  · rw [e]; exact .inl ⟨_, rfl, by omega, h⟩
  · rw [e]; exact .inr ⟨_, _, rfl, r.ok hl⟩
theorem ring_prev {B : List Bond} {R : List Nat} {u : Nat → Nat} (h : RingOk B R u) {k : Nat} (hk : k < R.length) : ∃ (i : Nat) (b : Bond), atI (intsV R) (0 + (k : Int) - 1) = some (.int (i : Int)) ∧ B[i]? = some b ∧ b.y = u k := by
  by_cases c : k = 0
  · subst c
    have e : R[R.length - 1]? = some R[R.length - 1] := List.getElem?_eq_getElem (by omega)
    obtain ⟨b, g1, g2, g3⟩ := h.bond _ _ e
    refine ⟨_, b, ?_, g1, ?_⟩
    · unfold atI
      have : ixN (intsV R).length (0 + ((0 : Nat) : Int) - 1) = some (R.length - 1) := by
        rw [intsV_len]
        unfold ixN
        rw [if_neg (by omega), if_pos (by omega)]
        congr 1
        omega
      rw [this]
      exact intsV_get e
    · rw [g3, show R.length - 1 + 1 = R.length by omega]
      exact h.back
  · have e : R[k - 1]? = some R[k - 1] := List.getElem?_eq_getElem (by omega)
    obtain ⟨b, g1, g2, g3⟩ := h.bond _ _ e
    refine ⟨_, b, ?_, g1, ?_⟩
    · rw [show 0 + (k : Int) - 1 = ((k - 1 : Nat) : Int) by omega]
      exact atI_nat (intsV_get e)
    · rw [g3, show k - 1 + 1 = k by omega]
theorem BsIs.get {H : Hp} {vs : List V} {B : List Bond} (h : BsIs H vs B) {i : Nat} {b : Bond} (hb : B[i]? = some b) : ∃ t, atI vs (i : Int) = some (.ref t) ∧ H t = some (.tup [.int (b.x : Int), .int (b.y : Int), .int b.c]) := by
  have hi : i < vs.length := by rw [h.1]; exact (List.getElem?_eq_some_iff.mp hb).1
  obtain ⟨t, e, ht⟩ := h.2 i vs[i] b (List.getElem?_eq_getElem hi) hb
  exact ⟨t, (atI_nat (List.getElem?_eq_getElem hi)).trans (by rw [e]), ht⟩
theorem vl_succ (i : Nat) (f : Nat → Int) : vl (i + 1) f = vl i f ++ [.int (f i)] := by unfold vl rl; rw [List.range_succ, List.map_append]; rfl
theorem nodup_take {R : List Nat} (h : R.Nodup) {i : Nat} (hi : i < R.length) : R[i] ∉ R.take i := fun z => by
  obtain ⟨k, hk, e⟩ := List.mem_iff_getElem.mp z
  rw [List.length_take] at hk
  rw [List.getElem_take] at e
  have := List.pairwise_iff_getElem.mp (List.nodup_iff_pairwise_ne.mp h) k i (by omega) hi (by omega)
  exact this e
noncomputable def bondT (b : Bond) : Tr := .tup [.v (.int (b.x : Int)), .v (.int (b.y : Int)), .v (.int b.c)]
theorem BsIs.tr {K : PySem.W.Frag} {H : Hp} : ∀ {vs : List V} {B : List Bond}, BsIs H vs B → TrsIs K H vs (B.map bondT)
  | [], [], _ => .nil
  | [], _ :: _, h => by have := h.1; cases this
  | _ :: _, [], h => by have := h.1; cases this
  | v :: vs, b :: B, h => by
    obtain ⟨t, rfl, ht⟩ := h.2 0 v b rfl rfl
    exact .cons (.tup (SqT.of ht) (.cons (.flat rfl) (.cons (.flat rfl) (.cons (.flat rfl) .nil)))) (BsIs.tr (vs := vs) (B := B) ⟨by have := h.1; simpa using this, fun i v' b' x y => h.2 (i + 1) v' b' (by simpa using x) (by simpa using y)⟩)
theorem bonds_dep : ∀ B : List Bond, depTs (B.map bondT) ≤ 1
  | [] => by simp [depTs]
  | b :: B => by
    have := bonds_dep B
    rw [List.map_cons, depTs]
    have e : depT (bondT b) = 1 := rfl
    rw [e]
    omega
theorem BsIs.app {H : Hp} {vs ws : List V} {B C : List Bond} (h : BsIs H vs B) (g : BsIs H ws C) : BsIs H (vs ++ ws) (B ++ C) := by
  refine ⟨by rw [List.length_append, List.length_append, h.1, g.1], fun i x c hx hc => ?_⟩
  by_cases hi : i < vs.length
  · rw [List.getElem?_append_left hi] at hx
    rw [List.getElem?_append_left (by rw [← h.1]; exact hi)] at hc
    exact h.2 i x c hx hc
  · rw [List.getElem?_append_right (by omega)] at hx
    rw [List.getElem?_append_right (by rw [← h.1]; omega), ← h.1] at hc
    exact g.2 _ x c hx hc
theorem WF.app {n : Nat} {B C : List Bond} (h : WF n B) (g : WF n C) : WF n (B ++ C) := fun b hb => by
  rcases List.mem_append.mp hb with hb | hb
  · exact h b hb
  · exact g b hb
theorem WF.one {n : Nat} {b : Bond} (hx : b.x < n) (hy : b.y < n) : WF n [b] := fun c hc => by rw [List.mem_singleton] at hc; subst hc; exact ⟨hx, hy⟩
theorem BsIs.one {H : Hp} {v : V} {b : Bond} (h : BondAt H v b) : BsIs H [v] [b] := BsIs.snoc (vs := []) (B := []) ⟨rfl, fun i v b z => by simp at z⟩ h
theorem vl_map (n : Nat) (f : Nat → Int) : vl n f = ((List.range n).map f).map V.int := by unfold vl rl; rw [List.map_map]; rfl
noncomputable def spLower : Sp := fun vs H Q _ => ∃ (b v l : Addr) (B : List Bond) (n : Nat) (s : Sv), vs = [.ref b, .ref v, .ref l] ∧ b ≠ v ∧ b ≠ l ∧ v ≠ l ∧ BondsAt H b B ∧ WF n B ∧ H v = some (.lst (vl n s.v)) ∧ H l = some (.lst (pl n s.p)) ∧
  ∀ H', Fr2 H H' v l → H' v = some (.lst (vl n (round B s).v)) → H' l = some (.lst (pl n (round B s).p)) → Q (optV (round B s).low) H'
noncomputable def spRing : Sp := fun vs H Q _ => ∃ (n : Nat) (b l : Addr) (B : List Bond) (s : Sv) (x0 m : Nat), vs = [.int (n : Int), .ref b, .ref l, .int (x0 : Int)] ∧ BondsAt H b B ∧ B.length ≤ 1000 ∧ n ≤ 1000 ∧ H l = some (.lst (pl n s.p)) ∧ s.low = some x0 ∧ Ring n B s.p x0 m ∧ WF n B ∧
  ∀ (r : Addr) (H' : Hp), Same H H' → H r = none → H' r = some (.lst (intsV (ringOf n B s))) → Q (.ref r) H'
noncomputable def spSettled : Sp := fun vs H Q _ => ∃ (n : Nat) (b : Addr) (B : List Bond), vs = [.int (n : Int), .ref b] ∧ BondsAt H b B ∧ WF n B ∧ 0 < n ∧ n ≤ 1000 ∧ B.length ≤ 1000 ∧
  ∀ (t l : Addr) (H' : Hp), Same H H' → H l = none → H' t = some (.tup [(setR n B).1, .ref l]) → H' l = some (.lst (setR n B).2) → Q (.ref t) H'
noncomputable def spCellA (K : PySem.W.Frag) : Sp := fun vs H Q _ => ∃ (p : Addr) (ns : List Int) (k : Int), vs = [.ref p, .int k] ∧ SqL K H p (ns.map V.int) ∧ 0 ≤ k ∧ k ≤ 1000000 ∧ ∀ i : Int, Q (.int i) H
noncomputable def spMixed : Sp := fun vs H Q _ => ∃ (c : Int), vs = [.int c] ∧ ∀ i : Int, 0 ≤ i → i < 2147483629 → Q (.int i) H
noncomputable def spHeights : Sp := fun vs H Q _ => ∃ (c sp : Int) (n : Nat), vs = [.int c, .int (n : Int), .int sp] ∧ n ≤ 1000 ∧ 0 ≤ sp ∧ ∀ (r : Addr) (H' : Hp) (f : Nat → Int), Same H H' → H' r = some (.lst (vl n f)) → Q (.ref r) H'
noncomputable def spCells (K : PySem.W.Frag) : Sp := fun vs H Q _ => ∃ (p : Addr) (ns : List Int) (m : Int), vs = [.ref p, .int m] ∧ SqL K H p (ns.map V.int) ∧ 0 ≤ m ∧ m ≤ 1000 ∧ ∀ (r : Addr) (H' : Hp) (cs : List Int), Same H H' → (cs.length : Int) ≤ m → H' r = some (.lst (cs.map V.int)) → Q (.ref r) H'
noncomputable def spHold : Sp := fun vs H Q _ => ∃ (v b : Addr) (n : Nat) (f : Nat → Int) (B : List Bond), vs = [.ref v, .int (n : Int), .ref b] ∧ H v = some (.lst (vl n f)) ∧ 0 < n ∧ BondsAt H b B ∧ WF n B ∧ f 0 = 0 ∧ Holds f B ∧ Q (.bl true) H
noncomputable def spFalls : Sp := fun vs H Q _ => ∃ (r b : Addr) (R : List Nat) (u : Nat → Nat) (B : List Bond), vs = [.ref r, .ref b] ∧ H r = some (.lst (intsV R)) ∧ BondsAt H b B ∧ RingOk B R u ∧ R.length ≤ 1000 ∧ ∀ H', Same H H' → Q (.bl true) H'
end L2

set_option Elab.async false
set_option linter.all false
set_option maxRecDepth 100000
set_option maxHeartbeats 4000000
namespace Bd
structure Lt where
  L : Nat → Option Int
  q : Nat → Option Nat
  ch : Bool
noncomputable def lower (o : Option Int) (l : Int) : Bool := match o with
  | none => true
  | some k => decide (l < k)
noncomputable def short1 (i : Nat) (b : Bond) (s : Lt) : Lt := match s.L b.y with
  | none => s
  | some l => if lower (s.L b.x) (l + b.c) = true then ⟨upF s.L b.x (some (l + b.c)), upF s.q b.x (some i), true⟩ else s
noncomputable def srnd (B : List Bond) : Nat → Lt → Lt
  | 0, s => s
  | k + 1, s => match B[k]? with
    | some b => short1 k b (srnd B k s)
    | none => srnd B k s
noncomputable def sround (B : List Bond) (s : Lt) : Lt := srnd B B.length { s with ch := false }
noncomputable def lt0 (y : Nat) : Lt := ⟨upF (fun _ => none) y (some 0), fun _ => none, true⟩
noncomputable def Sx (B : List Bond) (y : Nat) : Nat → Lt
  | 0 => lt0 y
  | k + 1 => sround B (Sx B y k)
structure Ji (n : Nat) (B : List Bond) (y : Nat) (f : Nat → Int) (s : Lt) : Prop where
  lo : ∀ v l, s.L v = some l → f v - f y ≤ l
  at0 : s.L y = some 0
  no : s.q y = none
  par : ∀ x i, s.q x = some i → ∃ b lx ly, B[i]? = some b ∧ b.x = x ∧ s.L x = some lx ∧ s.L b.y = some ly ∧ ly + b.c ≤ lx
  has : ∀ x l, s.L x = some l → x = y ∨ ∃ i, s.q x = some i
  lt : ∀ x l, s.L x = some l → x < n
  free : ∀ k x, Alive B s.q (k + 1) x → it B s.q (k + 1) x ≠ x
theorem walk_sum {B : List Bond} {q : Nat → Option Nat} {f : Nat → Int} (h : Holds f B) (par : ∀ x i, q x = some i → ∃ b, B[i]? = some b ∧ b.x = x) : ∀ k x, Alive B q k x → f x - f (it B q k x) ≤ sm B q k x
  | 0, x, _ => by simp [it, sm]
  | k + 1, x, ha => by
    obtain ⟨i, hi⟩ := ha 0 (by omega)
    change q x = some i at hi
    obtain ⟨b, g1, g2⟩ := par x i hi
    have := walk_sum h par k _ ha.tail
    have hb := h b (List.mem_of_getElem? g1)
    simp only [it, sm]
    rw [pb_of hi g1] at this ⊢
    rw [g2] at hb
    omega
theorem Ji.step {n : Nat} {B : List Bond} {y : Nat} {f : Nat → Int} {s : Lt} (h : Ji n B y f s) (hf : Holds f B) (hw : WF n B) {i : Nat} {b : Bond} (hb : B[i]? = some b) : Ji n B y f (short1 i b s) := by
  unfold short1
  cases hy : s.L b.y with
  | none => exact h
  | some l =>
    simp only []
    by_cases c : lower (s.L b.x) (l + b.c) = true
    · rw [if_pos c]
      have hfb := hf b (List.mem_of_getElem? hb)
      have hl := h.lo _ _ hy
      have nx : b.x ≠ y := fun e => by
        rw [e, h.at0] at c
        have := of_decide_eq_true c
        rw [e] at hfb
        omega
      have hle : ∀ v lv, s.L v = some lv → ∃ lv', upF s.L b.x (some (l + b.c)) v = some lv' ∧ lv' ≤ lv := fun v lv e => by
        by_cases ev : v = b.x
        · subst ev
          rw [upF_same]
          rw [e] at c
          exact ⟨_, rfl, by have := of_decide_eq_true c; omega⟩
        · rw [upF_ne ev]
          exact ⟨lv, e, Int.le_refl _⟩
      have nxy : s.L b.x = none → b.x ≠ b.y := fun e1 e2 => by rw [e2, hy] at e1; cases e1
      refine ⟨fun v lv e => ?_, ?_, ?_, fun x j e => ?_, fun x lx e => ?_, fun x lx e => ?_, fun k x ha e => ?_⟩
      · by_cases ev : v = b.x
        · subst ev
          simp only [] at e
          rw [upF_same] at e
          cases e
          omega
        · simp only [] at e
          rw [upF_ne ev] at e
          exact h.lo v lv e
      · simp only []; rw [upF_ne (Ne.symm nx)]; exact h.at0
      · simp only []; rw [upF_ne (Ne.symm nx)]; exact h.no
      · simp only [] at e ⊢
        by_cases ex : x = b.x
        · subst ex
          rw [upF_same] at e
          cases e
          obtain ⟨ly', g1, g2⟩ := hle _ _ hy
          exact ⟨b, _, ly', hb, rfl, upF_same, g1, by omega⟩
        · rw [upF_ne ex] at e
          obtain ⟨b', lx, ly, g1, g2, g3, g4, g5⟩ := h.par x j e
          obtain ⟨ly', k1, k2⟩ := hle _ _ g4
          exact ⟨b', lx, ly', g1, g2, by rw [upF_ne ex]; exact g3, k1, by omega⟩
      · simp only [] at e ⊢
        by_cases ex : x = b.x
        · exact .inr ⟨i, by rw [ex]; exact upF_same⟩
        · rw [upF_ne ex] at e ⊢
          exact h.has x lx e
      · simp only [] at e
        by_cases ex : x = b.x
        · rw [ex]; exact (hw b (List.mem_of_getElem? hb)).1
        · rw [upF_ne ex] at e
          exact h.lt x lx e
      · simp only [] at ha e
        -- values to compare with
        have key : ∃ v : Nat → Int, v b.x > v b.y + b.c ∧ ∀ x i, s.q x = some i → ∃ b, B[i]? = some b ∧ b.x = x ∧ v b.y + b.c ≤ v x := by
          cases hx : s.L b.x with
          | none =>
            refine ⟨upF (fun v => (s.L v).getD 0) b.x (l + b.c + 1), ?_, fun x j e => ?_⟩
            · rw [upF_same, upF_ne (Ne.symm (nxy hx)), hy]
              show l + b.c + 1 > l + b.c
              omega
            · obtain ⟨b', lx, ly, g1, g2, g3, g4, g5⟩ := h.par x j e
              have n1 : x ≠ b.x := fun z => by rw [z, hx] at g3; cases g3
              have n2 : b'.y ≠ b.x := fun z => by rw [z, hx] at g4; cases g4
              refine ⟨b', g1, g2, ?_⟩
              rw [upF_ne n1, upF_ne n2, g3, g4]
              exact g5
          | some lx =>
            refine ⟨fun v => (s.L v).getD 0, ?_, fun x j e => ?_⟩
            · simp only [hx, hy, Option.getD_some]
              rw [hx] at c
              have := of_decide_eq_true c
              omega
            · obtain ⟨b', lx, ly, g1, g2, g3, g4, g5⟩ := h.par x j e
              refine ⟨b', g1, g2, ?_⟩
              simp only [g3, g4, Option.getD_some]
              exact g5
        obtain ⟨v, hlt, hpar⟩ := key
        have := step_walk hb hlt hpar (k + 1) x ha
        rw [e] at this
        obtain ⟨_, ⟨g1, g2, g3⟩ | g⟩ := this
        · exact h.free k x g3 g1.symm
        · have hs := walk_sum hf (q := upF s.q b.x (some i)) (fun x j e => by
            by_cases ex : x = b.x
            · subst ex
              rw [upF_same] at e
              cases e
              exact ⟨b, hb, rfl⟩
            · rw [upF_ne ex] at e
              obtain ⟨b', lx, ly, g1, g2, _⟩ := h.par x j e
              exact ⟨b', g1, g2⟩) (k + 1) x ha
          rw [e] at hs
          omega
    · rw [if_neg c]; exact h
theorem Ji.ch {n : Nat} {B : List Bond} {y : Nat} {f : Nat → Int} {s : Lt} (h : Ji n B y f s) (c : Bool) : Ji n B y f { s with ch := c } := ⟨h.lo, h.at0, h.no, h.par, h.has, h.lt, h.free⟩
theorem Ji.srnd {n : Nat} {B : List Bond} {y : Nat} {f : Nat → Int} {s : Lt} (h : Ji n B y f s) (hf : Holds f B) (hw : WF n B) : ∀ k, Ji n B y f (Bd.srnd B k s)
  | 0 => h
  | k + 1 => by
    unfold Bd.srnd
    cases e : B[k]? with
    | none => exact Ji.srnd h hf hw k
    | some b => exact (Ji.srnd h hf hw k).step hf hw e
theorem lt0_L {y v : Nat} {l : Int} (e : (lt0 y).L v = some l) : v = y ∧ l = 0 := by
  unfold lt0 at e
  by_cases ev : v = y
  · subst ev
    simp only [] at e
    rw [upF_same] at e
    cases e
    exact ⟨rfl, rfl⟩
  · simp only [] at e
    rw [upF_ne ev] at e
    cases e
theorem Ji.start {n : Nat} {B : List Bond} {y : Nat} {f : Nat → Int} (hy : y < n) : Ji n B y f (lt0 y) := by
  refine ⟨fun v l e => ?_, (by unfold lt0; simp only []; exact upF_same), rfl, fun x i e => ?_, fun x l e => ?_, fun x l e => ?_, fun k x ha => ?_⟩
  · obtain ⟨rfl, rfl⟩ := lt0_L e; omega
  · cases e
  · exact .inl (lt0_L e).1
  · rw [(lt0_L e).1]; exact hy
  · obtain ⟨i, hi⟩ := ha 0 (by omega); cases hi
theorem Ji.all {n : Nat} {B : List Bond} {y : Nat} {f : Nat → Int} (hy : y < n) (hf : Holds f B) (hw : WF n B) : ∀ k, Ji n B y f (Sx B y k)
  | 0 => Ji.start hy
  | k + 1 => ((Ji.all hy hf hw k).ch false).srnd hf hw _
noncomputable def sumN (g : Nat → Nat) : Nat → Nat
  | 0 => 0
  | n + 1 => sumN g n + g n
theorem sumN_le {g g' : Nat → Nat} (h : ∀ v, g' v ≤ g v) : ∀ n, sumN g' n ≤ sumN g n
  | 0 => Nat.le_refl _
  | n + 1 => Nat.add_le_add (sumN_le h n) (h n)
theorem sumN_lt {g g' : Nat → Nat} (h : ∀ v, g' v ≤ g v) {x : Nat} (hx : g' x < g x) : ∀ n, x < n → sumN g' n < sumN g n
  | 0, z => by omega
  | n + 1, z => by
    by_cases c : x = n
    · subst c
      exact Nat.add_lt_add_of_le_of_lt (sumN_le h x) hx
    · exact Nat.add_lt_add_of_lt_of_le (sumN_lt h hx n (by omega)) (h n)
noncomputable def g1 (s : Lt) (v : Nat) : Nat := match s.L v with
  | none => 1
  | some _ => 0
noncomputable def g2 (f : Nat → Int) (y : Nat) (s : Lt) (v : Nat) : Nat := match s.L v with
  | none => 0
  | some l => (l - (f v - f y)).toNat
noncomputable def Dn (n : Nat) (f : Nat → Int) (y : Nat) (s' s : Lt) : Prop := sumN (g1 s') n < sumN (g1 s) n ∨ (sumN (g1 s') n = sumN (g1 s) n ∧ sumN (g2 f y s') n < sumN (g2 f y s) n)
theorem Dn.trans {n : Nat} {f : Nat → Int} {y : Nat} {a b c : Lt} (h : Dn n f y a b) (g : Dn n f y b c) : Dn n f y a c := by
  unfold Dn at *
  omega
theorem short_dn {n : Nat} {B : List Bond} {y : Nat} {f : Nat → Int} {s : Lt} (h : Ji n B y f s) (hf : Holds f B) (hw : WF n B) {i : Nat} {b : Bond} (hb : B[i]? = some b) : short1 i b s = s ∨ ((short1 i b s).ch = true ∧ Dn n f y (short1 i b s) s) := by
  have hj := h.step hf hw hb
  have hbx := (hw b (List.mem_of_getElem? hb)).1
  unfold short1 at hj ⊢
  cases hy : s.L b.y with
  | none => exact .inl rfl
  | some l =>
    rw [hy] at hj
    simp only [] at hj ⊢
    by_cases c : lower (s.L b.x) (l + b.c) = true
    · rw [if_pos c] at hj ⊢
      refine .inr ⟨rfl, ?_⟩
      have hlo := hj.lo b.x _ upF_same
      cases hx : s.L b.x with
      | none =>
        left
        refine sumN_lt (fun v => ?_) (x := b.x) ?_ n hbx
        · unfold g1
          by_cases ev : v = b.x
          · subst ev; simp only [upF_same]; omega
          · simp only [upF_ne ev]; exact Nat.le_refl _
        · unfold g1
          simp only [upF_same, hx]
          omega
      | some lx =>
        right
        rw [hx] at c
        have c := of_decide_eq_true c
        constructor
        · congr 1
          funext v
          unfold g1
          by_cases ev : v = b.x
          · subst ev; simp only [upF_same, hx]
          · simp only [upF_ne ev]
        · refine sumN_lt (fun v => ?_) (x := b.x) ?_ n hbx
          · unfold g2
            by_cases ev : v = b.x
            · subst ev; simp only [upF_same, hx]; omega
            · simp only [upF_ne ev]; exact Nat.le_refl _
          · unfold g2
            simp only [upF_same, hx]
            omega
    · rw [if_neg c]; exact .inl rfl
theorem srnd_dn {n : Nat} {B : List Bond} {y : Nat} {f : Nat → Int} {s : Lt} (h : Ji n B y f s) (hf : Holds f B) (hw : WF n B) (hc : s.ch = false) : ∀ k, (Bd.srnd B k s = s ∧ ∀ j < k, ∀ b, B[j]? = some b → short1 j b s = s) ∨ ((Bd.srnd B k s).ch = true ∧ Dn n f y (Bd.srnd B k s) s)
  | 0 => .inl ⟨rfl, fun j hj => by omega⟩
  | k + 1 => by
    have hk := h.srnd hf hw k
    rcases srnd_dn h hf hw hc k with ⟨ih, is⟩ | ⟨ih, id⟩
    · unfold Bd.srnd
      rw [ih]
      cases e : B[k]? with
      | none =>
        refine .inl ⟨rfl, fun j hj b hb => ?_⟩
        by_cases z : j = k
        · subst z; rw [e] at hb; cases hb
        · exact is j (by omega) b hb
      | some b =>
        simp only []
        rcases short_dn h hf hw e with g | g
        · refine .inl ⟨g, fun j hj b' hb' => ?_⟩
          by_cases z : j = k
          · subst z; rw [e] at hb'; cases hb'; exact g
          · exact is j (by omega) b' hb'
        · exact .inr g
    · unfold Bd.srnd
      cases e : B[k]? with
      | none => exact .inr ⟨ih, id⟩
      | some b =>
        simp only []
        rcases short_dn hk hf hw e with g | ⟨g, gd⟩
        · rw [g]; exact .inr ⟨ih, id⟩
        · exact .inr ⟨g, gd.trans id⟩
theorem ends_aux {n : Nat} {B : List Bond} {y : Nat} {f : Nat → Int} (hy : y < n) (hf : Holds f B) (hw : WF n B) : ∀ (p q k : Nat), sumN (g1 (Sx B y k)) n = p → sumN (g2 f y (Sx B y k)) n = q → ∃ K, (Sx B y K).ch = false := by
  intro p
  induction p using Nat.strongRecOn with
  | ind p ihp =>
    intro q
    induction q using Nat.strongRecOn with
    | ind q ihq =>
      intro k hp hq
      rcases srnd_dn ((Ji.all hy hf hw k).ch false) hf hw rfl B.length with ⟨e, _⟩ | ⟨_, d⟩
      · exact ⟨k + 1, by show (Bd.srnd B B.length _).ch = false; rw [e]⟩
      · change Dn n f y (Sx B y (k + 1)) { Sx B y k with ch := false } at d
        have d : Dn n f y (Sx B y (k + 1)) (Sx B y k) := d
        rcases d with d | ⟨d1, d2⟩
        · exact ihp _ (by omega) _ (k + 1) rfl rfl
        · exact ihq _ (by omega) (k + 1) (by omega) rfl
theorem ends {n : Nat} {B : List Bond} {y : Nat} {f : Nat → Int} (hy : y < n) (hf : Holds f B) (hw : WF n B) : ∃ K, (Sx B y K).ch = false ∧ ∀ k < K, (Sx B y k).ch = true := by
  obtain ⟨K, hK⟩ := ends_aux hy hf hw _ _ 0 rfl rfl
  obtain ⟨m, _, h1, h2⟩ := least (P := fun k => (Sx B y k).ch = false) K hK
  exact ⟨m, h1, fun k hk => by have := h2 k hk; simpa using this⟩
noncomputable def Stable (B : List Bond) (s : Lt) : Prop := ∀ b ∈ B, ∀ l, s.L b.y = some l → ∃ lx, s.L b.x = some lx ∧ lx ≤ l + b.c
theorem stable {n : Nat} {B : List Bond} {y : Nat} {f : Nat → Int} (hy : y < n) (hf : Holds f B) (hw : WF n B) {K : Nat} (hK : (Sx B y K).ch = false) : Stable B (Sx B y K) := by
  cases K with
  | zero => cases hK
  | succ k =>
    rcases srnd_dn ((Ji.all hy hf hw k).ch false) hf hw rfl B.length with ⟨e, h⟩ | ⟨e, _⟩
    · intro b hb l hl
      obtain ⟨j, hj, rfl⟩ := List.mem_iff_getElem.mp hb
      have hs := h j hj _ (List.getElem?_eq_getElem hj)
      change Bd.srnd B B.length { Sx B y k with ch := false } = _ at e
      have e' : Sx B y (k + 1) = { Sx B y k with ch := false } := e
      rw [e'] at hl ⊢
      generalize ({ Sx B y k with ch := false } : Lt) = s at hs hl
      have hsc : s.ch = (short1 j B[j] s).ch := by rw [hs]
      unfold short1 at hs
      rw [hl] at hs
      simp only [] at hs
      cases hx : s.L B[j].x with
      | none =>
        rw [hx] at hs
        have h1 : lower none (l + B[j].c) = true := rfl
        rw [if_pos h1] at hs
        have := congrArg (fun s : Lt => s.L B[j].x) hs
        simp only [upF_same] at this
        rw [hx] at this
        cases this
      | some lx =>
        refine ⟨lx, rfl, ?_⟩
        rw [hx] at hs
        by_cases c : l + B[j].c < lx
        · have h1 : lower (some lx) (l + B[j].c) = true := decide_eq_true c
          rw [if_pos h1] at hs
          have := congrArg (fun s : Lt => s.L B[j].x) hs
          simp only [upF_same] at this
          rw [hx] at this
          have := Option.some.inj this
          omega
        · omega
    · change (Sx B y (k + 1)).ch = true at e
      rw [e] at hK
      cases hK
structure Chain (n : Nat) (B : List Bond) (y : Nat) (s : Lt) (x m : Nat) : Prop where
  alive : ∀ k < m, it B s.q k x ≠ y ∧ ∃ i b, s.q (it B s.q k x) = some i ∧ B[i]? = some b ∧ b.x = it B s.q k x
  at' : it B s.q m x = y
  le : m ≤ n
  lt : ∀ k ≤ m, it B s.q k x < n
  sum : s.L x = some (sm B s.q m x)
theorem chain_ex {n : Nat} {B : List Bond} {y : Nat} {f : Nat → Int} {s : Lt} (h : Ji n B y f s) (st : Stable B s) {x l : Nat} (hx : s.q x = some l) : ∃ m, 0 < m ∧ Chain n B y s x m := by
  have hL : ∀ k, (∀ j < k, it B s.q j x ≠ y) → ∃ lx, s.L (it B s.q k x) = some lx := by
    intro k
    induction k with
    | zero => intro _; obtain ⟨_, lx, _, _, _, g, _⟩ := h.par x l hx; exact ⟨lx, g⟩
    | succ k ih =>
      intro hj
      obtain ⟨lx, hlx⟩ := ih fun j hj' => hj j (by omega)
      rcases h.has _ _ hlx with e | ⟨i, hi⟩
      · exact absurd e (hj k (by omega))
      · obtain ⟨b, lx', ly, g1, g2, g3, g4, g5⟩ := h.par _ _ hi
        rw [it_succ, pb_of hi g1]
        exact ⟨ly, g4⟩
  have hal : ∀ k, (∀ j < k, it B s.q j x ≠ y) → Alive B s.q k x := fun k hk j hj => by
    obtain ⟨lx, hlx⟩ := hL j fun i hi => hk i (by omega)
    rcases h.has _ _ hlx with e | g
    · exact absurd e (hk j hj)
    · exact g
  have hex : ∃ m, m ≤ n ∧ it B s.q m x = y := by
    apply Classical.byContradiction
    intro c
    have hne : ∀ j, j ≤ n → it B s.q j x ≠ y := fun j hj e => c ⟨j, hj, e⟩
    obtain ⟨i, j, hij, hj, e⟩ := pigeon (n := n) (u := fun k => it B s.q k x) fun i hi => by
      obtain ⟨lx, hlx⟩ := hL i fun j hj => hne j (by omega)
      exact h.lt _ _ hlx
    change it B s.q i x = it B s.q j x at e
    have ha := hal j fun k hk => hne k (by omega)
    refine h.free (j - i - 1) (it B s.q i x) (fun k hk => ?_) ?_
    · rw [← it_add]
      exact ha _ (by omega)
    · rw [← it_add, show i + (j - i - 1 + 1) = j by omega]
      exact e.symm
  obtain ⟨m0, hm0, em0⟩ := hex
  obtain ⟨m, hm, em, hl⟩ := least (P := fun m => it B s.q m x = y) m0 em0
  have hne : ∀ k < m, it B s.q k x ≠ y := fun k hk => hl k hk
  have hpos : 0 < m := by
    cases m with
    | zero =>
      change x = y at em
      rw [em, h.no] at hx
      cases hx
    | succ m => omega
  refine ⟨m, hpos, fun k hk => ⟨hne k hk, ?_⟩, em, by omega, fun k hk => ?_, ?_⟩
  · obtain ⟨i, hi⟩ := hal m hne k hk
    obtain ⟨b, lx, ly, g1, g2, _⟩ := h.par _ _ hi
    exact ⟨i, b, hi, g1, g2⟩
  · obtain ⟨lx, hlx⟩ := hL k fun j hj => hne j (by omega)
    exact h.lt _ _ hlx
  · -- the sum
    have key : ∀ k, k ≤ m → ∀ lx, s.L x = some lx → ∃ lk, s.L (it B s.q k x) = some lk ∧ lx = sm B s.q k x + lk := by
      intro k
      induction k with
      | zero => intro _ lx e; exact ⟨lx, e, by show lx = 0 + lx; omega⟩
      | succ k ih =>
        intro hk lx e
        obtain ⟨lk, h1, h2⟩ := ih (by omega) lx e
        obtain ⟨i, hi⟩ := hal m hne k (by omega)
        obtain ⟨b, lx', ly, g1, g2, g3, g4, g5⟩ := h.par _ _ hi
        rw [h1] at g3
        cases g3
        obtain ⟨lx2, k1, k2⟩ := st b (List.mem_of_getElem? g1) ly g4
        rw [g2, h1] at k1
        cases k1
        rw [it_succ, sm_succ, pb_of hi g1]
        exact ⟨ly, g4, by omega⟩
    obtain ⟨_, lx, _, _, _, g, _⟩ := h.par x l hx
    obtain ⟨lk, h1, h2⟩ := key m (Nat.le_refl _) lx g
    rw [em, h.at0] at h1
    cases h1
    rw [g, h2]
    simp
theorem reach_ok {n : Nat} {B : List Bond} {y : Nat} {f : Nat → Int} {s : Lt} (h : Ji n B y f s) (hf : Holds f B) (st : Stable B s) {x : Nat} {c : Int} (hx : s.L x = some c) : ∃ f', Holds f' (B ++ [⟨y, x, -c⟩]) := by
  -- so much that nothing hangs on it
  have hbig : ∀ l : List Bond, ∃ M : Int, ∀ b ∈ l, ∀ lx, s.L b.x = some lx → lx - f b.y - b.c ≤ M := by
    intro l
    induction l with
    | nil => exact ⟨0, fun b hb => by cases hb⟩
    | cons b l ih =>
      obtain ⟨M, hM⟩ := ih
      refine ⟨max M (((s.L b.x).getD 0) - f b.y - b.c), fun b' hb' lx e => ?_⟩
      rcases List.mem_cons.mp hb' with rfl | hb'
      · rw [e]; simp only [Option.getD_some]; omega
      · have := hM b' hb' lx e; omega
  obtain ⟨M, hM⟩ := hbig B
  refine ⟨fun v => match s.L v with | some l => l | none => f v + M, fun b hb => ?_⟩
  rcases List.mem_append.mp hb with hb | hb
  · have hfb := hf b hb
    simp only []
    cases ey : s.L b.y with
    | some ly =>
      obtain ⟨lx, k1, k2⟩ := st b hb ly ey
      rw [k1]
      simp only []
      omega
    | none =>
      cases ex : s.L b.x with
      | some lx =>
        have := hM b hb lx ex
        simp only []
        omega
      | none =>
        simp only []
        omega
  · rw [List.mem_singleton] at hb
    subst hb
    simp only [hx, h.at0]
    omega
end Bd
namespace L2
open PySem PySem.Spec PyProof.Rows Bd
theorem if_thn {tt : TT} {ta tb : TS} {D : Ends} {σ : St} {H : Hp} (M : Hp → Prop) (ha : ∀ H', M H' → ta D σ H') (h : (∀ H', M H' → ta D σ H') → tIfS tt ta tb D σ H) : tIfS tt ta tb D σ H := h ha
theorem ints_of : ∀ {ns : List Int} {its : List Value}, Vals (ns.map V.int) its → IntsAre its ns
  | [], _, .nil => .nil
  | n :: ns, _, .cons ⟨t, h⟩ r => by subst h; exact .cons n t (ints_of r)
theorem call_sumI {X : Cx} (hc : X.calm = true) : CallR X (.builtin "sum") (fun xs H Q => ∃ (p : Addr) (ns : List Int), xs = [.ref p] ∧ SqL X.K H p (ns.map V.int) ∧ Q (.int ns.sum) H) := by
  intro pins s σ H xs us Q I r h
  obtain ⟨p, ns, rfl, hq, q⟩ := h
  obtain ⟨u, rfl, ru⟩ := vals1 r
  cases ru
  obtain ⟨its, rv, pl, hz⟩ := I.list hq
  have hi := ints_of rv
  obtain ⟨xs, ex⟩ := hi.allInts.items
  have hn : xs.toList.map (·.1) = ns := by rw [← nums_intItems, ← ex]; exact hi.numsOf
  have hl := pl.isList
  rw [ex] at hl
  refine sum_intListG (I.ok.hd hc) hl fun h' tk t' hk => ?_
  rw [preSum_eq, List.take_of_length_le (by simp), hn]
  exact ⟨.int ns.sum, H, I.kept (t' := tk) hk, ⟨_, rfl⟩, q⟩
noncomputable def oiV : Option Int → V
  | none => .non
  | some l => .int l
noncomputable def ol (n : Nat) (f : Nat → Option Int) : List V := rl n fun i => oiV (f i)
theorem ol_len (n : Nat) (f : Nat → Option Int) : (ol n f).length = n := rl_len _ _
theorem ol_at {n x : Nat} {f : Nat → Option Int} (h : x < n) : atI (ol n f) (x : Int) = some (oiV (f x)) := rl_at h
theorem ol_set {n x : Nat} {f : Nat → Option Int} {a : Int} : (ol n f).set x (.int a) = ol n (upF f x (some a)) := by
  unfold ol
  rw [rl_set]
  congr 1
  funext j
  unfold upF
  split <;> rfl
open Classical in
noncomputable def finK (B : List Bond) (y : Nat) : Nat := if h : ∃ K, (Sx B y K).ch = false ∧ ∀ k < K, (Sx B y k).ch = true then choose h else 0
theorem finK_ok {n : Nat} {B : List Bond} {y : Nat} {f : Nat → Int} (hy : y < n) (hf : Holds f B) (hw : WF n B) : (Sx B y (finK B y)).ch = false ∧ ∀ k < finK B y, (Sx B y k).ch = true := by
  have h := ends hy hf hw
  unfold finK
  rw [dif_pos h]
  exact Classical.choose_spec h
noncomputable def fin (B : List Bond) (y : Nat) : Lt := Sx B y (finK B y)
open Classical in
noncomputable def chm (n : Nat) (B : List Bond) (y x : Nat) : Nat := if h : ∃ m, 0 < m ∧ Chain n B y (fin B y) x m then choose h else 0
theorem chm_ok {n : Nat} {B : List Bond} {y : Nat} {f : Nat → Int} (hy : y < n) (hf : Holds f B) (hw : WF n B) {x l : Nat} (hx : (fin B y).q x = some l) : 0 < chm n B y x ∧ Chain n B y (fin B y) x (chm n B y x) := by
  have h : ∃ m, 0 < m ∧ Chain n B y (fin B y) x m := chain_ex (Ji.all hy hf hw (finK B y)) (stable hy hf hw (finK_ok hy hf hw).1) hx
  unfold chm
  rw [dif_pos h]
  exact Classical.choose_spec h
noncomputable def chainOf (n : Nat) (B : List Bond) (y x : Nat) : List Nat := ringL B (fin B y).q x (chm n B y x)
noncomputable def spShort : Sp := fun vs H Q _ => ∃ (b v l : Addr) (B : List Bond) (n : Nat) (s : Lt), vs = [.ref b, .ref v, .ref l] ∧ b ≠ v ∧ b ≠ l ∧ v ≠ l ∧ BondsAt H b B ∧ WF n B ∧ H v = some (.lst (ol n s.L)) ∧ H l = some (.lst (pl n s.q)) ∧
  ∀ H', Fr2 H H' v l → H' v = some (.lst (ol n (sround B s).L)) → H' l = some (.lst (pl n (sround B s).q)) → Q (.bl (sround B s).ch) H'
noncomputable def spChains : Sp := fun vs H Q _ => ∃ (n : Nat) (b : Addr) (B : List Bond) (y : Nat) (f : Nat → Int), vs = [.int (n : Int), .ref b, .int (y : Int)] ∧ BondsAt H b B ∧ WF n B ∧ n ≤ 1000 ∧ y < n ∧ Holds f B ∧
  ∀ (r : Addr) (H' : Hp), Same H H' → H' r = some (.lst (pl n (fin B y).q)) → Q (.ref r) H'
noncomputable def ChainAt (n : Nat) (B : List Bond) (y x : Nat) (H : Hp) (v : V) : Prop := ((fin B y).q x = none ∧ v = .non) ∨ ((∃ l, (fin B y).q x = some l) ∧ ∃ r, v = .ref r ∧ H r = some (.lst (intsV (chainOf n B y x))))
noncomputable def spChain : Sp := fun vs H Q _ => ∃ (n : Nat) (b : Addr) (B : List Bond) (x y : Nat) (f : Nat → Int), vs = [.int (n : Int), .ref b, .int (x : Int), .int (y : Int)] ∧ BondsAt H b B ∧ WF n B ∧ n ≤ 1000 ∧ B.length ≤ 1000 ∧ x < n ∧ y < n ∧ Holds f B ∧
  ∀ (v : V) (H' : Hp), Same H H' → ChainAt n B y x H' v → Q v H'
theorem setR_val {n : Nat} {B : List Bond} {f : Nat → Int} (hn : 0 < n) (w : WF n B) (hf : Holds f B) : ∃ g, setR n B = (.str "values", vl n g) ∧ g 0 = 0 ∧ Holds g B := by
  rcases setR_ok hn w with h | ⟨R, u, _, h⟩
  · exact h
  · exact (h.none hf).elim
theorem sumC_sum (B : List Bond) (R : List Nat) : (R.map fun i => (B.getD i bd0).c).sum = sumC B R := by
  induction R with
  | nil => rfl
  | cons i R ih => rw [List.map_cons, List.sum_cons, ih, sumC]
open Classical in
noncomputable def mostR (n : Nat) (B : List Bond) (x y : Nat) : Option (Int × List Nat × List V) :=
  if x = y then some (0, [], (setR n B).2) else if (fin B y).q x = none then none else
    some (sumC B (chainOf n B y x), chainOf n B y x, (setR n (B ++ [⟨y, x, -(sumC B (chainOf n B y x))⟩])).2)
noncomputable def MostAt (n : Nat) (B : List Bond) (x y : Nat) (H : Hp) (v : V) : Prop := match mostR n B x y with
  | none => v = .non
  | some (c, ch, vs) => ∃ t l1 l2, v = .ref t ∧ H t = some (.tup [.int c, .ref l1, .ref l2]) ∧ H l1 = some (.lst (intsV ch)) ∧ H l2 = some (.lst vs)
structure ChainOk (B : List Bond) (R : List Nat) (x y : Nat) (u : Nat → Nat) : Prop where
  bond : ∀ k i, R[k]? = some i → ∃ b, B[i]? = some b ∧ b.x = u k ∧ b.y = u (k + 1)
  fst : u 0 = x
  lst : u R.length = y
theorem chain_ok {n : Nat} {B : List Bond} {y : Nat} {f : Nat → Int} (hy : y < n) (hf : Holds f B) (hw : WF n B) {x l : Nat} (hx : (fin B y).q x = some l) : ∃ u, ChainOk B (chainOf n B y x) x y u ∧ (chainOf n B y x).length ≤ n ∧ (fin B y).L x = some (sumC B (chainOf n B y x)) := by
  obtain ⟨m0, hC⟩ := chm_ok hy hf hw hx
  unfold chainOf
  generalize chm n B y x = m at hC m0
  have hlen : (ringL B (fin B y).q x m).length = m := by unfold ringL; rw [List.length_map, List.length_range]
  refine ⟨fun k => it B (fin B y).q k x, ⟨fun k i hk => ?_, rfl, ?_⟩, by rw [hlen]; exact hC.le, ?_⟩
  · unfold ringL at hk
    rw [List.getElem?_map] at hk
    have hlt : k < m := by
      cases c : (List.range m)[k]? with
      | none => rw [c] at hk; cases hk
      | some z => have := (List.getElem?_eq_some_iff.mp c).1; simpa using this
    rw [List.getElem?_range hlt] at hk
    obtain ⟨_, i1, b1, g1, g2, g3⟩ := hC.alive k hlt
    simp only [Option.map_some, g1, Option.getD_some, Option.some.injEq] at hk
    subst hk
    refine ⟨b1, g2, g3, ?_⟩
    show b1.y = it B (fin B y).q (k + 1) x
    rw [it_succ, pb_of g1 g2]
  · rw [hlen]; exact hC.at'
  · rw [hC.sum]
    congr 1
    have : ∀ k, k ≤ m → sumC B (ringL B (fin B y).q x k) = sm B (fin B y).q k x := by
      intro k
      induction k with
      | zero => intro _; rfl
      | succ k ih =>
        intro hk
        obtain ⟨_, i1, b1, g1, g2, g3⟩ := hC.alive k (by omega)
        unfold ringL at ih ⊢
        rw [List.range_succ, List.map_append, sumC_app, ih (by omega), sm_succ, pb_of g1 g2]
        show _ + (sumC B [((fin B y).q (it B (fin B y).q k x)).getD 0]) = _
        rw [g1]
        show _ + ((B.getD i1 bd0).c + 0) = _
        rw [List.getD_eq_getElem?_getD, g2]
        simp
    exact (this m (Nat.le_refl _)).symm
theorem ChainOk.sum {B : List Bond} {R : List Nat} {x y : Nat} {u : Nat → Nat} (h : ChainOk B R x y u) {f : Nat → Int} (hf : Holds f B) : f x - f y ≤ sumC B R := by
  have := RingOk.sum hf h.bond R.length (Nat.le_refl _)
  rw [List.take_length, h.fst, h.lst] at this
  exact this
theorem mostR_ok {n : Nat} {B : List Bond} {x y : Nat} {f : Nat → Int} (hx : x < n) (hy : y < n) (hf : Holds f B) (hw : WF n B) :
    (mostR n B x y = none ∧ x ≠ y ∧ (fin B y).q x = none) ∨ ∃ c R g u, mostR n B x y = some (c, R, vl n g) ∧ g 0 = 0 ∧ Holds g B ∧ g x - g y = c ∧ ChainOk B R x y u ∧ sumC B R = c ∧ R.length ≤ n ∧ (x = y → R = []) ∧ (x = y ∨ ∃ l, (fin B y).q x = some l) := by
  have n0 : 0 < n := by omega
  unfold mostR
  by_cases c : x = y
  · subst c
    rw [if_pos rfl]
    obtain ⟨g, eg, g0, hg⟩ := setR_val n0 hw hf
    refine .inr ⟨0, [], g, fun _ => x, by rw [eg], g0, hg, by omega, ⟨fun k i z => by simp at z, rfl, rfl⟩, rfl, Nat.zero_le _, fun _ => rfl, .inl rfl⟩
  · rw [if_neg c]
    cases hq : (fin B y).q x with
    | none => rw [if_pos rfl]; exact .inl ⟨rfl, c, rfl⟩
    | some l =>
      rw [if_neg (by intro z; cases z)]
      obtain ⟨u, hC, hl, hL⟩ := chain_ok hy hf hw hq
      obtain ⟨f', hf'⟩ := reach_ok (Ji.all hy hf hw (finK B y)) hf (stable hy hf hw (finK_ok hy hf hw).1) hL
      have hw' : WF n (B ++ [⟨y, x, -(sumC B (chainOf n B y x))⟩]) := WF.app hw (WF.one hy hx)
      obtain ⟨g, eg, g0, hg⟩ := setR_val n0 hw' hf'
      have hgB : Holds g B := fun b hb => hg b (List.mem_append_left _ hb)
      have h1 := hg _ (List.mem_append_right _ (List.mem_singleton.mpr rfl))
      have h2 := hC.sum hgB
      refine .inr ⟨_, _, g, u, by rw [eg], g0, hgB, ?_, hC, rfl, hl, fun z => absurd z c, .inr ⟨l, rfl⟩⟩
      simp only [] at h1
      omega
noncomputable def spMost : Sp := fun vs H Q _ => ∃ (n : Nat) (b : Addr) (B : List Bond) (x y : Nat) (f : Nat → Int), vs = [.int (n : Int), .ref b, .int (x : Int), .int (y : Int)] ∧ BondsAt H b B ∧ WF n B ∧ n ≤ 1000 ∧ B.length ≤ 900 ∧ x < n ∧ y < n ∧ Holds f B ∧
  ∀ (v : V) (H' : Hp), Same H H' → MostAt n B x y H' v → Q v H'
noncomputable def spChk : Sp := fun vs H Q _ => ∃ (r b : Addr) (R : List Nat) (u : Nat → Nat) (B : List Bond) (x y : Nat) (c : Int), vs = [.ref r, .ref b, .int (x : Int), .int (y : Int), .int c] ∧ H r = some (.lst (intsV R)) ∧ BondsAt H b B ∧ ChainOk B R x y u ∧ sumC B R = c ∧ Q (.bl true) H
noncomputable def spReached : Sp := fun vs H Q _ => ∃ (t l1 l2 b : Addr) (n : Nat) (B : List Bond) (x y : Nat) (c : Int) (R : List Nat) (g : Nat → Int) (u : Nat → Nat), vs = [.ref t, .int (n : Int), .ref b, .int (x : Int), .int (y : Int)] ∧ H t = some (.tup [.int c, .ref l1, .ref l2]) ∧ H l1 = some (.lst (intsV R)) ∧ H l2 = some (.lst (vl n g)) ∧ BondsAt H b B ∧ WF n B ∧ x < n ∧ y < n ∧ g 0 = 0 ∧ Holds g B ∧ g x - g y = c ∧ ChainOk B R x y u ∧ sumC B R = c ∧ Q (.bl true) H
end L2

set_option Elab.async false
set_option linter.all false
set_option maxRecDepth 100000
set_option maxHeartbeats 4000000
namespace L2
open PySem PySem.Spec PyProof.Rows
open Bd
end L2

set_option Elab.async false
set_option linter.all false
set_option maxRecDepth 100000
set_option maxHeartbeats 4000000
namespace L2
open PySem PySem.Spec PyProof.Rows
end L2

set_option Elab.async false
set_option linter.all false
set_option maxRecDepth 100000
set_option maxHeartbeats 4000000
namespace PySem
open Builtin
open AutoSeq1 (wpAny_loadPart')
end PySem
namespace L2
open PySem PySem.Spec PyProof.Rows
section
variable {X : Cx}
end
end L2

set_option Elab.async false
set_option linter.all false
set_option maxRecDepth 100000
set_option maxHeartbeats 4000000
namespace L2
open PySem PySem.Spec PyProof.Rows Bd
end L2

set_option Elab.async false
set_option linter.all false
set_option maxRecDepth 100000
set_option maxHeartbeats 4000000
namespace L2
open PySem PySem.Spec PyProof.Rows
section
open PySem.SeqAt
open PySem.AutoSeq1 (wpAny_loadPart')
open PySem.MeetsSeq PySem.MeetsSeq2 PySem.MeetsSeq3
end
end L2

set_option Elab.async false
set_option linter.all false
set_option maxRecDepth 100000
set_option maxHeartbeats 4000000
namespace L2
open PySem PySem.Spec PyProof.Rows
section
variable {prog : Program} {w : World} {A : Around} {E : Value → Shared → Prop} {s : Shared}
end
section
variable {prog : Program} {w : World} {A : Around} {E : Value → Shared → Prop} {s : Shared}
end
end L2

set_option Elab.async false
set_option linter.all false
set_option maxRecDepth 100000
set_option maxHeartbeats 4000000
namespace L2
open PySem PySem.Spec PyProof.Rows
end L2
namespace L2
open PySem PySem.Spec PyProof.Rows
end L2
namespace L2
open PySem PySem.Spec PyProof.Rows
end L2

set_option linter.all false
namespace Fo
variable {W L : Type}
section
variable (hdr : Nat → Bool → W → L) (dl : Nat → Int → List (Int × Int) → L)
end
end Fo
namespace Fo
variable {W L : Type}
end Fo

set_option Elab.async false
set_option linter.all false
set_option maxRecDepth 100000
set_option maxHeartbeats 4000000
namespace L2
open PySem PySem.Spec PyProof.Rows
end L2

set_option Elab.async false
set_option linter.all false
set_option maxRecDepth 100000
set_option maxHeartbeats 4000000
namespace L2
open PySem PySem.Spec PyProof.Rows
end L2

set_option Elab.async false
set_option linter.all false
set_option maxRecDepth 100000
set_option maxHeartbeats 4000000
namespace EX
open PySem PySem.Spec PyProof.Rows
end EX
namespace L2
open PySem PySem.Spec PyProof.Rows EX

section
variable {P : Program} {w : World} {H : Hp} {h : Heap} {a C : Addr} {d : Option Addr}
end
section
variable {X : Cx} {pins : List (Addr × Obj)} {σ : St} {H : Hp} {s : Shared} {a C : Addr} {d : Option Addr}
end

section
variable {X : Cx}
variable {P : Program} {w : World} {K : PySem.W.Frag} {mg : Str → Option Value} {base : Heap} {N : List Str} {qual : Str} {scope : Scope} {f : Addr} {cd : Value} {A : Around} {outer : List Env} {s₀ : Shared} {H₀ : Hp} {E : XK}
end

section
variable {P : Program} {w : World} {K : PySem.W.Frag} {mg : Str → Option Value} {base : Heap}
end

section
variable {X : Cx} {Ek : St → XK} {e : Expr} {te : TE} {pos : Pos}
end
end L2

set_option Elab.async false
set_option linter.all false
set_option maxRecDepth 100000
set_option maxHeartbeats 4000000
namespace EX
open PySem PySem.Spec PyProof.Rows
end EX
namespace L2
open PySem PySem.Spec PyProof.Rows EX

section
variable {X : Cx} {pins pins' : List (Addr × Obj)} {σ : St} {H : Hp} {s : Shared} {a : Addr} {xe : Value → Shared → Prop} {pn : List (Addr × Obj)}
end

section
variable {X : Cx} {x n : Str} {np pos : Pos} {Dc : Addr} {b₀ : Stmt} {suite : List Stmt} {rest : List ExceptHandler} {ts : Addr → TS} {th : Addr → Addr → Option Addr → TS}

end

section
variable {X : Cx} {k : Nat} {f C : Addr} {fd : FuncData} {ps : List Str} {sp : Sp} {dvs : List V} {ds : List Value} {Ek : St → XK} {x : Str} {p pos : Pos} {e : Expr} {es : List Expr} {t : TA}
end
end L2

set_option Elab.async false
set_option linter.all false
set_option maxRecDepth 100000
set_option maxHeartbeats 4000000
namespace EX
open PySem PySem.Spec PySem.Calls PyProof.Rows PySem.W
section
variable {prog : Program} {w : World} {A : Around} {h : Heap} {g : Array GenState} {d : Drawn} {t : Nat} {os : OsState} {R : Result → Shared → Prop} {C N : Addr} {bm : List Value}
end
end EX
namespace L2
open PySem PySem.Spec PyProof.Rows EX

section
variable {X : Cx} {pins : List (Addr × Obj)} {σ : St} {H : Hp} {s : Shared} {M : Model} {A : Around} {E : Value → Shared → Prop}
end

section
variable {X : Cx} {x n : Str} {np pos : Pos} {Dc : Addr} {b₀ : Stmt} {suite : List Stmt} {rest : List ExceptHandler} {ts : Addr → TS} {th : Addr → Addr → Option Addr → TS} {i : Nat}
end

section
variable {X : Cx} {k : Nat} {f C : Addr} {fd : FuncData} {ps : List Str} {sp : Sp} {CX : CXT} {E : XK} {x : Str} {p pos : Pos} {e : Expr} {es : List Expr} {t : TA}
end
end L2

set_option Elab.async false
set_option linter.all false
set_option maxRecDepth 100000
set_option maxHeartbeats 4000000
namespace L2
open PySem PySem.Spec PyProof.Rows EX

section
variable {X : Cx} {e o : Expr} {ta tv : TE} {f x : Str} {pos pos' p apos : Pos}
end
end L2

set_option Elab.async false
set_option linter.all false
set_option maxRecDepth 100000
set_option maxHeartbeats 4000000
namespace L2
open PySem PySem.Spec PyProof.Rows
end L2
namespace HT
open PySem PySem.Spec PyProof.Rows L2
section
variable {prog : Program} {w : World} {A : Around} {E : Value → Shared → Prop} {s : Shared}
end
end HT
namespace L2
open PySem PySem.Spec PyProof.Rows
end L2

set_option Elab.async false
set_option linter.all false
set_option maxRecDepth 100000
set_option maxHeartbeats 4000000
namespace L2
open PySem PySem.Spec PyProof.Rows

end L2

set_option Elab.async false
set_option linter.all false
set_option maxRecDepth 100000
set_option maxHeartbeats 4000000
namespace L2
open PySem PySem.Spec PyProof.Rows
section
variable {X : Cx} {pins : List (Addr × Obj)} {s : Shared} {σ : St} {H : Hp}
end
end L2

set_option linter.all false
namespace Wv
variable {α : Type}
end Wv
set_option Elab.async false
set_option linter.all false
set_option maxRecDepth 100000
set_option maxHeartbeats 4000000
namespace L2
open PySem PySem.Spec PyProof.Rows
section
variable {X : Cx} {es : List Expr} {env : Env} {p : Pos}
end
section
variable {X : Cx} {pins : List (Addr × Obj)} {σ : St} {H : Hp} {s : Shared}
end
end L2

set_option Elab.async false
set_option linter.all false
set_option maxRecDepth 100000
set_option maxHeartbeats 4000000
namespace L2
open PySem PySem.Spec PyProof.Rows EX

section
variable {P : Program} {w : World} {K : PySem.W.Frag} {mg : Str → Option Value} {base : Heap}
end
section
variable {X : Cx} {k : Nat} {f : Addr} {fd : FuncData} {ps : List Str} {sp : Sp} {x : Str} {p pos : Pos} {e : Expr} {es : List Expr} {t : TA}
end
end L2

set_option Elab.async false
set_option linter.all false
set_option maxRecDepth 100000
set_option maxHeartbeats 4000000
namespace L2
open PySem PySem.Spec PyProof.Rows
end L2

set_option Elab.async false
set_option linter.all false
set_option maxRecDepth 100000
set_option maxHeartbeats 4000000
namespace L2
open PySem PySem.Spec PyProof.Rows EX

end L2

set_option Elab.async false
set_option linter.all false
set_option maxRecDepth 100000
set_option maxHeartbeats 4000000
namespace L2
open PySem PySem.Spec PyProof.Rows
structure LawTab (base : Heap) (mg : Str → Option Value) (c Pt : Addr) : Prop where
  hd : PySem.W.CodeHd base c Pt
  bm : ∃ bm ob, mg "__builtins__" = some (.ref bm) ∧ bm ≠ builtinsNs ∧ base.get? bm = some ob ∧ ob.cls = .type "module" ∧ ob.dict = some builtinsNs ∧ ob.data = .plain
theorem law_callT {P : Program} {w : World} {K : PySem.W.Frag} {mg mb : Str → Option Value} {CX : CXT} {k : Nat} {fa a c Pt : Addr} {fd : FuncData} {x : Str} {sp : Sp} {s₁ : Shared} {vs : List Value} {ns : List Int}
    (KX : K.In s₁.heap) (hns : s₁.heap.Ns mainGlobals mg) (hb : s₁.heap.Ns builtinsNs mb) (hbb : ∀ x : Str, x ≠ "__name__" → mb x = bootBuiltins x) (hlim : s₁.heap.NoLimit) (hg : s₁.gens = #[])
    (hC : PySem.W.CodeHd s₁.heap c Pt) (hP : s₁.heap.get? Pt = some (PySem.W.tabObj #[])) (hKP : K.lookup Pt = none)
    (ha : s₁.heap.get? a = some { cls := .type "list", data := .seq vs.toArray }) (hi : IntsAre vs ns) (hl : ns.length ≤ sizeLine) (hr : Room k callerA)
    (hbm : ∃ bm ob, mg "__builtins__" = some (.ref bm) ∧ bm ≠ builtinsNs ∧ s₁.heap.get? bm = some ob ∧ ob.cls = .type "module" ∧ ob.dict = some builtinsNs ∧ ob.data = .plain)
    (F : ∀ base : Heap, K.In base → base.Ns mainGlobals mg → LawTab base mg c Pt → FnOk P w K mg base CX k fa fd [x] sp) (hbind : ∀ (s : Shared) (u : Value), BindsTo s fd ⟨[u], []⟩ [(x, u)])
    (hsp : ∀ H : Hp, H Pt = some (.tbl #[]) → SqL K H a (ns.map V.int) → sp [.ref a] H (fun v _ => v = .bl true) fun _ _ _ => False)
    (hCX : ∀ H e s', CX [] H s₁ (fun _ _ _ => False) e s' → False) :
    codeAny (model P w) callerA (.call (.ref fa) ⟨[.ref a], []⟩) (fun r s' => r = .ok (.ret (.bool true)) ∧ OldK s₁.heap s'.heap ∧ s'.os = s₁.os ∧ AllBare s'.gens) s₁ := by
  have rv := vals_ints hi
  have lenV := hi.length
  have naP : a ≠ Pt := fun z => by rw [z, hP] at ha; cases ha
  have core : ∀ H : Hp, (∀ b, H b = none ∨ (∃ o xs, H b = some (.frz o (.lst xs))) ∨ b = Pt) → H Pt = some (.tbl #[]) → SqL K H a (ns.map V.int) → HOk P w H s₁.heap → (∀ b, H b ≠ none → b = a ∨ b = Pt) → (H a ≠ none → K.lookup a = none) →
      codeAny (model P w) callerA (.call (.ref fa) ⟨[.ref a], []⟩) (fun r s' => r = .ok (.ret (.bool true)) ∧ OldK s₁.heap s'.heap ∧ s'.os = s₁.os ∧ AllBare s'.gens) s₁ := by
    intro H hO hT hS hok hA hK
    have base_of : ∀ {b : Addr} {o : Obj}, s₁.heap.get? b = some o → H b = none → (hidT s₁.heap H).get? b = some o := fun e n => hidT_get e n
    have noA : ∀ {b : Addr} {o : Obj}, s₁.heap.get? b = some o → o.cls ≠ .none → o.cls ≠ .type "list" → H b = none := fun {b o} e d1 d2 => by
      cases q : H b with
      | none => rfl
      | some u =>
        rcases hA b (by rw [q]; simp) with e' | e'
        · subst e'
          rw [ha] at e; cases e
          exact absurd rfl d2
        · subst e'
          rw [hP] at e; cases e
          exact absurd rfl d1
    have noD : ∀ {b : Addr} {o : Obj} {es : Array DictEntry} {ep : Nat}, s₁.heap.get? b = some o → o.data = .dict es ep → H b = none := fun {b o es ep} e d => by
      cases q : H b with
      | none => rfl
      | some u =>
        rcases hA b (by rw [q]; simp) with e' | e'
        · subst e'
          rw [ha] at e; cases e
          have d' : Data.seq vs.toArray _ = Data.dict es ep := d
          cases d'
        · subst e'
          rw [hP] at e; cases e
          have d' : Data.fields #[] = Data.dict es ep := d
          cases d'
    have nsK : ∀ {b : Addr} {m : Str → Option Value}, s₁.heap.Ns b m → (hidT s₁.heap H).Ns b m := fun {b m} ⟨o, es, ep, e, d, r⟩ => ⟨o, es, ep, base_of e (noD e d), d, r⟩
    have hKb : K.In (hidT s₁.heap H) := fun b o e => base_of (KX b o e) (by
      cases q : H b with
      | none => rfl
      | some u =>
        rcases hA b (by rw [q]; simp) with e' | e'
        · subst e'
          rw [hK (by rw [q]; simp)] at e; cases e
        · subst e'
          rw [hKP] at e; cases e)
    have hM : Mod K mg (hidT s₁.heap H) := ⟨hKb, nsK hns, ⟨mb, nsK hb, hbb⟩, let ⟨mc, h1, h2⟩ := hlim; ⟨mc, nsK h1, h2⟩⟩
    have hCb : PySem.W.CodeHd (hidT s₁.heap H) c Pt := by
      obtain ⟨o, vs', file, tf, flags, tg, inF, text, tt, e1, e2, r⟩ := hC
      exact ⟨o, vs', file, tf, flags, tg, inF, text, tt, base_of e1 (noA e1 (by rw [e2]; nofun) (by rw [e2]; decide)), e2, r⟩
    have hLT : LawTab (hidT s₁.heap H) mg c Pt := ⟨hCb, let ⟨bm, ob, b1, b2, b3, b4, r⟩ := hbm; ⟨bm, ob, b1, b2, base_of b3 (noA b3 (by rw [b4]; nofun) (by rw [b4]; decide)), b4, r⟩⟩
    have e0 : Env0 P w K mg (hidT s₁.heap H) callerA [] s₁ H := ⟨rfl, hM, fun b o e => of_hidT e, Nat.le_of_eq (hidT_size _ _), trivial, fun b hb => absurd (show b ∈ ([] : List Addr) from hb) (by simp), hok, .of_eq hg⟩
    refine codeAny_mono ((F _ hKb (nsK hns) hLT).run callerA [] s₁ H ⟨[.ref a], []⟩ [.ref a] [.ref a] _ _ hr e0 (hbind s₁ (.ref a)) (.cons rfl .nil) (hsp H hT hS)) fun r s' h => ?_
    cases r with
    | error e => exact (hCX H e s' h).elim
    | ok fl =>
      cases fl with
      | next => exact False.elim h
      | brk => exact False.elim h
      | cont => exact False.elim h
      | ret u =>
        obtain ⟨v, H', os, bare, un, hok', r', q⟩ := h
        have q' : v = .bl true := q
        subst q'
        obtain rfl : u = Value.bool true := r'
        have kp : ∀ b o, b ≠ Pt → s₁.heap.get? b = some o → s'.heap.get? b = some o := fun b o nb e => by
          cases q : H b with
          | none => exact un.keep b o e q (by intro z; exact absurd (show b ∈ ([] : List Addr) from z) (by simp)) (by simp)
          | some u =>
            rcases hO b with z | ⟨ob, xs, z⟩ | z
            · rw [q] at z; cases z
            · have z2 := un.frzs b ob _ z
              obtain ⟨e1, _⟩ := hok b _ z
              obtain ⟨e2, _⟩ := hok' b _ z2
              rw [e] at e1; cases e1
              exact e2
            · exact absurd z nb
        obtain ⟨more, hm⟩ := un.tbls Pt _ hT
        have hP' : s'.heap.get? Pt = some (PySem.W.tabObj (#[] ++ more)) := hok' Pt _ hm
        refine ⟨rfl, ⟨fun b o e => ?_, fun b o e => ?_⟩, os, bare⟩
        · by_cases hb : b = Pt
          · subst hb
            rw [hP] at e
            cases e
            exact .inr (.inl ⟨(hC.tab hP).isCodeTable, rfl, #[], more, rfl, hP'⟩)
          · exact .inl (kp b o hb e)
        · by_cases hb : b = Pt
          · exact ⟨_, hb ▸ hP'⟩
          · exact ⟨o, kp b o hb e⟩
  have okT : ∀ H : Hp, ObjOk P w H s₁.heap Pt (.tbl #[]) := fun H => hP
  cases hk : K.lookup a with
  | some o =>
    have e := KX a o hk
    rw [ha] at e
    cases e
    refine core (fun b => if b = Pt then some (.tbl #[]) else none) (fun b => ?_) (if_pos rfl) (.inr ⟨_, vs.toArray, _, hk, rfl, rfl, rfl, by rw [List.size_toArray, lenV]; exact hl, by simpa using rv⟩) (fun b u z => ?_) (fun b z => ?_) fun z => absurd (if_neg naP) z
    · by_cases hb : b = Pt
      · exact .inr (.inr hb)
      · exact .inl (if_neg hb)
    · by_cases hb : b = Pt
      · have z' := (if_pos hb).symm.trans z
        cases z'
        subst hb
        exact okT _
      · have z' := (if_neg hb).symm.trans z
        cases z'
    · by_cases hb : b = Pt
      · exact .inr hb
      · exact absurd (if_neg hb) z
  | none =>
    refine core (fun b => if b = Pt then some (.tbl #[]) else if b = a then some (.frz { cls := .type "list", data := .seq vs.toArray } (.lst (ns.map V.int))) else none) (fun b => ?_) (if_pos rfl) (.inl (.inr ⟨{ cls := .type "list", data := .seq vs.toArray }, (if_neg naP).trans (if_pos rfl)⟩)) (fun b u z => ?_) (fun b z => ?_) fun _ => hk
    · by_cases hp : b = Pt
      · exact .inr (.inr hp)
      · by_cases hb : b = a
        · exact .inr (.inl ⟨_, _, (if_neg hp).trans (if_pos hb)⟩)
        · exact .inl ((if_neg hp).trans (if_neg hb))
    · by_cases hp : b = Pt
      · have z' := (if_pos hp).symm.trans z
        cases z'
        subst hp
        exact okT _
      · by_cases hb : b = a
        · have z' := ((if_neg hp).trans (if_pos hb)).symm.trans z
          cases z'
          subst hb
          exact ⟨ha, by rw [List.length_map]; exact hl, vs, _, rv, ha⟩
        · have z' := ((if_neg hp).trans (if_neg hb)).symm.trans z
          cases z'
    · by_cases hp : b = Pt
      · exact .inr hp
      · by_cases hb : b = a
        · exact .inl hb
        · exact absurd ((if_neg hp).trans (if_neg hb)) z
noncomputable def spLawT (K : PySem.W.Frag) (Pt : Addr) : Sp := fun vs H Q _ => ∃ (a : Addr) (ns : List Int), vs = [.ref a] ∧ SqL K H a (ns.map V.int) ∧ ns.length ≤ 63 ∧ H Pt = some (.tbl #[]) ∧ ∀ H', Q (.bl true) H'
theorem law_walkT {l : PySem.W.OpenLaw} {q : Program} {loose : List Str} {XP : (Str → Option Value) → Heap → Prop} {YP : World → Heap → Prop} {d : DefRec} {K : Params → PySem.W.Frag} {x : Str} (k : Nat) (hk : k ≤ 200) (hn : l.most = some 63) (hdf : d.params.defaults = [])
    (hrec : (recsOf q).find? (fun e => e.name == d.name) = some d)
    (hY : ∀ (w : World) (h : Heap), YP w h → (K w.params).In h)
    (F : ∀ (w : World) (mg : Str → Option Value) (fa : Addr) (h : Heap), (K w.params).In h → h.Ns mainGlobals mg → mg d.name = some (.ref fa) →
      ∃ (fd : FuncData) (c Pt : Addr), PySem.W.tabIn (K w.params) d.name = some (c, Pt) ∧ (K w.params).lookup Pt = none ∧ (∀ (s : Shared) (u : Value), BindsTo s fd ⟨[u], []⟩ [(x, u)]) ∧ ∀ base : Heap, (K w.params).In base → base.Ns mainGlobals mg → LawTab base mg c Pt → FnOk l.prog w (K w.params) mg base CX0 k fa fd [x] (spLawT (K w.params) Pt)) :
    PySem.W.WalkO q loose XP YP l.row.toRowW d [] (fun f vs => PySem.call f vs) := by
  refine Att.attach_call hn hdf fun w s₀ s₁ mg mb fa o pm cd doc a vs ns G Y ho hd hcd hmg hobj hints hlen hg => ?_
  have KX := hY w _ Y
  obtain ⟨fd, c, Pt, ht, hkp, hb, hF⟩ := F w mg fa _ KX G.T.g hmg
  obtain ⟨hC, hP⟩ := PySem.W.tab_of G.T KX hrec ht
  have hr : Room k callerA := ⟨rfl, by have : callerA.depth + 605 < recursionLimit := by decide
                                       omega, by have : callerA.units + 3400 < cLine := by decide
                                                 omega, rfl⟩
  exact law_callT KX G.T.g G.T.b G.T.builtins G.T.nolimit hg hC hP hkp hobj hints (Nat.le_trans hlen (by decide)) hr G.T.bmain hF hb (fun H hT hS => ⟨a, ns, rfl, hS, hlen, hT, fun _ => rfl⟩) fun _ _ _ z => z
end L2

set_option Elab.async false
set_option linter.all false
set_option maxRecDepth 100000
set_option maxHeartbeats 4000000
namespace L2
open PySem PySem.Spec PyProof.Rows
section
variable {X : Cx} {pins : List (Addr × Obj)} {σ : St} {H : Hp} {s : Shared} {h' : Heap} {c Pt : Addr} {ps : Array Value}
theorem Inv.grown {t' : Nat} {more : Array Value} (I : Inv X pins σ H s) (hT : H Pt = some (.tbl ps)) (k : ∀ b u, b ≠ Pt → s.heap.get? b = some u → h'.get? b = some u) (hp : h'.get? Pt = some (PySem.W.tabObj (ps ++ more))) :
    Inv X pins σ (upd H Pt (.tbl (ps ++ more))) { s with heap := h', toks := t' } := by
  have nP : ∀ b u, H b = some u → (∀ z, u ≠ .tbl z) → b ≠ Pt := fun b u e n z => by rw [z, hT] at e; cases e; exact n _ rfl
  have n0 : ∀ b, H b = none → b ≠ Pt := fun b e z => by rw [z, hT] at e; cases e
  refine I.un ⟨fun b o e n _ _ => k b o (n0 b n) e, fun b o e n _ _ => ⟨o.slots, k b o (n0 b n) e⟩, fun b o e n _ => by rw [upd_ne (n0 b n)]; exact n, fun b o e _ => ?_, fun b xs e => by rw [upd_ne (nP b _ e fun _ => by simp)]; exact e, fun b o u e => by rw [upd_ne (nP b _ e fun _ => by simp)]; exact e, fun b qs e => ?_⟩ fun b u e => ?_
  · by_cases hb : b = Pt
    · exact ⟨_, hb ▸ hp⟩
    · exact ⟨o, k b o hb e⟩
  · by_cases hb : b = Pt
    · subst hb
      rw [hT] at e
      cases e
      exact ⟨more, upd_same⟩
    · exact ⟨#[], by rw [upd_ne hb, e]; simp⟩
  · by_cases hb : b = Pt
    · subst hb
      rw [upd_same] at e
      cases e
      exact hp
    · rw [upd_ne hb] at e
      refine (I.hok b u e).stay (fun c v hc q => k c v ?_ q) (fun c q => ?_) fun c xs q => ?_
      · rcases hc with z | z
        · rw [z]; exact hb
        · exact nP _ _ z fun _ => by simp
      · rw [upd_ne (nP _ _ q fun _ => by simp)]; exact q
      · rw [upd_ne (nP _ _ q fun _ => by simp)]; exact q
theorem make_lam {params : Arguments} {body : Expr} {scope : Scope} {pos : Pos} {clos : List (Str × Addr)} {Q : Value → Shared → Prop} {M : Model} {A : Around} {E : Value → Shared → Prop} (I : Inv X pins σ H s) (hcode : X.env.code = .ref c) (LT : LawTab X.base X.mg c Pt) (hT : H Pt = some (.tbl ps)) (ht : TriplesOk ps.toList) (hnf : codeAmong pos ps.toList = none) (hcl : closureFor scope X.env = pure clos) (hdef : defaultsOf params X.env = ([], []))
    (h : ∀ f c' ctv s', Inv X pins σ (upd H Pt (.tbl (ps ++ #[rawInt pos.line, rawInt pos.col, .ref c']))) s' → s.heap.objs.size ≤ f → s'.heap.get? f = some (PySem.W.kla_obj "<lambda>" (X.env.qual ++ "<lambda>") params body scope clos ((X.mg "__name__").getD .none) c' ctv) → s'.heap.CodeRec (.ref c') (X.env.qual ++ "<lambda>") → Q (.ref f) s') :
    wpAny M A (eval (.Lambda params body scope pos) X.env) Q E s := by
  refine PySem.W.kla_eval hdef ?_
  have hP : s.heap.get? Pt = some (PySem.W.tabObj ps) := I.hok Pt _ hT
  have hgs := I.mod.glob.keeps I.bk
  obtain ⟨bm, ob, b1, b2, b3, b4, b5, b6⟩ := LT.bm
  have b3 := I.bk _ _ b3
  have hgP : mainGlobals ≠ Pt := fun q => by
    obtain ⟨o, es, ep, e, hd, _⟩ := hgs
    rw [q, hP] at e; cases e; cases hd
  have hbP : bm ≠ Pt := fun q => by rw [q, hP] at b3; cases b3; cases b4
  have hbG : bm ≠ mainGlobals := fun q => by
    obtain ⟨o, es, ep, e, hd, _⟩ := hgs
    rw [q, e] at b3; cases b3; rw [hd] at b6; cases b6
  refine PySem.W.kla_makeFunction (mg := X.mg) hcl I.ok.glob hgs hcode (LT.hd.keeps I.bk) hP ht hnf hgP ⟨bm, ob, b1, b2, hbG, hbP, b3, b4, b5, b6⟩ fun c' ctv h' tk hx hge hlt hrec htb => ?_
  have sz : s.heap.objs.size ≤ h'.objs.size := Nat.le_trans hge (Nat.le_of_lt hlt)
  refine h h'.objs.size c' ctv _ (I.grown hT (fun b u hb e => Heap.get?_push_of_some _ (hx b u hb e)) (Heap.get?_push_of_some _ htb)) sz (Heap.get?_push_size _ rfl) ?_
  obtain ⟨c₂, oc, vs, t, e2, hoc, r⟩ := hrec
  exact ⟨c₂, oc, vs, t, e2, Heap.get?_push_of_some _ hoc, r⟩
end
noncomputable abbrev lamScope (v o : Str) : Scope := { kind := .function, names := [(v, .local), (o, .free)], isGenerator := false, isCoroutine := false, more := [] }
noncomputable abbrev lamArgs (v : Str) (p : Pos) : Arguments := { posonlyargs := [], args := [{ arg := v, annotation := none, pos := p }], vararg := none, kwonlyargs := [], kw_defaults := [], kwarg := none, defaults := [] }
noncomputable abbrev lamBody (v o : Str) (p1 p2 p3 : Pos) : Expr := .Subscript (.Name o p1) (.Name v p2) p3
theorem lam_turn {prog : Program} {w : World} {A : Around} {E : Value → Shared → Prop} {s : Shared} {v o qual : Str} {p p1 p2 p3 : Pos} {clos : List (Str × Addr)} {pm ctv k' : Value} {c' f l cl : Addr} {its : Array Value} {i : Int} {t : Tok} {Q : Value → Shared → Prop}
    (hf : s.heap.get? f = some (PySem.W.kla_obj "<lambda>" qual (lamArgs v p) (lamBody v o p1 p2 p3) (lamScope v o) clos pm c' ctv)) (hcd : s.heap.CodeRec (.ref c') qual) (hc : clos.lookup o = some cl) (hcell : s.heap.IsCell cl (some (.ref l)))
    (hl : s.heap.IsList l its) (h0 : 0 ≤ i) (h1 : i < 2 ^ 63) (hi : its[i.toNat]? = some k') (hlim : s.heap.NoLimit) (hroom : A.depth < recursionLimit) (hbind : bindArgs (PySem.W.kla_fn "<lambda>" qual (lamArgs v p) (lamBody v o p1 p2 p3) (lamScope v o) clos pm (.ref c') ctv) ⟨[.int i t], []⟩ = pure [(v, .int i t)]) (hvo : (v == o) = false) (hov : (o == v) = false) (hdv : (v == ("__debug__" : Str)) = false) (hdo : (o == ("__debug__" : Str)) = false) (hco : (o == ("__classdict__" : Str)) = false)
    (h : ∀ h₁ tk, (∀ b u, s.heap.get? b = some u → h₁.get? b = some u) → Q k' { s with heap := h₁, toks := tk }) :
    wpAny (model prog w) A (call (.ref f) [.int i t]) Q E s := by
  refine wpAny_call (PySem.W.kla_callFunE hroom hf rfl rfl rfl rfl hcd ?_)
  rw [show bindArgs (PySem.W.kla_fn "<lambda>" qual (lamArgs v p) (lamBody v o p1 p2 p3) (lamScope v o) clos pm (.ref c') ctv) ⟨[.int i t], []⟩ = pure [(v, .int i t)] from hbind]
  have lv : (lamScope v o).names.lookup v = some .local := by show List.lookup v [(v, NameKind.local), (o, NameKind.free)] = _; rw [List.lookup_cons, beq_self_eq_true]
  have lo : (lamScope v o).names.lookup o = some .free := by show List.lookup o [(v, NameKind.local), (o, NameKind.free)] = _; rw [List.lookup_cons, hov, List.lookup_cons, beq_self_eq_true]
  refine wpAny_pure (wpAny_newFunctionEnv (fun y hy => by
    rcases List.mem_cons.mp (show y ∈ [(v, NameKind.local), (o, NameKind.free)] from hy) with z | z
    · rw [z]; nofun
    · rw [List.mem_singleton.mp z]; nofun) (fun y hy => by rw [List.mem_singleton.mp hy]; exact lv) (fun h₁ hns hsb => ⟨hlim.fresh _ hsb, ?_⟩) rfl)
  show codeAny _ _ (.expr (lamBody v o p1 p2 p3) (PySem.W.envX qual (lamScope v o) s.heap.objs.size f (.ref c') clos)) _ _
  have hk₁ : ∀ b u, s.heap.get? b = some u → h₁.get? b = some u := fun b u e => hsb.extBut b u (Nat.ne_of_lt (Heap.lt_size e)) (Heap.get?_push_of_some _ e)
  refine PySem.W.kla_codeExpr (Subscript_ ?_)
  obtain ⟨oc, hoc, hocd⟩ := hcell
  refine wpAny_Name (wpAny_loadName_free rfl lo hc ⟨oc, hk₁ _ _ hoc, hocd⟩ ?_ hco) hdo
  refine wpAny_Name (wpAny_loadName_local rfl lv hns (by show List.lookup v [(v, Value.int i t)] = _; rw [List.lookup_cons, beq_self_eq_true]) ?_) hdv
  obtain ⟨ol, hol, hlc⟩ := hl
  have hl1 : h₁.IsList l its := ⟨ol, hk₁ _ _ hol, hlc⟩
  exact item_listR (items := its) hl1 h0 h1 hi (h _ _ hk₁)
theorem collect_rng {prog : Program} {w : World} {A : Around} {E : Value → Shared → Prop} {s : Shared} {Q : List Value → Shared → Prop} {r : Addr} {a b c : Int} {t u v : Tok} {n : Nat} (hh : A.handled = none) (hr : IsRange s.heap r a b c t u v) (hsmall : Builtin.Range.small a b c = true) (hn : Builtin.Range.rangeSize a b c = n) (hlen : n ≤ 2 ^ 24)
    (hQ : ∀ h' tk (acc : Array Value), (∀ b o, s.heap.get? b = some o → h'.get? b = some o) → s.heap.objs.size ≤ h'.objs.size → ItemsOf (fun i v => ∃ t, v = .int (a + i * c) t) acc n → Q acc.toList { s with heap := h', toks := tk }) :
    wpAny (model prog w) A (collect (.ref r)) Q E s := by
  unfold collect
  refine wpAny_bind (wpAny_runValue (codeAny_builtin F.entry_proto_collect ?_))
  rw [Around.under_plainId F.plain_proto_collect _]
  show wpAny _ A.in1 (newList [] >>= fun l => again (.builtin "list.__iadd__" ⟨[l, .ref r], []⟩)) _ _ s
  refine wpAny_bind (wpAny_newObj_type ?_)
  refine wpAny_pure ⟨plainId_quiet F.plain_list_iadd _, codeAny_builtin F.entry_list_iadd ?_⟩
  rw [Around.under_plainId F.plain_list_iadd _]
  show wpAny _ A.in1 (Builtin.List.listExtendWith (.ref s.heap.objs.size) (.ref r) (.ref s.heap.objs.size)) _ _ _
  have hS : (s.heap.push { cls := .type "list", data := .seq ([] : List Value).toArray }).get? s.heap.objs.size = some { cls := .type "list", data := .seq #[] 0 } := Heap.get?_push_size _ rfl
  refine wpAny_mono (wpAny_extend_range (A := A) (R := fun r' s' => r' = .ok (.ret (.ref s.heap.objs.size)) ∧ ∃ (h' : Heap) (tk : Nat) (acc : Array Value) (c' : Nat), s' = { s with heap := h', toks := tk } ∧ (∀ b o, s.heap.get? b = some o → h'.get? b = some o) ∧ h'.get? s.heap.objs.size = some { cls := .type "list", dict := none, data := .seq acc c', slots := #[] } ∧ ItemsOf (fun i v => ∃ t, v = .int (a + i * c) t) acc n)
    (s := { s with heap := s.heap.push { cls := .type "list", data := .seq ([] : List Value).toArray } }) hh (show IsRange _ _ _ _ _ _ _ _ from Heap.get?_push_of_some _ hr) hsmall hn hlen s.heap.objs.size _ 0 hS fun h' tk acc' c' k hS' hacc => ⟨rfl, h', tk, acc', c', rfl, fun b o e => k b o (Nat.ne_of_lt (Heap.lt_size e)) (Heap.get?_push_of_some _ e), hS', hacc⟩) (fun fin s' h => ?_) (fun e s' h => ?_)
  · have fin' : ∀ s', (∃ (h' : Heap) (tk : Nat) (acc : Array Value) (c' : Nat), s' = { s with heap := h', toks := tk } ∧ (∀ b o, s.heap.get? b = some o → h'.get? b = some o) ∧ h'.get? s.heap.objs.size = some { cls := .type "list", dict := none, data := .seq acc c', slots := #[] } ∧ ItemsOf (fun i v => ∃ t, v = .int (a + i * c) t) acc n) → wpAny (model prog w) A (match Value.ref s.heap.objs.size with
      | Value.ref a => do
        match (← load a).data with
          | Data.seq xs _ => pure xs.toList
          | _ => unsupported "internal:collect"
      | _ => unsupported "internal:collect") Q E s' := fun s' ⟨h', tk, acc, c', e, k, hS', hacc⟩ => by
      subst e
      show wpAny _ A (load s.heap.objs.size >>= _) _ _ _
      exact wpAny_bind (wpAny_load hS' (wpAny_pure (hQ h' tk acc k (Nat.le_of_lt (Heap.lt_size hS')) hacc)))
    cases fin with
    | done f =>
      obtain ⟨e, h⟩ := h
      cases e
      exact fin' s' h
    | again c' => exact ⟨h.1, codeAny_mono h.2 fun r s'' hr => by obtain ⟨rfl, hr⟩ := hr; exact fin' s'' hr⟩
  · exact absurd h.1 (by simp)
theorem sorted_rng {prog : Program} {w : World} {A : Around} {E : Value → Shared → Prop} {s : Shared} {h₀ : Heap} {L r : Addr} {m : Str → Option Value} {news : List (Addr × Obj)} {Q : Value → Shared → Prop} {kz : List Int} {f : Addr} {n : Nat} {t u v : Tok} (hh : A.handled = none)
    (F : Fr h₀ L s.heap m) (N : News h₀ L s.heap news) (hr : IsRange s.heap r 0 (n : Int) 1 t u v) (hlen : kz.length = n) (h64 : n < 64)
    (turn : ∀ (i : Nat) (k : Int) (t : Tok), i < n → kz[i]? = some k → ∀ (h : Heap) (tk : Nat) (own : List (Addr × Obj)), Fr h₀ L h m → News h₀ L h (news ++ own) →
      wpAny (model prog w) A.in1.in1 (call (.ref f) [.int (i : Int) t]) (KskEnd h₀ L m (news ++ own) k { s with heap := h, toks := tk }) (fun _ _ => False) { s with heap := h, toks := tk })
    (h : ∀ D h' tk (out : Array Value) c vs, Fr h₀ L h' m → News h₀ L h' ((D, seqObj "list" out c) :: news) → (∀ q ∈ news, q.1 < D) → s.heap.objs.size ≤ D → vs.length = n → (∀ (i : Nat) x, vs[i]? = some x → ∃ t, x = .int (i : Int) t) → KskOut false kz vs out.toList → Q (.ref D) { s with heap := h', toks := tk }) :
    wpAny (model prog w) A (call (.builtin "sorted") [.ref r] [(Str.ofString "key", .ref f)]) Q E s := by
  refine call_function_entry_kw kind_sorted plain_sorted entry_sorted (ksk_s1 _ _) ?_
  unfold Builtin.«sorted»
  refine wpAny_bind (m := checkCount "sorted" 1 1 _) (wpAny_pure ?_)
  have hz : Builtin.Range.rangeSize 0 (n : Int) 1 = n := by rw [rangeSize_one]; split <;> omega
  have hs : Builtin.Range.small 0 (n : Int) 1 = true := small_one (by omega) (by omega) (by omega) (by omega)
  refine wpAny_bind (collect_rng (A := A.in1) hh hr hs hz (by omega) fun h1 tk1 acc k1 sz hacc => ?_)
  have hal : acc.toList.length = n := by rw [Array.length_toList]; exact hacc.1
  refine wpAny_bind (wpAny_newList ?_ (by rw [sizeLine_eq]; omega))
  generalize hvs : acc.toList = vs at hal
  have hvi : ∀ (i : Nat) x, vs[i]? = some x → ∃ t, x = .int (i : Int) t := fun i x e => by
    obtain ⟨t, z⟩ := hacc.2 i x (by rw [← hvs] at e; simpa using e)
    exact ⟨t, by rw [z, show (0 : Int) + (i : Int) * 1 = (i : Int) by omega]⟩
  have keep : ∀ b o, s.heap.get? b = some o → (h1.push (seqObj "list" vs.toArray 0)).get? b = some o := fun b o q => Heap.get?_push_of_some _ (k1 b o q)
  have hoL : (h1.push (seqObj "list" vs.toArray 0)).get? h1.objs.size = some (seqObj "list" vs.toArray 0) := Heap.get?_push_size _ rfl
  have hL : L < s.heap.objs.size := F.ns.lt
  have hLm : L < h1.objs.size := (F.kept k1).ns.lt
  refine wpAny_bind (wpAny_holding (wpAny_call_entry_kw slot_list_sort ⟨_, hoL, rfl⟩ entry_list_sort ?body (ksk_l1 _ _)))
  case body =>
    have ht' := ksk_t1 f h1.objs.size
    show wpAny (model prog w) A.in1.in1 (Builtin.«list.sort» ⟨[.ref h1.objs.size], [(Str.ofString "key", .ref f)]⟩) _ _ _
    rw [ht']
    refine ksk_sort (s := { s with heap := h1.push (seqObj "list" vs.toArray 0), toks := tk1 })
      (F.kept keep) (N.grown keep) hoL (Nat.ne_of_gt hLm) (Heap.get?_none_of_le (Nat.le_trans F.above (Nat.le_of_lt hLm)))
      (fun p hp => Nat.ne_of_lt (Nat.lt_of_lt_of_le (Heap.lt_size (N p hp).1) sz)) (hlen.trans hal.symm) (by omega) (fun i v k hv hk h tk own F' N' => ?_) fun h' tk out c F' N' k' => ⟨_, rfl, ?_⟩
    · obtain ⟨t, rfl⟩ := hvi i v hv
      have hi : i < n := by have := (List.getElem?_eq_some_iff.mp hk).1; omega
      exact turn i k t hi hk h tk own F' N'
    · exact wpAny_pure ⟨_, rfl, h _ h' tk out c vs F' N' (fun q hq => Nat.lt_of_lt_of_le (Heap.lt_size (N q hq).1) sz) sz hal hvi k'⟩
end L2

set_option Elab.async false
set_option linter.all false
set_option maxRecDepth 100000
set_option maxHeartbeats 4000000
namespace L2
open PySem PySem.Spec PyProof.Rows EX
end L2

set_option Elab.async false
set_option linter.all false
set_option maxRecDepth 100000
set_option maxHeartbeats 4000000
namespace Bd
open PySem L2
theorem Holds.left {f : Nat → Int} {B C : List Bond} (h : Holds f (B ++ C)) : Holds f B := fun b hb => h b (List.mem_append_left _ hb)
theorem let_by {n : Nat} {B : List Bond} {x y : Nat} {f : Nat → Int} (hy : y < n) (hf : Holds f B) (hw : WF n B) (hne : x ≠ y) (hq : (fin B y).q x = none) (k : Int) : ∃ g, Holds g (B ++ [⟨y, x, k⟩]) := by
  have hst := stable hy hf hw (finK_ok hy hf hw).1
  have hJ := Ji.all hy hf hw (finK B y)
  change Stable B (fin B y) at hst
  change Ji n B y f (fin B y) at hJ
  have hL : (fin B y).L x = none := by
    cases hL : (fin B y).L x with
    | none => rfl
    | some lx =>
      rcases hJ.has x lx hL with h | ⟨i, h⟩
      · exact absurd h hne
      · rw [hq] at h; cases h
  have hS : ∃ T : Int, 0 ≤ T ∧ f y - f x - k ≤ T := by
    rcases Int.le_total 0 (f y - f x - k) with c | c
    · exact ⟨_, c, Int.le_refl _⟩
    · exact ⟨0, Int.le_refl _, c⟩
  obtain ⟨T, T0, T1⟩ := hS
  refine ⟨fun v => f v - (if (fin B y).L v = none then 0 else T), fun b hb => ?_⟩
  rcases List.mem_append.mp hb with h | h
  · have h0 := hf b h
    show f b.x - (if (fin B y).L b.x = none then 0 else T) - (f b.y - (if (fin B y).L b.y = none then 0 else T)) ≤ b.c
    cases ey : (fin B y).L b.y with
    | none => rw [if_pos rfl]; split <;> omega
    | some l =>
      obtain ⟨lx, e1, _⟩ := hst b h l ey
      rw [e1, if_neg (by simp), if_neg (by simp)]
      omega
  · rw [List.mem_singleton.mp h]
    show f y - (if (fin B y).L y = none then 0 else T) - (f x - (if (fin B y).L x = none then 0 else T)) ≤ k
    rw [hJ.at0, hL, if_neg (by simp), if_pos rfl]
    omega
end Bd
namespace L2
open PySem PySem.Spec PyProof.Rows EX Bd
end L2

set_option Elab.async false
set_option linter.all false
set_option maxRecDepth 100000
set_option maxHeartbeats 4000000
namespace L2
open PySem PySem.Spec PyProof.Rows Bd
theorem ns_one {h : Heap} {a : Addr} {m m' : Str → Option Value} (x : h.Ns a m) (y : h.Ns a m') : m = m' := by
  obtain ⟨o, es, ep, e, d, _, r⟩ := x
  obtain ⟨o', es', ep', e', d', _, r'⟩ := y
  rw [e] at e'; cases e'
  rw [d] at d'; cases d'
  exact funext fun n => (r n).symm.trans (r' n)
noncomputable def newsB (h₀ : Heap) (L : Addr) (h : Heap) : List (Addr × Obj) := (List.range h.objs.size).filterMap fun b => if b = L ∨ (h₀.get? b).isSome = true then none else (h.get? b).map fun o => (b, o)
theorem newsB_ok {h₀ : Heap} {L : Addr} {h : Heap} : News h₀ L h (newsB h₀ L h) := fun p hp => by
  obtain ⟨b, _, e⟩ := List.mem_filterMap.mp hp
  split at e
  · cases e
  · rename_i n
    cases q : h.get? b with
    | none => rw [q] at e; cases e
    | some o =>
      rw [q] at e
      cases e
      refine ⟨q, fun z => n (.inl z), ?_⟩
      cases q2 : h₀.get? b with
      | none => rfl
      | some o2 => exact absurd (.inr (by rw [q2]; rfl)) n
theorem newsB_mem {h₀ : Heap} {L : Addr} {h : Heap} {b : Addr} {o : Obj} (e : h.get? b = some o) (hL : b ≠ L) (h0 : h₀.get? b = none) : (b, o) ∈ newsB h₀ L h := by
  refine List.mem_filterMap.mpr ⟨b, List.mem_range.mpr (Heap.lt_size e), ?_⟩
  rw [if_neg (by rw [h0]; simp [hL]), e]
  rfl
theorem kept_all {h₀ : Heap} {L : Addr} {h h' : Heap} {m : Str → Option Value} (F : Fr h₀ L h m) (F' : Fr h₀ L h' m) (N : ∀ p ∈ newsB h₀ L h, h'.get? p.1 = some p.2) {b : Addr} {o : Obj} (hL : b ≠ L) (e : h.get? b = some o) : h'.get? b = some o := by
  cases q : h₀.get? b with
  | none => exact N (b, o) (newsB_mem e hL q)
  | some o' =>
    have := F.keep b o' q
    rw [e] at this; cases this
    exact F'.keep b o q
noncomputable def natOf : Value → Nat
  | .int i _ => i.toNat
  | _ => 0
theorem vals_nat : ∀ {l : List Value}, (∀ v ∈ l, ∃ (i : Nat) (t : Tok), v = .int (i : Int) t) → Vals (intsV (l.map natOf)) l
  | [], _ => .nil
  | v :: l, h => by
    obtain ⟨i, t, rfl⟩ := h v List.mem_cons_self
    exact .cons ⟨t, rfl⟩ (vals_nat fun v hv => h v (List.mem_cons_of_mem _ hv))
theorem out_nat {kz : List Int} {vs out : List Value} {n : Nat} (hk : kz.length = n) (hl : vs.length = n) (hv : ∀ (i : Nat) x, vs[i]? = some x → ∃ t, x = .int (i : Int) t) (ko : KskOut false kz vs out) : Vals (intsV (out.map natOf)) out ∧ (out.map natOf).Perm (List.range n) := by
  obtain ⟨ps, hp, ho, _⟩ := ko
  have e1 : (kz.zip vs).map Prod.snd = vs := by rw [List.map_snd_zip]; omega
  have hp2 : out.Perm vs := by rw [ho, ← e1]; exact hp.map _
  have e2 : vs.map natOf = List.range n := by
    refine List.ext_getElem? fun i => ?_
    rw [List.getElem?_map]
    rcases Nat.lt_or_ge i n with c | c
    · obtain ⟨x, hx⟩ : ∃ x, vs[i]? = some x := ⟨vs[i], List.getElem?_eq_getElem (by omega)⟩
      obtain ⟨t, rfl⟩ := hv i x hx
      rw [hx, List.getElem?_range c]
      show some ((i : Int).toNat) = some i
      rw [Int.toNat_natCast]
    · rw [List.getElem?_eq_none (by omega), List.getElem?_eq_none (by rw [List.length_range]; omega)]
      rfl
  refine ⟨vals_nat fun v hv' => ?_, by rw [← e2]; exact hp2.map _⟩
  obtain ⟨i, hi⟩ := List.mem_iff_getElem?.mp (hp2.mem_iff.mp hv')
  obtain ⟨t, z⟩ := hv i v hi
  exact ⟨i, t, z⟩
section
variable {X : Cx} {x : Str} {p pos : Pos} {e : Expr} {te : TE}
noncomputable def tRngO (t : TA) : TE := fun σ H Q => t σ H fun vs H1 => ∃ n : Nat, vs = [.int (n : Int)] ∧ n < 1000000 ∧ ∀ a, H1 a = none → Q (.ref a) (upd H1 a (.rng 0 (n : Int)))
theorem pe_rng {t : TA} (hg : Gl X "range") (hm : X.mg "range" = none) (ha : PA X [e] t) (hs : starEach [e] X.env = [(false, eval e X.env)] := by rfl) : PE X (.Call (.Name "range" p) [e] [] pos) (tRngO t) := by
  intro pins s σ H Q I h
  refine Call_ (ld_blt I hg hm boot_range (PyProof.Rows.callWith_type1 (thn (ha pos pins s σ H _ I h) fun us s1 ⟨vs, H1, I1, r1, q1⟩ => ?_) hs rfl))
  obtain ⟨n, rfl, n1, q⟩ := q1
  cases r1 with
  | cons r rr =>
    cases rr
    obtain ⟨t, rfl⟩ := r
    refine call_range_1 ⟨.ref s1.heap.objs.size, _, I1.laid (o := .rng 0 (n : Int)) (fun b o e => Heap.get?_push_of_some _ e) (Nat.le_refl _) ⟨_, _, _, Heap.get?_push_size _ rfl⟩, rfl, q _ (I1.hok.fresh (Nat.le_refl _))⟩
noncomputable def tSortK (Pt : Addr) (ta : TA) (io : Nat) : TE := fun σ H Q => ta σ H fun vs H1 => ∃ (ra l : Addr) (n : Nat) (ks : List Int), vs = [.ref ra] ∧ H1 ra = some (.rng 0 (n : Int)) ∧ n < 64 ∧ σ[io]? = some (some (.ref l)) ∧ H1 l = some (.lst (ks.map V.int)) ∧ ks.length = n ∧ H1 Pt = some (.tbl #[]) ∧
  ∀ (r : Addr) (rs : List Nat) (pt : Array Value), H1 r = none → rs.Perm (List.range n) → Q (.ref r) (upd (upd H1 Pt (.tbl pt)) r (.lst (intsV rs)))
theorem pe_sortk (hcalm : X.calm = true) {v o : Str} {pa p1 p2 p3 lp kp : Pos} {ta : TA} {io k : Nat} {c Pt : Addr} {clos : List (Str × Addr)} (hr : Room k X.A) (hg : Gl X "sorted") (hm : X.mg "sorted" = none) (ha : PA X [e] ta) (hcode : X.env.code = .ref c) (LT : LawTab X.base X.mg c Pt)
    (hcl : closureFor (lamScope v o) X.env = pure clos) (hio : X.N[io]? = some o) (hvo : X.env.scope.names.lookup o = some .cell) {cl : Addr} (hcc : clos.lookup o = some cl) (hxc : X.env.cells.lookup o = some cl)
    (hne : (v == o) = false) (hen : (o == v) = false) (hdv : (v == ("__debug__" : Str)) = false) (hdo : (o == ("__debug__" : Str)) = false) (hco : (o == ("__classdict__" : Str)) = false)
    (hbind : ∀ (qual : Str) (pm ctv u : Value) (c' : Addr), bindArgs (PySem.W.kla_fn "<lambda>" qual (lamArgs v pa) (lamBody v o p1 p2 p3) (lamScope v o) clos pm (.ref c') ctv) ⟨[u], []⟩ = pure [(v, u)])
    (hs : starEach [e] X.env = [(false, eval e X.env)] := by rfl) :
    PE X (.Call (.Name "sorted" p) [e] [⟨some "key", .Lambda (lamArgs v pa) (lamBody v o p1 p2 p3) (lamScope v o) lp, kp⟩] pos) (tSortK Pt ta io) := by
  intro pins s σ H Q I h
  refine wpAny_Call_Name_kw (ld_blt I hg hm bt_sorted ?_)
  refine PyProof.Rows.callWith_kw (thn (ha pos pins s σ H _ I h) fun us s1 ⟨vs, H1, I1, r1, q1⟩ => ?_) (by rw [hs]; rfl) (by rw [hs]; rfl)
  obtain ⟨ra, l, n, ks, rfl, hra, n64, hσ, hl, hks, hT, q⟩ := q1
  cases r1 with
  | cons ru rr =>
    cases rr
    cases ru
    refine PyProof.Rows.kws_cons (make_lam I1 hcode LT hT trivial rfl hcl rfl fun f c' ctv s2 I2 hsz hf hcd => PyProof.Rows.kws_nil ?_)
    show wpAny _ _ (call (.builtin "sorted") [.ref ra] [(Str.ofString "key", .ref f)]) _ _ s2
    have nT : ∀ {b : Addr} {u : HO}, H1 b = some u → (∀ z, u ≠ .tbl z) → b ≠ Pt := fun {b u} e n z => by rw [z, hT] at e; cases e; exact n _ rfl
    generalize hpt : #[] ++ #[rawInt lp.line, rawInt lp.col, .ref c'] = pt at I2
    obtain ⟨m, hn, hlook⟩ := id I2.loc
    have F : Fr X.base X.env.locals s2.heap m := ⟨hn, I2.bk, Nat.le_trans I2.ok.bsz I2.ok.above⟩
    have neL : ∀ {b : Addr} {ob : Obj}, s2.heap.get? b = some ob → (∀ es ep, ob.data ≠ .dict es ep) → b ≠ X.env.locals := fun {b ob} e d z => by
      obtain ⟨o', es, ep, e', d', _⟩ := hn
      rw [z, e'] at e; cases e
      exact d es ep d'
    obtain ⟨t0, u0, v0, hrg⟩ : ∃ t u v, IsRange s2.heap ra 0 (n : Int) 1 t u v := I2.hok ra (.rng 0 (n : Int)) (by rw [upd_ne (nT hra fun _ => by simp)]; exact hra)
    obtain ⟨_, its, ni, rv, hli⟩ : ObjOk X.prog X.w _ s2.heap l (.lst (ks.map V.int)) := I2.hok l _ (by rw [upd_ne (nT hl fun _ => by simp)]; exact hl)
    obtain ⟨u, ru, lk⟩ := hlook io o (.ref l) hio hσ (.inr (.inl hvo))
    cases ru
    have hcell : s2.heap.IsCell cl (some (.ref l)) := by
      rcases lk with ⟨z, _⟩ | ⟨_, c2, e2, z⟩
      · exact absurd (z.symm.trans hvo) (by decide)
      · rw [hxc] at e2; cases e2; exact z
    refine sorted_rng (I2.ok.hd hcalm) F newsB_ok hrg hks n64 (fun i k t hi hk h tk own F' N' => ?_) fun D h' tk out c vs F' N' lt sz hvl hvi ko => ?_
    · have kp : ∀ {b : Addr} {ob : Obj}, b ≠ X.env.locals → s2.heap.get? b = some ob → h.get? b = some ob := fun hL e => kept_all F F' (fun p hp => (N' p (List.mem_append_left _ hp)).1) hL e
      obtain ⟨c₂, oc, vs, t', e2, hoc, hd, hv⟩ := hcd
      obtain ⟨ocl, hocl, hdcl⟩ := hcell
      have hiv : (ks.map V.int)[i]? = some (.int k) := by rw [List.getElem?_map, hk]; rfl
      obtain ⟨w, ew, tw, rw'⟩ := rv.get hiv
      subst rw'
      refine lam_turn (its := its.toArray) (kp (neL hf fun _ _ => by simp) hf) ⟨c₂, oc, vs, t', e2, kp (neL hoc fun _ _ => by rw [hd]; simp) hoc, hd, hv⟩ hcc ⟨ocl, kp (neL hocl fun _ _ => by rw [hdcl]; simp) hocl, hdcl⟩ ⟨_, kp (neL hli fun _ _ => by simp) hli, rfl, ni, rfl⟩ (by omega) (by omega) (by simpa using ew) (I2.ok.mod.nolimit.keeps F'.keep) hr.depth (hbind _ _ _ _ _) hne hen hdv hdo hco fun h₁ tk₁ k₁ => ?_
      exact ⟨h₁, tk₁, tw, rfl, rfl, F'.kept k₁, N'.grown k₁⟩
    · have kp : ∀ {b : Addr} {ob : Obj}, b ≠ X.env.locals → s2.heap.get? b = some ob → h'.get? b = some ob := fun hL e => kept_all F F' (fun p hp => (N' p (List.mem_cons_of_mem _ hp)).1) hL e
      obtain ⟨ov, op⟩ := out_nat hks hvl hvi ko
      have hD : h'.get? D = some (seqObj "list" out c) := (N' _ List.mem_cons_self).1
      have fr := I2.hok.fresh sz
      have rl := op.length_eq
      rw [List.length_range, List.length_map] at rl
      refine ⟨.ref D, upd (upd H1 Pt (.tbl pt)) D (.lst (intsV (out.toList.map natOf))), I2.step (h' := h') (g' := s2.gens) (d' := s2.drawn) (t' := tk) (ch := []) (fun _ z => nomatch z) (fun b ob hL _ _ e _ => kp hL e) (fun b ob hL _ _ e _ => ⟨ob.slots, kp hL e⟩)
        (fun b ob _ e z => by rw [upd_ne (Nat.ne_of_lt (Nat.lt_of_lt_of_le (Heap.lt_size e) sz))]; exact z) (fun b ob _ e => ?_) (fun b xs e => by rw [upd_ne (ne_of_none e fr)]; exact e) (fun b ob u e => by rw [upd_ne (ne_of_none e fr)]; exact e) (fun b qs e => ⟨#[], by rw [upd_ne (ne_of_none e fr), e]; simp⟩)
        (fun m' hm' => by rw [ns_one hm' hn]; exact F'.ns) (fun b u e => ?_) I2.bare, rfl, q D _ pt ?_ op⟩
      · by_cases hb : b = X.env.locals
        · obtain ⟨o', _, _, e', _⟩ := F'.ns
          exact ⟨o', hb ▸ e'⟩
        · exact ⟨ob, kp hb e⟩
      · by_cases hb : b = D
        · subst hb
          rw [upd_same] at e
          cases e
          refine ⟨szl (by rw [intsV_len, List.length_map]; omega), out.toList, c, ov, ?_⟩
          rw [hD, Array.toArray_toList]
        · rw [upd_ne hb] at e
          have nl : ∀ {b u}, (upd H1 Pt (.tbl pt)) b = some u → b ≠ X.env.locals := fun {b u} e z => by rw [z, I2.free] at e; cases e
          refine (I2.hok b u e).stay (fun c v hc q => kp ?_ q) (fun c q => by rw [upd_ne (ne_of_none q fr)]; exact q) fun c xs q => by rw [upd_ne (ne_of_none q fr)]; exact q
          rcases hc with z | z
          · rw [z]; exact nl e
          · exact nl z
      · have nD : D ≠ Pt := fun z => by rw [z, upd_same] at fr; cases fr
        rw [upd_ne nD] at fr
        exact fr
end
end L2

set_option Elab.async false
set_option linter.all false
set_option maxRecDepth 100000
set_option maxHeartbeats 4000000
namespace L2
open PySem PySem.Spec PyProof.Rows Bd
section
variable {P : Program} {w : World} {K : PySem.W.Frag} {mg : Str → Option Value} {base : Heap}
theorem Fun.okT {x qual : Str} {st : Stmt} {f c Pt : Addr} {fd : FuncData} {N ps : List Str} {k : Nat} {sp : Sp} (F : Fun K x qual st f fd) (hn : PySem.W.nsIn K mainGlobals x = some (some (.ref f))) (ht : PySem.W.tabIn K x = some (c, Pt)) (S : FnScope N ps (defScope st)) (len : ∀ vs H Q E, sp vs H Q E → vs.length = ps.length)
    (hbody : ∀ (A : Around) (outer : List Env) (s : Shared) (H : Hp) (vs : List V) (Q : VK) (E : XK), Room k (A.deeper (envOfC qual (defScope st) s.heap.objs.size f (.ref c))) → sp vs H Q E →
      ∃ t, PSs (cxOf CX0 P w K mg base N qual (defScope st) f (.ref c) A outer s H E).nox (defBody st) t ∧ t { nx := fun _ H' => Q .non H', rt := Q } (start N vs) H) : FnOk P w K mg base CX0 (k + 1) f fd ps sp := by
  obtain ⟨oc, od, kV, doc, pm, an, cdv, ct, osl, rfl, lk, hcd⟩ := F.ex
  have e : cdv = .ref c := by
    unfold PySem.W.tabIn at ht
    rw [hn] at ht
    dsimp only at ht
    rw [lk] at ht
    dsimp only at ht
    split at ht
    · split at ht
      · split at ht
        · cases ht; rfl
        · cases ht
      · cases ht
    · cases ht
  subst e
  refine fn_of lk hcd S len fun A outer s H vs Q E hr hsp => ?_
  obtain ⟨t, h, q⟩ := hbody A outer s H vs Q E hr hsp
  exact ⟨t, h.nox, q⟩
noncomputable def tabP (o : Obj) : Option Addr := match o.data with
  | .fields vs => (match (vs[11]? : Option Value) with
    | some (.ref P) => some P
    | _ => none)
  | _ => none
theorem tab_mk {x : Str} {f c Pt : Addr} {oc : Value} {od : Option Addr} {fd : FuncData} {sl : Array (Option Value)} {o : Obj} (a : PySem.W.nsIn K mainGlobals x = some (some (.ref f))) (l : K.lookup f = some ⟨oc, od, .func fd, sl⟩) (hc : fd.code = .ref c) (lc : K.lookup c = some o) (v : tabP o = some Pt) : PySem.W.tabIn K x = some (c, Pt) := by
  unfold PySem.W.tabIn
  rw [a]
  dsimp only
  rw [l]
  dsimp only
  rw [hc]
  dsimp only
  rw [lc]
  obtain ⟨o1, o2, o3, o4⟩ := o
  unfold tabP at v
  dsimp only at v
  split at v
  · rename_i vs hv
    split at v
    · rename_i P2 hP
      cases v
      dsimp only
      rw [hP]
    · cases v
  · cases v
noncomputable def hasNo (K : PySem.W.Frag) (b : Addr) : Bool := (K.lookup b).isNone
theorem hasNo_of {b : Addr} (h : hasNo K b = true) : K.lookup b = none := Option.isNone_iff_eq_none.mp h
end
theorem vals_take {xs : List V} {us : List Value} (k : Nat) (h : Vals xs us) : Vals (xs.take k) (us.take k) := by
  induction k generalizing xs us with
  | zero => exact .nil
  | succ k ih =>
    cases h with
    | nil => exact .nil
    | cons a r => exact .cons a (ih r)
theorem vals_drop {xs : List V} {us : List Value} (k : Nat) (h : Vals xs us) : Vals (xs.drop k) (us.drop k) := by
  induction k generalizing xs us with
  | zero => exact h
  | succ k ih =>
    cases h with
    | nil => exact .nil
    | cons a r => exact ih r
noncomputable def rInsert : V → List V → Hp → VK → Prop := fun x vs H Q => ∃ (l : Addr) (xs : List V) (y : V) (i : Nat), x = .ref l ∧ vs = [.int (i : Int), y] ∧ H l = some (.lst xs) ∧ i ≤ xs.length ∧ xs.length < 1000 ∧ Q .non (upd H l (.lst (xs.take i ++ y :: xs.drop i)))
theorem mt_insert {X : Cx} : MtM X "list.insert" rInsert := by
  intro pins s σ H x vs v us Q I rx rv h
  obtain ⟨l, xs, y, i, rfl, rfl, hH, hi, hz, q⟩ := h
  cases rx
  obtain ⟨u1, u2, rfl, r1, r2⟩ := rv.two
  obtain ⟨t, rfl⟩ := r1
  obtain ⟨z, its, n, r, hl, e⟩ := I.lstM hH
  have hi0 : (0 : Int) ≤ (i : Int) := by omega
  have hi1 : (i : Int).toNat = i := Int.toNat_natCast i
  have hfit : ¬(!Builtin.List.listFitsIndex (i : Int)) = true := by
    have : (i : Int) < 1000 := by omega
    have h1 : -(2 ^ 63 : Int) ≤ (i : Int) := by omega
    have h2 : (i : Int) < 2 ^ 63 := by omega
    rw [show Builtin.List.listFitsIndex (i : Int) = (decide (-(2 ^ 63 : Int) ≤ (i : Int)) && decide ((i : Int) < 2 ^ 63)) from rfl, decide_eq_true h1, decide_eq_true h2]
    decide
  have hsz : its.toArray.size ≤ sizeLine := by rw [List.size_toArray, sizeLine_eq]; omega
  generalize (i : Int) = zi at *
  refine call_meets F.slot_list_insert ⟨_, e, rfl⟩ F.entry_list_insert (F.args_list_insert_3 _ _ _) (PySem.AutoSeq1.list_insert_list_int_val_1 l its.toArray n zi t u2 hfit hsz) ⟨e, ?_⟩
  refine ⟨.non, _, I.lset (its' := its.take i ++ u2 :: its.drop i) hH e ?_ ((vals_take i r).append (.cons r2 (vals_drop i r))) ?_, rfl, q⟩
  · dsimp only
    rw [if_neg (by omega), hi1, List.size_toArray, Nat.min_eq_left (by omega)]
    apply Array.toList_inj.mp
    simp
    exact List.take_of_length_le (by rw [List.length_drop]; omega)
  · rw [List.length_append, List.length_cons, List.length_take, List.length_drop, sizeLine_eq]
    omega
end L2

set_option Elab.async false
set_option linter.all false
set_option maxRecDepth 100000
set_option maxHeartbeats 4000000
namespace Bd
open PySem L2
noncomputable def ringAt (f : Nat → Int) (rs : List Nat) (m : Nat) (ls : Int) (k : Nat) : Bond := ⟨rs.getD k 0, rs.getD ((k + 1) % m) 0, f (rs.getD k 0) - f (rs.getD ((k + 1) % m) 0) - (if k = 0 then ls else 0)⟩
noncomputable def ringB (f : Nat → Int) (rs : List Nat) (m : Nat) (ls : Int) : List Bond := (List.range m).map (ringAt f rs m ls)
theorem ringB_mem {f : Nat → Int} {rs : List Nat} {m : Nat} {ls : Int} {k : Nat} (h : k < m) : ringAt f rs m ls k ∈ ringB f rs m ls := List.mem_map.mpr ⟨k, List.mem_range.mpr h, rfl⟩
theorem ringB_len {f : Nat → Int} {rs : List Nat} {m : Nat} {ls : Int} : (ringB f rs m ls).length = m := by rw [ringB, List.length_map, List.length_range]
theorem ringB_WF {f : Nat → Int} {rs : List Nat} {m n : Nat} {ls : Int} (n0 : 0 < n) (h : ∀ i ∈ rs, i < n) : WF n (ringB f rs m ls) := fun b hb => by
  obtain ⟨k, _, rfl⟩ := List.mem_map.mp hb
  have g : ∀ j, rs.getD j 0 < n := fun j => by
    rw [List.getD_eq_getElem?_getD]
    cases e : rs[j]? with
    | none => exact n0
    | some x => exact h x (List.mem_of_getElem? e)
  exact ⟨g _, g _⟩
theorem ringB_holds {f : Nat → Int} {rs : List Nat} {m : Nat} : Holds f (ringB f rs m 0) := fun b hb => by
  obtain ⟨k, _, rfl⟩ := List.mem_map.mp hb
  show f (rs.getD k 0) - f (rs.getD ((k + 1) % m) 0) ≤ f (rs.getD k 0) - f (rs.getD ((k + 1) % m) 0) - (if k = 0 then 0 else 0)
  split <;> omega
theorem ringB_none {f g : Nat → Int} {rs : List Nat} {m : Nat} {ls : Int} {B : List Bond} (m0 : 0 < m) (hl : 0 < ls) (hs : ∀ b ∈ ringB f rs m ls, b ∈ B) (h : Holds g B) : False := by
  have at' : ∀ k, k < m → g (rs.getD k 0) - g (rs.getD ((k + 1) % m) 0) ≤ f (rs.getD k 0) - f (rs.getD ((k + 1) % m) 0) - (if k = 0 then ls else 0) := fun k hk => h _ (hs _ (ringB_mem hk))
  have go : ∀ j, 0 < j → j < m → g (rs.getD 0 0) - g (rs.getD j 0) ≤ f (rs.getD 0 0) - f (rs.getD j 0) - ls := by
    intro j
    induction j with
    | zero => intro z; omega
    | succ j ih =>
      intro _ hj
      have a1 := at' j (by omega)
      rw [Nat.mod_eq_of_lt hj] at a1
      by_cases hj0 : j = 0
      · subst hj0
        rw [if_pos rfl] at a1
        exact a1
      · have := ih (by omega) (by omega)
        rw [if_neg hj0] at a1
        omega
  have a1 := at' (m - 1) (by omega)
  rw [show m - 1 + 1 = m by omega, Nat.mod_self] at a1
  by_cases hm : m = 1
  · subst hm
    rw [if_pos rfl] at a1
    simp at a1
    omega
  · have := go (m - 1) (by omega) (by omega)
    rw [if_neg (by omega)] at a1
    omega
theorem Holds.perm {f : Nat → Int} {B C : List Bond} (p : B.Perm C) (h : Holds f C) : Holds f B := fun b hb => h b (p.mem_iff.mp hb)
theorem WF.perm {n : Nat} {B C : List Bond} (p : B.Perm C) (h : WF n C) : WF n B := fun b hb => h b (p.mem_iff.mp hb)
theorem Holds.app {f : Nat → Int} {B C : List Bond} (h : Holds f B) (g : Holds f C) : Holds f (B ++ C) := fun b hb => (List.mem_append.mp hb).elim (h b) (g b)
end Bd
namespace L2
open PySem PySem.Spec PyProof.Rows EX Bd
theorem BsIs.ins {H : Hp} {vs : List V} {B : List Bond} (h : BsIs H vs B) {v : V} {b : Bond} (hv : BondAt H v b) (k : Nat) : BsIs H (vs.take k ++ v :: vs.drop k) (B.take k ++ b :: B.drop k) := by
  have h1 : BsIs H (vs.take k) (B.take k) := ⟨by rw [List.length_take, List.length_take, h.1], fun i v b e1 e2 => by
    rw [List.getElem?_take] at e1 e2
    split at e1
    · rename_i c
      rw [if_pos c] at e2
      exact h.2 i v b e1 e2
    · cases e1⟩
  have h2 : BsIs H (vs.drop k) (B.drop k) := ⟨by rw [List.length_drop, List.length_drop, h.1], fun i v b e1 e2 => by
    rw [List.getElem?_drop] at e1 e2
    exact h.2 _ v b e1 e2⟩
  exact BsIs.app h1 (BsIs.app (BsIs.one hv) h2)
theorem ins_perm {α : Type} (l : List α) (x : α) (k : Nat) : (l.take k ++ x :: l.drop k).Perm (l ++ [x]) := by
  have e : l ++ [x] = (l.take k ++ l.drop k) ++ [x] := by rw [List.take_append_drop]
  rw [e, List.append_assoc]
  exact List.Perm.append_left _ (List.perm_append_singleton x (l.drop k)).symm
theorem keepT {H : Hp} {Pt r : Addr} {q pt : Array Value} {o : HO} (hT : H Pt = some (.tbl q)) (hr : H r = none) {a : Addr} {u : HO} (e : H a = some u) (n : ∀ z, u ≠ .tbl z) : (upd (upd H Pt (.tbl pt)) r o) a = some u := by
  rw [upd_ne (ne_of_none e hr), upd_ne (fun z => by rw [z, hT] at e; cases e; exact n _ rfl)]
  exact e
theorem BondsAt.tbl {H : Hp} {Pt r b : Addr} {q pt : Array Value} {o : HO} {B : List Bond} (h : BondsAt H b B) (hT : H Pt = some (.tbl q)) (hr : H r = none) : BondsAt (upd (upd H Pt (.tbl pt)) r o) b B := by
  obtain ⟨vs, e, l, k⟩ := h
  refine ⟨vs, keepT hT hr e fun _ => by simp, l, fun i v b e1 e2 => ?_⟩
  obtain ⟨t, rfl, ht⟩ := k i v b e1 e2
  exact ⟨t, rfl, keepT hT hr ht fun _ => by simp⟩
theorem SqL.tbl {K : PySem.W.Frag} {H : Hp} {Pt r p : Addr} {q pt : Array Value} {o : HO} {xs : List V} (h : SqL K H p xs) (hT : H Pt = some (.tbl q)) (hr : H r = none) : SqL K (upd (upd H Pt (.tbl pt)) r o) p xs := by
  rcases h with (h | ⟨o', h⟩) | h
  · exact .inl (.inl (keepT hT hr h fun _ => by simp))
  · exact .inl (.inr ⟨o', keepT hT hr h fun _ => by simp⟩)
  · exact .inr h
noncomputable def spRound45 : Sp := fun vs H Q _ => ∃ (h rk : Addr) (n m : Nat) (f : Nat → Int) (rs : List Nat) (ls : Int), vs = [.ref h, .ref rk, .int (m : Int), .int ls] ∧ H h = some (.lst (vl n f)) ∧ H rk = some (.lst (intsV rs)) ∧ (∀ i ∈ rs, i < n) ∧ 0 < m ∧ m ≤ rs.length ∧ rs.length ≤ 1000 ∧
  ∀ (r : Addr) (H' : Hp), Same H H' → BondsAt H' r (ringB f rs m ls) → Q (.ref r) H'
noncomputable def spPutIn45 : Sp := fun vs H Q _ => ∃ (b r : Addr) (c : Int) (B R : List Bond), vs = [.ref b, .ref r, .int c] ∧ BondsAt H b B ∧ BondsAt H r R ∧ B.length ≤ 100 ∧ R.length ≤ 100 ∧ ∀ (r2 : Addr) (H' : Hp) (B2 : List Bond), Same H H' → BondsAt H' r2 B2 → B2.Perm (B ++ R) → Q (.ref r2) H'
end L2

set_option Elab.async false
set_option linter.all false
set_option maxRecDepth 100000
set_option maxHeartbeats 4000000
namespace L2
open PySem PySem.Spec PyProof.Rows Bd
section
variable {X : Cx} {tg : Expr}
end
end L2

set_option Elab.async false
set_option linter.all false
set_option maxRecDepth 100000
set_option maxHeartbeats 4000000
namespace KS
open PySem PySem.W PyProof.Rows
section
variable {k : Nat → Int} {n : Nat} {cmp : Nat → Nat → (Bool → Shared → Prop) → Shared → Prop} {Iv : Shared → Prop}
noncomputable def Gd (n : Nat) (p : Array Nat) : Prop := p.toList.Perm (List.range n)
noncomputable def Inj (k : Nat → Int) (n : Nat) : Prop := ∀ i j, i < n → j < n → k i = k j → i = j
noncomputable def Up (k : Nat → Int) (p : Array Nat) (m : Nat) : Prop := ∀ i j, i < j → j < m → k (p.getD i 0) < k (p.getD j 0)
noncomputable def Dn (k : Nat → Int) (p : Array Nat) (m : Nat) : Prop := ∀ i j, i < j → j < m → k (p.getD j 0) < k (p.getD i 0)
noncomputable def Asks (k : Nat → Int) (n : Nat) (cmp : Nat → Nat → (Bool → Shared → Prop) → Shared → Prop) (Iv : Shared → Prop) : Prop := ∀ i j (C : Bool → Shared → Prop) s, i < n → j < n → i ≠ j → Iv s → (∀ s', Iv s' → C (decide (k i < k j)) s') → cmp i j C s
theorem Gd.size {p : Array Nat} (g : Gd n p) : p.size = n := by have := g.length_eq; rw [List.length_range, Array.length_toList] at this; exact this
theorem gd_at {p : Array Nat} {i : Nat} (hi : i < p.size) : p[i]? = some (p.getD i 0) := by simp [Array.getD, hi]
theorem Gd.lt {p : Array Nat} (g : Gd n p) {i : Nat} (hi : i < n) : p.getD i 0 < n := by
  have e := gd_at (p := p) (i := i) (by rw [g.size]; exact hi)
  rw [← Array.getElem?_toList] at e
  exact List.mem_range.mp (g.mem_iff.mp (List.mem_of_getElem? e))
theorem Gd.ne {p : Array Nat} (g : Gd n p) (ki : Inj k n) {i j : Nat} (hi : i < n) (hj : j < n) (h : i ≠ j) : k (p.getD i 0) ≠ k (p.getD j 0) := fun z => by
  have z := ki _ _ (g.lt hi) (g.lt hj) z
  have e1 := gd_at (p := p) (i := i) (by rw [g.size]; exact hi)
  have e2 := gd_at (p := p) (i := j) (by rw [g.size]; exact hj)
  rw [← Array.getElem?_toList] at e1 e2
  have nd : p.toList.Nodup := g.nodup_iff.mpr List.nodup_range
  have il : i < p.toList.length := by rw [Array.length_toList, g.size]; exact hi
  exact h ((List.getElem?_inj il nd).mp (by rw [e1, e2, z]))
theorem Gd.nn {p : Array Nat} (g : Gd n p) (ki : Inj k n) {i j : Nat} (hi : i < n) (hj : j < n) (h : i ≠ j) : p.getD i 0 ≠ p.getD j 0 := fun z => g.ne ki hi hj h (congrArg k z)
theorem Gd.perm {p q : Array Nat} (g : Gd n p) (h : q.Perm p) : Gd n q := (Array.perm_iff_toList_perm.mp h).trans g
theorem asc_ok (ha : Asks k n cmp Iv) (ki : Inj k n) {p : Array Nat} (g : Gd n p) {Q : Nat → Shared → Prop} : ∀ (f m : Nat) (s : Shared), m + f = n → 1 ≤ m → Up k p m → Iv s → (∀ m' s', m ≤ m' → m' ≤ n → Up k p m' → (m' < n → k (p.getD m' 0) < k (p.getD (m' - 1) 0)) → Iv s' → Q m' s') → (kas_asc p f m).kasWp cmp Q s
  | 0, m, s, hm, m1, u, iv, q => q m s (Nat.le_refl _) (by omega) u (fun z => by omega) iv
  | f + 1, m, s, hm, m1, u, iv, q => by
    show cmp _ _ (fun b s' => (if b = true then KasT.ret m else kas_asc p f (m + 1)).kasWp cmp Q s') s
    refine ha _ _ _ s (g.lt (by omega)) (g.lt (by omega)) (g.nn ki (by omega) (by omega) (by omega)) iv fun s' iv' => ?_
    by_cases c : k (p.getD m 0) < k (p.getD (m - 1) 0)
    · rw [decide_eq_true c, if_pos rfl]
      exact q m s' (Nat.le_refl _) (by omega) u (fun _ => c) iv'
    · rw [decide_eq_false c, if_neg (by simp)]
      have ne := g.ne ki (i := m) (j := m - 1) (by omega) (by omega) (by omega)
      refine asc_ok ha ki g f (m + 1) s' (by omega) (by omega) (fun i j hij hj => ?_) iv' fun m' s2 h1 h2 h3 h4 h5 => q m' s2 (by omega) h2 h3 h4 h5
      by_cases hjm : j = m
      · subst hjm
        by_cases hi : i = j - 1
        · subst hi; omega
        · have := u i (j - 1) (by omega) (by omega)
          omega
      · exact u i j hij (by omega)
theorem desc_ok (ha : Asks k n cmp Iv) (ki : Inj k n) {p : Array Nat} (g : Gd n p) {Q : Array Nat × Nat × Nat → Shared → Prop} : ∀ (f m : Nat) (s : Shared), m + f = n → 1 ≤ m → Dn k p m → Iv s → (∀ m' s', m ≤ m' → m' ≤ n → Dn k p m' → Iv s' → Q (p, m', 0) s') → (kas_desc f p m 0).kasWp cmp Q s
  | 0, m, s, hm, m1, u, iv, q => q m s (Nat.le_refl _) (by omega) u iv
  | f + 1, m, s, hm, m1, u, iv, q => by
    show cmp _ _ (fun b s' => (if b = true then (if 0 > 0 then kas_desc f (kas_rev p (m - (0 + 1)) m) (m + 1) 0 else kas_desc f p (m + 1) 0) else .ask (p.getD (m - 1) 0) (p.getD m 0) fun d => if d = true then .ret (p, m, 0) else kas_desc f p (m + 1) (0 + 1)).kasWp cmp Q s') s
    refine ha _ _ _ s (g.lt (by omega)) (g.lt (by omega)) (g.nn ki (by omega) (by omega) (by omega)) iv fun s' iv' => ?_
    by_cases c : k (p.getD m 0) < k (p.getD (m - 1) 0)
    · rw [decide_eq_true c, if_pos rfl, if_neg (by omega)]
      refine desc_ok ha ki g f (m + 1) s' (by omega) (by omega) (fun i j hij hj => ?_) iv' fun m' s2 h1 h2 h3 h4 => q m' s2 (by omega) h2 h3 h4
      by_cases hjm : j = m
      · subst hjm
        by_cases hi : i = j - 1
        · subst hi; exact c
        · have := u i (j - 1) (by omega) (by omega)
          omega
      · exact u i j hij (by omega)
    · rw [decide_eq_false c, if_neg (by simp)]
      have ne := g.ne ki (i := m) (j := m - 1) (by omega) (by omega) (by omega)
      show cmp _ _ (fun d s'' => (if d = true then KasT.ret (p, m, 0) else kas_desc f p (m + 1) (0 + 1)).kasWp cmp Q s'') s'
      refine ha _ _ _ s' (g.lt (by omega)) (g.lt (by omega)) (g.nn ki (by omega) (by omega) (by omega)) iv' fun s2 iv2 => ?_
      rw [decide_eq_true (by omega), if_pos rfl]
      exact q m s2 (Nat.le_refl _) (by omega) u iv2
theorem rev_at {p : Array Nat} {m i : Nat} (hm : m ≤ p.size) : (kas_rev p 0 m).getD i 0 = if i < m then p.getD (m - 1 - i) 0 else p.getD i 0 := by
  have e := getElem?_mirror_all (xs := p) (i := 0) hm i
  have gd : ∀ (a : Array Nat) (j : Nat), a.getD j 0 = (a[j]?).getD 0 := fun a j => by simp [Array.getD]; split <;> simp [*]
  rw [gd, gd, gd]
  unfold kas_rev
  rw [e]
  by_cases h : i < m
  · rw [if_pos ⟨Nat.zero_le _, h⟩, if_pos h]; congr 2; omega
  · rw [if_neg (fun z => h z.2), if_neg h]
theorem tail3_ok (ha : Asks k n cmp Iv) (ki : Inj k n) {p : Array Nat} (g : Gd n p) {Q : Nat × Array Nat → Shared → Prop} {m : Nat} {s : Shared} (m1 : 1 ≤ m) (hm : m ≤ n) (u : Dn k p m) (iv : Iv s) (q : ∀ m' p' s', 1 ≤ m' → m' ≤ n → Gd n p' → Up k p' m' → Iv s' → Q (m', p') s') : (kas_tail3 m n p).kasWp cmp Q s := by
  unfold kas_tail3
  rw [KasT.kasWp_bind]
  have sz := g.size
  have g' : Gd n (kas_rev p 0 m) := g.perm (mirror_perm _ _ _ _)
  refine asc_ok ha ki g' (n - m) m s (by omega) m1 (fun i j hij hj => ?_) iv fun m' s' h1 h2 h3 _ h5 => q m' _ s' (by omega) h2 g' h3 h5
  rw [rev_at (by omega), rev_at (by omega), if_pos (by omega), if_pos hj]
  exact u _ _ (by omega) (by omega)
theorem count_ok (ha : Asks k n cmp Iv) (ki : Inj k n) {p : Array Nat} (g : Gd n p) {Q : Nat × Array Nat → Shared → Prop} {s : Shared} (n2 : 2 ≤ n) (iv : Iv s) (q : ∀ m' p' s', 1 ≤ m' → m' ≤ n → Gd n p' → Up k p' m' → Iv s' → Q (m', p') s') : (kas_count n p).kasWp cmp Q s := by
  unfold kas_count
  rw [KasT.kasWp_bind]
  refine asc_ok ha ki g (n - 1) 1 s (by omega) (Nat.le_refl _) (fun i j hij hj => by omega) iv fun m s1 h1 h2 h3 h4 iv1 => ?_
  by_cases hm : m = n
  · rw [if_pos (by rw [hm]; exact beq_self_eq_true n)]
    exact q m p s1 h1 h2 g h3 iv1
  · rw [if_neg (by simp [hm])]
    by_cases m1 : m > 1
    · rw [if_pos m1]
      show cmp _ _ (fun c s' => (if c = true then KasT.ret (m, p) else kas_descPart m n (kas_rev p 0 m)).kasWp cmp Q s') s1
      refine ha _ _ _ s1 (g.lt (by omega)) (g.lt (by omega)) (g.nn ki (by omega) (by omega) (by omega)) iv1 fun s2 iv2 => ?_
      rw [decide_eq_true (h3 0 (m - 1) (by omega) (by omega)), if_pos rfl]
      exact q m p s2 h1 h2 g h3 iv2
    · rw [if_neg m1]
      obtain rfl : m = 1 := by omega
      have c := h4 (by omega)
      unfold kas_descPart
      rw [KasT.kasWp_bind]
      refine desc_ok ha ki g (n - 2) 2 s1 (by omega) (by omega) (fun i j hij hj => ?_) iv1 fun m' s2 k1 k2 k3 iv2 => ?_
      · obtain rfl : i = 0 := by omega
        obtain rfl : j = 1 := by omega
        exact c
      · show (if 0 > 0 then _ else kas_tail3 m' n p : KasT (Nat × Array Nat)).kasWp cmp Q s2
        rw [if_neg (by omega)]
        exact tail3_ok ha ki g (by omega) k2 k3 iv2 q
theorem place_ok (ha : Asks k n cmp Iv) (ki : Inj k n) {p : Array Nat} (g : Gd n p) {Q : Nat → Shared → Prop} {kk : Nat} (hk : kk < n) (u : Up k p kk) : ∀ (f l r : Nat) (s : Shared), l ≤ r → r ≤ kk → r - l ≤ f → (∀ i, i < l → k (p.getD i 0) < k (p.getD kk 0)) → (∀ i, r ≤ i → i < kk → k (p.getD kk 0) < k (p.getD i 0)) → Iv s →
    (∀ l' s', l' ≤ kk → (∀ i, i < l' → k (p.getD i 0) < k (p.getD kk 0)) → (∀ i, l' ≤ i → i < kk → k (p.getD kk 0) < k (p.getD i 0)) → Iv s' → Q l' s') → (kas_place p kk f l r).kasWp cmp Q s
  | 0, l, r, s, h1, h2, h3, h4, h5, iv, q => q l s (by omega) h4 (fun i hi => h5 i (by omega)) iv
  | f + 1, l, r, s, h1, h2, h3, h4, h5, iv, q => by
    unfold kas_place
    by_cases c0 : l ≥ r
    · rw [if_pos c0]
      exact q l s (by omega) h4 (fun i hi => h5 i (by omega)) iv
    · rw [if_neg c0]
      have d1 : l ≤ (l + r) / 2 := by omega
      have d2 : (l + r) / 2 < r := by omega
      generalize (l + r) / 2 = md at d1 d2
      show cmp _ _ (fun c s' => (if c = true then kas_place p kk f l md else kas_place p kk f (md + 1) r).kasWp cmp Q s') s
      refine ha _ _ _ s (g.lt hk) (g.lt (by omega)) (g.nn ki hk (by omega) (by omega)) iv fun s' iv' => ?_
      by_cases c : k (p.getD kk 0) < k (p.getD md 0)
      · rw [decide_eq_true c, if_pos rfl]
        refine place_ok ha ki g hk u f l md s' d1 (by omega) (by omega) h4 (fun i hi hi2 => ?_) iv' q
        by_cases e : i = md
        · subst e; exact c
        · have := u md i (by omega) hi2
          omega
      · rw [decide_eq_false c, if_neg (by simp)]
        have ne := g.ne ki (i := md) (j := kk) (by omega) hk (by omega)
        refine place_ok ha ki g hk u f (md + 1) r s' (by omega) h2 (by omega) (fun i hi => ?_) h5 iv' q
        by_cases e : i = md
        · subst e; omega
        · have := u i md (by omega) (by omega)
          omega
theorem bub_at {p : Array Nat} {src d i : Nat} (hs : src < p.size) (hd : d ≤ src) : (bubble p src d).getD i 0 = if i = src - d then p.getD src 0 else if src - d < i ∧ i ≤ src then p.getD (i - 1) 0 else p.getD i 0 := by
  have e := getElem?_bubble hs d hd i
  have gd : ∀ (a : Array Nat) (j : Nat), a.getD j 0 = (a[j]?).getD 0 := fun a j => by simp [Array.getD]; split <;> simp [*]
  rw [gd, gd, gd, gd, e]
  split
  · rfl
  · split <;> rfl
theorem bin_ok (ha : Asks k n cmp Iv) (ki : Inj k n) {Q : Array Nat → Shared → Prop} : ∀ (f : Nat) (p : Array Nat) (kk : Nat) (s : Shared), kk + f = n → Gd n p → Up k p kk → Iv s → (∀ p' s', Gd n p' → Up k p' n → Iv s' → Q p' s') → (kas_bin f p kk).kasWp cmp Q s
  | 0, p, kk, s, h1, g, u, iv, q => q p s g (by rw [show n = kk by omega]; exact u) iv
  | f + 1, p, kk, s, h1, g, u, iv, q => by
    unfold kas_bin
    rw [KasT.kasWp_bind]
    have sz := g.size
    refine place_ok ha ki g (by omega) u kk 0 kk s (Nat.zero_le _) (Nat.le_refl _) (by omega) (fun i hi => by omega) (fun i a b => by omega) iv fun l s' hl a1 a2 iv' => ?_
    refine bin_ok ha ki f _ (kk + 1) s' (by omega) (g.perm (bubble_perm _ _ _)) (fun i j hij hj => ?_) iv' q
    rw [bub_at (by omega) (by omega), bub_at (by omega) (by omega), show kk - (kk - l) = l by omega]
    by_cases c1 : i = l
    · rw [if_pos c1, if_neg (by omega), if_pos (by omega)]
      exact a2 _ (by omega) (by omega)
    · rw [if_neg c1]
      by_cases c2 : j = l
      · rw [if_pos c2, if_neg (by omega)]
        exact a1 i (by omega)
      · rw [if_neg c2]
        by_cases c3 : l < i ∧ i ≤ kk
        · rw [if_pos c3, if_pos (by omega)]
          exact u _ _ (by omega) (by omega)
        · rw [if_neg c3]
          by_cases c4 : l < j ∧ j ≤ kk
          · rw [if_pos c4]
            by_cases c5 : i = j - 1
            · omega
            · exact u _ _ (by omega) (by omega)
          · rw [if_neg c4]
            exact u _ _ hij (by omega)
theorem sort_ok (ha : Asks k n cmp Iv) (ki : Inj k n) {G : Array Nat → Shared → Prop} {s : Shared} (n2 : 2 ≤ n) (iv : Iv s) (q : ∀ p s', Gd n p → Up k p n → Iv s' → G p s') : (kas_sort n).kasWp cmp G s := by
  unfold kas_sort
  rw [KasT.kasWp_bind]
  have g0 : Gd n (List.toArray (List.range n)) := by unfold Gd; simp
  refine count_ok ha ki g0 n2 iv fun m p s1 h1 h2 g u iv1 => ?_
  dsimp only
  by_cases c : m < n
  · rw [if_pos c, show max m 1 = m by omega]
    exact bin_ok ha ki _ p m s1 (by omega) g u iv1 q
  · rw [if_neg c]
    exact q p s1 g (by rw [show n = m by omega]; exact u) iv1
end
end KS

set_option Elab.async false
set_option linter.all false
set_option maxRecDepth 100000
set_option maxHeartbeats 4000000
namespace Bd
open PySem L2
theorem perm_back {rs : List Nat} {n : Nat} (h : rs.Perm (List.range n)) : ∃ τ : Nat → Nat, ∀ v, v < n → τ (rs.getD v 0) = v := by
  have nd : rs.Nodup := h.nodup_iff.mpr List.nodup_range
  have len : rs.length = n := by rw [h.length_eq, List.length_range]
  refine ⟨fun z => rs.idxOf z, fun v hv => ?_⟩
  have e : rs.getD v 0 = rs[v] := by rw [List.getD_eq_getElem?_getD, List.getElem?_eq_getElem (by omega)]; rfl
  show rs.idxOf (rs.getD v 0) = v
  rw [e]
  exact List.Nodup.idxOf_getElem nd v (by omega)
theorem perm_lt {rs : List Nat} {n v : Nat} (h : rs.Perm (List.range n)) (hv : v < n) : rs.getD v 0 < n := by
  have len : rs.length = n := by rw [h.length_eq, List.length_range]
  rw [List.getD_eq_getElem?_getD, List.getElem?_eq_getElem (by omega)]
  exact List.mem_range.mp (h.mem_iff.mp (List.getElem_mem _))
end Bd
namespace L2
open PySem PySem.Spec PyProof.Rows EX Bd
end L2

set_option Elab.async false
set_option linter.all false
set_option maxRecDepth 100000
set_option maxHeartbeats 4000000
namespace L2
open PySem PySem.Spec PyProof.Rows Bd
theorem ObjOk.there {P : Program} {w : World} {H : Hp} {h : Heap} {a : Addr} {o : HO} (x : ObjOk P w H h a o) : ∃ ob, h.get? a = some ob := by
  cases o with
  | lst xs => obtain ⟨_, _, _, _, e⟩ := x; exact ⟨_, e⟩
  | tup xs => obtain ⟨_, _, _, o, e, _⟩ := x; exact ⟨_, e⟩
  | dK kvs => obtain ⟨_, _, _, _, o, _, _, e, _⟩ := x; exact ⟨_, e⟩
  | dT kvs => obtain ⟨_, _, _, _, o, _, _, e, _⟩ := x; exact ⟨_, e⟩
  | set S n => obtain ⟨o, _, _, _, e, _⟩ := x; exact ⟨_, e⟩
  | ins C dx fs => obtain ⟨_, _, _, e, _⟩ := x; exact ⟨_, e⟩
  | own _ => exact x
  | xd fs => obtain ⟨_, ⟨o, _, _, e, _⟩, _⟩ := x; exact ⟨_, e⟩
  | rng lo hi => obtain ⟨_, _, _, e⟩ := x; exact ⟨_, e⟩
  | frz o u => exact ⟨_, x.1⟩
  | tbl ps => exact ⟨_, x⟩
  | met f y => exact ⟨_, x⟩
  | ext φ => exact x.2.1
noncomputable def TupB (h : Heap) (u : Value) (b : Bond) : Prop := ∃ (t : Addr) (o : Obj) (n : Nat) (t1 t2 t3 : Tok), u = .ref t ∧ h.get? t = some o ∧ o.cls = .type "tuple" ∧ o.data = .seq #[.int (b.x : Int) t1, .int (b.y : Int) t2, .int b.c t3] n
theorem bond_tup {P : Program} {w : World} {H : Hp} {h : Heap} (ok : HOk P w H h) {v : V} {u : Value} {b : Bond} (r : RelV v u) (hb : BondAt H v b) : TupB h u b := by
  obtain ⟨t, rfl, ht⟩ := hb
  cases r
  obtain ⟨_, its, rv, o, e, hc, ⟨n, hd⟩, _⟩ := ok t _ ht
  cases rv with
  | cons r1 rv =>
    cases rv with
    | cons r2 rv =>
      cases rv with
      | cons r3 rv =>
        cases rv
        obtain ⟨t1, rfl⟩ := r1
        obtain ⟨t2, rfl⟩ := r2
        obtain ⟨t3, rfl⟩ := r3
        exact ⟨t, o, n, t1, t2, t3, rfl, e, hc, hd⟩
theorem kat_tups {h : Heap} : ∀ {us : List Value} {B : List Bond}, us.length = B.length → (∀ (i : Nat) u b, us[i]? = some u → B[i]? = some b → TupB h u b) → ∃ fs, PySem.W.KatTups h us fs ∧ fs.length = B.length ∧ ∀ v ∈ fs, ∃ i t, v = .int i t
  | [], [], _, _ => ⟨[], trivial, rfl, fun v hv => by cases hv⟩
  | [], b :: B, e, _ => by cases e
  | u :: us, [], e, _ => by cases e
  | u :: us, b :: B, e, h => by
    obtain ⟨fs, k1, k2, k3⟩ := kat_tups (us := us) (B := B) (by simpa using e) fun i u b e1 e2 => h (i + 1) u b e1 e2
    obtain ⟨t, o, n, t1, t2, t3, rfl, h1, h2, h3⟩ := h 0 u b rfl rfl
    refine ⟨.int (b.x : Int) t1 :: fs, PySem.W.KatTups.cons h1 h2 h3 rfl k1, by rw [List.length_cons, List.length_cons, k2], fun v hv => ?_⟩
    rcases List.mem_cons.mp hv with rfl | hv
    · exact ⟨_, _, rfl⟩
    · exact k3 v hv
theorem vals_pick {xs : List V} {us : List Value} (r : Vals xs us) : ∀ (ps : List Nat), (∀ i ∈ ps, i < xs.length) → Vals (ps.map fun i => xs.getD i .non) (ps.map fun i => us.getD i .none)
  | [], _ => .nil
  | i :: ps, h => by
    have hi := h i List.mem_cons_self
    have e : xs[i]? = some xs[i] := List.getElem?_eq_getElem hi
    obtain ⟨u, eu, ru⟩ := r.get e
    refine .cons ?_ (vals_pick r ps fun j hj => h j (List.mem_cons_of_mem _ hj))
    show RelV (xs.getD i .non) (us.getD i .none)
    rw [List.getD_eq_getElem?_getD, List.getD_eq_getElem?_getD, e, eu]
    exact ru
theorem bs_pick {H : Hp} {vs : List V} {B : List Bond} (h : BsIs H vs B) (ps : List Nat) (hp : ∀ i ∈ ps, i < B.length) : BsIs H (ps.map fun i => vs.getD i .non) (ps.map fun i => B.getD i bd0) := by
  refine ⟨by rw [List.length_map, List.length_map], fun j v b e1 e2 => ?_⟩
  rw [List.getElem?_map] at e1 e2
  cases e : ps[j]? with
  | none => rw [e] at e1; cases e1
  | some i =>
    rw [e] at e1 e2
    have hi := hp i (List.mem_of_getElem? e)
    have hi' : i < vs.length := by rw [h.1]; exact hi
    have x1 : vs[i]? = some vs[i] := List.getElem?_eq_getElem hi'
    have x2 : B[i]? = some B[i] := List.getElem?_eq_getElem hi
    have y1 : vs.getD i .non = v := Option.some.inj e1
    have y2 : B.getD i bd0 = b := Option.some.inj e2
    rw [List.getD_eq_getElem?_getD, x1] at y1
    rw [List.getD_eq_getElem?_getD, x2] at y2
    subst y1 y2
    exact h.2 i _ _ x1 x2
theorem pick_all {B : List Bond} {ps : List Nat} (h : ps.Perm (List.range B.length)) : (ps.map fun i => B.getD i bd0).Perm B := by
  have e : (List.range B.length).map (fun i => B.getD i bd0) = B := by
    refine List.ext_getElem? fun i => ?_
    rw [List.getElem?_map]
    rcases Nat.lt_or_ge i B.length with c | c
    · rw [List.getElem?_range c, List.getElem?_eq_getElem c]
      show some (B.getD i bd0) = _
      rw [List.getD_eq_getElem?_getD, List.getElem?_eq_getElem c]
      rfl
    · rw [List.getElem?_eq_none (by rw [List.length_range]; exact c), List.getElem?_eq_none c]
      rfl
  have := h.map (fun i => B.getD i bd0)
  rwa [e] at this
noncomputable def rSortB : List V → Hp → VK → Prop := fun xs H Q => ∃ (p : Addr) (B : List Bond), xs = [.ref p] ∧ BondsAt H p B ∧ 2 ≤ B.length ∧ B.length < 64 ∧ (∀ i j, i < B.length → j < B.length → (B.getD i bd0).x = (B.getD j bd0).x → i = j) ∧
  ∀ (l : Addr) (zs : List V) (C : List Bond), H l = none → BsIs H zs C → C.Perm B → C.Pairwise (fun a b => a.x < b.x) → Q (.ref l) (upd H l (.lst zs))
theorem call_sortedB {X : Cx} : CallR X (.builtin "sorted") rSortB := by
  intro pins s σ H xs us Q I r h
  obtain ⟨p, B, rfl, ⟨vs, hp, hB⟩, n2, n64, inj, q⟩ := h
  cases r with
  | cons ru rr =>
    cases rr
    cases ru
    obtain ⟨_, its, ni, rv, hli⟩ : ObjOk X.prog X.w H s.heap p (.lst vs) := I.hok p _ hp
    obtain ⟨m, hn, _⟩ := id I.loc
    have F : Fr X.base X.env.locals s.heap m := ⟨hn, I.bk, Nat.le_trans I.ok.bsz I.ok.above⟩
    have neL : ∀ {b : Addr} {ob : Obj}, s.heap.get? b = some ob → (∀ es ep, ob.data ≠ .dict es ep) → b ≠ X.env.locals := fun {b ob} e d z => by
      obtain ⟨o', es, ep, e', d', _⟩ := hn
      rw [z, e'] at e; cases e
      exact d es ep d'
    have il : its.length = B.length := by rw [← rv.length]; exact hB.1
    have tups : ∀ (i : Nat) u b, its[i]? = some u → B[i]? = some b → TupB s.heap u b := fun i u b e1 e2 => by
      have hi : i < vs.length := by rw [hB.1]; exact (List.getElem?_eq_some_iff.mp e2).1
      obtain ⟨u', eu, ru⟩ := rv.get (List.getElem?_eq_getElem hi)
      rw [e1] at eu
      cases eu
      exact bond_tup I.hok ru (hB.2 i _ b (List.getElem?_eq_getElem hi) e2)
    refine PySem.W.kat_sorted (vs := its) F newsB_ok ⟨_, hli, rfl, ni, rfl⟩ (by omega) (by omega) fun D e1 h' F' N' lt => ?_
    have kp : ∀ {b : Addr} {ob : Obj}, b ≠ X.env.locals → s.heap.get? b = some ob → h'.get? b = some ob := fun hL e => kept_all F F' (fun p hp => (N' p (List.mem_cons_of_mem _ hp)).1) hL e
    have tups' : ∀ (i : Nat) u b, its[i]? = some u → B[i]? = some b → TupB h' u b := fun i u b e1 e2 => by
      obtain ⟨t, o, n, t1, t2, t3, rfl, h1, h2, h3⟩ := tups i u b e1 e2
      exact ⟨t, o, n, t1, t2, t3, rfl, kp (neL h1 fun _ _ => by rw [h3]; simp) h1, h2, h3⟩
    obtain ⟨fs, k1, k2, k3⟩ := kat_tups il tups'
    refine PySem.W.kat_kind (s := { s with heap := h' }) (T := .type "int") k1 (by omega) (fun v hv => ?_) rfl ?_
    · obtain ⟨i, t, rfl⟩ := k3 v hv
      exact PySem.W.Looks.now
    show (PySem.W.kas_sort its.length).kasWp (PySem.W.kas_ask X.prog X.w X.A.in1.in1 (tuples' true) its) _ _
    rw [il]
    refine KS.sort_ok (k := fun i => ((B.getD i bd0).x : Int)) (Iv := fun s' => s' = { s with heap := h' }) (fun i j C s2 hi hj ne iv hC => ?_) (fun i j hi hj z => inj i j hi hj (by have z : ((B.getD i bd0).x : Int) = ((B.getD j bd0).x : Int) := z; omega)) n2 rfl fun ps s2 g u iv => ?_
    · subst iv
      obtain ⟨t, o, n, t1, t2, t3, e1, h1, h2, h3⟩ := tups' i its[i] B[i] (List.getElem?_eq_getElem (by omega)) (List.getElem?_eq_getElem hi)
      obtain ⟨t', o', n', t1', t2', t3', e1', h1', h2', h3'⟩ := tups' j its[j] B[j] (List.getElem?_eq_getElem (by omega)) (List.getElem?_eq_getElem hj)
      unfold PySem.W.kas_ask
      rw [List.getD_eq_getElem?_getD, List.getD_eq_getElem?_getD, List.getElem?_eq_getElem (show i < its.length by omega), List.getElem?_eq_getElem (show j < its.length by omega)]
      show wpAny _ _ (keyLt' (tuples' true) its[i] its[j]) _ _ _
      rw [e1, e1']
      have ei : B.getD i bd0 = B[i] := by rw [List.getD_eq_getElem?_getD, List.getElem?_eq_getElem hi]; rfl
      have ej : B.getD j bd0 = B[j] := by rw [List.getD_eq_getElem?_getD, List.getElem?_eq_getElem hj]; rfl
      have nx : (B[i].x : Int) ≠ (B[j].x : Int) := fun z => ne (inj i j hi hj (by rw [ei, ej]; omega))
      refine PySem.W.kat_lt h1 h3 h1' h3' (PySem.W.kat_cons (wpAny_eqBool_int ?_))
      rw [beq_eq_false_iff_ne.mpr nx]
      refine PySem.W.kat_no ?_
      have hh : C (decide (((B.getD i bd0).x : Int) < ((B.getD j bd0).x : Int))) { s with heap := h' } := hC _ rfl
      rw [ei, ej] at hh
      exact PySem.W.kat_lt_int hh
    · subst iv
      have newD : ∀ {b : Addr} {ob : Obj}, s.heap.get? b = some ob → b ≠ D := fun {b ob} e z => by
        have nd := (N' _ List.mem_cons_self).2
        by_cases hL : b = X.env.locals
        · exact nd.1 (z.symm.trans hL)
        · have := lt _ (newsB_mem (h₀ := X.base) e hL (by rw [z]; exact nd.2))
          rw [z] at this
          exact Nat.lt_irrefl _ this
      refine PySem.W.KasFin.intro F' N' (PySem.W.UpdF.head fun p hp => Nat.ne_of_lt (lt p hp)) fun h2 c F2 N2 => ?_
      have kp2 : ∀ {b : Addr} {ob : Obj}, b ≠ X.env.locals → s.heap.get? b = some ob → h2.get? b = some ob := fun hL e => kept_all F F2 (fun p hp => (N2 p (List.mem_cons_of_mem _ hp)).1) hL e
      have hD : h2.get? D = some (PySem.W.listOf (List.toArray (ps.toList.map fun i => its.getD i Value.none)) c) := (N2 _ List.mem_cons_self).1
      have plt : ∀ i ∈ ps.toList, i < B.length := fun i hi => List.mem_range.mp (g.mem_iff.mp hi)
      have pl : ps.toList.length = B.length := by rw [g.length_eq, List.length_range]
      have fr : H D = none := by
        cases e : H D with
        | none => rfl
        | some u =>
          obtain ⟨ob, e2⟩ := (I.hok D u e).there
          exact absurd rfl (newD e2)
      have J : Inv X pins σ (upd H D (.lst (ps.toList.map fun i => vs.getD i .non))) { s with heap := h2, gens := s.gens, drawn := s.drawn, toks := s.toks } := by
        refine I.step (h' := h2) (g' := s.gens) (d' := s.drawn) (t' := s.toks) (ch := []) (fun _ z => nomatch z) (fun b ob hL _ _ e _ => kp2 hL e) (fun b ob hL _ _ e _ => ⟨ob.slots, kp2 hL e⟩)
          (fun b ob _ e z => by rw [upd_ne (newD e)]; exact z) (fun b ob _ e => ?_) (fun b xs e => by rw [upd_ne (ne_of_none e fr)]; exact e) (fun b ob u e => by rw [upd_ne (ne_of_none e fr)]; exact e) (fun b qs e => ⟨#[], by rw [upd_ne (ne_of_none e fr), e]; simp⟩)
          (fun m' hm' => by rw [ns_one hm' hn]; exact F2.ns) (fun b u e => ?_) I.bare
        · by_cases hb : b = X.env.locals
          · obtain ⟨o', _, _, e', _⟩ := F2.ns
            exact ⟨o', hb ▸ e'⟩
          · exact ⟨ob, kp2 hb e⟩
        · by_cases hb : b = D
          · subst hb
            rw [upd_same] at e
            cases e
            exact ⟨szl (by rw [List.length_map, pl]; omega), _, c, vals_pick rv ps.toList (fun i hi => by rw [hB.1]; exact plt i hi), hD⟩
          · rw [upd_ne hb] at e
            have nl : ∀ {b u}, H b = some u → b ≠ X.env.locals := fun {b u} e z => by rw [z, I.free] at e; cases e
            refine (I.hok b u e).stay (fun c v hc q => kp2 ?_ q) (fun c q => by rw [upd_ne (ne_of_none q fr)]; exact q) fun c xs q => by rw [upd_ne (ne_of_none q fr)]; exact q
            rcases hc with z | z
            · rw [z]; exact nl e
            · exact nl z
      refine ⟨.ref D, _, J, rfl, q D _ _ fr (bs_pick hB ps.toList plt) (pick_all g) ?_⟩
      rw [List.pairwise_map, List.pairwise_iff_getElem]
      intro i j hi hj hij
      have := u i j hij (by omega)
      have e1 : ps.toList[i] = ps.getD i 0 := by
        rw [Array.length_toList] at hi
        simp [Array.getD, hi]
      have e2 : ps.toList[j] = ps.getD j 0 := by
        rw [Array.length_toList] at hj
        simp [Array.getD, hj]
      rw [e1, e2]
      have this : ((B.getD (ps.getD i 0) bd0).x : Int) < ((B.getD (ps.getD j 0) bd0).x : Int) := this
      omega
end L2

set_option Elab.async false
set_option linter.all false
set_option maxRecDepth 100000
set_option maxHeartbeats 4000000
namespace Bd
open PySem L2
theorem asc_one : ∀ {C D : List Bond}, C.Pairwise (fun a b => a.x < b.x) → D.Pairwise (fun a b => a.x < b.x) → (∀ b, b ∈ C ↔ b ∈ D) → C = D
  | [], [], _, _, _ => rfl
  | [], d :: D, _, _, h => absurd ((h d).mpr List.mem_cons_self) (by simp)
  | c :: C, [], _, _, h => absurd ((h c).mp List.mem_cons_self) (by simp)
  | c :: C, d :: D, p, q, h => by
    rw [List.pairwise_cons] at p q
    have e : c = d := by
      rcases List.mem_cons.mp ((h c).mp List.mem_cons_self) with e | e
      · exact e
      · rcases List.mem_cons.mp ((h d).mpr List.mem_cons_self) with e' | e'
        · exact e'.symm
        · have := q.1 c e
          have := p.1 d e'
          omega
    subst e
    congr 1
    refine asc_one p.2 q.2 fun b => ⟨fun hb => ?_, fun hb => ?_⟩
    · rcases List.mem_cons.mp ((h b).mp (List.mem_cons_of_mem _ hb)) with e | e
      · have := p.1 b hb
        rw [e] at this
        omega
      · exact e
    · rcases List.mem_cons.mp ((h b).mpr (List.mem_cons_of_mem _ hb)) with e | e
      · have := q.1 b hb
        rw [e] at this
        omega
      · exact e
theorem one_neg : ∀ {L : List Int} {p : Nat}, L[p]? = some (-1) → (∀ k, k ≠ p → ∀ z, L[k]? = some z → 0 ≤ z) → L.sum < 0 → ∀ k, k ≠ p → ∀ z, L[k]? = some z → z = 0
  | [], p, h, _, _ => by simp at h
  | a :: L, 0, h, hp, hs => by
    have ha : a = -1 := Option.some.inj h
    subst ha
    have nn : ∀ z ∈ L, 0 ≤ z := fun z hz => by
      obtain ⟨i, hi⟩ := List.mem_iff_getElem?.mp hz
      exact hp (i + 1) (by omega) z hi
    have s0 : ∀ (M : List Int), (∀ z ∈ M, 0 ≤ z) → 0 ≤ M.sum ∧ ∀ z ∈ M, z ≤ M.sum := fun M => by
      induction M with
      | nil => exact fun _ => ⟨Int.le_refl _, fun z hz => by cases hz⟩
      | cons b M ih =>
        intro hM
        obtain ⟨i1, i2⟩ := ih fun z hz => hM z (List.mem_cons_of_mem _ hz)
        have b0 := hM b List.mem_cons_self
        rw [List.sum_cons]
        refine ⟨by omega, fun z hz => ?_⟩
        rcases List.mem_cons.mp hz with e | e
        · omega
        · have := i2 z e
          omega
    obtain ⟨t1, t2⟩ := s0 L nn
    rw [List.sum_cons] at hs
    intro k hk z hz
    cases k with
    | zero => exact absurd rfl hk
    | succ k =>
      have m := List.mem_of_getElem? (show L[k]? = some z from hz)
      have := t2 z m
      have := nn z m
      omega
  | a :: L, p + 1, h, hp, hs => by
    have a0 : 0 ≤ a := hp 0 (by omega) a rfl
    rw [List.sum_cons] at hs
    have ih := one_neg (L := L) (p := p) h (fun k hk z hz => hp (k + 1) (by omega) z hz) (by omega)
    have low : ∀ {M : List Int} {p : Nat}, M[p]? = some (-1) → (∀ k, k ≠ p → ∀ z, M[k]? = some z → 0 ≤ z) → -1 ≤ M.sum := by
      intro M
      induction M with
      | nil => intro p h; simp at h
      | cons b M ihm =>
        intro p h hp
        rw [List.sum_cons]
        cases p with
        | zero =>
          have hb : b = -1 := Option.some.inj h
          have nn : ∀ z ∈ M, 0 ≤ z := fun z hz => by
            obtain ⟨i, hi⟩ := List.mem_iff_getElem?.mp hz
            exact hp (i + 1) (by omega) z hi
          have s0 : 0 ≤ M.sum := by
            clear ihm hp h
            induction M with
            | nil => exact Int.le_refl _
            | cons c M ih => rw [List.sum_cons]; have := nn c List.mem_cons_self; have := ih fun z hz => nn z (List.mem_cons_of_mem _ hz); omega
          omega
        | succ p =>
          have := ihm (p := p) h fun k hk z hz => hp (k + 1) (by omega) z hz
          have := hp 0 (by omega) b rfl
          omega
    have lo := low (M := L) (p := p) h fun k hk z hz => hp (k + 1) (by omega) z hz
    intro k hk z hz
    cases k with
    | zero =>
      have : a = z := Option.some.inj hz
      omega
    | succ k => exact ih k (by omega) z hz
noncomputable def slk (f : Nat → Int) (b : Bond) : Int := b.c - (f b.x - f b.y)
theorem sum_slk {f : Nat → Int} {B : List Bond} {R : List Nat} {u : Nat → Nat} (hb : ∀ k i, R[k]? = some i → ∃ b, B[i]? = some b ∧ b.x = u k ∧ b.y = u (k + 1)) : ∀ m, m ≤ R.length → ((R.take m).map fun i => slk f (B.getD i bd0)).sum = sumC B (R.take m) - (f (u 0) - f (u m))
  | 0, _ => by simp [sumC]
  | m + 1, hm => by
    have ih := sum_slk (f := f) hb m (by omega)
    have e : R[m]? = some R[m] := List.getElem?_eq_getElem (by omega)
    obtain ⟨b, e1, e2, e3⟩ := hb m _ e
    have eb : B.getD R[m] bd0 = b := by rw [List.getD_eq_getElem?_getD, e1]; rfl
    rw [take_snoc e, List.map_append, List.sum_append, ih, sumC_app, List.map_cons, List.map_nil, List.sum_cons, List.sum_nil, sumC, sumC, eb]
    unfold slk
    rw [e2, e3]
    omega
theorem ex_neg : ∀ {L : List Int}, L.sum < 0 → ∃ (p : Nat) (z : Int), L[p]? = some z ∧ z < 0
  | [], h => by simp at h
  | a :: L, h => by
    by_cases c : a < 0
    · exact ⟨0, a, rfl, c⟩
    · rw [List.sum_cons] at h
      obtain ⟨p, z, e, hz⟩ := ex_neg (L := L) (by omega)
      exact ⟨p + 1, z, e, hz⟩
theorem slk_ring {f : Nat → Int} {rs : List Nat} {n : Nat} {ls : Int} {j : Nat} : slk f (ringAt f rs n ls j) = 0 - (if j = 0 then ls else 0) := by
  show f (rs.getD j 0) - f (rs.getD ((j + 1) % n) 0) - (if j = 0 then ls else 0) - (f (rs.getD j 0) - f (rs.getD ((j + 1) % n) 0)) = _
  omega
theorem ring_only {n : Nat} {f : Nat → Int} {rs : List Nat} {B lo : List Bond} {R : List Nat} {u : Nat → Nat} (n0 : 0 < n) (hp : rs.Perm (List.range n)) (hB : B.Perm (lo ++ ringB f rs n 1)) (hl : ∀ b ∈ lo, 10 ≤ slk f b) (hR : RingOk B R u) :
    R.length = n ∧ (∀ b, b ∈ (R.map fun i => B.getD i bd0) ↔ b ∈ ringB f rs n 1) ∧ ∀ i j, i < R.length → j < R.length → (B.getD (R.getD i 0) bd0).x = (B.getD (R.getD j 0) bd0).x → i = j := by
  obtain ⟨τ, hτ⟩ := perm_back hp
  have rinj : ∀ j j', j < n → j' < n → rs.getD j 0 = rs.getD j' 0 → j = j' := fun j j' a b e => by rw [← hτ j a, e, hτ j' b]
  have kind : ∀ b ∈ B, 10 ≤ slk f b ∨ ∃ j, j < n ∧ b = ringAt f rs n 1 j := fun b hb => by
    rcases List.mem_append.mp (hB.mem_iff.mp hb) with h | h
    · exact .inl (hl b h)
    · obtain ⟨j, hj, rfl⟩ := List.mem_map.mp h
      exact .inr ⟨j, List.mem_range.mp hj, rfl⟩
  have pw : B.Pairwise fun a b => a = b → 10 ≤ slk f a := by
    refine (hB.pairwise_iff (fun {x y} h e => by subst e; exact h rfl)).mpr ?_
    rw [List.pairwise_append]
    refine ⟨?_, ?_, fun a ha b _ _ => hl a ha⟩
    · exact List.pairwise_iff_getElem.mpr fun i j hi hj _ _ => hl _ (List.getElem_mem hi)
    · unfold ringB
      rw [List.pairwise_map]
      refine List.Pairwise.imp_of_mem (R := fun a b => a < b) (fun {a b} ha hb hab e => ?_) List.pairwise_lt_range
      have := rinj a b (List.mem_range.mp ha) (List.mem_range.mp hb) (congrArg Bond.x e)
      omega
  have uniq : ∀ i i' j, i < B.length → i' < B.length → j < n → B.getD i bd0 = ringAt f rs n 1 j → B.getD i' bd0 = ringAt f rs n 1 j → i = i' := fun i i' j hi hi' hj e e' => by
    have g1 : B.getD i bd0 = B[i] := by rw [List.getD_eq_getElem?_getD, List.getElem?_eq_getElem hi]; rfl
    have g2 : B.getD i' bd0 = B[i'] := by rw [List.getD_eq_getElem?_getD, List.getElem?_eq_getElem hi']; rfl
    have sl : slk f (ringAt f rs n 1 j) ≤ 0 := by rw [slk_ring]; split <;> omega
    rw [g1] at e
    rw [g2] at e'
    rcases Nat.lt_trichotomy i i' with c | c | c
    · have := List.pairwise_iff_getElem.mp pw i i' hi hi' c (by rw [e, e'])
      rw [e] at this
      omega
    · exact c
    · have := List.pairwise_iff_getElem.mp pw i' i hi' hi c (by rw [e, e'])
      rw [e'] at this
      omega
  have at' : ∀ k, k < R.length → R.getD k 0 < B.length ∧ B.getD (R.getD k 0) bd0 ∈ B ∧ (B.getD (R.getD k 0) bd0).x = u k ∧ (B.getD (R.getD k 0) bd0).y = u (k + 1) := fun k hk => by
    have e : R[k]? = some R[k] := List.getElem?_eq_getElem hk
    obtain ⟨b, e1, e2, e3⟩ := hR.bond k _ e
    have g : R.getD k 0 = R[k] := by rw [List.getD_eq_getElem?_getD, e]; rfl
    have eb : B.getD (R.getD k 0) bd0 = b := by rw [g, List.getD_eq_getElem?_getD, e1]; rfl
    rw [eb]
    exact ⟨by rw [g]; exact (List.getElem?_eq_some_iff.mp e1).1, List.mem_of_getElem? e1, e2, e3⟩
  have ndR : ∀ k k', k < R.length → k' < R.length → R.getD k 0 = R.getD k' 0 → k = k' := fun k k' hk hk' e => by
    rw [List.getD_eq_getElem?_getD, List.getD_eq_getElem?_getD, List.getElem?_eq_getElem hk, List.getElem?_eq_getElem hk'] at e
    exact (List.getElem?_inj hk hR.nd).mp (by rw [List.getElem?_eq_getElem hk, List.getElem?_eq_getElem hk']; exact congrArg some e)
  have same : ∀ k k' j, k < R.length → k' < R.length → j < n → B.getD (R.getD k 0) bd0 = ringAt f rs n 1 j → B.getD (R.getD k' 0) bd0 = ringAt f rs n 1 j → k = k' := fun k k' j hk hk' hj e e' =>
    ndR k k' hk hk' (uniq _ _ j (at' k hk).1 (at' k' hk').1 hj e e')
  have sumneg : (R.map fun i => slk f (B.getD i bd0)).sum < 0 := by
    have := sum_slk (f := f) hR.bond R.length (Nat.le_refl _)
    rw [List.take_length, hR.back] at this
    have := hR.neg
    omega
  have Lat : ∀ k z, (R.map fun i => slk f (B.getD i bd0))[k]? = some z → k < R.length ∧ z = slk f (B.getD (R.getD k 0) bd0) := fun k z e => by
    rw [List.getElem?_map] at e
    cases q : R[k]? with
    | none => rw [q] at e; cases e
    | some i =>
      rw [q] at e
      refine ⟨(List.getElem?_eq_some_iff.mp q).1, ?_⟩
      rw [List.getD_eq_getElem?_getD (l := R), q]
      exact (Option.some.inj e).symm
  obtain ⟨p, z, ep, hz⟩ := ex_neg sumneg
  obtain ⟨hpl, rfl⟩ := Lat p z ep
  have first : ∀ k, k < R.length → slk f (B.getD (R.getD k 0) bd0) < 0 → B.getD (R.getD k 0) bd0 = ringAt f rs n 1 0 := fun k hk h => by
    rcases kind _ (at' k hk).2.1 with c | ⟨j, hj, c⟩
    · omega
    · rw [c, slk_ring] at h
      by_cases j0 : j = 0
      · rw [c, j0]
      · rw [if_neg j0] at h; omega
  have bp := first p hpl hz
  have oth : ∀ k, k ≠ p → ∀ z, (R.map fun i => slk f (B.getD i bd0))[k]? = some z → 0 ≤ z := fun k hk z e => by
    obtain ⟨hkl, rfl⟩ := Lat k z e
    refine Classical.byContradiction fun c => hk ?_
    exact same k p 0 hkl hpl n0 (first k hkl (by omega)) bp
  have ep1 : (R.map fun i => slk f (B.getD i bd0))[p]? = some (-1) := by rw [ep, bp, slk_ring, if_pos rfl]; rfl
  have zero := one_neg ep1 oth sumneg
  have ring : ∀ k, k < R.length → ∃ j, j < n ∧ B.getD (R.getD k 0) bd0 = ringAt f rs n 1 j := fun k hk => by
    by_cases c : k = p
    · exact ⟨0, n0, by rw [c]; exact bp⟩
    · rcases kind _ (at' k hk).2.1 with h | h
      · have e : (R.map fun i => slk f (B.getD i bd0))[k]? = some (slk f (B.getD (R.getD k 0) bd0)) := by
          rw [List.getElem?_map, List.getElem?_eq_getElem hk, List.getD_eq_getElem?_getD (l := R), List.getElem?_eq_getElem hk]
          rfl
        have := zero k c _ e
        omega
      · exact h
  have len0 := hR.pos
  have trace : ∀ t, B.getD (R.getD ((p + t) % R.length) 0) bd0 = ringAt f rs n 1 (t % n) := by
    intro t
    induction t with
    | zero => rw [Nat.add_zero, Nat.mod_eq_of_lt hpl, Nat.zero_mod]; exact bp
    | succ t ih =>
      have q1 : (p + t) % R.length < R.length := Nat.mod_lt _ len0
      have q2 : (p + (t + 1)) % R.length < R.length := Nat.mod_lt _ len0
      have a1 := at' _ q1
      have a2 := at' _ q2
      obtain ⟨j, hj, ej⟩ := ring _ q2
      have hu : u ((p + (t + 1)) % R.length) = u ((p + t) % R.length + 1) := by
        have e : (p + (t + 1)) % R.length = ((p + t) % R.length + 1) % R.length := by rw [← Nat.add_assoc, Nat.mod_add_mod]
        by_cases c : (p + t) % R.length + 1 = R.length
        · rw [e, c, Nat.mod_self, hR.back]
        · rw [e, Nat.mod_eq_of_lt (by omega)]
      have xe : rs.getD j 0 = rs.getD ((t % n + 1) % n) 0 := by
        have e1 : (B.getD (R.getD ((p + (t + 1)) % R.length) 0) bd0).x = rs.getD j 0 := by rw [ej]; rfl
        have e2 : (B.getD (R.getD ((p + t) % R.length) 0) bd0).y = rs.getD ((t % n + 1) % n) 0 := by rw [ih]; rfl
        rw [← e1, ← e2, a2.2.2.1, a1.2.2.2, hu]
      have := rinj j _ hj (Nat.mod_lt _ n0) xe
      rw [ej, this, Nat.mod_add_mod]
  have div : R.length % n = 0 := by
    have e := trace R.length
    rw [Nat.add_mod_right, Nat.mod_eq_of_lt hpl, bp] at e
    exact (rinj 0 _ n0 (Nat.mod_lt _ n0) (congrArg Bond.x e)).symm
  have le : R.length ≤ n := by
    refine Classical.byContradiction fun c => ?_
    have e := trace n
    rw [Nat.mod_self] at e
    have := same _ p 0 (Nat.mod_lt _ len0) hpl n0 e bp
    by_cases w : p + n < R.length
    · rw [Nat.mod_eq_of_lt w] at this; omega
    · rw [Nat.mod_eq_sub_mod (by omega), Nat.mod_eq_of_lt (by omega)] at this; omega
  have len : R.length = n := by
    by_cases c : R.length < n
    · rw [Nat.mod_eq_of_lt c] at div; omega
    · omega
  refine ⟨len, fun b => ⟨fun hb => ?_, fun hb => ?_⟩, fun i j hi hj e => ?_⟩
  · obtain ⟨i, hi, rfl⟩ := List.mem_map.mp hb
    obtain ⟨k, hk, e⟩ := List.mem_iff_getElem.mp hi
    obtain ⟨j, hj, ej⟩ := ring k hk
    have g : R.getD k 0 = i := by rw [List.getD_eq_getElem?_getD, List.getElem?_eq_getElem hk]; exact e
    show B.getD i bd0 ∈ _
    rw [← g, ej]
    exact ringB_mem hj
  · obtain ⟨j, hj, rfl⟩ := List.mem_map.mp hb
    have hj := List.mem_range.mp hj
    have e := trace j
    rw [Nat.mod_eq_of_lt hj] at e
    have q1 : (p + j) % R.length < R.length := Nat.mod_lt _ len0
    refine List.mem_map.mpr ⟨R.getD ((p + j) % R.length) 0, ?_, e⟩
    rw [List.getD_eq_getElem?_getD, List.getElem?_eq_getElem q1]
    exact List.getElem_mem q1
  · obtain ⟨a, ha, ea⟩ := ring i hi
    obtain ⟨b, hb, eb⟩ := ring j hj
    rw [ea, eb] at e
    have := rinj a b ha hb e
    subst this
    exact same i j a hi hj ha ea eb
theorem rigid {n : Nat} {f g : Nat → Int} {rs : List Nat} {B : List Bond} (n0 : 0 < n) (hp : rs.Perm (List.range n)) (hs : ∀ b ∈ ringB f rs n 0, b ∈ B) (h : Holds g B) {v w : Nat} (hv : v < n) (hw : w < n) : g v - f v = g w - f w := by
  have st : ∀ k, k < n → g (rs.getD k 0) - f (rs.getD k 0) ≤ g (rs.getD ((k + 1) % n) 0) - f (rs.getD ((k + 1) % n) 0) := fun k hk => by
    have : g (rs.getD k 0) - g (rs.getD ((k + 1) % n) 0) ≤ f (rs.getD k 0) - f (rs.getD ((k + 1) % n) 0) - (if k = 0 then 0 else 0) := h _ (hs _ (ringB_mem hk))
    split at this <;> omega
  have up : ∀ j, j < n → g (rs.getD 0 0) - f (rs.getD 0 0) ≤ g (rs.getD j 0) - f (rs.getD j 0) := by
    intro j
    induction j with
    | zero => exact fun _ => Int.le_refl _
    | succ j ih =>
      intro hj
      have := ih (by omega)
      have := st j (by omega)
      rw [Nat.mod_eq_of_lt hj] at this
      omega
  have dn : ∀ d, d < n → g (rs.getD (n - 1 - d) 0) - f (rs.getD (n - 1 - d) 0) ≤ g (rs.getD 0 0) - f (rs.getD 0 0) := by
    intro d
    induction d with
    | zero =>
      intro _
      have := st (n - 1) (by omega)
      rw [show n - 1 + 1 = n by omega, Nat.mod_self] at this
      exact this
    | succ d ih =>
      intro hd
      have := ih (by omega)
      have := st (n - 1 - (d + 1)) (by omega)
      rw [show n - 1 - (d + 1) + 1 = n - 1 - d by omega, Nat.mod_eq_of_lt (by omega)] at this
      omega
  have all : ∀ v, v < n → g v - f v = g (rs.getD 0 0) - f (rs.getD 0 0) := fun v hv => by
    have m : v ∈ rs := hp.mem_iff.mpr (List.mem_range.mpr hv)
    obtain ⟨j, hj, e⟩ := List.mem_iff_getElem.mp m
    have len : rs.length = n := by rw [hp.length_eq, List.length_range]
    have ej : rs.getD j 0 = v := by rw [List.getD_eq_getElem?_getD, List.getElem?_eq_getElem hj]; exact e
    have a1 := up j (by omega)
    have a2 := dn (n - 1 - j) (by omega)
    rw [show n - 1 - (n - 1 - j) = j by omega] at a2
    rw [ej] at a1 a2
    omega
  rw [all v hv, all w hw]
end Bd
namespace L2
open PySem PySem.Spec PyProof.Rows EX Bd
noncomputable def spBond47 : Sp := fun vs H Q _ => ∃ (c : Int) (n : Nat) (f : Nat → Int) (l : Addr), vs = [.int c, .ref l, .int (-1), .int 10] ∧ 0 < n ∧ n ≤ 1000 ∧ H l = some (.lst (vl n f)) ∧ ∀ (r : Addr) (H' : Hp) (b : Bond), Same H H' → b.x < n → b.y < n → 10 ≤ slk f b → BondAt H' (.ref r) b → Q (.ref r) H'
noncomputable def spDue47 : Sp := fun vs H Q _ => ∃ (l : Addr) (n : Nat) (f : Nat → Int), vs = [.ref l] ∧ H l = some (.lst (vl n f)) ∧ 0 < n ∧ n ≤ 1000 ∧ ∀ (r : Addr) (H' : Hp), Same H H' → H' r = some (.lst (vl n fun v => f v - f 0)) → Q (.ref r) H'
end L2

set_option Elab.async false
set_option linter.all false
set_option maxRecDepth 100000
set_option maxHeartbeats 4000000

namespace Fw
open PySem L2 Bd


noncomputable def top (i : Nat) : Stmt := PySem.Challenge.pw_furrow_k47_long_rings.main.body.getD i (.Pass ⟨0, 0, 0, 0⟩)
noncomputable abbrev s_settled : Stmt := top 1
noncomputable abbrev s_lowered_in_a_round : Stmt := top 2
noncomputable abbrev s_ring_behind : Stmt := top 3
noncomputable abbrev s_most : Stmt := top 8
noncomputable abbrev s_shortest_chain : Stmt := top 9
noncomputable abbrev s_chains_to : Stmt := top 10
noncomputable abbrev s_shortened_in_a_round : Stmt := top 11
noncomputable abbrev s_l_cell : Stmt := top 13
noncomputable abbrev s_l_whole : Stmt := top 14
noncomputable abbrev s_l_mixed : Stmt := top 15
noncomputable abbrev s_l_heights : Stmt := top 16
noncomputable abbrev s_l_bond : Stmt := top 17
noncomputable abbrev s_l_cells : Stmt := top 18
noncomputable abbrev s_l_hold : Stmt := top 19
noncomputable abbrev s_l_falls : Stmt := top 20
noncomputable abbrev s_l_round : Stmt := top 21
noncomputable abbrev s_l_put_in : Stmt := top 22
noncomputable abbrev s_l_chain : Stmt := top 23
noncomputable abbrev s_l_reached : Stmt := top 24
noncomputable abbrev s_l_due : Stmt := top 25
noncomputable abbrev s_law : Stmt := top 26
theorem sc_settled : FnScope ["count", "bonds", "values", "lowered_by", "lowered", "lap"] ["count", "bonds"] (defScope s_settled) := ⟨rfl, rfl, rfl, by decide +kernel, rfl, by decide +kernel, by decide +kernel⟩
theorem sc_lowered_in_a_round : FnScope ["bonds", "values", "lowered_by", "lowered", "number", "bond", "top"] ["bonds", "values", "lowered_by"] (defScope s_lowered_in_a_round) := ⟨rfl, rfl, rfl, by decide +kernel, rfl, by decide +kernel, by decide +kernel⟩
theorem sc_ring_behind : FnScope ["count", "bonds", "lowered_by", "lowered", "start", "lap", "ring", "at"] ["count", "bonds", "lowered_by", "lowered"] (defScope s_ring_behind) := ⟨rfl, rfl, rfl, by decide +kernel, rfl, by decide +kernel, by decide +kernel⟩
theorem sc_most : FnScope ["count", "bonds", "x", "y", "answer", "chain", "c"] ["count", "bonds", "x", "y"] (defScope s_most) := ⟨rfl, rfl, rfl, by decide +kernel, rfl, by decide +kernel, by decide +kernel⟩
theorem sc_shortest_chain : FnScope ["count", "bonds", "x", "y", "reached_by", "chain", "at"] ["count", "bonds", "x", "y"] (defScope s_shortest_chain) := ⟨rfl, rfl, rfl, by decide +kernel, rfl, by decide +kernel, by decide +kernel⟩
theorem sc_chains_to : FnScope ["count", "bonds", "y", "lengths", "reached_by", "shortened"] ["count", "bonds", "y"] (defScope s_chains_to) := ⟨rfl, rfl, rfl, by decide +kernel, rfl, by decide +kernel, by decide +kernel⟩
theorem sc_shortened_in_a_round : FnScope ["bonds", "lengths", "reached_by", "shortened", "number", "bond", "length"] ["bonds", "lengths", "reached_by"] (defScope s_shortened_in_a_round) := ⟨rfl, rfl, rfl, by decide +kernel, rfl, by decide +kernel, by decide +kernel⟩
theorem sc_l_cell : FnScope ["_law_script", "_law_k", "_law_number"] ["_law_script", "_law_k"] (defScope s_l_cell) := ⟨rfl, rfl, rfl, by decide +kernel, rfl, by decide +kernel, by decide +kernel⟩
theorem sc_l_whole : FnScope ["_law_found"] ["_law_found"] (defScope s_l_whole) := ⟨rfl, rfl, rfl, by decide +kernel, rfl, by decide +kernel, by decide +kernel⟩
theorem sc_l_mixed : FnScope ["_law_cell_here", "_law_number"] ["_law_cell_here"] (defScope s_l_mixed) := ⟨rfl, rfl, rfl, by decide +kernel, rfl, by decide +kernel, by decide +kernel⟩
theorem sc_l_heights : FnScope ["_law_cell_here", "_law_count", "_law_span", "_law_heights_here", "_law_number", "_law_v"] ["_law_cell_here", "_law_count", "_law_span"] (defScope s_l_heights) := ⟨rfl, rfl, rfl, by decide +kernel, rfl, by decide +kernel, by decide +kernel⟩
theorem sc_l_bond : FnScope ["_law_cell_here", "_law_heights_here", "_law_less", "_law_by", "_law_number", "_law_x", "_law_y", "_law_more"] ["_law_cell_here", "_law_heights_here", "_law_less", "_law_by"] (defScope s_l_bond) := ⟨rfl, rfl, rfl, by decide +kernel, rfl, by decide +kernel, by decide +kernel⟩
theorem sc_l_cells : FnScope ["_law_script", "_law_room", "_law_cells_here", "_law_many"] ["_law_script", "_law_room"] (defScope s_l_cells) := ⟨rfl, rfl, rfl, by decide +kernel, rfl, by decide +kernel, by decide +kernel⟩
theorem sc_l_hold : FnScope ["_law_values", "_law_count", "_law_bonds", "_law_value", "_law_x", "_law_y", "_law_c"] ["_law_values", "_law_count", "_law_bonds"] (defScope s_l_hold) := ⟨rfl, rfl, rfl, by decide +kernel, rfl, by decide +kernel, by decide +kernel⟩
theorem sc_l_falls : FnScope ["_law_ring", "_law_bonds", "_law_seen", "_law_number", "_law_total", "_law_k"] ["_law_ring", "_law_bonds"] (defScope s_l_falls) := ⟨rfl, rfl, rfl, by decide +kernel, rfl, by decide +kernel, by decide +kernel⟩
theorem sc_l_round : FnScope ["_law_heights_here", "_law_ranks", "_law_many", "_law_less", "_law_ring", "_law_k", "_law_x", "_law_y", "_law_c"] ["_law_heights_here", "_law_ranks", "_law_many", "_law_less"] (defScope s_l_round) := ⟨rfl, rfl, rfl, by decide +kernel, rfl, by decide +kernel, by decide +kernel⟩
theorem sc_l_put_in : FnScope ["_law_bonds", "_law_ring", "_law_cell_here", "_law_found", "_law_number", "_law_bond_here"] ["_law_bonds", "_law_ring", "_law_cell_here"] (defScope s_l_put_in) := ⟨rfl, rfl, rfl, by decide +kernel, rfl, by decide +kernel, by decide +kernel⟩
theorem sc_l_chain : FnScope ["_law_chain_here", "_law_bonds", "_law_x", "_law_y", "_law_c", "_law_here", "_law_total", "_law_number"] ["_law_chain_here", "_law_bonds", "_law_x", "_law_y", "_law_c"] (defScope s_l_chain) := ⟨rfl, rfl, rfl, by decide +kernel, rfl, by decide +kernel, by decide +kernel⟩
theorem sc_l_reached : FnScope ["_law_found", "_law_count", "_law_bonds", "_law_x", "_law_y"] ["_law_found", "_law_count", "_law_bonds", "_law_x", "_law_y"] (defScope s_l_reached) := ⟨rfl, rfl, rfl, by decide +kernel, rfl, by decide +kernel, by decide +kernel⟩
theorem sc_l_due : FnScope ["_law_heights_here"] ["_law_heights_here"] (defScope s_l_due) := ⟨rfl, rfl, rfl, by decide +kernel, rfl, by decide +kernel, by decide +kernel⟩
theorem sc_law : FnScope ["_law_script", "_law_first", "_law_count", "_law_span", "_law_heights_here", "_law_loose", "_law_cell_here", "_law_others", "_law_ranks", "_law_less", "_law_ring", "_law_bonds", "_law_handed", "_law_found", "_law_x", "_law_y", "_law_told"] ["_law_script"] (defScope s_law) := ⟨rfl, rfl, rfl, by decide +kernel, rfl, by decide +kernel, by decide +kernel⟩
theorem c_settled_0 : compB (mkSc [(".0", .local), ("value", .local), ("values", .free)]) (defScope s_settled) ["count", "bonds", "values", "lowered_by", "lowered", "lap"] ["value", "values"] [none, some 2] = true := by decide +kernel
theorem c_settled_0n : (["value", "values"] : List Str).Nodup := by decide +kernel
theorem c_most_0 : compB (mkSc [(".0", .local), ("number", .local), ("bonds", .free)]) (defScope s_most) ["count", "bonds", "x", "y", "answer", "chain", "c"] ["number", "bonds"] [none, some 1] = true := by decide +kernel
theorem c_most_0n : (["number", "bonds"] : List Str).Nodup := by decide +kernel
theorem c_l_due_0 : compB (mkSc [(".0", .local), ("_law_height", .local), ("_law_heights_here", .free)]) (defScope s_l_due) ["_law_heights_here"] ["_law_height", "_law_heights_here"] [none, some 0] = true := by decide +kernel
theorem c_l_due_0n : (["_law_height", "_law_heights_here"] : List Str).Nodup := by decide +kernel
theorem c_law_0 : compB (mkSc [(".0", .local), ("_law_cell_here", .local), ("_law_bond", .globalImplicit), ("_law_heights_here", .free)]) (defScope s_law) ["_law_script", "_law_first", "_law_count", "_law_span", "_law_heights_here", "_law_loose", "_law_cell_here", "_law_others", "_law_ranks", "_law_less", "_law_ring", "_law_bonds", "_law_handed", "_law_found", "_law_x", "_law_y", "_law_told"] ["_law_cell_here", "_law_heights_here"] [none, some 4] = true := by decide +kernel
theorem c_law_0n : (["_law_cell_here", "_law_heights_here"] : List Str).Nodup := by decide +kernel
theorem c_law_1 : compB (mkSc [(".0", .local), ("_law_number", .local), ("_law_bonds", .free)]) (defScope s_law) ["_law_script", "_law_first", "_law_count", "_law_span", "_law_heights_here", "_law_loose", "_law_cell_here", "_law_others", "_law_ranks", "_law_less", "_law_ring", "_law_bonds", "_law_handed", "_law_found", "_law_x", "_law_y", "_law_told"] ["_law_number", "_law_bonds"] [none, some 11] = true := by decide +kernel
theorem c_law_1n : (["_law_number", "_law_bonds"] : List Str).Nodup := by decide +kernel
structure Ad where
  f_settled : Addr
  d_settled : FuncData
  f_lowered_in_a_round : Addr
  d_lowered_in_a_round : FuncData
  f_ring_behind : Addr
  d_ring_behind : FuncData
  f_most : Addr
  d_most : FuncData
  f_shortest_chain : Addr
  d_shortest_chain : FuncData
  f_chains_to : Addr
  d_chains_to : FuncData
  f_shortened_in_a_round : Addr
  d_shortened_in_a_round : FuncData
  f_l_cell : Addr
  d_l_cell : FuncData
  f_l_whole : Addr
  d_l_whole : FuncData
  f_l_mixed : Addr
  d_l_mixed : FuncData
  f_l_heights : Addr
  d_l_heights : FuncData
  f_l_bond : Addr
  d_l_bond : FuncData
  f_l_cells : Addr
  d_l_cells : FuncData
  f_l_hold : Addr
  d_l_hold : FuncData
  f_l_falls : Addr
  d_l_falls : FuncData
  f_l_round : Addr
  d_l_round : FuncData
  f_l_put_in : Addr
  d_l_put_in : FuncData
  f_l_chain : Addr
  d_l_chain : FuncData
  f_l_reached : Addr
  d_l_reached : FuncData
  f_l_due : Addr
  d_l_due : FuncData
  f_law : Addr
  d_law : FuncData
  c_tab : Addr
  p_tab : Addr
structure Tx (K : PySem.W.Frag) (mg : Str → Option Value) (a : Ad) : Prop where
  F_settled : Fun K "settled" "settled" s_settled a.f_settled a.d_settled
  b_settled : Binds K a.d_settled ["count", "bonds"] []
  m_settled : mg "settled" = some (.ref a.f_settled)
  F_lowered_in_a_round : Fun K "lowered_in_a_round" "lowered_in_a_round" s_lowered_in_a_round a.f_lowered_in_a_round a.d_lowered_in_a_round
  b_lowered_in_a_round : Binds K a.d_lowered_in_a_round ["bonds", "values", "lowered_by"] []
  m_lowered_in_a_round : mg "lowered_in_a_round" = some (.ref a.f_lowered_in_a_round)
  F_ring_behind : Fun K "ring_behind" "ring_behind" s_ring_behind a.f_ring_behind a.d_ring_behind
  b_ring_behind : Binds K a.d_ring_behind ["count", "bonds", "lowered_by", "lowered"] []
  m_ring_behind : mg "ring_behind" = some (.ref a.f_ring_behind)
  F_most : Fun K "most" "most" s_most a.f_most a.d_most
  b_most : Binds K a.d_most ["count", "bonds", "x", "y"] []
  m_most : mg "most" = some (.ref a.f_most)
  F_shortest_chain : Fun K "shortest_chain" "shortest_chain" s_shortest_chain a.f_shortest_chain a.d_shortest_chain
  b_shortest_chain : Binds K a.d_shortest_chain ["count", "bonds", "x", "y"] []
  m_shortest_chain : mg "shortest_chain" = some (.ref a.f_shortest_chain)
  F_chains_to : Fun K "chains_to" "chains_to" s_chains_to a.f_chains_to a.d_chains_to
  b_chains_to : Binds K a.d_chains_to ["count", "bonds", "y"] []
  m_chains_to : mg "chains_to" = some (.ref a.f_chains_to)
  F_shortened_in_a_round : Fun K "shortened_in_a_round" "shortened_in_a_round" s_shortened_in_a_round a.f_shortened_in_a_round a.d_shortened_in_a_round
  b_shortened_in_a_round : Binds K a.d_shortened_in_a_round ["bonds", "lengths", "reached_by"] []
  m_shortened_in_a_round : mg "shortened_in_a_round" = some (.ref a.f_shortened_in_a_round)
  F_l_cell : Fun K "_law_cell" "_law_cell" s_l_cell a.f_l_cell a.d_l_cell
  b_l_cell : Binds K a.d_l_cell ["_law_script", "_law_k"] []
  m_l_cell : mg "_law_cell" = some (.ref a.f_l_cell)
  F_l_whole : Fun K "_law_whole" "_law_whole" s_l_whole a.f_l_whole a.d_l_whole
  b_l_whole : Binds K a.d_l_whole ["_law_found"] []
  m_l_whole : mg "_law_whole" = some (.ref a.f_l_whole)
  F_l_mixed : Fun K "_law_mixed" "_law_mixed" s_l_mixed a.f_l_mixed a.d_l_mixed
  b_l_mixed : Binds K a.d_l_mixed ["_law_cell_here"] []
  m_l_mixed : mg "_law_mixed" = some (.ref a.f_l_mixed)
  F_l_heights : Fun K "_law_heights" "_law_heights" s_l_heights a.f_l_heights a.d_l_heights
  b_l_heights : Binds K a.d_l_heights ["_law_cell_here", "_law_count", "_law_span"] []
  m_l_heights : mg "_law_heights" = some (.ref a.f_l_heights)
  F_l_bond : Fun K "_law_bond" "_law_bond" s_l_bond a.f_l_bond a.d_l_bond
  b_l_bond : Binds K a.d_l_bond ["_law_cell_here", "_law_heights_here", "_law_less", "_law_by"] []
  m_l_bond : mg "_law_bond" = some (.ref a.f_l_bond)
  F_l_cells : Fun K "_law_cells" "_law_cells" s_l_cells a.f_l_cells a.d_l_cells
  b_l_cells : Binds K a.d_l_cells ["_law_script", "_law_room"] []
  m_l_cells : mg "_law_cells" = some (.ref a.f_l_cells)
  F_l_hold : Fun K "_law_hold" "_law_hold" s_l_hold a.f_l_hold a.d_l_hold
  b_l_hold : Binds K a.d_l_hold ["_law_values", "_law_count", "_law_bonds"] []
  m_l_hold : mg "_law_hold" = some (.ref a.f_l_hold)
  F_l_falls : Fun K "_law_falls" "_law_falls" s_l_falls a.f_l_falls a.d_l_falls
  b_l_falls : Binds K a.d_l_falls ["_law_ring", "_law_bonds"] []
  m_l_falls : mg "_law_falls" = some (.ref a.f_l_falls)
  F_l_round : Fun K "_law_round" "_law_round" s_l_round a.f_l_round a.d_l_round
  b_l_round : Binds K a.d_l_round ["_law_heights_here", "_law_ranks", "_law_many", "_law_less"] []
  m_l_round : mg "_law_round" = some (.ref a.f_l_round)
  F_l_put_in : Fun K "_law_put_in" "_law_put_in" s_l_put_in a.f_l_put_in a.d_l_put_in
  b_l_put_in : Binds K a.d_l_put_in ["_law_bonds", "_law_ring", "_law_cell_here"] []
  m_l_put_in : mg "_law_put_in" = some (.ref a.f_l_put_in)
  F_l_chain : Fun K "_law_chain" "_law_chain" s_l_chain a.f_l_chain a.d_l_chain
  b_l_chain : Binds K a.d_l_chain ["_law_chain_here", "_law_bonds", "_law_x", "_law_y", "_law_c"] []
  m_l_chain : mg "_law_chain" = some (.ref a.f_l_chain)
  F_l_reached : Fun K "_law_reached" "_law_reached" s_l_reached a.f_l_reached a.d_l_reached
  b_l_reached : Binds K a.d_l_reached ["_law_found", "_law_count", "_law_bonds", "_law_x", "_law_y"] []
  m_l_reached : mg "_law_reached" = some (.ref a.f_l_reached)
  F_l_due : Fun K "_law_due" "_law_due" s_l_due a.f_l_due a.d_l_due
  b_l_due : Binds K a.d_l_due ["_law_heights_here"] []
  m_l_due : mg "_law_due" = some (.ref a.f_l_due)
  F_law : Fun K "law" "law" s_law a.f_law a.d_law
  b_law : Binds K a.d_law ["_law_script"] []
  m_law : mg "law" = some (.ref a.f_law)
  z_bool : mg "bool" = none
  z_enumerate : mg "enumerate" = none
  z_int : mg "int" = none
  z_isinstance : mg "isinstance" = none
  z_len : mg "len" = none
  z_list : mg "list" = none
  z_min : mg "min" = none
  z_range : mg "range" = none
  z_sorted : mg "sorted" = none
  z_sum : mg "sum" = none
  z_tuple : mg "tuple" = none
  nl : PySem.W.nsIn K mainGlobals "law" = some (some (.ref a.f_law))
  tb : PySem.W.tabIn K "law" = some (a.c_tab, a.p_tab)
  np : K.lookup a.p_tab = none
section
variable {P : Program} {w : World} {K : PySem.W.Frag} {mg : Str → Option Value} {base : Heap} {a : Ad}
theorem ok_whole (T : Tx K mg a) : FnOk P w K mg base CX0 1 a.f_l_whole a.d_l_whole ["_law_found"] spWhole := by
  refine T.F_l_whole.ok sc_l_whole (fun vs H Q E h => ?_) (fun cdv A outer s H vs Q E hr h => ?_)
  · obtain ⟨_, rfl, _⟩ := h; rfl
  obtain ⟨x, rfl, hx, q⟩ := h
  refine ⟨_, (@pss_one _ _ _ (@ps_ret _ _ _ _ (@pe_and _ _ _ _ _ _ _ (@pe_callB _ _ _ _ _ _ _ _ _ call_isi (by rfl) T.z_isinstance bt_isinstance (@pa_cons _ _ _ _ _ (pv 0) (@pa_cons _ _ _ _ _ (@pe_bltn _ _ (.ty "int") _ _ (by rfl) T.z_int bt_int rfl (by decide) (by decide)) pa_nil (by rfl)) (by rfl)) (by decide) (by decide) (by rfl) (by rfl)) (@pe_one _ _ _ _ _ (@pe_not _ _ _ _ (@pe_callB _ _ _ _ _ _ _ _ _ call_isi (by rfl) T.z_isinstance bt_isinstance (@pa_cons _ _ _ _ _ (pv 0) (@pa_cons _ _ _ _ _ (@pe_bltn _ _ (.ty "bool") _ _ (by rfl) T.z_bool bt_bool rfl (by decide) (by decide)) pa_nil (by rfl)) (by rfl)) (by decide) (by decide) (by rfl) (by rfl))))))), ?_⟩
  cases x with
  | int i => exact ⟨_, rfl, _, _, _, _, _, rfl, rfl, .int i, rfl, _, rfl, _, rfl, _, _, _, _, _, rfl, rfl, .int i, rfl, _, rfl, q⟩
  | bl b => exact ⟨_, rfl, _, _, _, _, _, rfl, rfl, .bl b, rfl, _, rfl, _, rfl, _, _, _, _, _, rfl, rfl, .bl b, rfl, _, rfl, q⟩
  | non => exact ⟨_, rfl, _, _, _, _, _, rfl, rfl, .non, rfl, _, rfl, q⟩
  | str z => exact ⟨_, rfl, _, _, _, _, _, rfl, rfl, .str z, rfl, _, rfl, q⟩
  | _ => cases hx

theorem ok_cell (T : Tx K mg a) : FnOk P w K mg base CX0 1 a.f_l_cell a.d_l_cell ["_law_script", "_law_k"] (spCellA K) := by
  refine T.F_l_cell.ok sc_l_cell (fun vs H Q E h => ?_) (fun cdv A outer s H vs Q E hr h => ?_)
  · obtain ⟨_, _, _, rfl, _⟩ := h; rfl
  obtain ⟨p, ns, k, rfl, hS, h0, h1, q⟩ := h
  refine ⟨_, (@pss_cons _ _ _ _ _ (@ps_if _ _ _ _ _ _ _ _ (@pt_cmpR _ _ _ _ _ _ _ _ op_lt (pv 1) (@pe_callB _ _ _ _ _ _ _ _ _ call_len_seq (by rfl) T.z_len bt_len (@pa_cons _ _ _ _ _ (pv 0) pa_nil (by rfl)) (by decide) (by decide) (by rfl) (by rfl)) (@nomark _ _ (by decide) (by decide))) (@pss_one _ _ _ (@ps_ret _ _ _ _ (@pe_ix _ _ _ _ _ _ _ ix_list (pv 0) (pv 1) (fun _ _ => rfl)))) pss_nil) (@pss_cons _ _ _ _ _ (@ps_set _ _ (2) _ _ _ _ sc_l_cell.nd rfl (Or.inl rfl) (@pe_op _ _ _ _ _ _ _ _ op_add (@pe_op _ _ _ _ _ _ _ _ op_mul (pv 1) pe_int) pe_int) (by rfl) (by first | exact .inl rfl | exact .inr rfl | assumption)) (@pss_cons _ _ _ _ _ (@ps_if _ _ _ _ _ _ _ _ (@pt_cmpR _ _ _ _ _ _ _ _ op_gt (@pe_callB _ _ _ _ _ _ _ _ _ call_len_seq (by rfl) T.z_len bt_len (@pa_cons _ _ _ _ _ (pv 0) pa_nil (by rfl)) (by decide) (by decide) (by rfl) (by rfl)) pe_int (@nomark _ _ (by decide) (by decide))) (@pss_one _ _ _ (@ps_set _ _ (2) _ _ _ _ sc_l_cell.nd rfl (Or.inl rfl) (@pe_op _ _ _ _ _ _ _ _ op_mod (@pe_op _ _ _ _ _ _ _ _ op_add (@pe_op _ _ _ _ _ _ _ _ op_mul (@pe_ix _ _ _ _ _ _ _ ix_list (pv 0) (@pe_op _ _ _ _ _ _ _ _ op_mod (@pe_op _ _ _ _ _ _ _ _ op_mul (pv 1) pe_int) (@pe_callB _ _ _ _ _ _ _ _ _ call_len_seq (by rfl) T.z_len bt_len (@pa_cons _ _ _ _ _ (pv 0) pa_nil (by rfl)) (by decide) (by decide) (by rfl) (by rfl))) (fun _ _ => rfl)) pe_int) (@pe_op _ _ _ _ _ _ _ _ op_mul (pv 1) pe_int)) pe_int) (by rfl) (by first | exact .inl rfl | exact .inr rfl | assumption))) pss_nil) (@pss_one _ _ _ (@ps_ret _ _ _ _ (@pe_op _ _ _ _ _ _ _ _ op_mod (@pe_op _ _ _ _ _ _ _ _ op_mul (pv 2) (pv 2)) pe_int)))))), ?_⟩
  have hl : (ns.map V.int).length = ns.length := List.length_map _
  have p64 : (2 : Int) ^ 64 = 18446744073709551616 := by decide
  refine ⟨_, rfl, _, rfl, p, _, rfl, .inl hS, _, _, rfl, rfl, _, rfl, ?_⟩
  refine ite2 (fun c => ?_) (fun c => ?_)
  · have c' := dT c
    rw [hl] at c'
    exact ⟨_, rfl, _, rfl, p, _, _, _, rfl, rfl, hS, cell_in h0 c', q _⟩
  refine ⟨_, rfl, _, _, rfl, rfl, .inr ⟨by decide, by decide⟩, _, _, rfl, rfl, ?_⟩
  refine ⟨_, rfl, p, _, rfl, .inl hS, _, _, rfl, rfl, _, rfl, ?_⟩
  refine ite2 (fun c2 => ?_) (fun c2 => ?_)
  · have c2 := dT c2
    have m0 := Int.emod_nonneg (k * 7) (show ((ns.map V.int).length : Int) ≠ 0 by omega)
    have m1 := Int.emod_lt_of_pos (k * 7) c2
    refine ⟨_, rfl, _, rfl, _, _, rfl, rfl, .inr ⟨by decide, by decide⟩, _, rfl, p, _, rfl, .inl hS, _, _, rfl, rfl, c2, ?_⟩
    refine ⟨p, _, _, _, rfl, rfl, hS, cell_in m0 (by rw [hl] at m1 ⊢; exact m1), _, _, rfl, rfl, .inr ⟨by decide, by decide⟩, _, rfl, _, _, rfl, rfl, .inr ⟨by decide, by decide⟩, _, _, rfl, rfl, _, _, rfl, rfl, (by show (0 : Int) < 2147483647; decide), ?_⟩
    have b0 := Int.emod_nonneg (ns.getD (k * 7 % ((ns.map V.int).length : Int)).toNat 0 * 48271 + k * 7919) (show (2147483647 : Int) ≠ 0 by decide)
    have b1 := Int.emod_lt_of_pos (ns.getD (k * 7 % ((ns.map V.int).length : Int)).toNat 0 * 48271 + k * 7919) (show (0 : Int) < 2147483647 by decide)
    exact ⟨_, rfl, _, rfl, _, _, rfl, rfl, .inl ⟨by omega, by omega⟩, _, _, rfl, rfl, (by show (0 : Int) < 2147483629; decide), q _⟩
  · exact ⟨_, rfl, _, rfl, _, _, rfl, rfl, .inl ⟨by omega, by omega⟩, _, _, rfl, rfl, (by show (0 : Int) < 2147483629; decide), q _⟩

theorem ok_mixed (T : Tx K mg a) : FnOk P w K mg base CX0 1 a.f_l_mixed a.d_l_mixed ["_law_cell_here"] spMixed := by
  refine T.F_l_mixed.ok sc_l_mixed (fun vs H Q E h => ?_) (fun cdv A outer s H vs Q E hr h => ?_)
  · obtain ⟨_, rfl, _⟩ := h; rfl
  obtain ⟨c, rfl, q⟩ := h
  refine ⟨_, (@pss_cons _ _ _ _ _ (@ps_set _ _ (1) _ _ _ _ sc_l_mixed.nd rfl (Or.inl rfl) (@pe_op _ _ _ _ _ _ _ _ op_mod (@pe_op _ _ _ _ _ _ _ _ op_mul (@pe_op _ _ _ _ _ _ _ _ op_add (pv 0) pe_int) pe_int) pe_int) (by rfl) (by first | exact .inl rfl | exact .inr rfl | assumption)) (@pss_one _ _ _ (@ps_ret _ _ _ _ (@pe_op _ _ _ _ _ _ _ _ op_mod (@pe_op _ _ _ _ _ _ _ _ op_mul (pv 1) (pv 1)) pe_int)))), ?_⟩
  have p64 : (2 : Int) ^ 64 = 18446744073709551616 := by decide
  have b0 := Int.emod_nonneg ((c + 1) * 48271) (show (2147483647 : Int) ≠ 0 by decide)
  have b1 := Int.emod_lt_of_pos ((c + 1) * 48271) (show (0 : Int) < 2147483647 by decide)
  refine ⟨_, rfl, _, _, rfl, rfl, _, _, rfl, rfl, .inr ⟨by decide, by decide⟩, _, _, rfl, rfl, (by show (0 : Int) < 2147483647; decide), ?_⟩
  exact ⟨_, rfl, _, rfl, _, _, rfl, rfl, .inl ⟨by omega, by omega⟩, _, _, rfl, rfl, (by show (0 : Int) < 2147483629; decide), q _ (Int.emod_nonneg _ (by decide)) (Int.emod_lt_of_pos _ (by decide))⟩

theorem ok_heights (T : Tx K mg a) : FnOk P w K mg base CX0 1 a.f_l_heights a.d_l_heights ["_law_cell_here", "_law_count", "_law_span"] spHeights := by
  refine T.F_l_heights.ok sc_l_heights (fun vs H Q E h => ?_) (fun cdv A outer s H vs Q E hr h => ?_)
  · obtain ⟨_, _, _, rfl, _⟩ := h; rfl
  obtain ⟨c, sp, n, rfl, hn, hsp, q⟩ := h
  refine ⟨_, (@pss_cons _ _ _ _ _ (@ps_set _ _ (3) _ _ _ _ sc_l_heights.nd rfl (Or.inl rfl) (@pe_lst _ _ _ _ pa_nil) (by rfl) (by first | exact .inl rfl | exact .inr rfl | assumption)) (@pss_cons _ _ _ _ _ (@ps_set _ _ (4) _ _ _ _ sc_l_heights.nd rfl (Or.inl rfl) (@pe_op _ _ _ _ _ _ _ _ op_mod (pv 0) pe_int) (by rfl) (by first | exact .inl rfl | exact .inr rfl | assumption)) (@pss_cons _ _ _ _ _ (@ps_for _ _ _ _ _ _ _ _ PassesOwn.never rfl (@pi_range1 _ _ _ _ _ _ (by rfl) T.z_range (@pa_cons _ _ _ _ _ (pv 1) pa_nil (by rfl)) (by rfl)) (pg_name (i := 5) sc_l_heights.nd rfl (Or.inl rfl)) (@pss_cons _ _ _ _ _ (@ps_set _ _ (4) _ _ _ _ sc_l_heights.nd rfl (Or.inl rfl) (@pe_op _ _ _ _ _ _ _ _ op_mod (@pe_op _ _ _ _ _ _ _ _ op_add (@pe_op _ _ _ _ _ _ _ _ op_add (@pe_op _ _ _ _ _ _ _ _ op_mul (pv 4) pe_int) (@pe_op _ _ _ _ _ _ _ _ op_mul pe_int (pv 5))) pe_int) pe_int) (by rfl) (by first | exact .inl rfl | exact .inr rfl | assumption)) (@pss_one _ _ _ (@ps_expr _ _ _ _ (@pe_bm _ _ _ _ _ _ _ _ _ _ _ _ PySem.F.plainAttrs_list PySem.F.slot_list_append PySem.F.type_list_append mt_append (pv 3) (@pa_cons _ _ _ _ _ (@pe_op _ _ _ _ _ _ _ _ op_sub (@pe_op _ _ _ _ _ _ _ _ op_mod (@pe_op _ _ _ _ _ _ _ _ op_mul (@pe_op _ _ _ _ _ _ _ _ op_mul (pv 4) (pv 4)) pe_int) (@pe_op _ _ _ _ _ _ _ _ op_add (@pe_op _ _ _ _ _ _ _ _ op_mul pe_int (pv 2)) pe_int)) (pv 2)) pa_nil (by rfl)) (by rfl) (by rfl) (by rfl) (by rfl) (by rfl)) (by rfl)))) (by intro _ ; rfl)) (@pss_one _ _ _ (@ps_ret _ _ _ _ (pv 3)))))), ?_⟩
  have p64 : (2 : Int) ^ 64 = 18446744073709551616 := by decide
  refine ⟨szl (by show 0 ≤ 1000000; decide), fun l hl => ?_⟩
  refine ⟨_, rfl, _, _, rfl, rfl, (by show (0 : Int) < 2147483647; decide), ?_⟩
  refine ⟨_, rfl, (n : Int), rfl, by omega, by omega, ?_⟩
  refine for_range (lo := 0) (n := n) (fun i σ' H' => (∃ m o1, 0 ≤ m ∧ m < 2147483647 ∧ σ' = [some (.int c), some (.int (n : Int)), some (.int sp), some (.ref l), some (.int m), o1]) ∧ Same H H' ∧ ∃ f, H' l = some (.lst (vl i f))) ?_ (fun i σ' H' hi p => ?_) (fun σ' H' p => ?_)
  · exact ⟨⟨_, _, Int.emod_nonneg _ (by decide), Int.emod_lt_of_pos _ (by decide), rfl⟩, same_new hl _, fun _ => 0, upd_same⟩
  · obtain ⟨⟨m, o1, m0, m1, rfl⟩, hs, f, hf⟩ := p
    refine ⟨_, rfl, _, _, rfl, rfl, .inr ⟨by decide, by decide⟩, _, rfl, _, _, rfl, rfl, .inl ⟨by decide, by decide⟩, _, _, rfl, rfl, _, _, rfl, rfl, _, _, rfl, rfl, (by show (0 : Int) < 2147483647; decide), ?_⟩
    have b0 := Int.emod_nonneg (m * 48271 + 7919 * (0 + (i : Int)) + 11) (show (2147483647 : Int) ≠ 0 by decide)
    have b1 := Int.emod_lt_of_pos (m * 48271 + 7919 * (0 + (i : Int)) + 11) (show (0 : Int) < 2147483647 by decide)
    refine ⟨_, rfl, .inl ⟨rfl, _, SqL.of hf⟩, _, rfl, _, rfl, _, _, rfl, rfl, .inl ⟨by omega, by omega⟩, _, _, rfl, rfl, .inr ⟨by decide, by decide⟩, _, rfl, _, _, rfl, rfl, .inl ⟨by decide, by decide⟩, _, _, rfl, rfl, _, _, rfl, rfl, (by show (0 : Int) < 2 * sp + 1; omega), _, rfl, _, _, rfl, rfl, ?_⟩
    refine ⟨l, _, _, rfl, rfl, hf, (by rw [vl_len]; exact szlt (by omega)), ⟨_, _, b0, b1, rfl⟩, fun b o e => ?_, ?_⟩
    · rw [upd_ne (ne_of_none e hl)]; exact hs b o e
    · exact ⟨_, by rw [upd_same, vl_snoc]⟩
  · obtain ⟨⟨m, o1, m0, m1, rfl⟩, hs, f, hf⟩ := p
    exact ⟨_, rfl, q _ _ f hs hf⟩

theorem ok_bond47 (T : Tx K mg a) : FnOk P w K mg base CX0 2 a.f_l_bond a.d_l_bond ["_law_cell_here", "_law_heights_here", "_law_less", "_law_by"] spBond47 := by
  have G_l_mixed := ok_mixed (P := P) (w := w) (base := base) T
  refine T.F_l_bond.ok sc_l_bond (fun vs H Q E h => ?_) (fun cdv A outer s H vs Q E hr h => ?_)
  · obtain ⟨_, _, _, _, rfl, _⟩ := h; rfl
  obtain ⟨c, n, f, l, rfl, n0, n1, hl, q⟩ := h
  refine ⟨_, (@pss_cons _ _ _ _ _ (@ps_set _ _ (4) _ _ _ _ sc_l_bond.nd rfl (Or.inl rfl) (@pe_call _ _ _ _ _ _ _ _ _ _ _ _ _ _ _ _ G_l_mixed (hr.mono (by omega)) (by rfl) T.m_l_mixed T.F_l_mixed.kp T.b_l_mixed .nil pass0 (@pa_cons _ _ _ _ _ (pv 0) pa_nil (by rfl)) (by decide) (by rfl) (by rfl)) (by rfl) (by first | exact .inl rfl | exact .inr rfl | assumption)) (@pss_cons _ _ _ _ _ (@ps_set _ _ (5) _ _ _ _ sc_l_bond.nd rfl (Or.inl rfl) (@pe_op _ _ _ _ _ _ _ _ op_mod (pv 4) (@pe_callB _ _ _ _ _ _ _ _ _ call_len_seq (by rfl) T.z_len bt_len (@pa_cons _ _ _ _ _ (pv 1) pa_nil (by rfl)) (by decide) (by decide) (by rfl) (by rfl))) (by rfl) (by first | exact .inl rfl | exact .inr rfl | assumption)) (@pss_cons _ _ _ _ _ (@ps_set _ _ (6) _ _ _ _ sc_l_bond.nd rfl (Or.inl rfl) (@pe_op _ _ _ _ _ _ _ _ op_mod (@pe_op _ _ _ _ _ _ _ _ op_fdiv (pv 4) pe_int) (@pe_callB _ _ _ _ _ _ _ _ _ call_len_seq (by rfl) T.z_len bt_len (@pa_cons _ _ _ _ _ (pv 1) pa_nil (by rfl)) (by decide) (by decide) (by rfl) (by rfl))) (by rfl) (by first | exact .inl rfl | exact .inr rfl | assumption)) (@pss_cons _ _ _ _ _ (@ps_set _ _ (7) _ _ _ _ sc_l_bond.nd rfl (Or.inl rfl) (@pe_op _ _ _ _ _ _ _ _ op_sub (@pe_op _ _ _ _ _ _ _ _ op_mod (@pe_op _ _ _ _ _ _ _ _ op_fdiv (pv 4) pe_int) pe_int) (pv 2)) (by rfl) (by first | exact .inl rfl | exact .inr rfl | assumption)) (@pss_one _ _ _ (@ps_ret _ _ _ _ (@pe_tupq _ _ _ _ _ (@paq_cons _ _ _ _ _ (pv 5) (@paq_cons _ _ _ _ _ (pv 6) (@paq_cons _ _ _ _ _ (@pe_op _ _ _ _ _ _ _ _ op_add (@pe_op _ _ _ _ _ _ _ _ op_sub (@pe_ix _ _ _ _ _ _ _ ix_list (pv 1) (pv 5) (fun _ _ => rfl)) (@pe_ix _ _ _ _ _ _ _ ix_list (pv 1) (pv 6) (fun _ _ => rfl))) (@pe_op _ _ _ _ _ _ _ _ op_mul (pv 7) (pv 3))) paq_nil star_B) star_N) star_N)))))))), ?_⟩
  have p64 : (2 : Int) ^ 64 = 18446744073709551616 := by decide
  have p18 : (10 : Int) ^ 18 = 1000000000000000000 := by decide
  refine ⟨_, rfl, c, rfl, fun i i0 i1 => ?_⟩
  have hL : ((vl n f).length : Int) = (n : Int) := by rw [vl_len]
  have hp : (0 : Int) < ((vl n f).length : Int) := by omega
  refine ⟨_, rfl, _, rfl, l, _, rfl, .inl (SqL.of hl), _, _, rfl, rfl, hp, ?_⟩
  refine ⟨_, rfl, _, _, rfl, rfl, ⟨by decide, by decide⟩, _, rfl, l, _, rfl, .inl (SqL.of hl), _, _, rfl, rfl, hp, ?_⟩
  refine ⟨_, rfl, _, _, rfl, rfl, ⟨by decide, by decide⟩, _, _, rfl, rfl, (by show (0 : Int) < 4; decide), _, rfl, _, _, rfl, rfl, ?_⟩
  dsimp only [gName]
  rw [hL]
  obtain ⟨x, hx, ex⟩ := mod_nat i n0
  obtain ⟨y, hy, ey⟩ := mod_nat (i / 13) n0
  rw [ex, ey]
  refine ⟨_, rfl, _, rfl, _, rfl, _, rfl, l, _, _, _, rfl, rfl, SqL.of hl, vl_at hx, _, rfl, _, rfl, l, _, _, _, rfl, rfl, SqL.of hl, vl_at hy, _, _, rfl, rfl, _, rfl, _, rfl, _, _, rfl, rfl, .inr ⟨by omega, by omega⟩, _, _, rfl, rfl, szl (by show 3 ≤ 1000000; decide), fun t ht => ?_⟩
  have := Int.emod_nonneg (i / 200) (show (4 : Int) ≠ 0 by decide)
  refine q t _ ⟨x, y, f x - f y + (i / 200 % 4 - -1) * 10⟩ (same_new ht _) hx hy ?_ ⟨t, rfl, upd_same⟩
  show 10 ≤ f x - f y + (i / 200 % 4 - -1) * 10 - (f x - f y)
  omega

theorem ok_cells (T : Tx K mg a) : FnOk P w K mg base CX0 2 a.f_l_cells a.d_l_cells ["_law_script", "_law_room"] (spCells K) := by
  have G_l_mixed := ok_mixed (P := P) (w := w) (base := base) T
  have G_l_cell := ok_cell (P := P) (w := w) (base := base) T
  refine T.F_l_cells.ok sc_l_cells (fun vs H Q E h => ?_) (fun cdv A outer s H vs Q E hr h => ?_)
  · obtain ⟨_, _, _, rfl, _⟩ := h; rfl
  obtain ⟨p, ns, m, rfl, hp, m0, m1, q⟩ := h
  refine ⟨_, (@pss_cons _ _ _ _ _ (@ps_set _ _ (2) _ _ _ _ sc_l_cells.nd rfl (Or.inl rfl) (@pe_callTy _ _ _ _ _ _ _ _ _ call_list_of (by rfl) T.z_list bt_list (@pa_cons _ _ _ _ _ (@pe_slice _ _ _ _ _ _ _ _ _ _ sl_list (pv 0) (@po_some _ _ _ pe_int) (@po_some _ _ _ (@pe_op _ _ _ _ _ _ _ _ op_add pe_int (pv 1)))) pa_nil (by rfl)) (by decide) (by decide) (by rfl) (by rfl)) (by rfl) (by first | exact .inl rfl | exact .inr rfl | assumption)) (@pss_cons _ _ _ _ _ (@ps_set _ _ (3) _ _ _ _ sc_l_cells.nd rfl (Or.inl rfl) (@pe_callB _ _ _ _ _ _ _ _ _ (@call_min2 _ rfl) (by rfl) T.z_min bt_min (@pa_cons _ _ _ _ _ (pv 1) (@pa_cons _ _ _ _ _ (@pe_ix _ _ _ _ _ _ _ ix_list (@pe_lstq _ _ _ _ (@paq_cons _ _ _ _ _ pe_int (@paq_cons _ _ _ _ _ pe_int (@paq_cons _ _ _ _ _ pe_int (@paq_cons _ _ _ _ _ pe_int (@paq_cons _ _ _ _ _ pe_int (@paq_cons _ _ _ _ _ pe_int (@paq_cons _ _ _ _ _ pe_int (@paq_cons _ _ _ _ _ pe_int paq_nil star_C) star_C) star_C) star_C) star_C) star_C) star_C) star_C)) (@pe_op _ _ _ _ _ _ _ _ op_mod (@pe_call _ _ _ _ _ _ _ _ _ _ _ _ _ _ _ _ G_l_mixed (hr.mono (by omega)) (by rfl) T.m_l_mixed T.F_l_mixed.kp T.b_l_mixed .nil pass0 (@pa_cons _ _ _ _ _ (@pe_call _ _ _ _ _ _ _ _ _ _ _ _ _ _ _ _ G_l_cell (hr.mono (by omega)) (by rfl) T.m_l_cell T.F_l_cell.kp T.b_l_cell .nil pass0 (@pa_cons _ _ _ _ _ (pv 0) (@pa_cons _ _ _ _ _ pe_int pa_nil (by rfl)) (by rfl)) (by decide) (by rfl) (by rfl)) pa_nil (by rfl)) (by decide) (by rfl) (by rfl)) pe_int) (fun _ _ => rfl)) pa_nil (by rfl)) (by rfl)) (by decide) (by decide) (by rfl) (by rfl)) (by rfl) (by first | exact .inl rfl | exact .inr rfl | assumption)) (@pss_cons _ _ _ _ _ (@ps_while _ _ _ _ _ _ PassesOwn.never (@pt_cmpR _ _ _ _ _ _ _ _ op_lt (@pe_callB _ _ _ _ _ _ _ _ _ call_len_seq (by rfl) T.z_len bt_len (@pa_cons _ _ _ _ _ (pv 2) pa_nil (by rfl)) (by decide) (by decide) (by rfl) (by rfl)) (pv 3) (@nomark _ _ (by decide) (by decide))) (@pss_one _ _ _ (@ps_expr _ _ _ _ (@pe_bm _ _ _ _ _ _ _ _ _ _ _ _ PySem.F.plainAttrs_list PySem.F.slot_list_append PySem.F.type_list_append mt_append (pv 2) (@pa_cons _ _ _ _ _ (@pe_call _ _ _ _ _ _ _ _ _ _ _ _ _ _ _ _ G_l_cell (hr.mono (by omega)) (by rfl) T.m_l_cell T.F_l_cell.kp T.b_l_cell .nil pass0 (@pa_cons _ _ _ _ _ (pv 0) (@pa_cons _ _ _ _ _ (@pe_op _ _ _ _ _ _ _ _ op_add pe_int (@pe_callB _ _ _ _ _ _ _ _ _ call_len_seq (by rfl) T.z_len bt_len (@pa_cons _ _ _ _ _ (pv 2) pa_nil (by rfl)) (by decide) (by decide) (by rfl) (by rfl))) pa_nil (by rfl)) (by rfl)) (by decide) (by rfl) (by rfl)) pa_nil (by rfl)) (by rfl) (by rfl) (by rfl) (by rfl) (by rfl)) (by rfl)))) (@pss_one _ _ _ (@ps_ret _ _ _ _ (pv 2)))))), ?_⟩
  refine ⟨_, rfl, _, rfl, _, rfl, _, _, rfl, rfl, _, rfl, p, _, rfl, hp, fun p1 hp1 => ?_⟩
  rw [cutV_map]
  obtain ⟨mm, rfl⟩ : ∃ mm : Nat, m = (mm : Int) := ⟨m.toNat, by omega⟩
  have hc := cutC_n ns 3 mm
  change (cutC ns (some 3) (some (3 + (mm : Int)))).length ≤ mm at hc
  generalize cutC ns (some 3) (some (3 + (mm : Int))) = cs0 at hc
  refine ⟨p1, _, rfl, .inl (SqL.of upd_same), fun l hl => ?_⟩
  have s1 := same_new hp1 (.lst (cs0.map V.int))
  have s2 := same_new hl (.lst (cs0.map V.int))
  have hl0 : H l = none := s1.free hl
  have s12 := s1.trans s2
  refine ⟨_, rfl, szl (by show 8 ≤ 1000000; decide), fun ql hql => ?_⟩
  have s3 := same_new hql (.lst [V.int 0, V.int 3, V.int 5, V.int 8, V.int 2, V.int 12, V.int 4, V.int 60])
  refine ⟨_, rfl, p, ns, 0, rfl, (s12.trans s3).seq hp, by decide, by decide, fun i => ⟨i, rfl, fun j j0 j1 => ?_⟩⟩
  have f0 := Int.emod_nonneg j (show (8 : Int) ≠ 0 by decide)
  have f1 := Int.emod_lt_of_pos j (show (0 : Int) < 8 by decide)
  obtain ⟨z, hz, ez⟩ := pickN (L := [0, 3, 5, 8, 2, 12, 4, 60]) 8 rfl f0 (by omega)
  refine ⟨_, _, rfl, rfl, (by show (0 : Int) < 8; decide), ql, _, _, _, rfl, rfl, SqL.of upd_same, ez, _, _, rfl, ?_⟩
  dsimp only [gName]
  have hmany : (if z < (mm : Int) then z else (mm : Int)) ≤ (mm : Int) := by split <;> omega
  generalize (if z < (mm : Int) then z else (mm : Int)) = many at hmany
  have hl2 : (upd (upd (upd H p1 (.lst (cs0.map V.int))) l (.lst (cs0.map V.int))) ql (.lst [V.int 0, V.int 3, V.int 5, V.int 8, V.int 2, V.int 12, V.int 4, V.int 60])) l = some (.lst (cs0.map V.int)) := s3 _ _ upd_same
  have s123 := s12.trans s3
  generalize upd (upd (upd H p1 (.lst (cs0.map V.int))) l (.lst (cs0.map V.int))) ql (.lst [V.int 0, V.int 3, V.int 5, V.int 8, V.int 2, V.int 12, V.int 4, V.int 60]) = H3 at hl2 s123
  refine seq_any (fun σ' H' => ∃ cs : List Int, σ' = [some (.ref p), some (.int (mm : Int)), some (.ref l), some (.int many)] ∧ Same H H' ∧ H' l = some (.lst (cs.map V.int)) ∧ cs.length ≤ mm) (fun σ' H' pp => ?_) (fun nx => ?_)
  · obtain ⟨cs, rfl, e, hcs, hle⟩ := pp
    exact ⟨_, rfl, q l H' cs e (by omega) hcs⟩
  refine while_ix (mm - cs0.length) (fun i σ' H' => ∃ cs : List Int, σ' = [some (.ref p), some (.int (mm : Int)), some (.ref l), some (.int many)] ∧ Same H H' ∧ H' l = some (.lst (cs.map V.int)) ∧ cs.length = cs0.length + i) ⟨cs0, rfl, s123, hl2, rfl⟩ (fun i σ' H' hi pp => ?_) (fun σ H Q Q' hq h => ?_)
  · obtain ⟨cs, rfl, e, hcs, hle⟩ := pp
    refine ⟨_, rfl, l, _, rfl, .inl (SqL.of hcs), _, rfl, _, _, rfl, rfl, _, rfl, ?_⟩
    rw [List.length_map]
    refine ite2 (fun c => ?_) (fun c => nx _ _ ⟨cs, rfl, e, hcs, by omega⟩)
    have c := dT c
    refine ⟨by omega, ?_⟩
    refine ⟨_, rfl, .inl ⟨rfl, _, SqL.of hcs⟩, _, rfl, _, rfl, l, _, rfl, .inl (SqL.of hcs), _, _, rfl, rfl, p, ns, _, rfl, e.seq hp, by omega, by rw [List.length_map]; omega, fun x => ?_⟩
    refine ⟨l, _, _, rfl, rfl, hcs, (by rw [List.length_map]; exact szlt (by omega)), cs ++ [x], rfl, fun b o eb => ?_, ?_, ?_⟩
    · rw [upd_ne (ne_of_none eb hl0)]; exact e _ _ eb
    · rw [upd_same, List.map_append]; rfl
    · rw [List.length_append, hle]; rfl
  · obtain ⟨a1, h1, a2, a3, h2, h3, a4, h4, a5, a6, h5, h6, a7, h7, h8⟩ := h
    exact ⟨a1, h1, a2, a3, h2, h3, a4, h4, a5, a6, h5, h6, a7, h7, hq _ _ h8⟩

theorem ok_hold (T : Tx K mg a) : FnOk P w K mg base CX0 2 a.f_l_hold a.d_l_hold ["_law_values", "_law_count", "_law_bonds"] spHold := by
  have G_l_whole := ok_whole (P := P) (w := w) (base := base) T
  refine T.F_l_hold.ok sc_l_hold (fun vs H Q E h => ?_) (fun cdv A outer s H vs Q E hr h => ?_)
  · obtain ⟨_, _, _, _, _, rfl, _⟩ := h; rfl
  obtain ⟨v, b, n, f, B, rfl, hv, n0, ⟨bs, hb, hbl, hbs⟩, hw, f0, hh, q⟩ := h
  refine ⟨_, (@pss_cons _ _ _ _ _ (@ps_if _ _ _ _ _ _ _ _ ((@pw_or _ _ _ _ _ _ _ (@pt_not _ _ _ _ (@pt_val _ _ _ (@pe_callB _ _ _ _ _ _ _ _ _ call_isi (by rfl) T.z_isinstance bt_isinstance (@pa_cons _ _ _ _ _ (pv 0) (@pa_cons _ _ _ _ _ (@pe_bltn _ _ (.ty "list") _ _ (by rfl) T.z_list bt_list rfl (by decide) (by decide)) pa_nil (by rfl)) (by rfl)) (by decide) (by decide) (by rfl) (by rfl)) (by intro _ ; rfl))) (@pw_or1 _ _ _ _ (@pt_cmpR _ _ _ _ _ _ _ _ op_ne (@pe_callB _ _ _ _ _ _ _ _ _ call_len_seq (by rfl) T.z_len bt_len (@pa_cons _ _ _ _ _ (pv 0) pa_nil (by rfl)) (by decide) (by decide) (by rfl) (by rfl)) (pv 1) (@nomark _ _ (by decide) (by decide)))))).pt (@pss_one _ _ _ (@ps_ret _ _ _ _ pe_bl)) pss_nil) (@pss_cons _ _ _ _ _ (@ps_for _ _ _ _ _ _ _ _ PassesOwn.never rfl (@pi_list _ _ _ _ (pv 0)) (pg_name (i := 3) sc_l_hold.nd rfl (Or.inl rfl)) (@pss_one _ _ _ (@ps_if _ _ _ _ _ _ _ _ (@pt_not _ _ _ _ (@pt_val _ _ _ (@pe_call _ _ _ _ _ _ _ _ _ _ _ _ _ _ _ _ G_l_whole (hr.mono (by omega)) (by rfl) T.m_l_whole T.F_l_whole.kp T.b_l_whole .nil pass0 (@pa_cons _ _ _ _ _ (pv 3) pa_nil (by rfl)) (by decide) (by rfl) (by rfl)) (by intro _ ; rfl))) (@pss_one _ _ _ (@ps_ret _ _ _ _ pe_bl)) pss_nil)) (by intro _ ; rfl)) (@pss_cons _ _ _ _ _ (@ps_for _ _ _ _ _ _ _ _ PassesOwn.never rfl (@pi_list _ _ _ _ (pv 2)) (pg_tup rfl (pgs_cons (pg_name (i := 4) sc_l_hold.nd rfl (Or.inl rfl)) (pgs_cons (pg_name (i := 5) sc_l_hold.nd rfl (Or.inl rfl)) (pgs_cons (pg_name (i := 6) sc_l_hold.nd rfl (Or.inl rfl)) pgs_nil)))) (@pss_one _ _ _ (@ps_if _ _ _ _ _ _ _ _ (@pt_cmpR _ _ _ _ _ _ _ _ op_gt (@pe_op _ _ _ _ _ _ _ _ op_sub (@pe_ix _ _ _ _ _ _ _ ix_list (pv 0) (pv 4) (fun _ _ => rfl)) (@pe_ix _ _ _ _ _ _ _ ix_list (pv 0) (pv 5) (fun _ _ => rfl))) (pv 6) (@nomark _ _ (by decide) (by decide))) (@pss_one _ _ _ (@ps_ret _ _ _ _ pe_bl)) pss_nil)) (by intro _ ; rfl)) (@pss_one _ _ _ (@ps_ret _ _ _ _ (@pe_cmpR _ _ _ _ _ _ _ _ op_eq (@pe_ix _ _ _ _ _ _ _ ix_list (pv 0) pe_int (fun _ _ => rfl)) pe_int (@nomark _ _ (by decide) (by decide)))))))), ?_⟩
  refine ⟨_, rfl, _, _, _, _, _, rfl, rfl, .lst hv, rfl, _, rfl, iteF ?_⟩
  refine ⟨_, rfl, v, _, rfl, .inl (SqL.of hv), _, rfl, rfl, _, rfl, ?_⟩
  rw [vl_len]
  refine iteE (ndF rfl) (iteF ?_)
  refine ⟨_, rfl, v, rfl, ⟨_, SqL.of hv⟩, ?_⟩
  refine for_list (xs := vl n f) (fun i σ' H' => H' = H ∧ ∃ o3 o4 o5 o6, σ' = [some (.ref v), some (.int (n : Int)), some (.ref b), o3, o4, o5, o6]) ⟨rfl, _, _, _, _, rfl⟩ (fun i σ' H' _ p => by obtain ⟨rfl, _⟩ := p; exact SqL.of hv) (fun i x σ' H' hx p => ?_) (fun σ' H' p => ?_)
  · obtain ⟨rfl, o3, o4, o5, o6, rfl⟩ := p
    have hi : i < n := by have := (List.getElem?_eq_some_iff.mp hx).1; rwa [vl_len] at this
    have ex : x = .int (f i) := by
      have := rl_get (n := n) (f := fun i => V.int (f i)) hi
      exact Option.some.inj (hx.symm.trans this)
    subst ex
    exact ⟨_, rfl, _, rfl, rfl, _, rfl, iteF ⟨rfl, _, _, _, _, rfl⟩⟩
  · obtain ⟨rfl, o3, o4, o5, o6, rfl⟩ := p
    refine ⟨_, rfl, b, rfl, ⟨_, SqL.of hb⟩, ?_⟩
    refine for_list (xs := bs) (fun i σ' H'' => H'' = H' ∧ ∃ o3 o4 o5 o6, σ' = [some (.ref v), some (.int (n : Int)), some (.ref b), o3, o4, o5, o6]) ⟨rfl, _, _, _, _, rfl⟩ (fun i σ' H' _ p => by obtain ⟨rfl, _⟩ := p; exact SqL.of hb) (fun i x σ' H'' hx p => ?_) (fun σ' H'' p => ?_)
    · obtain ⟨rfl, o3, o4, o5, o6, rfl⟩ := p
      have hi : i < B.length := by have := (List.getElem?_eq_some_iff.mp hx).1; omega
      obtain ⟨t, rfl, ht⟩ := hbs i x _ hx (List.getElem?_eq_getElem hi)
      have hm := List.getElem_mem (l := B) hi
      have hB := hh _ hm
      have hW := hw _ hm
      refine ⟨t, _, rfl, SqT.of ht, rfl, _, _, rfl, _, _, rfl, _, _, rfl, rfl, ?_⟩
      refine ⟨_, rfl, _, rfl, v, _, _, _, rfl, rfl, SqL.of hv, vl_at hW.1, _, rfl, _, rfl, v, _, _, _, rfl, rfl, SqL.of hv, vl_at hW.2, _, _, rfl, rfl, _, rfl, _, _, rfl, rfl, _, rfl, ?_⟩
      refine ite2 (fun c => ?_) (fun c => ⟨rfl, _, _, _, _, rfl⟩)
      exact absurd (dT c) (by omega)
    · obtain ⟨rfl, o3, o4, o5, o6, rfl⟩ := p
      refine ⟨_, rfl, v, _, 0, _, rfl, rfl, SqL.of hv, vl_at n0, rfl, ?_⟩
      rw [f0, decide_eq_true rfl]
      exact q

theorem ok_falls (T : Tx K mg a) : FnOk P w K mg base CX0 2 a.f_l_falls a.d_l_falls ["_law_ring", "_law_bonds"] spFalls := by
  have G_l_whole := ok_whole (P := P) (w := w) (base := base) T
  refine T.F_l_falls.ok sc_l_falls (fun vs H Q E h => ?_) (fun cdv A outer s H vs Q E hr h => ?_)
  · obtain ⟨_, _, _, _, _, rfl, _⟩ := h; rfl
  obtain ⟨r, b, R, u, B, rfl, hrg, ⟨bs, hb, hbs⟩, hR, hle, q⟩ := h
  refine ⟨_, (@pss_cons _ _ _ _ _ (@ps_if _ _ _ _ _ _ _ _ ((@pw_or _ _ _ _ _ _ _ (@pt_not _ _ _ _ (@pt_val _ _ _ (@pe_callB _ _ _ _ _ _ _ _ _ call_isi (by rfl) T.z_isinstance bt_isinstance (@pa_cons _ _ _ _ _ (pv 0) (@pa_cons _ _ _ _ _ (@pe_bltn _ _ (.ty "list") _ _ (by rfl) T.z_list bt_list rfl (by decide) (by decide)) pa_nil (by rfl)) (by rfl)) (by decide) (by decide) (by rfl) (by rfl)) (by intro _ ; rfl))) (@pw_or1 _ _ _ _ (@pt_cmpR _ _ _ _ _ _ _ _ (@op_eqS _ (@hu64 _ _ hr)) (pv 0) (@pe_lst _ _ _ _ pa_nil) (@nomark _ _ (by decide) (by decide)))))).pt (@pss_one _ _ _ (@ps_ret _ _ _ _ pe_bl)) pss_nil) (@pss_cons _ _ _ _ _ (@ps_set _ _ (2) _ _ _ _ sc_l_falls.nd rfl (Or.inl rfl) pe_dnewK (by rfl) (by first | exact .inl rfl | exact .inr rfl | assumption)) (@pss_cons _ _ _ _ _ (@ps_for _ _ _ _ _ _ _ _ PassesOwn.never rfl (@pi_list _ _ _ _ (pv 0)) (pg_name (i := 3) sc_l_falls.nd rfl (Or.inl rfl)) (@pss_cons _ _ _ _ _ (@ps_if _ _ _ _ _ _ _ _ ((@pw_or _ _ _ _ _ _ _ (@pt_not _ _ _ _ (@pt_val _ _ _ (@pe_call _ _ _ _ _ _ _ _ _ _ _ _ _ _ _ _ G_l_whole (hr.mono (by omega)) (by rfl) T.m_l_whole T.F_l_whole.kp T.b_l_whole .nil pass0 (@pa_cons _ _ _ _ _ (pv 3) pa_nil (by rfl)) (by decide) (by rfl) (by rfl)) (by intro _ ; rfl))) (@pw_or _ _ _ _ _ _ _ (@pt_not _ _ _ _ (@pt_chain _ _ _ _ _ _ _ _ _ _ _ _ op_le op_lt pe_int (pv 3) (@pe_callB _ _ _ _ _ _ _ _ _ call_len_seq (by rfl) T.z_len bt_len (@pa_cons _ _ _ _ _ (pv 1) pa_nil (by rfl)) (by decide) (by decide) (by rfl) (by rfl)) (by with_unfolding_all rfl))) (@pw_or1 _ _ _ _ (@pt_cmp _ _ _ _ _ _ (@pc_din _ _ _ _ _ (@hu_of _ _ hr) (pv 3) (pv 2)) (by first | exact nobehind _ ( by decide ) ( by decide ) | rfl)))))).pt (@pss_one _ _ _ (@ps_ret _ _ _ _ pe_bl)) pss_nil) (@pss_one _ _ _ (@ps_dput _ _ _ _ _ _ _ _ _ (@hu_of _ _ hr) (pv 2) (pv 3) pe_bl rfl))) (by intro _ ; rfl)) (@pss_cons _ _ _ _ _ (@ps_set _ _ (4) _ _ _ _ sc_l_falls.nd rfl (Or.inl rfl) pe_int (by rfl) (by first | exact .inl rfl | exact .inr rfl | assumption)) (@pss_cons _ _ _ _ _ (@ps_for _ _ _ _ _ _ _ _ PassesOwn.never rfl (@pi_range1 _ _ _ _ _ _ (by rfl) T.z_range (@pa_cons _ _ _ _ _ (@pe_callB _ _ _ _ _ _ _ _ _ call_len_seq (by rfl) T.z_len bt_len (@pa_cons _ _ _ _ _ (pv 0) pa_nil (by rfl)) (by decide) (by decide) (by rfl) (by rfl)) pa_nil (by rfl)) (by rfl)) (pg_name (i := 5) sc_l_falls.nd rfl (Or.inl rfl)) (@pss_cons _ _ _ _ _ (@ps_if _ _ _ _ _ _ _ _ (@pt_cmpR _ _ _ _ _ _ _ _ op_ne (@pe_ix _ _ _ _ _ _ _ ix_tup (@pe_ix _ _ _ _ _ _ _ ix_list (pv 1) (@pe_ix _ _ _ _ _ _ _ ix_list (pv 0) (@pe_op _ _ _ _ _ _ _ _ op_sub (pv 5) pe_int) (fun _ _ => rfl)) (fun _ _ => rfl)) pe_int (fun _ _ => rfl)) (@pe_ix _ _ _ _ _ _ _ ix_tup (@pe_ix _ _ _ _ _ _ _ ix_list (pv 1) (@pe_ix _ _ _ _ _ _ _ ix_list (pv 0) (pv 5) (fun _ _ => rfl)) (fun _ _ => rfl)) pe_int (fun _ _ => rfl)) (@nomark _ _ (by decide) (by decide))) (@pss_one _ _ _ (@ps_ret _ _ _ _ pe_bl)) pss_nil) (@pss_one _ _ _ (@ps_set _ _ (4) _ _ _ _ sc_l_falls.nd rfl (Or.inl rfl) (@pe_op _ _ _ _ _ _ _ _ op_add (pv 4) (@pe_ix _ _ _ _ _ _ _ ix_tup (@pe_ix _ _ _ _ _ _ _ ix_list (pv 1) (@pe_ix _ _ _ _ _ _ _ ix_list (pv 0) (pv 5) (fun _ _ => rfl)) (fun _ _ => rfl)) pe_int (fun _ _ => rfl))) (by rfl) (by first | exact .inl rfl | exact .inr rfl | assumption)))) (by intro _ ; rfl)) (@pss_one _ _ _ (@ps_ret _ _ _ _ (@pe_cmpR _ _ _ _ _ _ _ _ op_lt (pv 4) pe_int (@nomark _ _ (by decide) (by decide)))))))))), ?_⟩
  have hp := hR.pos
  have hbl := hbs.1
  refine ⟨_, rfl, _, _, _, _, _, rfl, rfl, .lst hrg, rfl, _, rfl, iteF ?_⟩
  refine ⟨_, rfl, szl (by show 0 ≤ 1000000; decide), fun l hl => ?_⟩
  have s1 := same_new hl (.lst [])
  refine ⟨_, _, .lst (SqL.of (s1 _ _ hrg)) (intTs_is _), .lst (SqL.of upd_same) .nil, ⟨_, rfl⟩, ⟨_, rfl⟩, (by rw [simT]; cases R <;> rfl), (by rw [depT, intTs_dep]; decide), _, rfl, ?_⟩
  refine iteE (v := false) ?_ (iteF ?_)
  · cases R with
    | nil => cases hp
    | cons x R => rfl
  intro d hd
  have s2 := s1.trans (same_new hd (.dK []))
  have hd0 : H d = none := s1.free hd
  refine ⟨_, rfl, r, rfl, ⟨_, SqL.of (s2 _ _ hrg)⟩, ?_⟩
  refine for_list (xs := intsV R) (fun i σ' H' => Same H H' ∧ (∃ o3 o4 o5, σ' = [some (.ref r), some (.ref b), some (.ref d), o3, o4, o5]) ∧ ∃ kvs, H' d = some (.dK kvs) ∧ kvs.length ≤ i ∧ ∀ j : Nat, j ∉ R.take i → valV kvs (Sum.inl (j : Int)) = none) ⟨s2, ⟨_, _, _, rfl⟩, [], upd_same, Nat.le_refl _, fun _ _ => rfl⟩ (fun i σ' H' _ p => SqL.of (p.1 _ _ hrg)) (fun i x σ' H' hx p => ?_) (fun σ' H' p => ?_)
  · obtain ⟨e, ⟨o3, o4, o5, rfl⟩, kvs, hk, hkl, hkn⟩ := p
    have hi : i < R.length := by have := (List.getElem?_eq_some_iff.mp hx).1; rwa [intsV_len] at this
    have eR : R[i]? = some R[i] := List.getElem?_eq_getElem hi
    have ex : x = .int (R[i] : Int) := Option.some.inj (hx.symm.trans (intsV_get eR))
    subst ex
    obtain ⟨bb, g1, g2, g3⟩ := hR.bond i _ eR
    have hlt : R[i] < B.length := (List.getElem?_eq_some_iff.mp g1).1
    have hnew : R[i] ∉ R.take i := nodup_take hR.nd hi
    refine ⟨_, rfl, _, rfl, rfl, _, rfl, iteF ?_⟩
    refine ⟨_, rfl, _, _, rfl, rfl, _, rfl, ?_⟩
    rw [decide_eq_true (show (0 : Int) ≤ (R[i] : Int) by omega)]
    refine iteT ⟨_, rfl, b, _, rfl, .inl (SqL.of (e _ _ hb)), _, _, rfl, rfl, _, rfl, ?_⟩
    rw [decide_eq_true (show (R[i] : Int) < (bs.length : Int) by omega)]
    refine iteF ?_
    refine ⟨_, rfl, _, rfl, d, _, rfl, DGet.k (k := Sum.inl (R[i] : Int)) hk, _, rfl, ?_⟩
    rw [hkn _ hnew]
    refine iteF ?_
    refine ⟨_, rfl, _, rfl, d, _, rfl, DPut.k (k := Sum.inl (R[i] : Int)) hk (szlt (by omega)), ?_⟩
    refine ⟨fun a o ea => by rw [upd_ne (ne_of_none ea hd0)]; exact e _ _ ea, ⟨_, _, _, rfl⟩, _, upd_same, Nat.le_trans len_put (by omega), fun j hj => ?_⟩
    rw [take_snoc eR] at hj
    have hj1 : j ∉ R.take i := fun z => hj (List.mem_append_left _ z)
    have hj2 : ¬ (Sum.inl (R[i] : Int) : Key) = Sum.inl (j : Int) := fun z => hj (List.mem_append_right _ (by
      have := Sum.inl.inj z
      have : R[i] = j := by omega
      rw [this]; exact List.mem_singleton.mpr rfl))
    rw [valV_put, if_neg (fun z => hj2 z.symm)]
    exact hkn j hj1
  · obtain ⟨e, ⟨o3, o4, o5, rfl⟩, kvs, hk, hkl, hkn⟩ := p
    have hb' := e _ _ hb
    have hr' := e _ _ hrg
    have hbs' := hbs.over e
    refine ⟨_, rfl, r, _, rfl, .inl (SqL.of hr'), _, rfl, ?_⟩
    rw [intsV_len]
    refine ⟨by omega, by omega, ?_⟩
    refine for_range (lo := 0) (n := R.length) (fun i σ' H'' => H'' = H' ∧ ∃ o3 o5, σ' = [some (.ref r), some (.ref b), some (.ref d), o3, some (.int (sumC B (R.take i))), o5]) ⟨rfl, _, _, rfl⟩ (fun i σ' H'' hi p => ?_) (fun σ' H'' p => ?_)
    · obtain ⟨rfl, o3, o5, rfl⟩ := p
      have eR : R[i]? = some R[i] := List.getElem?_eq_getElem hi
      obtain ⟨bb, g1, g2, g3⟩ := hR.bond i _ eR
      obtain ⟨i0, b0, a0, a1, a2⟩ := ring_prev hR hi
      obtain ⟨t0, c0, c1⟩ := hbs'.get a1
      obtain ⟨t1, d0, d1⟩ := hbs'.get g1
      have ati : atI (intsV R) (0 + (i : Int)) = some (.int (R[i] : Int)) := by
        rw [show 0 + (i : Int) = (i : Int) by omega]
        exact atI_nat (intsV_get eR)
      refine ⟨_, rfl, _, rfl, _, rfl, _, _, rfl, rfl, r, _, _, _, rfl, rfl, SqL.of hr', a0, b, _, _, _, rfl, rfl, SqL.of hb', c0, t0, _, 1, _, rfl, rfl, SqT.of c1, rfl, ?_⟩
      refine ⟨_, rfl, _, rfl, _, rfl, r, _, _, _, rfl, rfl, SqL.of hr', ati, b, _, _, _, rfl, rfl, SqL.of hb', d0, t1, _, 0, _, rfl, rfl, SqT.of d1, rfl, rfl, _, rfl, ?_⟩
      rw [a2, g2]
      refine iteE (ndF rfl) (iteF ?_)
      have key : sumC B (R.take i) + bb.c = sumC B (R.take (i + 1)) := by
        rw [take_snoc eR, sumC_app]
        have : sumC B [R[i]] = bb.c := by
          show (B.getD R[i] bd0).c + 0 = bb.c
          rw [List.getD_eq_getElem?_getD, g1]
          simp
        rw [this]
      exact ⟨_, rfl, _, rfl, _, rfl, _, rfl, r, _, _, _, rfl, rfl, SqL.of hr', ati, b, _, _, _, rfl, rfl, SqL.of hb', d0, t1, _, 2, _, rfl, rfl, SqT.of d1, rfl, _, _, rfl, rfl, rfl, _, _, congrArg (fun v => [some (V.ref r), some (.ref b), some (.ref d), o3, some (.int v), some (.int (0 + (i : Int)))]) key⟩
    · obtain ⟨rfl, o3, o5, rfl⟩ := p
      rw [List.take_length]
      refine ⟨_, rfl, _, _, rfl, rfl, ?_⟩
      show Q (V.bl (decide (sumC B R < 0))) H''
      rw [decide_eq_true hR.neg]
      exact q _ e

theorem ok_lower (T : Tx K mg a) : FnOk P w K mg base CX0 1 a.f_lowered_in_a_round a.d_lowered_in_a_round ["bonds", "values", "lowered_by"] spLower := by
  refine T.F_lowered_in_a_round.ok sc_lowered_in_a_round (fun vs H Q E h => ?_) (fun cdv A outer s H vs Q E hr h => ?_)
  · obtain ⟨_, _, _, _, _, _, rfl, _⟩ := h; rfl
  obtain ⟨b, v, l, B, n, s, rfl, nv, nl, nvl, hB, hw, hv, hl, q⟩ := h
  refine ⟨_, (@pss_cons _ _ _ _ _ (@ps_set _ _ (3) _ _ _ _ sc_lowered_in_a_round.nd rfl (Or.inl rfl) pe_non (by rfl) (by first | exact .inl rfl | exact .inr rfl | assumption)) (@pss_cons _ _ _ _ _ (@ps_for _ _ _ _ _ _ _ _ PassesOwn.never rfl (@pi_enum _ _ _ _ _ _ _ _ (by rfl) T.z_enumerate (@pa_cons _ _ _ _ _ (pv 0) pa_nil (by rfl)) (by rfl)) (pg_tup rfl (pgs_cons (pg_name (i := 4) sc_lowered_in_a_round.nd rfl (Or.inl rfl)) (pgs_cons (pg_name (i := 5) sc_lowered_in_a_round.nd rfl (Or.inl rfl)) pgs_nil))) (@pss_cons _ _ _ _ _ (@ps_set _ _ (6) _ _ _ _ sc_lowered_in_a_round.nd rfl (Or.inl rfl) (@pe_op _ _ _ _ _ _ _ _ op_add (@pe_ix _ _ _ _ _ _ _ ix_list (pv 1) (@pe_ix _ _ _ _ _ _ _ ix_tup (pv 5) pe_int (fun _ _ => rfl)) (fun _ _ => rfl)) (@pe_ix _ _ _ _ _ _ _ ix_tup (pv 5) pe_int (fun _ _ => rfl))) (by rfl) (by first | exact .inl rfl | exact .inr rfl | assumption)) (@pss_one _ _ _ (@ps_if _ _ _ _ _ _ _ _ (@pt_cmpR _ _ _ _ _ _ _ _ op_gt (@pe_ix _ _ _ _ _ _ _ ix_list (pv 1) (@pe_ix _ _ _ _ _ _ _ ix_tup (pv 5) pe_int (fun _ _ => rfl)) (fun _ _ => rfl)) (pv 6) (@nomark _ _ (by decide) (by decide))) (@pss_cons _ _ _ _ _ (@ps_asg _ _ _ _ _ _ (pv 6) (pg_sub (pv 1) (@pe_ix _ _ _ _ _ _ _ ix_tup (pv 5) pe_int (fun _ _ => rfl)) set_list) (by rfl) (by rfl) (by rfl)) (@pss_cons _ _ _ _ _ (@ps_asg _ _ _ _ _ _ (pv 4) (pg_sub (pv 2) (@pe_ix _ _ _ _ _ _ _ ix_tup (pv 5) pe_int (fun _ _ => rfl)) set_list) (by rfl) (by rfl) (by rfl)) (@pss_one _ _ _ (@ps_set _ _ (3) _ _ _ _ sc_lowered_in_a_round.nd rfl (Or.inl rfl) (@pe_ix _ _ _ _ _ _ _ ix_tup (pv 5) pe_int (fun _ _ => rfl)) (by rfl) (by first | exact .inl rfl | exact .inr rfl | assumption))))) pss_nil))) (by intro _ ; rfl)) (@pss_one _ _ _ (@ps_ret _ _ _ _ (pv 3))))), ?_⟩
  obtain ⟨vs, hb, hbs⟩ := hB
  have hbl := hbs.1
  refine ⟨_, rfl, b, rfl, ⟨_, SqL.of hb⟩, ?_⟩
  refine for_enum (xs := vs) (fun i σ' H' => Fr2 H H' v l ∧ (∃ o4 o5 o6, σ' = [some (.ref b), some (.ref v), some (.ref l), some (optV (rnd B i { s with low := none }).low), o4, o5, o6]) ∧ H' v = some (.lst (vl n (rnd B i { s with low := none }).v)) ∧ H' l = some (.lst (pl n (rnd B i { s with low := none }).p))) ⟨fun a o e _ _ => e, ⟨_, _, _, rfl⟩, hv, hl⟩ (fun i σ' H' _ p => SqL.of (p.1 _ _ hb nv nl)) (fun i x Tt σ' H' hx p hT => ?_) (fun σ' H' p => ?_)
  case refine_2 =>
    obtain ⟨e, ⟨o4, o5, o6, rfl⟩, h1, h2⟩ := p
    rw [hbl] at h1 h2 ⊢
    exact ⟨_, rfl, q H' e h1 h2⟩
  obtain ⟨e, ⟨o4, o5, o6, rfl⟩, h1, h2⟩ := p
  have hi : i < B.length := by have := (List.getElem?_eq_some_iff.mp hx).1; omega
  have eB : B[i]? = some B[i] := List.getElem?_eq_getElem hi
  obtain ⟨t, rfl, ht⟩ := hbs.2 i x _ hx eB
  have hW := hw _ (List.getElem_mem hi)
  have ht' := e _ _ ht (ne_of ht hv (by intro z; cases z)) (ne_of ht hl (by intro z; cases z))
  have st : rnd B (i + 1) { s with low := none } = relax i B[i] (rnd B i { s with low := none }) := by
    show (match B[i]? with | some b => relax i b (rnd B i { s with low := none }) | none => rnd B i { s with low := none }) = _
    rw [eB]
  rw [st]
  generalize rnd B i { s with low := none } = s0 at h1 h2 ⊢
  generalize B[i] = bb at ht' hW
  have sT := same_new hT (.tup [V.int (i : Int), .ref t])
  have ht2 := sT _ _ ht'
  have h12 := sT _ _ h1
  have h22 := sT _ _ h2
  have e2 : Fr2 H (upd H' Tt (.tup [V.int (i : Int), .ref t])) v l := fun a o ha na nb => sT _ _ (e a o ha na nb)
  refine ⟨Tt, _, rfl, SqT.of upd_same, rfl, _, _, rfl, _, _, rfl, rfl, ?_⟩
  generalize upd H' Tt (.tup [V.int (i : Int), .ref t]) = H2 at ht2 h12 h22 e2 ⊢
  refine ⟨_, rfl, _, rfl, t, _, 1, _, rfl, rfl, SqT.of ht2, rfl, v, _, _, _, rfl, rfl, SqL.of h12, vl_at hW.2, _, rfl, t, _, 2, _, rfl, rfl, SqT.of ht2, rfl, _, _, rfl, rfl, ?_⟩
  dsimp only [gName]
  refine ⟨_, rfl, _, rfl, t, _, 0, _, rfl, rfl, SqT.of ht2, rfl, v, _, _, _, rfl, rfl, SqL.of h12, vl_at hW.1, _, rfl, _, _, rfl, rfl, _, rfl, ?_⟩
  unfold relax
  refine ite2 (fun c => ?_) (fun c => ?_)
  · have c := dT c
    rw [if_pos (by omega)]
    refine ⟨_, rfl, _, rfl, _, rfl, t, _, 0, _, rfl, rfl, SqT.of ht2, rfl, v, _, _, _, rfl, rfl, h12, ixN_nat (by rw [vl_len]; exact hW.1), ?_⟩
    rw [vl_set]
    have tv : t ≠ v := ne_of ht2 h12 (by intro z; cases z)
    have tl : t ≠ l := ne_of ht2 h22 (by intro z; cases z)
    refine ⟨_, rfl, _, rfl, _, rfl, t, _, 0, _, rfl, rfl, SqT.of (by rw [upd_ne tv]; exact ht2), rfl, l, _, _, _, rfl, rfl, (by rw [upd_ne (Ne.symm nvl)]; exact h22), ixN_nat (by rw [pl_len]; exact hW.1), ?_⟩
    rw [pl_set]
    refine ⟨_, rfl, t, _, 0, _, rfl, rfl, SqT.of (by rw [upd_ne tl, upd_ne tv]; exact ht2), rfl, ?_⟩
    refine ⟨fun a o ha na nb => ?_, ⟨_, _, _, rfl⟩, ?_, upd_same⟩
    · rw [upd_ne nb, upd_ne na]; exact e2 a o ha na nb
    · rw [upd_ne nvl]; exact upd_same
  · have c := dF c
    rw [if_neg (by omega)]
    exact ⟨e2, ⟨_, _, _, rfl⟩, h12, h22⟩

theorem ok_ring (T : Tx K mg a) : FnOk P w K mg base CX0 1 a.f_ring_behind a.d_ring_behind ["count", "bonds", "lowered_by", "lowered"] spRing := by
  refine T.F_ring_behind.ok sc_ring_behind (fun vs H Q E h => ?_) (fun cdv A outer s H vs Q E hr h => ?_)
  · obtain ⟨_, _, _, _, _, _, _, rfl, _⟩ := h; rfl
  obtain ⟨n, b, l, B, s, x0, m, rfl, ⟨bs, hb, hbs⟩, hBl, hn, hl, hlow, hR, hw, q⟩ := h
  refine ⟨_, (@pss_cons _ _ _ _ _ (@ps_set _ _ (4) _ _ _ _ sc_ring_behind.nd rfl (Or.inl rfl) (pv 3) (by rfl) (by first | exact .inl rfl | exact .inr rfl | assumption)) (@pss_cons _ _ _ _ _ (@ps_for _ _ _ _ _ _ _ _ PassesOwn.never rfl (@pi_range1 _ _ _ _ _ _ (by rfl) T.z_range (@pa_cons _ _ _ _ _ (pv 0) pa_nil (by rfl)) (by rfl)) (pg_name (i := 5) sc_ring_behind.nd rfl (Or.inl rfl)) (@pss_one _ _ _ (@ps_set _ _ (4) _ _ _ _ sc_ring_behind.nd rfl (Or.inl rfl) (@pe_ix _ _ _ _ _ _ _ ix_tup (@pe_ix _ _ _ _ _ _ _ ix_list (pv 1) (@pe_ix _ _ _ _ _ _ _ ix_list (pv 2) (pv 4) (fun _ _ => rfl)) (fun _ _ => rfl)) pe_int (fun _ _ => rfl)) (by rfl) (by first | exact .inl rfl | exact .inr rfl | assumption))) (by intro _ ; rfl)) (@pss_cons _ _ _ _ _ (@ps_set _ _ (6) _ _ _ _ sc_ring_behind.nd rfl (Or.inl rfl) (@pe_lst _ _ _ _ (@pa_cons _ _ _ _ _ (@pe_ix _ _ _ _ _ _ _ ix_list (pv 2) (pv 4) (fun _ _ => rfl)) pa_nil (by rfl))) (by rfl) (by first | exact .inl rfl | exact .inr rfl | assumption)) (@pss_cons _ _ _ _ _ (@ps_set _ _ (7) _ _ _ _ sc_ring_behind.nd rfl (Or.inl rfl) (@pe_ix _ _ _ _ _ _ _ ix_tup (@pe_ix _ _ _ _ _ _ _ ix_list (pv 1) (@pe_ix _ _ _ _ _ _ _ ix_list (pv 2) (pv 4) (fun _ _ => rfl)) (fun _ _ => rfl)) pe_int (fun _ _ => rfl)) (by rfl) (by first | exact .inl rfl | exact .inr rfl | assumption)) (@pss_cons _ _ _ _ _ (@ps_while _ _ _ _ _ _ PassesOwn.never (@pt_cmpR _ _ _ _ _ _ _ _ op_ne (pv 7) (pv 4) (@nomark _ _ (by decide) (by decide))) (@pss_cons _ _ _ _ _ (@ps_expr _ _ _ _ (@pe_bm _ _ _ _ _ _ _ _ _ _ _ _ PySem.F.plainAttrs_list PySem.F.slot_list_append PySem.F.type_list_append mt_append (pv 6) (@pa_cons _ _ _ _ _ (@pe_ix _ _ _ _ _ _ _ ix_list (pv 2) (pv 7) (fun _ _ => rfl)) pa_nil (by rfl)) (by rfl) (by rfl) (by rfl) (by rfl) (by rfl)) (by rfl)) (@pss_one _ _ _ (@ps_set _ _ (7) _ _ _ _ sc_ring_behind.nd rfl (Or.inl rfl) (@pe_ix _ _ _ _ _ _ _ ix_tup (@pe_ix _ _ _ _ _ _ _ ix_list (pv 1) (@pe_ix _ _ _ _ _ _ _ ix_list (pv 2) (pv 7) (fun _ _ => rfl)) (fun _ _ => rfl)) pe_int (fun _ _ => rfl)) (by rfl) (by first | exact .inl rfl | exact .inr rfl | assumption))))) (@pss_one _ _ _ (@ps_ret _ _ _ _ (pv 6)))))))), ?_⟩
  have hm := hR.pos
  have hm2 := hR.le
  refine ⟨_, rfl, _, rfl, (n : Int), rfl, by omega, by omega, ?_⟩
  refine for_range (lo := 0) (n := n) (fun i σ' H' => H' = H ∧ ∃ o5 o6 o7, σ' = [some (.int (n : Int)), some (.ref b), some (.ref l), some (.int (x0 : Int)), some (.int (it B s.p i x0 : Int)), o5, o6, o7]) ⟨rfl, _, _, _, rfl⟩ (fun i σ' H' hi p => ?_) (fun σ' H' p => ?_)
  · obtain ⟨rfl, o5, o6, o7, rfl⟩ := p
    obtain ⟨j, bb, g1, g2, g3⟩ := hR.walk i hi
    obtain ⟨t, c0, c1⟩ := hbs.get g2
    have hz := hR.lt i (by omega)
    have ha : atI (pl n s.p) (it B s.p i x0 : Int) = some (.int (j : Int)) := (pl_at hz).trans (by rw [g1]; rfl)
    refine ⟨_, rfl, _, rfl, _, rfl, l, _, _, _, rfl, rfl, SqL.of hl, ha, b, _, _, _, rfl, rfl, SqL.of hb, c0, t, _, 1, _, rfl, rfl, SqT.of c1, rfl, rfl, _, _, _, congrArg (fun v : Nat => [some (V.int (n : Int)), some (.ref b), some (.ref l), some (.int (x0 : Int)), some (.int (v : Int)), some (.int (0 + (i : Int))), o6, o7]) (show bb.y = it B s.p (i + 1) x0 by rw [it_succ, pb_of g1 g2])⟩
  obtain ⟨rfl, o5, o6, o7, rfl⟩ := p
  have he := hR.lt n (Nat.le_refl _)
  have hal := hR.alive
  have hlt : ∀ k, it B s.p k (it B s.p n x0) < n := fun k => by
    obtain ⟨i, bb, g1, g2, g3⟩ := hal k
    rw [← g3]
    exact (hw _ (List.mem_of_getElem? g2)).1
  have heq := hR.eq hlow
  have hback := hR.back
  have hleast := hR.least
  rw [heq] at q
  generalize it B s.p n x0 = e at *
  obtain ⟨j, bb, g1, g2, g3⟩ := hal 0
  change s.p e = some j at g1
  obtain ⟨t, c0, c1⟩ := hbs.get g2
  have ha : atI (pl n s.p) (e : Int) = some (.int (j : Int)) := (pl_at he).trans (by rw [g1]; rfl)
  refine ⟨_, rfl, _, rfl, l, _, _, _, rfl, rfl, SqL.of hl, ha, szl (by show 1 ≤ 1000000; decide), fun r hr => ?_⟩
  have s1 := same_new hr (.lst [V.int (j : Int)])
  refine ⟨_, rfl, _, rfl, _, rfl, l, _, _, _, rfl, rfl, SqL.of (s1 _ _ hl), ha, b, _, _, _, rfl, rfl, SqL.of (s1 _ _ hb), c0, t, _, 1, _, rfl, rfl, SqT.of (s1 _ _ c1), rfl, ?_⟩
  dsimp only [gName]
  refine seq_any (fun σ' H'' => ∃ o5 o7, σ' = [some (.int (n : Int)), some (.ref b), some (.ref l), some (.int (x0 : Int)), some (.int (e : Int)), o5, some (.ref r), o7] ∧ Same H' H'' ∧ H'' r = some (.lst (intsV (ringL B s.p e m)))) (fun σ' H'' pp => ?_) (fun nx => ?_)
  · obtain ⟨o5, o7, rfl, e1, hr1⟩ := pp
    exact ⟨_, rfl, q r H'' e1 hr hr1⟩
  refine while_ix (m - 1) (fun i σ' H'' => ∃ o5, σ' = [some (.int (n : Int)), some (.ref b), some (.ref l), some (.int (x0 : Int)), some (.int (e : Int)), o5, some (.ref r), some (.int (it B s.p (i + 1) e : Int))] ∧ Same H' H'' ∧ H'' r = some (.lst (intsV (ringL B s.p e (i + 1))))) ⟨o5, ?_, s1, ?_⟩ (fun i σ' H'' hi pp => ?_) (fun σ H Q Q' hq h => ?_)
  · rw [it_succ]
    show _ = [_, _, _, _, _, _, _, some (V.int ((pb B s.p e).y : Int))]
    rw [pb_of g1 g2]
    rfl
  · rw [upd_same]
    show _ = some (HO.lst [V.int (((s.p e).getD 0 : Nat) : Int)])
    rw [g1]
    rfl
  · obtain ⟨o5, rfl, e1, hr1⟩ := pp
    refine ⟨_, rfl, _, rfl, rfl, _, rfl, ?_⟩
    by_cases c : it B s.p (i + 1) e = e
    · have hi2 : i + 1 = m := by
        by_cases z : i + 1 < m
        · exact absurd c (hleast _ (by omega) z)
        · omega
      rw [c]
      refine iteE (ndF rfl) (iteF ?_)
      rw [hi2] at hr1
      exact nx _ _ ⟨_, _, rfl, e1, hr1⟩
    · have hi2 : i + 1 < m := by
        by_cases z : i + 1 = m
        · rw [z] at c; exact absurd hback c
        · omega
      refine iteE (ndT (fun z => c (by have := V.int.inj z; omega))) (iteT ⟨by omega, ?_⟩)
      obtain ⟨j2, b2, k1, k2, k3⟩ := hal (i + 1)
      obtain ⟨t2, d0, d1⟩ := hbs.get k2
      have ha2 : atI (pl n s.p) (it B s.p (i + 1) e : Int) = some (.int (j2 : Int)) := (pl_at (hlt (i + 1))).trans (by rw [k1]; rfl)
      refine ⟨_, rfl, .inl ⟨rfl, _, SqL.of hr1⟩, _, rfl, _, rfl, l, _, _, _, rfl, rfl, SqL.of (e1 _ _ hl), ha2, r, _, _, rfl, rfl, hr1, (by rw [intsV_len]; unfold ringL; rw [List.length_map, List.length_range]; exact szlt (by omega)), ?_⟩
      have s2 : Same H' (upd H'' r (.lst (intsV (ringL B s.p e (i + 1)) ++ [V.int (j2 : Int)]))) := fun a o ha => by rw [upd_ne (ne_of_none ha hr)]; exact e1 _ _ ha
      have hr2 : (upd H'' r (.lst (intsV (ringL B s.p e (i + 1)) ++ [V.int (j2 : Int)]))) r = some (.lst (intsV (ringL B s.p e (i + 1 + 1)))) := by
        rw [upd_same, intsV_snoc]
        unfold ringL
        rw [List.range_succ (n := i + 1), List.map_append]
        show some (HO.lst (intsV (_ ++ [j2]))) = some (HO.lst (intsV (_ ++ [(s.p (it B s.p (i + 1) e)).getD 0])))
        rw [k1]
        rfl
      refine ⟨_, rfl, _, rfl, _, rfl, l, _, _, _, rfl, rfl, SqL.of (s2 _ _ hl), ha2, b, _, _, _, rfl, rfl, SqL.of (s2 _ _ hb), d0, t2, _, 1, _, rfl, rfl, SqT.of (s2 _ _ d1), rfl, ?_⟩
      refine ⟨o5, ?_, s2, hr2⟩
      rw [it_succ B s.p (i + 1), pb_of k1 k2]
      rfl
  · obtain ⟨a1, h1, a2, h2, h3, a3, h4, h5⟩ := h
    exact ⟨a1, h1, a2, h2, h3, a3, h4, hq _ _ h5⟩

theorem ok_settled (T : Tx K mg a) : FnOk P w K mg base CX0 2 a.f_settled a.d_settled ["count", "bonds"] spSettled := by
  have G_lowered_in_a_round := ok_lower (P := P) (w := w) (base := base) T
  have G_ring_behind := ok_ring (P := P) (w := w) (base := base) T
  refine T.F_settled.ok sc_settled (fun vs H Q E h => ?_) (fun cdv A outer s H vs Q E hr h => ?_)
  · obtain ⟨_, _, _, rfl, _⟩ := h; rfl
  obtain ⟨n, b, B, rfl, hB, hw, n0, n1, hBl, q⟩ := h
  refine ⟨_, (@pss_cons _ _ _ _ _ (@ps_set _ _ (2) _ _ _ _ sc_settled.nd rfl (Or.inr rfl) (@pe_op _ _ _ _ _ _ _ _ op_rep (@pe_lst _ _ _ _ (@pa_cons _ _ _ _ _ pe_int pa_nil (by rfl))) (pv 0)) (by rfl) (by first | exact .inl rfl | exact .inr rfl | assumption)) (@pss_cons _ _ _ _ _ (@ps_set _ _ (3) _ _ _ _ sc_settled.nd rfl (Or.inl rfl) (@pe_op _ _ _ _ _ _ _ _ op_rep (@pe_lst _ _ _ _ (@pa_cons _ _ _ _ _ pe_non pa_nil (by rfl))) (pv 0)) (by rfl) (by first | exact .inl rfl | exact .inr rfl | assumption)) (@pss_cons _ _ _ _ _ (@ps_set _ _ (4) _ _ _ _ sc_settled.nd rfl (Or.inl rfl) pe_non (by rfl) (by first | exact .inl rfl | exact .inr rfl | assumption)) (@pss_cons _ _ _ _ _ (@ps_for _ _ _ _ _ _ _ _ PassesOwn.never rfl (@pi_range1 _ _ _ _ _ _ (by rfl) T.z_range (@pa_cons _ _ _ _ _ (pv 0) pa_nil (by rfl)) (by rfl)) (pg_name (i := 5) sc_settled.nd rfl (Or.inl rfl)) (@pss_cons _ _ _ _ _ (@ps_set _ _ (4) _ _ _ _ sc_settled.nd rfl (Or.inl rfl) (@pe_call _ _ _ _ _ _ _ _ _ _ _ _ _ _ _ _ G_lowered_in_a_round (hr.mono (by omega)) (by rfl) T.m_lowered_in_a_round T.F_lowered_in_a_round.kp T.b_lowered_in_a_round .nil pass0 (@pa_cons _ _ _ _ _ (pv 1) (@pa_cons _ _ _ _ _ (pv 2) (@pa_cons _ _ _ _ _ (pv 3) pa_nil (by rfl)) (by rfl)) (by rfl)) (by decide) (by rfl) (by rfl)) (by rfl) (by first | exact .inl rfl | exact .inr rfl | assumption)) (@pss_one _ _ _ (@ps_if _ _ _ _ _ _ _ _ (@pt_cmpR _ _ _ _ _ _ _ _ op_isN (pv 4) pe_non (@nomark _ _ (by decide) (by decide))) (@pss_one _ _ _ (@ps_ret _ _ _ _ (@pe_tup _ _ _ _ _ (@pa_cons _ _ _ _ _ pe_str (@pa_cons _ _ _ _ _ (@pe_compB _ _ _ _ _ _ _ ["value", "values"] [none, some 2] _ _ _ _ (by rfl) (@pi_list _ _ _ _ (pv 2)) c_settled_0 (fun _ _ _ _ _ _ => ⟨(pg_name (i := 0) c_settled_0n rfl (Or.inl rfl)), @pts_nil _, (@pe_op _ _ _ _ _ _ _ _ op_sub (pv 0) (@pe_ix _ _ _ _ _ _ _ (show IxR _ (rIxL K) from ix_list) (pv 1) pe_int (fun _ _ => rfl)))⟩) (by intro _ ; rfl)) pa_nil (by rfl)) (by rfl))))) pss_nil))) (by intro _ ; rfl)) (@pss_one _ _ _ (@ps_ret _ _ _ _ (@pe_tup _ _ _ _ _ (@pa_cons _ _ _ _ _ pe_str (@pa_cons _ _ _ _ _ (@pe_call _ _ _ _ _ _ _ _ _ _ _ _ _ _ _ _ G_ring_behind (hr.mono (by omega)) (by rfl) T.m_ring_behind T.F_ring_behind.kp T.b_ring_behind .nil pass0 (@pa_cons _ _ _ _ _ (pv 0) (@pa_cons _ _ _ _ _ (pv 1) (@pa_cons _ _ _ _ _ (pv 3) (@pa_cons _ _ _ _ _ (pv 4) pa_nil (by rfl)) (by rfl)) (by rfl)) (by rfl)) (by decide) (by rfl) (by rfl)) pa_nil (by rfl)) (by rfl))))))))), ?_⟩
  have p63 : (2 : Int) ^ 63 = 9223372036854775808 := by decide
  refine ⟨szl (by show 1 ≤ 1000000; decide), fun l1 hl1 => ⟨_, rfl, l1, _, _, rfl, rfl, upd_same, by omega, by omega, szl (by show 1 * n ≤ 1000000; omega), fun v hv => ?_⟩⟩
  have s1 := (same_new hl1 (.lst [V.int 0])).trans (same_new hv (.lst (List.replicate ((n : Int)).toNat [V.int 0]).flatten))
  have hv1 : (upd (upd H l1 (.lst [V.int 0])) v (.lst (List.replicate ((n : Int)).toNat [V.int 0]).flatten)) v = some (.lst (vl n st0.v)) := by rw [upd_same]; exact congrArg (fun z => some (HO.lst z)) (rep_rl n _)
  have hv0 : H v = none := (same_new hl1 (.lst [V.int 0])).free hv
  dsimp only [gName]
  generalize upd (upd H l1 (.lst [V.int 0])) v (.lst (List.replicate ((n : Int)).toNat [V.int 0]).flatten) = H1 at s1 hv1
  refine ⟨szl (by show 1 ≤ 1000000; decide), fun l2 hl2 => ⟨_, rfl, l2, _, _, rfl, rfl, upd_same, by omega, by omega, szl (by show 1 * n ≤ 1000000; omega), fun l hl => ?_⟩⟩
  have s2 := (same_new hl2 (.lst [V.non])).trans (same_new hl (.lst (List.replicate ((n : Int)).toNat [V.non]).flatten))
  have hl1' : (upd (upd H1 l2 (.lst [V.non])) l (.lst (List.replicate ((n : Int)).toNat [V.non]).flatten)) l = some (.lst (pl n st0.p)) := by rw [upd_same]; exact congrArg (fun z => some (HO.lst z)) (rep_rl n _)
  have hlH1 : H1 l = none := (same_new hl2 (.lst [V.non])).free hl
  have hl0 : H l = none := s1.free hlH1
  have nvl : v ≠ l := ne_of_none hv1 hlH1
  have hv2 := s2 _ _ hv1
  have s12 := s1.trans s2
  dsimp only [gName]
  generalize upd (upd H1 l2 (.lst [V.non])) l (.lst (List.replicate ((n : Int)).toNat [V.non]).flatten) = H2 at s12 hv2 hl1'
  clear s1 s2 hv1 hl hv hl1 hl2 hlH1
  have nbv : b ≠ v := by obtain ⟨vs, g, _⟩ := hB; exact ne_of_none g hv0
  have nbl : b ≠ l := by obtain ⟨vs, g, _⟩ := hB; exact ne_of_none g hl0
  refine ⟨_, rfl, (n : Int), rfl, by omega, by omega, ?_⟩
  refine for_range (lo := 0) (n := n) (fun i σ' H' => Same H H' ∧ ∃ (s : Sv) (o5 : Option V), σ' = [some (.int (n : Int)), some (.ref b), some (.ref v), some (.ref l), some (optV s.low), o5] ∧ H' v = some (.lst (vl n s.v)) ∧ H' l = some (.lst (pl n s.p)) ∧ go B n st0 = go B (n - i) s) ⟨s12, st0, _, rfl, hv2, hl1', rfl⟩ (fun i σ' H' hi pp => ?_) (fun σ' H' pp => ?_)
  · obtain ⟨e, s, o5, rfl, h1, h2, hg⟩ := pp
    refine ⟨_, rfl, _, rfl, _, rfl, b, v, l, B, n, s, rfl, nbv, nbl, nvl, hB.over e, hw, h1, h2, fun H3 fr h13 h23 => ?_⟩
    have e3 : Same H H3 := fun a o ha => fr _ _ (e _ _ ha) (ne_of_none ha hv0) (ne_of_none ha hl0)
    obtain ⟨k, hk⟩ : ∃ k, n - i = k + 1 := ⟨n - i - 1, by omega⟩
    rw [hk] at hg
    dsimp only [gName]
    refine ⟨_, rfl, rfl, _, rfl, ?_⟩
    cases hlow : (round B s).low with
    | none =>
      refine iteE (v := true) (decide_eq_true rfl) (iteT ?_)
      have hg2 : go B n st0 = .inl (round B s) := by rw [hg]; unfold go; rw [hlow]
      have er : setR n B = (.str "values", vl n fun i => (round B s).v i - (round B s).v 0) := by unfold setR; rw [hg2]
      rw [er] at q
      refine ⟨_, rfl, v, rfl, ⟨_, SqL.of h13⟩, ?_⟩
      refine comp_list (xs := vl n (round B s).v) (fun i ys H' => H' = H3 ∧ ys = vl i fun i => (round B s).v i - (round B s).v 0) ⟨rfl, rfl⟩ (by rw [vl_len]; exact szl (by omega)) (fun i ys H' hi p => by obtain ⟨rfl, rfl⟩ := p; exact ⟨SqL.of h13, by rw [vl_len]; exact Nat.le_refl _⟩) (fun i x ys H' hx p => ?_) (fun ys H' p r hr' => ?_)
      · obtain ⟨rfl, rfl⟩ := p
        have hi : i < n := by have := (List.getElem?_eq_some_iff.mp hx).1; rwa [vl_len] at this
        have ex : x = .int ((round B s).v i) := Option.some.inj (hx.symm.trans (rl_get (n := n) (f := fun i => V.int ((round B s).v i)) hi))
        subst ex
        exact ⟨_, rfl, _, rfl, v, _, 0, _, rfl, rfl, SqL.of h13, vl_at n0, _, _, rfl, rfl, rfl, (vl_succ _ _).symm⟩
      · obtain ⟨rfl, rfl⟩ := p
        rw [vl_len]
        refine ⟨szl (by show 2 ≤ 1000000; decide), fun t ht => ?_⟩
        exact q t r _ ((e3.trans (same_new hr' _)).trans (same_new ht _)) (e3.free hr') upd_same (same_new ht _ _ _ upd_same)
    | some x =>
      refine iteE (v := false) (decide_eq_false (by intro z; cases z)) (iteF ?_)
      refine ⟨e3, round B s, some (.int (0 + (i : Int))), by rw [hlow]; rfl, h13, h23, ?_⟩
      rw [show n - (i + 1) = k by omega, hg]
      show (match (round B s).low with | none => _ | some _ => _) = _
      rw [hlow]
  · obtain ⟨e, s, o5, rfl, h1, h2, hg⟩ := pp
    rw [Nat.sub_self] at hg
    change go B n st0 = .inr s at hg
    rcases go_ok n0 hw with ⟨s', e', _⟩ | ⟨s', x0, m, e', hl', hR⟩
    · rw [hg] at e'; cases e'
    rw [hg] at e'
    cases e'
    have er : setR n B = (.str "ring", intsV (ringOf n B s)) := by unfold setR; rw [hg]
    rw [er] at q
    rw [hl']
    refine ⟨_, rfl, _, rfl, _, rfl, _, rfl, n, b, l, B, s, x0, m, rfl, hB.over e, hBl, n1, h2, hl', hR, hw, fun r H3 e3 hr0 hr3 => ?_⟩
    refine ⟨szl (by show 2 ≤ 1000000; decide), fun t ht => ?_⟩
    exact q t r _ ((e.trans e3).trans (same_new ht _)) (e.free hr0) upd_same (same_new ht _ _ _ hr3)

theorem ok_short (T : Tx K mg a) : FnOk P w K mg base CX0 1 a.f_shortened_in_a_round a.d_shortened_in_a_round ["bonds", "lengths", "reached_by"] spShort := by
  refine T.F_shortened_in_a_round.ok sc_shortened_in_a_round (fun vs H Q E h => ?_) (fun cdv A outer s H vs Q E hr h => ?_)
  · obtain ⟨_, _, _, _, _, _, rfl, _⟩ := h; rfl
  obtain ⟨b, v, l, B, n, s, rfl, nv, nl, nvl, hB, hw, hv, hl, q⟩ := h
  refine ⟨_, (@pss_cons _ _ _ _ _ (@ps_set _ _ (3) _ _ _ _ sc_shortened_in_a_round.nd rfl (Or.inl rfl) pe_bl (by rfl) (by first | exact .inl rfl | exact .inr rfl | assumption)) (@pss_cons _ _ _ _ _ (@ps_for _ _ _ _ _ _ _ _ PassesOwn.never rfl (@pi_enum _ _ _ _ _ _ _ _ (by rfl) T.z_enumerate (@pa_cons _ _ _ _ _ (pv 0) pa_nil (by rfl)) (by rfl)) (pg_tup rfl (pgs_cons (pg_name (i := 4) sc_shortened_in_a_round.nd rfl (Or.inl rfl)) (pgs_cons (pg_name (i := 5) sc_shortened_in_a_round.nd rfl (Or.inl rfl)) pgs_nil))) (@pss_one _ _ _ (@ps_if _ _ _ _ _ _ _ _ (@pt_cmpR _ _ _ _ _ _ _ _ op_notN (@pe_ix _ _ _ _ _ _ _ ix_list (pv 1) (@pe_ix _ _ _ _ _ _ _ ix_tup (pv 5) pe_int (fun _ _ => rfl)) (fun _ _ => rfl)) pe_non (@nomark _ _ (by decide) (by decide))) (@pss_cons _ _ _ _ _ (@ps_set _ _ (6) _ _ _ _ sc_shortened_in_a_round.nd rfl (Or.inl rfl) (@pe_op _ _ _ _ _ _ _ _ op_add (@pe_ix _ _ _ _ _ _ _ ix_list (pv 1) (@pe_ix _ _ _ _ _ _ _ ix_tup (pv 5) pe_int (fun _ _ => rfl)) (fun _ _ => rfl)) (@pe_ix _ _ _ _ _ _ _ ix_tup (pv 5) pe_int (fun _ _ => rfl))) (by rfl) (by first | exact .inl rfl | exact .inr rfl | assumption)) (@pss_one _ _ _ (@ps_if _ _ _ _ _ _ _ _ ((@pw_or _ _ _ _ _ _ _ (@pt_cmpR _ _ _ _ _ _ _ _ op_isN (@pe_ix _ _ _ _ _ _ _ ix_list (pv 1) (@pe_ix _ _ _ _ _ _ _ ix_tup (pv 5) pe_int (fun _ _ => rfl)) (fun _ _ => rfl)) pe_non (@nomark _ _ (by decide) (by decide))) (@pw_or1 _ _ _ _ (@pt_cmpR _ _ _ _ _ _ _ _ op_lt (pv 6) (@pe_ix _ _ _ _ _ _ _ ix_list (pv 1) (@pe_ix _ _ _ _ _ _ _ ix_tup (pv 5) pe_int (fun _ _ => rfl)) (fun _ _ => rfl)) (@nomark _ _ (by decide) (by decide)))))).pt (@pss_cons _ _ _ _ _ (@ps_asg _ _ _ _ _ _ (pv 6) (pg_sub (pv 1) (@pe_ix _ _ _ _ _ _ _ ix_tup (pv 5) pe_int (fun _ _ => rfl)) set_list) (by rfl) (by rfl) (by rfl)) (@pss_cons _ _ _ _ _ (@ps_asg _ _ _ _ _ _ (pv 4) (pg_sub (pv 2) (@pe_ix _ _ _ _ _ _ _ ix_tup (pv 5) pe_int (fun _ _ => rfl)) set_list) (by rfl) (by rfl) (by rfl)) (@pss_one _ _ _ (@ps_set _ _ (3) _ _ _ _ sc_shortened_in_a_round.nd rfl (Or.inl rfl) pe_bl (by rfl) (by first | exact .inl rfl | exact .inr rfl | assumption))))) pss_nil))) pss_nil)) (by intro _ ; rfl)) (@pss_one _ _ _ (@ps_ret _ _ _ _ (pv 3))))), ?_⟩
  obtain ⟨vs, hb, hbs⟩ := hB
  have hbl := hbs.1
  refine ⟨_, rfl, b, rfl, ⟨_, SqL.of hb⟩, ?_⟩
  refine for_enum (xs := vs) (fun i σ' H' => Fr2 H H' v l ∧ (∃ o4 o5 o6, σ' = [some (.ref b), some (.ref v), some (.ref l), some (.bl (srnd B i { s with ch := false }).ch), o4, o5, o6]) ∧ H' v = some (.lst (ol n (srnd B i { s with ch := false }).L)) ∧ H' l = some (.lst (pl n (srnd B i { s with ch := false }).q))) ⟨fun a o e _ _ => e, ⟨_, _, _, rfl⟩, hv, hl⟩ (fun i σ' H' _ p => SqL.of (p.1 _ _ hb nv nl)) (fun i x Tt σ' H' hx p hT => ?_) (fun σ' H' p => ?_)
  case refine_2 =>
    obtain ⟨e, ⟨o4, o5, o6, rfl⟩, h1, h2⟩ := p
    rw [hbl] at h1 h2 ⊢
    exact ⟨_, rfl, q H' e h1 h2⟩
  obtain ⟨e, ⟨o4, o5, o6, rfl⟩, h1, h2⟩ := p
  have hi : i < B.length := by have := (List.getElem?_eq_some_iff.mp hx).1; omega
  have eB : B[i]? = some B[i] := List.getElem?_eq_getElem hi
  obtain ⟨t, rfl, ht⟩ := hbs.2 i x _ hx eB
  have hW := hw _ (List.getElem_mem hi)
  have ht' := e _ _ ht (ne_of ht hv (by intro z; cases z)) (ne_of ht hl (by intro z; cases z))
  have st : srnd B (i + 1) { s with ch := false } = short1 i B[i] (srnd B i { s with ch := false }) := by
    show (match B[i]? with | some b => short1 i b (srnd B i { s with ch := false }) | none => srnd B i { s with ch := false }) = _
    rw [eB]
  rw [st]
  generalize srnd B i { s with ch := false } = s0 at h1 h2 ⊢
  generalize B[i] = bb at ht' hW
  have sT := same_new hT (.tup [V.int (i : Int), .ref t])
  have ht2 := sT _ _ ht'
  have h12 := sT _ _ h1
  have h22 := sT _ _ h2
  have e2 : Fr2 H (upd H' Tt (.tup [V.int (i : Int), .ref t])) v l := fun a o ha na nb => sT _ _ (e a o ha na nb)
  refine ⟨Tt, _, rfl, SqT.of upd_same, rfl, _, _, rfl, _, _, rfl, rfl, ?_⟩
  generalize upd H' Tt (.tup [V.int (i : Int), .ref t]) = H2 at ht2 h12 h22 e2 ⊢
  refine ⟨_, rfl, _, rfl, t, _, 1, _, rfl, rfl, SqT.of ht2, rfl, v, _, _, _, rfl, rfl, SqL.of h12, ol_at hW.2, rfl, _, rfl, ?_⟩
  unfold short1
  cases hy : s0.L bb.y with
  | none =>
    refine iteE (v := false) rfl (iteF ?_)
    exact ⟨e2, ⟨_, _, _, rfl⟩, h12, h22⟩
  | some ly =>
    have hay : atI (ol n s0.L) (bb.y : Int) = some (.int ly) := (ol_at hW.2).trans (by rw [hy]; rfl)
    refine iteE (v := true) rfl (iteT ?_)
    refine ⟨_, rfl, _, rfl, t, _, 1, _, rfl, rfl, SqT.of ht2, rfl, v, _, _, _, rfl, rfl, SqL.of h12, hay, _, rfl, t, _, 2, _, rfl, rfl, SqT.of ht2, rfl, _, _, rfl, rfl, ?_⟩
    dsimp only [gName]
    have tv : t ≠ v := ne_of ht2 h12 (by intro z; cases z)
    have tl : t ≠ l := ne_of ht2 h22 (by intro z; cases z)
    refine if_thn (fun H'' => H'' = H2 ∧ lower (s0.L bb.x) (ly + bb.c) = true) (fun H'' hh => ?_) (fun go => ?_)
    · obtain ⟨rfl, hlow⟩ := hh
      rw [if_pos hlow]
      refine ⟨_, rfl, _, rfl, _, rfl, t, _, 0, _, rfl, rfl, SqT.of ht2, rfl, v, _, _, _, rfl, rfl, h12, ixN_nat (by rw [ol_len]; exact hW.1), ?_⟩
      rw [ol_set]
      refine ⟨_, rfl, _, rfl, _, rfl, t, _, 0, _, rfl, rfl, SqT.of (by rw [upd_ne tv]; exact ht2), rfl, l, _, _, _, rfl, rfl, (by rw [upd_ne (Ne.symm nvl)]; exact h22), ixN_nat (by rw [pl_len]; exact hW.1), ?_⟩
      rw [pl_set]
      refine ⟨fun a o ha na nb => ?_, ⟨_, _, _, rfl⟩, ?_, upd_same⟩
      · rw [upd_ne nb, upd_ne na]; exact e2 a o ha na nb
      · rw [upd_ne nvl]; exact upd_same
    · have hcase : s0.L bb.x = none ∨ ∃ lx, s0.L bb.x = some lx := by cases s0.L bb.x with | none => exact .inl rfl | some lx => exact .inr ⟨lx, rfl⟩
      rcases hcase with hx | ⟨lx, hx⟩
      ·
        have hax : atI (ol n s0.L) (bb.x : Int) = some .non := (ol_at hW.1).trans (by rw [hx]; rfl)
        refine ⟨_, rfl, _, rfl, t, _, 0, _, rfl, rfl, SqT.of ht2, rfl, v, _, _, _, rfl, rfl, SqL.of h12, hax, rfl, _, rfl, ?_⟩
        rw [decide_eq_true rfl]
        exact iteT (iteT (go _ ⟨rfl, by rw [hx]; rfl⟩))
      ·
        have hax : atI (ol n s0.L) (bb.x : Int) = some (.int lx) := (ol_at hW.1).trans (by rw [hx]; rfl)
        refine ⟨_, rfl, _, rfl, t, _, 0, _, rfl, rfl, SqT.of ht2, rfl, v, _, _, _, rfl, rfl, SqL.of h12, hax, rfl, _, rfl, ?_⟩
        rw [decide_eq_false (by intro z; cases z)]
        refine iteF ⟨_, rfl, _, rfl, _, rfl, t, _, 0, _, rfl, rfl, SqT.of ht2, rfl, v, _, _, _, rfl, rfl, SqL.of h12, hax, _, _, rfl, rfl, _, rfl, ?_⟩
        refine ite2 (fun c => go _ ⟨rfl, by rw [hx]; exact c⟩) (fun c => ?_)
        rw [if_neg (by rw [hx]; exact c)]
        exact ⟨e2, ⟨_, _, _, rfl⟩, h12, h22⟩

theorem ok_chains (T : Tx K mg a) : FnOk P w K mg base CX0 2 a.f_chains_to a.d_chains_to ["count", "bonds", "y"] spChains := by
  have G_shortened_in_a_round := ok_short (P := P) (w := w) (base := base) T
  refine T.F_chains_to.ok sc_chains_to (fun vs H Q E h => ?_) (fun cdv A outer s H vs Q E hr h => ?_)
  · obtain ⟨_, _, _, _, _, rfl, _⟩ := h; rfl
  obtain ⟨n, b, B, y, f, rfl, hB, hw, n1, hy, hf, q⟩ := h
  refine ⟨_, (@pss_cons _ _ _ _ _ (@ps_set _ _ (3) _ _ _ _ sc_chains_to.nd rfl (Or.inl rfl) (@pe_op _ _ _ _ _ _ _ _ op_rep (@pe_lst _ _ _ _ (@pa_cons _ _ _ _ _ pe_non pa_nil (by rfl))) (pv 0)) (by rfl) (by first | exact .inl rfl | exact .inr rfl | assumption)) (@pss_cons _ _ _ _ _ (@ps_asg _ _ _ _ _ _ pe_int (pg_sub (pv 3) (pv 2) set_list) (by rfl) (by rfl) (by rfl)) (@pss_cons _ _ _ _ _ (@ps_set _ _ (4) _ _ _ _ sc_chains_to.nd rfl (Or.inl rfl) (@pe_op _ _ _ _ _ _ _ _ op_rep (@pe_lst _ _ _ _ (@pa_cons _ _ _ _ _ pe_non pa_nil (by rfl))) (pv 0)) (by rfl) (by first | exact .inl rfl | exact .inr rfl | assumption)) (@pss_cons _ _ _ _ _ (@ps_set _ _ (5) _ _ _ _ sc_chains_to.nd rfl (Or.inl rfl) pe_bl (by rfl) (by first | exact .inl rfl | exact .inr rfl | assumption)) (@pss_cons _ _ _ _ _ (@ps_while _ _ _ _ _ _ PassesOwn.never (@pt_val _ _ _ (pv 5) (by intro _ ; rfl)) (@pss_one _ _ _ (@ps_set _ _ (5) _ _ _ _ sc_chains_to.nd rfl (Or.inl rfl) (@pe_call _ _ _ _ _ _ _ _ _ _ _ _ _ _ _ _ G_shortened_in_a_round (hr.mono (by omega)) (by rfl) T.m_shortened_in_a_round T.F_shortened_in_a_round.kp T.b_shortened_in_a_round .nil pass0 (@pa_cons _ _ _ _ _ (pv 1) (@pa_cons _ _ _ _ _ (pv 3) (@pa_cons _ _ _ _ _ (pv 4) pa_nil (by rfl)) (by rfl)) (by rfl)) (by decide) (by rfl) (by rfl)) (by rfl) (by first | exact .inl rfl | exact .inr rfl | assumption)))) (@pss_one _ _ _ (@ps_ret _ _ _ _ (pv 4)))))))), ?_⟩
  have p63 : (2 : Int) ^ 63 = 9223372036854775808 := by decide
  obtain ⟨hK1, hK2⟩ := finK_ok hy hf hw
  refine ⟨szl (by show 1 ≤ 1000000; decide), fun l1 hl1 => ⟨_, rfl, l1, _, _, rfl, rfl, upd_same, by omega, by omega, szl (by show 1 * n ≤ 1000000; omega), fun v hv => ?_⟩⟩
  have s1 := (same_new hl1 (.lst [V.non])).trans (same_new hv (.lst (List.replicate ((n : Int)).toNat [V.non]).flatten))
  have hv1 : (upd (upd H l1 (.lst [V.non])) v (.lst (List.replicate ((n : Int)).toNat [V.non]).flatten)) v = some (.lst (ol n fun _ => none)) := by rw [upd_same]; exact congrArg (fun z => some (HO.lst z)) (rep_rl n _)
  have hv0 : H v = none := (same_new hl1 (.lst [V.non])).free hv
  dsimp only [gName]
  generalize upd (upd H l1 (.lst [V.non])) v (.lst (List.replicate ((n : Int)).toNat [V.non]).flatten) = H1 at s1 hv1
  refine ⟨_, rfl, _, rfl, v, _, _, _, rfl, rfl, hv1, ixN_nat (by rw [ol_len]; exact hy), ?_⟩
  rw [ol_set]
  have s1 : Same H (upd H1 v (.lst (ol n (upF (fun _ => none) y (some 0))))) := fun a o ha => by rw [upd_ne (ne_of_none ha hv0)]; exact s1 _ _ ha
  have hv1 : (upd H1 v (.lst (ol n (upF (fun _ => none) y (some 0))))) v = some (.lst (ol n (lt0 y).L)) := upd_same
  generalize upd H1 v (.lst (ol n (upF (fun _ => none) y (some 0)))) = H1 at s1 hv1
  refine ⟨szl (by show 1 ≤ 1000000; decide), fun l2 hl2 => ⟨_, rfl, l2, _, _, rfl, rfl, upd_same, by omega, by omega, szl (by show 1 * n ≤ 1000000; omega), fun l hl => ?_⟩⟩
  have s2 := (same_new hl2 (.lst [V.non])).trans (same_new hl (.lst (List.replicate ((n : Int)).toNat [V.non]).flatten))
  have hl1' : (upd (upd H1 l2 (.lst [V.non])) l (.lst (List.replicate ((n : Int)).toNat [V.non]).flatten)) l = some (.lst (pl n (lt0 y).q)) := by rw [upd_same]; exact congrArg (fun z => some (HO.lst z)) (rep_rl n _)
  have hlH1 : H1 l = none := (same_new hl2 (.lst [V.non])).free hl
  have hl0 : H l = none := s1.free hlH1
  have nvl : v ≠ l := ne_of_none hv1 hlH1
  have hv2 := s2 _ _ hv1
  have s12 := s1.trans s2
  dsimp only [gName]
  generalize upd (upd H1 l2 (.lst [V.non])) l (.lst (List.replicate ((n : Int)).toNat [V.non]).flatten) = H2 at s12 hv2 hl1'
  clear s1 s2 hv1 hl hv hl1 hl2 hlH1
  have nbv : b ≠ v := by obtain ⟨vs, g, _⟩ := hB; exact ne_of_none g hv0
  have nbl : b ≠ l := by obtain ⟨vs, g, _⟩ := hB; exact ne_of_none g hl0
  show tSeq (tWhile _ _) (tRet _) _ _ _
  refine seq_any (fun σ' H' => ∃ o, σ' = [some (.int (n : Int)), some (.ref b), some (.int (y : Int)), some (.ref v), some (.ref l), o] ∧ Same H H' ∧ H' l = some (.lst (pl n (fin B y).q))) (fun σ' H' pp => ?_) (fun nx => ?_)
  · obtain ⟨o, rfl, e1, hr1⟩ := pp
    exact ⟨_, rfl, q l H' e1 hr1⟩
  refine while_ix (finK B y) (fun i σ' H' => σ' = [some (.int (n : Int)), some (.ref b), some (.int (y : Int)), some (.ref v), some (.ref l), some (.bl (Sx B y i).ch)] ∧ Same H H' ∧ H' v = some (.lst (ol n (Sx B y i).L)) ∧ H' l = some (.lst (pl n (Sx B y i).q))) ⟨rfl, s12, hv2, hl1'⟩ (fun i σ' H' hi pp => ?_) (fun σ H Q Q' hq h => ?_)
  · obtain ⟨rfl, e, h1, h2⟩ := pp
    by_cases c : i < finK B y
    · rw [hK2 i c]
      refine ⟨_, rfl, _, rfl, iteT ⟨c, ?_⟩⟩
      refine ⟨_, rfl, _, rfl, _, rfl, b, v, l, B, n, Sx B y i, rfl, nbv, nbl, nvl, hB.over e, hw, h1, h2, fun H3 fr h13 h23 => ?_⟩
      exact ⟨rfl, fun a o ha => fr _ _ (e _ _ ha) (ne_of_none ha hv0) (ne_of_none ha hl0), h13, h23⟩
    · have ei : i = finK B y := by omega
      subst ei
      rw [hK1]
      exact ⟨_, rfl, _, rfl, iteF (nx _ _ ⟨_, rfl, e, h2⟩)⟩
  · obtain ⟨a1, h1, a2, h2, h3⟩ := h
    exact ⟨a1, h1, a2, h2, hq _ _ h3⟩

theorem ok_chain (T : Tx K mg a) : FnOk P w K mg base CX0 3 a.f_shortest_chain a.d_shortest_chain ["count", "bonds", "x", "y"] spChain := by
  have G_chains_to := ok_chains (P := P) (w := w) (base := base) T
  refine T.F_shortest_chain.ok sc_shortest_chain (fun vs H Q E h => ?_) (fun cdv A outer s H vs Q E hr h => ?_)
  · obtain ⟨_, _, _, _, _, _, rfl, _⟩ := h; rfl
  obtain ⟨n, b, B, x, y, f, rfl, hB, hw, n1, hBl, hx, hy, hf, q⟩ := h
  refine ⟨_, (@pss_cons _ _ _ _ _ (@ps_set _ _ (4) _ _ _ _ sc_shortest_chain.nd rfl (Or.inl rfl) (@pe_call _ _ _ _ _ _ _ _ _ _ _ _ _ _ _ _ G_chains_to (hr.mono (by omega)) (by rfl) T.m_chains_to T.F_chains_to.kp T.b_chains_to .nil pass0 (@pa_cons _ _ _ _ _ (pv 0) (@pa_cons _ _ _ _ _ (pv 1) (@pa_cons _ _ _ _ _ (pv 3) pa_nil (by rfl)) (by rfl)) (by rfl)) (by decide) (by rfl) (by rfl)) (by rfl) (by first | exact .inl rfl | exact .inr rfl | assumption)) (@pss_cons _ _ _ _ _ (@ps_if _ _ _ _ _ _ _ _ (@pt_cmpR _ _ _ _ _ _ _ _ op_isN (@pe_ix _ _ _ _ _ _ _ ix_list (pv 4) (pv 2) (fun _ _ => rfl)) pe_non (@nomark _ _ (by decide) (by decide))) (@pss_one _ _ _ (@ps_ret _ _ _ _ pe_non)) pss_nil) (@pss_cons _ _ _ _ _ (@ps_set _ _ (5) _ _ _ _ sc_shortest_chain.nd rfl (Or.inl rfl) (@pe_lst _ _ _ _ pa_nil) (by rfl) (by first | exact .inl rfl | exact .inr rfl | assumption)) (@pss_cons _ _ _ _ _ (@ps_set _ _ (6) _ _ _ _ sc_shortest_chain.nd rfl (Or.inl rfl) (pv 2) (by rfl) (by first | exact .inl rfl | exact .inr rfl | assumption)) (@pss_cons _ _ _ _ _ (@ps_while _ _ _ _ _ _ PassesOwn.never (@pt_cmpR _ _ _ _ _ _ _ _ op_ne (pv 6) (pv 3) (@nomark _ _ (by decide) (by decide))) (@pss_cons _ _ _ _ _ (@ps_expr _ _ _ _ (@pe_bm _ _ _ _ _ _ _ _ _ _ _ _ PySem.F.plainAttrs_list PySem.F.slot_list_append PySem.F.type_list_append mt_append (pv 5) (@pa_cons _ _ _ _ _ (@pe_ix _ _ _ _ _ _ _ ix_list (pv 4) (pv 6) (fun _ _ => rfl)) pa_nil (by rfl)) (by rfl) (by rfl) (by rfl) (by rfl) (by rfl)) (by rfl)) (@pss_one _ _ _ (@ps_set _ _ (6) _ _ _ _ sc_shortest_chain.nd rfl (Or.inl rfl) (@pe_ix _ _ _ _ _ _ _ ix_tup (@pe_ix _ _ _ _ _ _ _ ix_list (pv 1) (@pe_ix _ _ _ _ _ _ _ ix_list (pv 4) (pv 6) (fun _ _ => rfl)) (fun _ _ => rfl)) pe_int (fun _ _ => rfl)) (by rfl) (by first | exact .inl rfl | exact .inr rfl | assumption))))) (@pss_one _ _ _ (@ps_ret _ _ _ _ (pv 5)))))))), ?_⟩
  refine ⟨_, rfl, _, rfl, _, rfl, n, b, B, y, f, rfl, hB, hw, n1, hy, hf, fun l H1 e1 hl => ?_⟩
  dsimp only [gName]
  obtain ⟨bs, hb, hbs⟩ := hB
  refine ⟨_, rfl, _, rfl, l, _, _, _, rfl, rfl, SqL.of hl, pl_at hx, rfl, _, rfl, ?_⟩
  cases hq : (fin B y).q x with
  | none =>
    refine iteE (v := true) rfl (iteT ?_)
    exact q _ _ e1 (.inl ⟨hq, rfl⟩)
  | some l0 =>
    refine iteE (v := false) rfl (iteF ?_)
    obtain ⟨m0, hC⟩ := chm_ok hy hf hw hq
    have hq2 : ∀ (r : Addr) (H' : Hp), Same H H' → H' r = some (.lst (intsV (ringL B (fin B y).q x (chm n B y x)))) → Q (.ref r) H' := fun r H' e hr' => q _ H' e (.inr ⟨⟨_, hq⟩, r, rfl, hr'⟩)
    generalize chm n B y x = m at hC hq2 m0
    generalize fin B y = s at hC hq2 hl
    refine ⟨szl (by show 0 ≤ 1000000; decide), fun r hr' => ?_⟩
    have s1 := same_new hr' (.lst [])
    have hr0 : H r = none := e1.free hr'
    refine ⟨_, rfl, ?_⟩
    dsimp only [gName]
    refine seq_any (fun σ' H'' => ∃ o6, σ' = [some (.int (n : Int)), some (.ref b), some (.int (x : Int)), some (.int (y : Int)), some (.ref l), some (.ref r), o6] ∧ Same H1 H'' ∧ H'' r = some (.lst (intsV (ringL B s.q x m)))) (fun σ' H'' pp => ?_) (fun nx => ?_)
    · obtain ⟨o6, rfl, e2, hr2⟩ := pp
      exact ⟨_, rfl, hq2 r H'' (e1.trans e2) hr2⟩
    refine while_ix m (fun i σ' H'' => σ' = [some (.int (n : Int)), some (.ref b), some (.int (x : Int)), some (.int (y : Int)), some (.ref l), some (.ref r), some (.int (it B s.q i x : Int))] ∧ Same H1 H'' ∧ H'' r = some (.lst (intsV (ringL B s.q x i)))) ⟨rfl, s1, upd_same⟩ (fun i σ' H'' hi pp => ?_) (fun σ H Q Q' hq h => ?_)
    · obtain ⟨rfl, e2, hr2⟩ := pp
      refine ⟨_, rfl, _, rfl, rfl, _, rfl, ?_⟩
      by_cases c : i = m
      · subst c
        rw [hC.at']
        refine iteE (ndF rfl) (iteF ?_)
        exact nx _ _ ⟨_, rfl, e2, hr2⟩
      · obtain ⟨hne, j, bb, k1, k2, k3⟩ := hC.alive i (by omega)
        refine iteE (ndT (fun z => hne (by have := V.int.inj z; omega))) (iteT ⟨by omega, ?_⟩)
        obtain ⟨t, d0, d1⟩ := hbs.get k2
        have hlt := hC.lt i hi
        have ha : atI (pl n s.q) (it B s.q i x : Int) = some (.int (j : Int)) := (pl_at hlt).trans (by rw [k1]; rfl)
        have e12 := e1.trans e2
        have mn := hC.le
        refine ⟨_, rfl, .inl ⟨rfl, _, SqL.of hr2⟩, _, rfl, _, rfl, l, _, _, _, rfl, rfl, SqL.of (e2 _ _ hl), ha, r, _, _, rfl, rfl, hr2, (by rw [intsV_len]; unfold ringL; rw [List.length_map, List.length_range]; exact szlt (by omega)), ?_⟩
        have s2 : Same H1 (upd H'' r (.lst (intsV (ringL B s.q x i) ++ [V.int (j : Int)]))) := fun a o ha => by rw [upd_ne (ne_of_none ha hr')]; exact e2 _ _ ha
        have hr3 : (upd H'' r (.lst (intsV (ringL B s.q x i) ++ [V.int (j : Int)]))) r = some (.lst (intsV (ringL B s.q x (i + 1)))) := by
          rw [upd_same, intsV_snoc]
          unfold ringL
          rw [List.range_succ (n := i), List.map_append]
          show some (HO.lst (intsV (_ ++ [j]))) = some (HO.lst (intsV (_ ++ [(s.q (it B s.q i x)).getD 0])))
          rw [k1]
          rfl
        have e13 := e1.trans s2
        refine ⟨_, rfl, _, rfl, _, rfl, l, _, _, _, rfl, rfl, SqL.of (s2 _ _ hl), ha, b, _, _, _, rfl, rfl, SqL.of (e13 _ _ hb), d0, t, _, 1, _, rfl, rfl, SqT.of (e13 _ _ d1), rfl, ?_⟩
        refine ⟨?_, s2, hr3⟩
        rw [it_succ B s.q i, pb_of k1 k2]
        rfl
    · obtain ⟨a1, h1, a2, h2, h3, a3, h4, h5⟩ := h
      exact ⟨a1, h1, a2, h2, h3, a3, h4, hq _ _ h5⟩

theorem ok_most (T : Tx K mg a) : FnOk P w K mg base CX0 4 a.f_most a.d_most ["count", "bonds", "x", "y"] spMost := by
  have G_settled := ok_settled (P := P) (w := w) (base := base) T
  have G_shortest_chain := ok_chain (P := P) (w := w) (base := base) T
  refine T.F_most.ok sc_most (fun vs H Q E h => ?_) (fun cdv A outer s H vs Q E hr h => ?_)
  · obtain ⟨_, _, _, _, _, _, rfl, _⟩ := h; rfl
  obtain ⟨n, b, B, x, y, f, rfl, hB, hw, n1, hBl, hx, hy, hf, q⟩ := h
  refine ⟨_, (@pss_cons _ _ _ _ _ (@ps_set _ _ (4) _ _ _ _ sc_most.nd rfl (Or.inl rfl) (@pe_call _ _ _ _ _ _ _ _ _ _ _ _ _ _ _ _ G_settled (hr.mono (by omega)) (by rfl) T.m_settled T.F_settled.kp T.b_settled .nil pass0 (@pa_cons _ _ _ _ _ (pv 0) (@pa_cons _ _ _ _ _ (pv 1) pa_nil (by rfl)) (by rfl)) (by decide) (by rfl) (by rfl)) (by rfl) (by first | exact .inl rfl | exact .inr rfl | assumption)) (@pss_cons _ _ _ _ _ (@ps_if _ _ _ _ _ _ _ _ (@pt_cmpR _ _ _ _ _ _ _ _ op_eq (@pe_ix _ _ _ _ _ _ _ ix_tup (pv 4) pe_int (fun _ _ => rfl)) pe_str (@nomark _ _ (by decide) (by decide))) (@pss_one _ _ _ ps_never) pss_nil) (@pss_cons _ _ _ _ _ (@ps_if _ _ _ _ _ _ _ _ (@pt_cmpR _ _ _ _ _ _ _ _ op_eq (pv 2) (pv 3) (@nomark _ _ (by decide) (by decide))) (@pss_one _ _ _ (@ps_ret _ _ _ _ (@pe_tupq _ _ _ _ _ (@paq_cons _ _ _ _ _ pe_int (@paq_cons _ _ _ _ _ (@pe_lst _ _ _ _ pa_nil) (@paq_cons _ _ _ _ _ (@pe_ix _ _ _ _ _ _ _ ix_tup (pv 4) pe_int (fun _ _ => rfl)) paq_nil star_S) star_L) star_C)))) pss_nil) (@pss_cons _ _ _ _ _ (@ps_set _ _ (5) _ _ _ _ sc_most.nd rfl (Or.inl rfl) (@pe_call _ _ _ _ _ _ _ _ _ _ _ _ _ _ _ _ G_shortest_chain (hr.mono (by omega)) (by rfl) T.m_shortest_chain T.F_shortest_chain.kp T.b_shortest_chain .nil pass0 (@pa_cons _ _ _ _ _ (pv 0) (@pa_cons _ _ _ _ _ (pv 1) (@pa_cons _ _ _ _ _ (pv 2) (@pa_cons _ _ _ _ _ (pv 3) pa_nil (by rfl)) (by rfl)) (by rfl)) (by rfl)) (by decide) (by rfl) (by rfl)) (by rfl) (by first | exact .inl rfl | exact .inr rfl | assumption)) (@pss_cons _ _ _ _ _ (@ps_if _ _ _ _ _ _ _ _ (@pt_cmpR _ _ _ _ _ _ _ _ op_isN (pv 5) pe_non (@nomark _ _ (by decide) (by decide))) (@pss_one _ _ _ (@ps_ret _ _ _ _ pe_non)) pss_nil) (@pss_cons _ _ _ _ _ (@ps_set _ _ (6) _ _ _ _ sc_most.nd rfl (Or.inl rfl) (@pe_callB _ _ _ _ _ _ _ _ _ (@call_sumI _ rfl) (by rfl) T.z_sum bt_sum (@pa_cons _ _ _ _ _ (@pe_compB _ _ _ _ _ _ _ ["number", "bonds"] [none, some 1] _ _ _ _ (by rfl) (@pi_list _ _ _ _ (pv 5)) c_most_0 (fun _ _ _ _ _ _ => ⟨(pg_name (i := 0) c_most_0n rfl (Or.inl rfl)), @pts_nil _, (@pe_ix _ _ _ _ _ _ _ (show IxR _ (rIxT K) from ix_tup) (@pe_ix _ _ _ _ _ _ _ (show IxR _ (rIxL K) from ix_list) (pv 1) (pv 0) (fun _ _ => rfl)) pe_int (fun _ _ => rfl))⟩) (by intro _ ; rfl)) pa_nil (by rfl)) (by decide) (by decide) (by rfl) (by rfl)) (by rfl) (by first | exact .inl rfl | exact .inr rfl | assumption)) (@pss_one _ _ _ (@ps_ret _ _ _ _ (@pe_tupq _ _ _ _ _ (@paq_cons _ _ _ _ _ (pv 6) (@paq_cons _ _ _ _ _ (pv 5) (@paq_cons _ _ _ _ _ (@pe_ix _ _ _ _ _ _ _ ix_tup (@pe_call _ _ _ _ _ _ _ _ _ _ _ _ _ _ _ _ G_settled (hr.mono (by omega)) (by rfl) T.m_settled T.F_settled.kp T.b_settled .nil pass0 (@pa_cons _ _ _ _ _ (pv 0) (@pa_cons _ _ _ _ _ (@pe_op _ _ _ _ _ _ _ _ op_cat (pv 1) (@pe_lst _ _ _ _ (@pa_cons _ _ _ _ _ (@pe_tupq _ _ _ _ _ (@paq_cons _ _ _ _ _ (pv 3) (@paq_cons _ _ _ _ _ (pv 2) (@paq_cons _ _ _ _ _ (@pe_un _ _ _ _ _ _ un_neg (pv 6)) paq_nil star_U) star_N) star_N)) pa_nil (by rfl)))) pa_nil (by rfl)) (by rfl)) (by decide) (by rfl) (by rfl)) pe_int (fun _ _ => rfl)) paq_nil star_S) star_N) star_N)))))))))), ?_⟩
  have n0 : 0 < n := by omega
  refine ⟨_, rfl, _, rfl, n, b, B, rfl, hB, hw, n0, n1, by omega, fun t l H1 e1 hl0 ht hl => ?_⟩
  dsimp only [gName]
  obtain ⟨g, eg, g0, hg⟩ := setR_val n0 hw hf
  have ht' : H1 t = some (.tup [.str "values", .ref l]) := by rw [ht, eg]
  refine ⟨_, rfl, t, _, 0, _, rfl, rfl, SqT.of ht', rfl, rfl, _, rfl, ?_⟩
  refine iteE (v := false) (decide_eq_false (by intro z; exact absurd (V.str.inj z) (by decide +kernel))) (iteF ?_)
  refine ⟨_, rfl, _, rfl, rfl, _, rfl, ?_⟩
  by_cases c : x = y
  · subst c
    refine iteE (v := true) (decide_eq_true rfl) (iteT ?_)
    refine ⟨szl (by show 0 ≤ 1000000; decide), fun r hr' => ⟨_, rfl, t, _, 1, _, rfl, rfl, SqT.of (same_new hr' _ _ _ ht'), rfl, szl (by show 3 ≤ 1000000; decide), fun t2 ht2 => ?_⟩⟩
    have s2 := same_new hr' (.lst [])
    have s3 := same_new ht2 (.tup [V.int 0, V.ref r, V.ref l])
    refine q _ _ (e1.trans (s2.trans s3)) ?_
    unfold MostAt mostR
    rw [if_pos rfl]
    exact ⟨t2, r, l, rfl, upd_same, s3 _ _ upd_same, s3 _ _ (s2 _ _ hl)⟩
  · refine iteE (v := false) (decide_eq_false (fun z => c (by have := V.int.inj z; omega))) (iteF ?_)
    refine ⟨_, rfl, _, rfl, _, rfl, _, rfl, n, b, B, x, y, f, rfl, hB.over e1, hw, n1, by omega, hx, hy, hf, fun v H2 e2 hv => ?_⟩
    have e12 := e1.trans e2
    dsimp only [gName]
    rcases hv with ⟨hq, rfl⟩ | ⟨⟨l0, hq⟩, r, rfl, hr2⟩
    · refine ⟨_, rfl, rfl, _, rfl, iteE (v := true) (decide_eq_true rfl) (iteT ?_)⟩
      refine q _ _ e12 ?_
      unfold MostAt mostR
      rw [if_neg c, if_pos hq]
    · refine ⟨_, rfl, rfl, _, rfl, iteE (v := false) (decide_eq_false (by intro z; cases z)) (iteF ?_)⟩
      obtain ⟨u, hC, hcl, hL⟩ := chain_ok hy hf hw hq
      have hq2 : ∀ (v : V) (H' : Hp), Same H H' → (∃ t l1 l2, v = .ref t ∧ H' t = some (.tup [.int (sumC B (chainOf n B y x)), .ref l1, .ref l2]) ∧ H' l1 = some (.lst (intsV (chainOf n B y x))) ∧ H' l2 = some (.lst (setR n (B ++ [⟨y, x, -(sumC B (chainOf n B y x))⟩])).2)) → Q v H' := fun v H' e h => q v H' e (by
        unfold MostAt mostR
        rw [if_neg c, if_neg (by rw [hq]; intro z; cases z)]
        exact h)
      generalize chainOf n B y x = R at hC hcl hL hq2 hr2
      obtain ⟨bs, hb, hbs⟩ := hB
      have hb2 := e12 _ _ hb
      have hbs2 := hbs.over e12
      refine ⟨_, rfl, r, rfl, ⟨_, SqL.of hr2⟩, ?_⟩
      refine comp_list (xs := intsV R) (fun i ys H' => H' = H2 ∧ ys = ((R.take i).map fun i => (B.getD i bd0).c).map V.int) ⟨rfl, rfl⟩ (by rw [intsV_len]; exact szl (by omega)) (fun i ys H' hi p => by obtain ⟨rfl, rfl⟩ := p; exact ⟨SqL.of hr2, by rw [List.length_map, List.length_map, List.length_take]; omega⟩) (fun i z ys H' hz p => ?_) (fun ys H' p r3 hr3 => ?_)
      · obtain ⟨rfl, rfl⟩ := p
        have hi : i < R.length := by have := (List.getElem?_eq_some_iff.mp hz).1; rwa [intsV_len] at this
        have eR : R[i]? = some R[i] := List.getElem?_eq_getElem hi
        have ex : z = .int (R[i] : Int) := Option.some.inj (hz.symm.trans (intsV_get eR))
        subst ex
        obtain ⟨bb, k1, k2, k3⟩ := hC.bond i _ eR
        obtain ⟨t4, d0, d1⟩ := hbs2.get k1
        refine ⟨_, rfl, _, rfl, b, _, _, _, rfl, rfl, SqL.of hb2, d0, t4, _, 2, _, rfl, rfl, SqT.of d1, rfl, rfl, ?_⟩
        rw [take_snoc eR, List.map_append, List.map_append]
        congr 1
        show [V.int bb.c] = [V.int (B.getD R[i] bd0).c]
        rw [List.getD_eq_getElem?_getD, k1]
        rfl
      · obtain ⟨rfl, rfl⟩ := p
        rw [intsV_len, List.take_length]
        have s3 := same_new hr3 (.lst ((R.map fun i => (B.getD i bd0).c).map V.int))
        refine ⟨r3, _, rfl, SqL.of upd_same, ?_⟩
        rw [sumC_sum]
        generalize upd H' r3 (.lst ((R.map fun i => (B.getD i bd0).c).map V.int)) = H3 at s3
        dsimp only [gName]
        have hb3 := s3 _ _ hb2
        have hbs3 := hbs2.over s3
        refine ⟨_, rfl, _, rfl, _, rfl, _, rfl, _, rfl, _, rfl, _, rfl, _, rfl, szl (by show 3 ≤ 1000000; decide), fun t5 ht5 => ⟨szl (by show 1 ≤ 1000000; decide), fun l5 hl5 => ?_⟩⟩
        have s4 := same_new ht5 (.tup [V.int (y : Int), V.int (x : Int), V.int (-(sumC B R))])
        have s5 := same_new hl5 (.lst [V.ref t5])
        have hbl := hbs.1
        refine ⟨b, l5, _, _, rfl, rfl, s5 _ _ (s4 _ _ hb3), upd_same, szl (by simp only [List.length_singleton]; omega), fun r6 hr6 => ?_⟩
        have s6 := same_new hr6 (.lst (bs ++ [V.ref t5]))
        have e36 := (e12.trans s3).trans ((s4.trans s5).trans s6)
        have hB6 : BondsAt _ r6 (B ++ [⟨y, x, -(sumC B R)⟩]) := ⟨_, upd_same, (hbs3.over ((s4.trans s5).trans s6)).snoc ⟨t5, rfl, s6 _ _ (s5 _ _ upd_same)⟩⟩
        refine ⟨n, r6, B ++ [⟨y, x, -(sumC B R)⟩], rfl, hB6, WF.app hw (WF.one hy hx), n0, n1, by rw [List.length_append, List.length_singleton]; omega, fun t7 l7 H7 e7 hl7 ht7 hl7' => ?_⟩
        refine ⟨t7, _, 1, _, rfl, rfl, SqT.of ht7, rfl, szl (by show 3 ≤ 1000000; decide), fun t8 ht8 => ?_⟩
        have s8 := same_new ht8 (.tup [V.int (sumC B R), V.ref r, V.ref l7])
        refine hq2 _ _ (e36.trans (e7.trans s8)) ⟨t8, r, l7, rfl, upd_same, s8 _ _ (e7 _ _ (s6 _ _ (s5 _ _ (s4 _ _ (s3 _ _ hr2))))), s8 _ _ hl7'⟩

theorem ok_chk (T : Tx K mg a) : FnOk P w K mg base CX0 2 a.f_l_chain a.d_l_chain ["_law_chain_here", "_law_bonds", "_law_x", "_law_y", "_law_c"] spChk := by
  have G_l_whole := ok_whole (P := P) (w := w) (base := base) T
  refine T.F_l_chain.ok sc_l_chain (fun vs H Q E h => ?_) (fun cdv A outer s H vs Q E hr h => ?_)
  · obtain ⟨_, _, _, _, _, _, _, _, rfl, _⟩ := h; rfl
  obtain ⟨r, b, R, u, B, x, y, c, rfl, hrg, ⟨bs, hb, hbs⟩, hR, hc, q⟩ := h
  refine ⟨_, (@pss_cons _ _ _ _ _ (@ps_if _ _ _ _ _ _ _ _ (@pt_not _ _ _ _ (@pt_val _ _ _ (@pe_callB _ _ _ _ _ _ _ _ _ call_isi (by rfl) T.z_isinstance bt_isinstance (@pa_cons _ _ _ _ _ (pv 0) (@pa_cons _ _ _ _ _ (@pe_bltn _ _ (.ty "list") _ _ (by rfl) T.z_list bt_list rfl (by decide) (by decide)) pa_nil (by rfl)) (by rfl)) (by decide) (by decide) (by rfl) (by rfl)) (by intro _ ; rfl))) (@pss_one _ _ _ (@ps_ret _ _ _ _ pe_bl)) pss_nil) (@pss_cons _ _ _ _ _ (@ps_set _ _ (5) _ _ _ _ sc_l_chain.nd rfl (Or.inl rfl) (pv 2) (by rfl) (by first | exact .inl rfl | exact .inr rfl | assumption)) (@pss_cons _ _ _ _ _ (@ps_set _ _ (6) _ _ _ _ sc_l_chain.nd rfl (Or.inl rfl) pe_int (by rfl) (by first | exact .inl rfl | exact .inr rfl | assumption)) (@pss_cons _ _ _ _ _ (@ps_for _ _ _ _ _ _ _ _ PassesOwn.never rfl (@pi_list _ _ _ _ (pv 0)) (pg_name (i := 7) sc_l_chain.nd rfl (Or.inl rfl)) (@pss_cons _ _ _ _ _ (@ps_if _ _ _ _ _ _ _ _ ((@pw_or _ _ _ _ _ _ _ (@pt_not _ _ _ _ (@pt_val _ _ _ (@pe_call _ _ _ _ _ _ _ _ _ _ _ _ _ _ _ _ G_l_whole (hr.mono (by omega)) (by rfl) T.m_l_whole T.F_l_whole.kp T.b_l_whole .nil pass0 (@pa_cons _ _ _ _ _ (pv 7) pa_nil (by rfl)) (by decide) (by rfl) (by rfl)) (by intro _ ; rfl))) (@pw_or _ _ _ _ _ _ _ (@pt_not _ _ _ _ (@pt_chain _ _ _ _ _ _ _ _ _ _ _ _ op_le op_lt pe_int (pv 7) (@pe_callB _ _ _ _ _ _ _ _ _ call_len_seq (by rfl) T.z_len bt_len (@pa_cons _ _ _ _ _ (pv 1) pa_nil (by rfl)) (by decide) (by decide) (by rfl) (by rfl)) (by with_unfolding_all rfl))) (@pw_or1 _ _ _ _ (@pt_cmpR _ _ _ _ _ _ _ _ op_ne (@pe_ix _ _ _ _ _ _ _ ix_tup (@pe_ix _ _ _ _ _ _ _ ix_list (pv 1) (pv 7) (fun _ _ => rfl)) pe_int (fun _ _ => rfl)) (pv 5) (@nomark _ _ (by decide) (by decide))))))).pt (@pss_one _ _ _ (@ps_ret _ _ _ _ pe_bl)) pss_nil) (@pss_cons _ _ _ _ _ (@ps_set _ _ (5) _ _ _ _ sc_l_chain.nd rfl (Or.inl rfl) (@pe_ix _ _ _ _ _ _ _ ix_tup (@pe_ix _ _ _ _ _ _ _ ix_list (pv 1) (pv 7) (fun _ _ => rfl)) pe_int (fun _ _ => rfl)) (by rfl) (by first | exact .inl rfl | exact .inr rfl | assumption)) (@pss_one _ _ _ (@ps_set _ _ (6) _ _ _ _ sc_l_chain.nd rfl (Or.inl rfl) (@pe_op _ _ _ _ _ _ _ _ op_add (pv 6) (@pe_ix _ _ _ _ _ _ _ ix_tup (@pe_ix _ _ _ _ _ _ _ ix_list (pv 1) (pv 7) (fun _ _ => rfl)) pe_int (fun _ _ => rfl))) (by rfl) (by first | exact .inl rfl | exact .inr rfl | assumption))))) (by intro _ ; rfl)) (@pss_one _ _ _ (@ps_ret _ _ _ _ (@pe_and _ _ _ _ _ _ _ (@pe_cmpR _ _ _ _ _ _ _ _ op_eq (pv 5) (pv 3) (@nomark _ _ (by decide) (by decide))) (@pe_one _ _ _ _ _ (@pe_cmpR _ _ _ _ _ _ _ _ op_eq (pv 6) (pv 4) (@nomark _ _ (by decide) (by decide))))))))))), ?_⟩
  have hbl := hbs.1
  refine ⟨_, rfl, _, _, _, _, _, rfl, rfl, .lst hrg, rfl, _, rfl, iteF ?_⟩
  refine ⟨_, rfl, _, rfl, r, rfl, ⟨_, SqL.of hrg⟩, ?_⟩
  refine for_list (xs := intsV R) (fun i σ' H' => H' = H ∧ ∃ o7, σ' = [some (.ref r), some (.ref b), some (.int (x : Int)), some (.int (y : Int)), some (.int c), some (.int (u i : Int)), some (.int (sumC B (R.take i))), o7]) ⟨rfl, none, ?_⟩ (fun i σ' H' _ p => by obtain ⟨rfl, _⟩ := p; exact SqL.of hrg) (fun i z σ' H' hz p => ?_) (fun σ' H' p => ?_)
  · rw [hR.fst]; rfl
  · obtain ⟨rfl, o7, rfl⟩ := p
    have hi : i < R.length := by have := (List.getElem?_eq_some_iff.mp hz).1; rwa [intsV_len] at this
    have eR : R[i]? = some R[i] := List.getElem?_eq_getElem hi
    have ex : z = .int (R[i] : Int) := Option.some.inj (hz.symm.trans (intsV_get eR))
    subst ex
    obtain ⟨bb, g1, g2, g3⟩ := hR.bond i _ eR
    have hlt : R[i] < B.length := (List.getElem?_eq_some_iff.mp g1).1
    obtain ⟨t1, d0, d1⟩ := hbs.get g1
    refine ⟨_, rfl, _, rfl, rfl, _, rfl, iteF ?_⟩
    refine ⟨_, rfl, _, _, rfl, rfl, _, rfl, ?_⟩
    rw [decide_eq_true (show (0 : Int) ≤ (R[i] : Int) by omega)]
    refine iteT ⟨_, rfl, b, _, rfl, .inl (SqL.of hb), _, _, rfl, rfl, _, rfl, ?_⟩
    rw [decide_eq_true (show (R[i] : Int) < (bs.length : Int) by omega)]
    refine iteF ?_
    refine ⟨_, rfl, _, rfl, b, _, _, _, rfl, rfl, SqL.of hb, d0, t1, _, 0, _, rfl, rfl, SqT.of d1, rfl, _, rfl, rfl, _, rfl, ?_⟩
    rw [g2]
    refine iteE (ndF rfl) (iteF ?_)
    refine ⟨_, rfl, _, rfl, b, _, _, _, rfl, rfl, SqL.of hb, d0, t1, _, 1, _, rfl, rfl, SqT.of d1, rfl, ?_⟩
    have key : sumC B (R.take i) + bb.c = sumC B (R.take (i + 1)) := by
      rw [take_snoc eR, sumC_app]
      have : sumC B [R[i]] = bb.c := by
        show (B.getD R[i] bd0).c + 0 = bb.c
        rw [List.getD_eq_getElem?_getD, g1]
        simp
      rw [this]
    refine ⟨_, rfl, _, rfl, _, rfl, b, _, _, _, rfl, rfl, SqL.of hb, d0, t1, _, 2, _, rfl, rfl, SqT.of d1, rfl, _, _, rfl, rfl, rfl, some (.int (R[i] : Int)), ?_⟩
    rw [← key, ← g3]
    rfl
  · obtain ⟨rfl, o7, rfl⟩ := p
    rw [intsV_len, List.take_length]
    refine ⟨_, rfl, _, rfl, rfl, ?_⟩
    rw [hR.lst, hc]
    refine ⟨_, rfl, ?_⟩
    rw [decide_eq_true rfl]
    refine iteT ⟨_, rfl, _, rfl, rfl, ?_⟩
    rw [decide_eq_true rfl]
    exact q

theorem ok_reached (T : Tx K mg a) : FnOk P w K mg base CX0 3 a.f_l_reached a.d_l_reached ["_law_found", "_law_count", "_law_bonds", "_law_x", "_law_y"] spReached := by
  have G_l_whole := ok_whole (P := P) (w := w) (base := base) T
  have G_l_chain := ok_chk (P := P) (w := w) (base := base) T
  have G_l_hold := ok_hold (P := P) (w := w) (base := base) T
  refine T.F_l_reached.ok sc_l_reached (fun vs H Q E h => ?_) (fun cdv A outer s H vs Q E hr h => ?_)
  · obtain ⟨_, _, _, _, _, _, _, _, _, _, _, _, rfl, _⟩ := h; rfl
  obtain ⟨t, l1, l2, b, n, B, x, y, c, R, g, u, rfl, ht, h1, h2, hB, hw, hx, hy, g0, hg, hgc, hC, hc, q⟩ := h
  refine ⟨_, (@pss_cons _ _ _ _ _ (@ps_if _ _ _ _ _ _ _ _ ((@pw_or _ _ _ _ _ _ _ (@pt_not _ _ _ _ (@pt_val _ _ _ (@pe_callB _ _ _ _ _ _ _ _ _ call_isi (by rfl) T.z_isinstance bt_isinstance (@pa_cons _ _ _ _ _ (pv 0) (@pa_cons _ _ _ _ _ (@pe_bltn _ _ (.ty "tuple") _ _ (by rfl) T.z_tuple bt_tuple rfl (by decide) (by decide)) pa_nil (by rfl)) (by rfl)) (by decide) (by decide) (by rfl) (by rfl)) (by intro _ ; rfl))) (@pw_or _ _ _ _ _ _ _ (@pt_cmpR _ _ _ _ _ _ _ _ op_ne (@pe_callB _ _ _ _ _ _ _ _ _ call_len_seq (by rfl) T.z_len bt_len (@pa_cons _ _ _ _ _ (pv 0) pa_nil (by rfl)) (by decide) (by decide) (by rfl) (by rfl)) pe_int (@nomark _ _ (by decide) (by decide))) (@pw_or1 _ _ _ _ (@pt_not _ _ _ _ (@pt_val _ _ _ (@pe_call _ _ _ _ _ _ _ _ _ _ _ _ _ _ _ _ G_l_whole (hr.mono (by omega)) (by rfl) T.m_l_whole T.F_l_whole.kp T.b_l_whole .nil pass0 (@pa_cons _ _ _ _ _ (@pe_ix _ _ _ _ _ _ _ ix_tup (pv 0) pe_int (fun _ _ => rfl)) pa_nil (by rfl)) (by decide) (by rfl) (by rfl)) (by intro _ ; rfl))))))).pt (@pss_one _ _ _ (@ps_ret _ _ _ _ pe_bl)) pss_nil) (@pss_cons _ _ _ _ _ (@ps_if _ _ _ _ _ _ _ _ ((@pw_or _ _ _ _ _ _ _ (@pt_not _ _ _ _ (@pt_val _ _ _ (@pe_call _ _ _ _ _ _ _ _ _ _ _ _ _ _ _ _ G_l_chain (hr.mono (by omega)) (by rfl) T.m_l_chain T.F_l_chain.kp T.b_l_chain .nil pass0 (@pa_cons _ _ _ _ _ (@pe_ix _ _ _ _ _ _ _ ix_tup (pv 0) pe_int (fun _ _ => rfl)) (@pa_cons _ _ _ _ _ (pv 2) (@pa_cons _ _ _ _ _ (pv 3) (@pa_cons _ _ _ _ _ (pv 4) (@pa_cons _ _ _ _ _ (@pe_ix _ _ _ _ _ _ _ ix_tup (pv 0) pe_int (fun _ _ => rfl)) pa_nil (by rfl)) (by rfl)) (by rfl)) (by rfl)) (by rfl)) (by decide) (by rfl) (by rfl)) (by intro _ ; rfl))) (@pw_or1 _ _ _ _ (@pt_not _ _ _ _ (@pt_val _ _ _ (@pe_call _ _ _ _ _ _ _ _ _ _ _ _ _ _ _ _ G_l_hold (hr.mono (by omega)) (by rfl) T.m_l_hold T.F_l_hold.kp T.b_l_hold .nil pass0 (@pa_cons _ _ _ _ _ (@pe_ix _ _ _ _ _ _ _ ix_tup (pv 0) pe_int (fun _ _ => rfl)) (@pa_cons _ _ _ _ _ (pv 1) (@pa_cons _ _ _ _ _ (pv 2) pa_nil (by rfl)) (by rfl)) (by rfl)) (by decide) (by rfl) (by rfl)) (by intro _ ; rfl)))))).pt (@pss_one _ _ _ (@ps_ret _ _ _ _ pe_bl)) pss_nil) (@pss_one _ _ _ (@ps_ret _ _ _ _ (@pe_cmpR _ _ _ _ _ _ _ _ op_eq (@pe_op _ _ _ _ _ _ _ _ op_sub (@pe_ix _ _ _ _ _ _ _ ix_list (@pe_ix _ _ _ _ _ _ _ ix_tup (pv 0) pe_int (fun _ _ => rfl)) (pv 3) (fun _ _ => rfl)) (@pe_ix _ _ _ _ _ _ _ ix_list (@pe_ix _ _ _ _ _ _ _ ix_tup (pv 0) pe_int (fun _ _ => rfl)) (pv 4) (fun _ _ => rfl))) (@pe_ix _ _ _ _ _ _ _ ix_tup (pv 0) pe_int (fun _ _ => rfl)) (@nomark _ _ (by decide) (by decide))))))), ?_⟩
  refine ⟨_, rfl, _, _, _, _, _, rfl, rfl, .tup ht, rfl, _, rfl, iteF ?_⟩
  refine ⟨_, rfl, t, _, rfl, .inr (SqT.of ht), rfl, _, rfl, ?_⟩
  refine iteE (ndF rfl) (iteF ?_)
  refine ⟨_, rfl, t, _, 0, _, rfl, rfl, SqT.of ht, rfl, _, rfl, rfl, _, rfl, iteF ?_⟩
  refine ⟨_, rfl, t, _, 1, _, rfl, rfl, SqT.of ht, rfl, _, rfl, _, rfl, _, rfl, _, rfl, t, _, 0, _, rfl, rfl, SqT.of ht, rfl, l1, b, R, u, B, x, y, c, rfl, h1, hB, hC, hc, _, rfl, iteF ?_⟩
  refine ⟨_, rfl, t, _, 2, _, rfl, rfl, SqT.of ht, rfl, _, rfl, _, rfl, l2, b, n, g, B, rfl, h2, by omega, hB, hw, g0, hg, _, rfl, iteF ?_⟩
  refine ⟨_, rfl, t, _, 2, _, rfl, rfl, SqT.of ht, rfl, _, rfl, l2, _, _, _, rfl, rfl, SqL.of h2, vl_at hx, _, rfl, t, _, 2, _, rfl, rfl, SqT.of ht, rfl, _, rfl, l2, _, _, _, rfl, rfl, SqL.of h2, vl_at hy, _, _, rfl, rfl, _, rfl, t, _, 0, _, rfl, rfl, SqT.of ht, rfl, rfl, ?_⟩
  rw [decide_eq_true (by show V.int (g x - g y) = V.int c; rw [hgc])]
  exact q

theorem ok_round45 (T : Tx K mg a) : FnOk P w K mg base CX0 1 a.f_l_round a.d_l_round ["_law_heights_here", "_law_ranks", "_law_many", "_law_less"] spRound45 := by
  refine T.F_l_round.ok sc_l_round (fun vs H Q E h => ?_) (fun cdv A outer s H vs Q E hr h => ?_)
  · obtain ⟨_, _, _, _, _, _, _, rfl, _⟩ := h; rfl
  obtain ⟨hh, rk, n, m, f, rs, ls, rfl, hv, hrk, hrs, m0, m1, rl, q⟩ := h
  refine ⟨_, (@pss_cons _ _ _ _ _ (@ps_set _ _ (4) _ _ _ _ sc_l_round.nd rfl (Or.inl rfl) (@pe_lst _ _ _ _ pa_nil) (by rfl) (by first | exact .inl rfl | exact .inr rfl | assumption)) (@pss_cons _ _ _ _ _ (@ps_for _ _ _ _ _ _ _ _ PassesOwn.never rfl (@pi_range1 _ _ _ _ _ _ (by rfl) T.z_range (@pa_cons _ _ _ _ _ (pv 2) pa_nil (by rfl)) (by rfl)) (pg_name (i := 5) sc_l_round.nd rfl (Or.inl rfl)) (@pss_cons _ _ _ _ _ (@ps_set _ _ (6) _ _ _ _ sc_l_round.nd rfl (Or.inl rfl) (@pe_ix _ _ _ _ _ _ _ ix_list (pv 1) (pv 5) (fun _ _ => rfl)) (by rfl) (by first | exact .inl rfl | exact .inr rfl | assumption)) (@pss_cons _ _ _ _ _ (@ps_set _ _ (7) _ _ _ _ sc_l_round.nd rfl (Or.inl rfl) (@pe_ix _ _ _ _ _ _ _ ix_list (pv 1) (@pe_op _ _ _ _ _ _ _ _ op_mod (@pe_op _ _ _ _ _ _ _ _ op_add (pv 5) pe_int) (pv 2)) (fun _ _ => rfl)) (by rfl) (by first | exact .inl rfl | exact .inr rfl | assumption)) (@pss_cons _ _ _ _ _ (@ps_set _ _ (8) _ _ _ _ sc_l_round.nd rfl (Or.inl rfl) (@pe_op _ _ _ _ _ _ _ _ op_sub (@pe_ix _ _ _ _ _ _ _ ix_list (pv 0) (pv 6) (fun _ _ => rfl)) (@pe_ix _ _ _ _ _ _ _ ix_list (pv 0) (pv 7) (fun _ _ => rfl))) (by rfl) (by first | exact .inl rfl | exact .inr rfl | assumption)) (@pss_cons _ _ _ _ _ (@ps_if _ _ _ _ _ _ _ _ (@pt_cmpR _ _ _ _ _ _ _ _ op_eq (pv 5) pe_int (@nomark _ _ (by decide) (by decide))) (@pss_one _ _ _ (@ps_set _ _ (8) _ _ _ _ sc_l_round.nd rfl (Or.inl rfl) (@pe_op _ _ _ _ _ _ _ _ op_sub (pv 8) (pv 3)) (by rfl) (by first | exact .inl rfl | exact .inr rfl | assumption))) pss_nil) (@pss_one _ _ _ (@ps_expr _ _ _ _ (@pe_bm _ _ _ _ _ _ _ _ _ _ _ _ PySem.F.plainAttrs_list PySem.F.slot_list_append PySem.F.type_list_append mt_append (pv 4) (@pa_cons _ _ _ _ _ (@pe_tupq _ _ _ _ _ (@paq_cons _ _ _ _ _ (pv 6) (@paq_cons _ _ _ _ _ (pv 7) (@paq_cons _ _ _ _ _ (pv 8) paq_nil star_N) star_N) star_N)) pa_nil (by rfl)) (by rfl) (by rfl) (by rfl) (by rfl) (by rfl)) (by rfl))))))) (by intro _ ; rfl)) (@pss_one _ _ _ (@ps_ret _ _ _ _ (pv 4))))), ?_⟩
  have rb : ∀ k, k < rs.length → rs.getD k 0 < n := fun k hk => by
    rw [List.getD_eq_getElem?_getD, List.getElem?_eq_getElem hk]
    exact hrs _ (List.getElem_mem hk)
  have ra : ∀ k, k < rs.length → atI (intsV rs) ((k : Nat) : Int) = some (.int ((rs.getD k 0 : Nat) : Int)) := fun k hk => by
    have e : rs[k]? = some (rs.getD k 0) := by rw [List.getD_eq_getElem?_getD, List.getElem?_eq_getElem hk]; rfl
    exact atI_nat (intsV_get e)
  refine ⟨szl (by show 0 ≤ 1000000; decide), fun r0 hr0 => ?_⟩
  refine ⟨_, rfl, (m : Int), rfl, by omega, by omega, ?_⟩
  refine for_range (lo := 0) (n := m) (fun i σ' H' => (∃ o5 o6 o7 o8, σ' = [some (.ref hh), some (.ref rk), some (.int (m : Int)), some (.int ls), some (.ref r0), o5, o6, o7, o8]) ∧ Same H H' ∧ ∃ ys, H' r0 = some (.lst ys) ∧ BsIs H' ys ((List.range i).map (ringAt f rs m ls))) ?_ (fun i σ' H' hi pp => ?_) (fun σ' H' pp => ?_)
  · exact ⟨⟨_, _, _, _, rfl⟩, same_new hr0 _, [], upd_same, rfl, fun i v b z => by simp at z⟩
  rotate_left
  · obtain ⟨⟨o5, o6, o7, o8, rfl⟩, hs, ys, hy, hB⟩ := pp
    exact ⟨_, rfl, q r0 _ hs ⟨ys, hy, hB⟩⟩
  obtain ⟨⟨o5, o6, o7, o8, rfl⟩, hs, ys, hy, hB⟩ := pp
  have hrk' := hs _ _ hrk
  have hv' := hs _ _ hv
  have hm1 : (i + 1) % m < m := Nat.mod_lt _ m0
  have e1 := ra i (by omega)
  have e2 := ra ((i + 1) % m) (by omega)
  have z1 : (0 : Int) + (i : Int) = ((i : Nat) : Int) := by omega
  have z2 : ((i : Nat) : Int) + 1 = ((i + 1 : Nat) : Int) := by omega
  dsimp only [gName]
  rw [z1]
  refine ⟨_, rfl, _, rfl, rk, _, _, _, rfl, rfl, SqL.of hrk', e1, ?_⟩
  dsimp only [gName]
  refine ⟨_, rfl, _, rfl, _, _, rfl, rfl, _, rfl, _, _, rfl, rfl, (by show (0 : Int) < (m : Int); omega), rk, _, _, _, rfl, rfl, SqL.of hrk', (by rw [z2, ← Int.natCast_emod]; exact e2), ?_⟩
  dsimp only [gName]
  refine ⟨_, rfl, _, rfl, hh, _, _, _, rfl, rfl, SqL.of hv', vl_at (rb _ (by omega)), _, rfl, _, rfl, hh, _, _, _, rfl, rfl, SqL.of hv', vl_at (rb _ (by omega)), _, _, rfl, rfl, ?_⟩
  dsimp only [gName]
  refine seq_any (fun σ2 H2 => H2 = H' ∧ σ2 = [some (.ref hh), some (.ref rk), some (.int (m : Int)), some (.int ls), some (.ref r0), some (.int (i : Int)), some (.int ((ringAt f rs m ls i).x : Int)), some (.int ((ringAt f rs m ls i).y : Int)), some (.int (ringAt f rs m ls i).c)]) (fun σ2 H2 pp => ?_) (fun nx => ?_)
  rotate_left
  · refine ⟨_, rfl, rfl, _, rfl, ite2 (fun c => ?_) (fun c => ?_)⟩
    · have c := of_decide_eq_true c
      obtain rfl : i = 0 := by have := V.int.inj c; omega
      refine ⟨_, rfl, _, rfl, _, _, rfl, rfl, nx _ _ ⟨rfl, ?_⟩⟩
      show _ = [_, _, _, _, _, _, _, _, some (V.int (f (rs.getD 0 0) - f (rs.getD ((0 + 1) % m) 0) - (if (0 : Nat) = 0 then ls else 0)))]
      rw [if_pos rfl]
      rfl
    · have ci : i ≠ 0 := fun z => c (decide_eq_true (by rw [z]; rfl))
      refine nx _ _ ⟨rfl, ?_⟩
      show _ = [_, _, _, _, _, _, _, _, some (V.int (f (rs.getD i 0) - f (rs.getD ((i + 1) % m) 0) - (if i = 0 then ls else 0)))]
      rw [if_neg ci, Int.sub_zero]
      rfl
  obtain ⟨rfl, rfl⟩ := pp
  refine ⟨_, rfl, .inl ⟨rfl, _, SqL.of hy⟩, _, rfl, _, rfl, _, rfl, szl (by show 3 ≤ 1000000; decide), fun t ht => ?_⟩
  have s2 := same_new ht (.tup [V.int ((ringAt f rs m ls i).x : Int), V.int ((ringAt f rs m ls i).y : Int), V.int (ringAt f rs m ls i).c])
  have ylen := hB.1
  rw [List.length_map, List.length_range] at ylen
  have ntr : t ≠ r0 := fun z => by rw [z, hy] at ht; cases ht
  refine ⟨r0, ys, _, rfl, rfl, s2 _ _ hy, szlt (by omega), ⟨_, _, _, _, rfl⟩, fun b o e => ?_, _, upd_same, ?_⟩
  · rw [upd_ne (ne_of_none e hr0)]
    exact (hs.trans s2) b o e
  · rw [List.range_succ, List.map_append]
    have hb : BondAt (upd (upd H2 t (.tup [V.int ((ringAt f rs m ls i).x : Int), V.int ((ringAt f rs m ls i).y : Int), V.int (ringAt f rs m ls i).c])) r0 (.lst (ys ++ [V.ref t]))) (.ref t) (ringAt f rs m ls i) := ⟨t, rfl, by rw [upd_ne ntr]; exact upd_same⟩
    refine BsIs.snoc ⟨hB.1, fun j v b e1 e2 => ?_⟩ hb
    obtain ⟨t', rfl, ht'⟩ := hB.2 j v b e1 e2
    exact ⟨t', rfl, by rw [upd_ne (fun z => by rw [z, hy] at ht'; cases ht')]; exact s2 _ _ ht'⟩

theorem ok_putin45 (T : Tx K mg a) : FnOk P w K mg base CX0 1 a.f_l_put_in a.d_l_put_in ["_law_bonds", "_law_ring", "_law_cell_here"] spPutIn45 := by
  refine T.F_l_put_in.ok sc_l_put_in (fun vs H Q E h => ?_) (fun cdv A outer s H vs Q E hr h => ?_)
  · obtain ⟨_, _, _, _, _, rfl, _⟩ := h; rfl
  obtain ⟨b, r, c, B, R, rfl, hB, hR, hBl, hRl, q⟩ := h
  refine ⟨_, (@pss_cons _ _ _ _ _ (@ps_set _ _ (3) _ _ _ _ sc_l_put_in.nd rfl (Or.inl rfl) (@pe_callTy _ _ _ _ _ _ _ _ _ call_list_of (by rfl) T.z_list bt_list (@pa_cons _ _ _ _ _ (pv 0) pa_nil (by rfl)) (by decide) (by decide) (by rfl) (by rfl)) (by rfl) (by first | exact .inl rfl | exact .inr rfl | assumption)) (@pss_cons _ _ _ _ _ (@ps_set _ _ (4) _ _ _ _ sc_l_put_in.nd rfl (Or.inl rfl) (@pe_op _ _ _ _ _ _ _ _ op_mod (pv 2) pe_int) (by rfl) (by first | exact .inl rfl | exact .inr rfl | assumption)) (@pss_cons _ _ _ _ _ (@ps_for _ _ _ _ _ _ _ _ PassesOwn.never rfl (@pi_list _ _ _ _ (pv 1)) (pg_name (i := 5) sc_l_put_in.nd rfl (Or.inl rfl)) (@pss_cons _ _ _ _ _ (@ps_set _ _ (4) _ _ _ _ sc_l_put_in.nd rfl (Or.inl rfl) (@pe_op _ _ _ _ _ _ _ _ op_mod (@pe_op _ _ _ _ _ _ _ _ op_add (@pe_op _ _ _ _ _ _ _ _ op_mul (pv 4) pe_int) pe_int) pe_int) (by rfl) (by first | exact .inl rfl | exact .inr rfl | assumption)) (@pss_one _ _ _ (@ps_expr _ _ _ _ (@pe_bm _ _ _ _ _ _ _ _ _ _ _ _ PySem.F.plainAttrs_list PySem.F.slot_list_insert PySem.F.type_list_insert mt_insert (pv 3) (@pa_cons _ _ _ _ _ (@pe_op _ _ _ _ _ _ _ _ op_mod (pv 4) (@pe_op _ _ _ _ _ _ _ _ op_add (@pe_callB _ _ _ _ _ _ _ _ _ call_len_seq (by rfl) T.z_len bt_len (@pa_cons _ _ _ _ _ (pv 3) pa_nil (by rfl)) (by decide) (by decide) (by rfl) (by rfl)) pe_int)) (@pa_cons _ _ _ _ _ (pv 5) pa_nil (by rfl)) (by rfl)) (by rfl) (by rfl) (by rfl) (by rfl) (by rfl)) (by rfl)))) (by intro _ ; rfl)) (@pss_one _ _ _ (@ps_ret _ _ _ _ (pv 3)))))), ?_⟩
  obtain ⟨bs, hb, hbs⟩ := hB
  obtain ⟨rs, hr0, hrs⟩ := hR
  have bl := hbs.1
  have rl := hrs.1
  have p64 : (2 : Int) ^ 64 = 18446744073709551616 := by decide
  refine ⟨_, rfl, b, _, rfl, .inl (SqL.of hb), fun fo hfo => ?_⟩
  dsimp only [gName]
  refine ⟨_, rfl, _, _, rfl, rfl, (by show (0 : Int) < 2147483647; decide), ?_⟩
  dsimp only [gName]
  refine ⟨_, rfl, r, rfl, ⟨_, SqL.of (same_new hfo _ _ _ hr0)⟩, ?_⟩
  refine for_list (xs := rs) (fun i σ' H' => (∃ (nu : Int) (o5 : Option V), 0 ≤ nu ∧ nu < 2147483647 ∧ σ' = [some (.ref b), some (.ref r), some (.int c), some (.ref fo), some (.int nu), o5]) ∧ Same H H' ∧ ∃ ys C, H' fo = some (.lst ys) ∧ BsIs H' ys C ∧ C.Perm (B ++ R.take i)) ?_ (fun i σ' H' _ pp => SqL.of (pp.2.1 _ _ hr0)) (fun i x σ' H' hx pp => ?_) (fun σ' H' pp => ?_)
  · refine ⟨⟨_, _, Int.emod_nonneg _ (by decide), Int.emod_lt_of_pos _ (by decide), rfl⟩, same_new hfo _, bs, B, upd_same, hbs.over (same_new hfo _), ?_⟩
    rw [List.take_zero, List.append_nil]
  rotate_left
  · obtain ⟨⟨nu, o5, _, _, rfl⟩, hs, ys, C, hy, hC, hp⟩ := pp
    rw [rl, List.take_length] at hp
    exact ⟨_, rfl, q fo _ C hs ⟨ys, hy, hC⟩ hp⟩
  obtain ⟨⟨nu, o5, n0, n1, rfl⟩, hs, ys, C, hy, hC, hp⟩ := pp
  have hi : i < R.length := by have := (List.getElem?_eq_some_iff.mp hx).1; omega
  have eR : R[i]? = some R[i] := List.getElem?_eq_getElem hi
  have hbd := (hrs.2 i x R[i] hx eR).over hs
  have yl := hC.1
  have cl := hp.length_eq
  rw [List.length_append, List.length_take] at cl
  dsimp only [gName]
  refine ⟨_, rfl, _, _, rfl, rfl, .inr ⟨by decide, by decide⟩, _, _, rfl, rfl, _, _, rfl, rfl, (by show (0 : Int) < 2147483647; decide), ?_⟩
  dsimp only [gName]
  have b0 := Int.emod_nonneg (nu * 48271 + 11) (show (2147483647 : Int) ≠ 0 by decide)
  have b1 := Int.emod_lt_of_pos (nu * 48271 + 11) (show (0 : Int) < 2147483647 by decide)
  generalize (nu * 48271 + 11) % 2147483647 = nv at b0 b1
  have hpos : (0 : Int) < (ys.length : Int) + 1 := by omega
  have k0 := Int.emod_nonneg nv (show ((ys.length : Int) + 1) ≠ 0 by omega)
  have k1 := Int.emod_lt_of_pos nv hpos
  obtain ⟨k, hk⟩ : ∃ k : Nat, nv % ((ys.length : Int) + 1) = (k : Int) := ⟨(nv % ((ys.length : Int) + 1)).toNat, by omega⟩
  refine ⟨_, rfl, .inl ⟨rfl, _, SqL.of hy⟩, _, rfl, _, rfl, fo, _, rfl, .inl (SqL.of hy), _, _, rfl, rfl, _, _, rfl, rfl, hpos, _, rfl, ?_⟩
  refine ⟨fo, ys, x, k, rfl, (by rw [← hk]), hy, by omega, by omega, ⟨nv, _, b0, b1, rfl⟩, fun a o e => ?_, _, C.take k ++ R[i] :: C.drop k, upd_same, ?_, ?_⟩
  · rw [upd_ne (ne_of_none e hfo)]; exact hs a o e
  · have s2 : ∀ t xs, H' t = some (.tup xs) → (upd H' fo (.lst (ys.take k ++ x :: ys.drop k))) t = some (.tup xs) := fun t xs e => by rw [upd_ne (fun z => by rw [z, hy] at e; cases e)]; exact e
    have hC2 : BsIs (upd H' fo (.lst (ys.take k ++ x :: ys.drop k))) ys C := ⟨hC.1, fun j v bb e1 e2 => by
      obtain ⟨t, rfl, ht⟩ := hC.2 j v bb e1 e2
      exact ⟨t, rfl, s2 _ _ ht⟩⟩
    exact hC2.ins (b := R[i]) (by obtain ⟨t, rfl, ht⟩ := hbd; exact ⟨t, rfl, s2 _ _ ht⟩) k
  · refine (ins_perm C R[i] k).trans ?_
    rw [take_snoc eR, ← List.append_assoc]
    exact hp.append_right _

theorem ok_due47 (T : Tx K mg a) : FnOk P w K mg base CX0 1 a.f_l_due a.d_l_due ["_law_heights_here"] spDue47 := by
  refine T.F_l_due.ok sc_l_due (fun vs H Q E h => ?_) (fun cdv A outer s H vs Q E hr h => ?_)
  · obtain ⟨_, _, _, rfl, _⟩ := h; rfl
  obtain ⟨l, n, f, rfl, hl, n0, n1, q⟩ := h
  refine ⟨_, (@pss_one _ _ _ (@ps_ret _ _ _ _ (@pe_compB _ _ _ _ _ _ _ ["_law_height", "_law_heights_here"] [none, some 0] _ _ _ _ (by rfl) (@pi_list _ _ _ _ (pv 0)) c_l_due_0 (fun _ _ _ _ _ _ => ⟨(pg_name (i := 0) c_l_due_0n rfl (Or.inl rfl)), @pts_nil _, (@pe_op _ _ _ _ _ _ _ _ op_sub (pv 0) (@pe_ix _ _ _ _ _ _ _ (show IxR _ (rIxL K) from ix_list) (pv 1) pe_int (fun _ _ => rfl)))⟩) (by intro _ ; rfl)))), ?_⟩
  refine ⟨_, rfl, l, rfl, ⟨_, SqL.of hl⟩, ?_⟩
  refine comp_list (xs := vl n f) (fun i ys H' => H' = H ∧ ys = vl i fun v => f v - f 0) ⟨rfl, rfl⟩ (by rw [vl_len]; exact szl (by omega)) (fun i ys H' hi pp => ⟨by rw [pp.1]; exact SqL.of hl, by rw [pp.2, vl_len]; exact Nat.le_refl _⟩) (fun i z ys H' hz pp => ?_) (fun ys H' pp r hr' => ?_)
  · obtain ⟨rfl, rfl⟩ := pp
    have hi : i < n := by have := (List.getElem?_eq_some_iff.mp hz).1; rwa [vl_len] at this
    have ez : z = .int (f i) := by
      have e := atI_nat hz
      rw [vl_at hi] at e
      exact (Option.some.inj e).symm
    subst ez
    refine ⟨_, rfl, _, rfl, l, _, 0, _, rfl, rfl, SqL.of hl, vl_at n0, _, _, rfl, rfl, rfl, ?_⟩
    exact (vl_succ _ _).symm
  · obtain ⟨rfl, rfl⟩ := pp
    rw [vl_len]
    exact q r _ (same_new hr' _) upd_same

theorem ok_law (T : Tx K mg a) (LT : LawTab base mg a.c_tab a.p_tab) : FnOk P w K mg base CX0 7 a.f_law a.d_law ["_law_script"] (spLawT K a.p_tab) := by
  have G_l_cell := ok_cell (P := P) (w := w) (base := base) T
  have G_l_mixed := ok_mixed (P := P) (w := w) (base := base) T
  have G_l_heights := ok_heights (P := P) (w := w) (base := base) T
  have G_l_bond := ok_bond47 (P := P) (w := w) (base := base) T
  have G_l_cells := ok_cells (P := P) (w := w) (base := base) T
  have G_l_round := ok_round45 (P := P) (w := w) (base := base) T
  have G_l_put_in := ok_putin45 (P := P) (w := w) (base := base) T
  have G_settled := ok_settled (P := P) (w := w) (base := base) T
  have G_most := ok_most (P := P) (w := w) (base := base) T
  have G_l_falls := ok_falls (P := P) (w := w) (base := base) T
  have G_l_hold := ok_hold (P := P) (w := w) (base := base) T
  have G_l_reached := ok_reached (P := P) (w := w) (base := base) T
  have G_l_due := ok_due47 (P := P) (w := w) (base := base) T
  refine T.F_law.okT T.nl T.tb sc_law (fun vs H Q E h => ?_) (fun A outer s H vs Q E hr h => ?_)
  · obtain ⟨_, _, rfl, _⟩ := h; rfl
  obtain ⟨p, ns, rfl, hp, h63, hT, q⟩ := h
  refine ⟨_, (@pss_cons _ _ _ _ _ (@ps_set _ _ (1) _ _ _ _ sc_law.nd rfl (Or.inl rfl) (@pe_call _ _ _ _ _ _ _ _ _ _ _ _ _ _ _ _ G_l_mixed (hr.mono (by omega)) (by rfl) T.m_l_mixed T.F_l_mixed.kp T.b_l_mixed .nil pass0 (@pa_cons _ _ _ _ _ (@pe_call _ _ _ _ _ _ _ _ _ _ _ _ _ _ _ _ G_l_cell (hr.mono (by omega)) (by rfl) T.m_l_cell T.F_l_cell.kp T.b_l_cell .nil pass0 (@pa_cons _ _ _ _ _ (pv 0) (@pa_cons _ _ _ _ _ pe_int pa_nil (by rfl)) (by rfl)) (by decide) (by rfl) (by rfl)) pa_nil (by rfl)) (by decide) (by rfl) (by rfl)) (by rfl) (by first | exact .inl rfl | exact .inr rfl | assumption)) (@pss_cons _ _ _ _ _ (@ps_set _ _ (2) _ _ _ _ sc_law.nd rfl (Or.inl rfl) (@pe_op _ _ _ _ _ _ _ _ op_add pe_int (@pe_op _ _ _ _ _ _ _ _ op_mod (pv 1) pe_int)) (by rfl) (by first | exact .inl rfl | exact .inr rfl | assumption)) (@pss_cons _ _ _ _ _ (@ps_set _ _ (3) _ _ _ _ sc_law.nd rfl (Or.inl rfl) (@pe_ix _ _ _ _ _ _ _ ix_list (@pe_lstq _ _ _ _ (@paq_cons _ _ _ _ _ pe_int (@paq_cons _ _ _ _ _ (@pe_op _ _ _ _ _ _ _ _ op_pow pe_int pe_int) (@paq_cons _ _ _ _ _ (@pe_op _ _ _ _ _ _ _ _ op_mul pe_int (@pe_op _ _ _ _ _ _ _ _ op_pow pe_int pe_int)) paq_nil star_B) star_B) star_C)) (@pe_op _ _ _ _ _ _ _ _ op_mod (@pe_op _ _ _ _ _ _ _ _ op_fdiv (pv 1) pe_int) pe_int) (fun _ _ => rfl)) (by rfl) (by first | exact .inl rfl | exact .inr rfl | assumption)) (@pss_cons _ _ _ _ _ (@ps_set _ _ (4) _ _ _ _ sc_law.nd rfl (Or.inr rfl) (@pe_call _ _ _ _ _ _ _ _ _ _ _ _ _ _ _ _ G_l_heights (hr.mono (by omega)) (by rfl) T.m_l_heights T.F_l_heights.kp T.b_l_heights .nil pass0 (@pa_cons _ _ _ _ _ (@pe_call _ _ _ _ _ _ _ _ _ _ _ _ _ _ _ _ G_l_cell (hr.mono (by omega)) (by rfl) T.m_l_cell T.F_l_cell.kp T.b_l_cell .nil pass0 (@pa_cons _ _ _ _ _ (pv 0) (@pa_cons _ _ _ _ _ pe_int pa_nil (by rfl)) (by rfl)) (by decide) (by rfl) (by rfl)) (@pa_cons _ _ _ _ _ (pv 2) (@pa_cons _ _ _ _ _ (pv 3) pa_nil (by rfl)) (by rfl)) (by rfl)) (by decide) (by rfl) (by rfl)) (by rfl) (by first | exact .inl rfl | exact .inr rfl | assumption)) (@pss_cons _ _ _ _ _ (@ps_setcompB _ _ _ _ _ _ _ _ _ (5) _ ["_law_cell_here", "_law_heights_here"] [none, some 4] _ _ _ _ sc_law.nd rfl (Or.inl rfl) (by rfl) (@pi_list _ _ _ _ (@pe_call _ _ _ _ _ _ _ _ _ _ _ _ _ _ _ _ G_l_cells (hr.mono (by omega)) (by rfl) T.m_l_cells T.F_l_cells.kp T.b_l_cells .nil pass0 (@pa_cons _ _ _ _ _ (pv 0) (@pa_cons _ _ _ _ _ pe_int pa_nil (by rfl)) (by rfl)) (by decide) (by rfl) (by rfl))) c_law_0 (fun _ _ _ _ _ _ => ⟨(pg_name (i := 0) c_law_0n rfl (Or.inl rfl)), @pts_nil _, (@pe_call _ _ _ _ _ _ _ _ _ _ _ _ _ _ _ _ G_l_bond (hr.mono (by omega)) (by rfl) T.m_l_bond T.F_l_bond.kp T.b_l_bond .nil pass0 (@pa_cons _ _ _ _ _ (pv 0) (@pa_cons _ _ _ _ _ (pv 1) (@pa_cons _ _ _ _ _ (@pe_un _ _ _ _ _ _ un_neg pe_int) (@pa_cons _ _ _ _ _ pe_int pa_nil (by rfl)) (by rfl)) (by rfl)) (by rfl)) (by decide) (by rfl) (by rfl))⟩) (by rfl) (by intro _ ; rfl) (by first | exact .inl rfl | exact .inr rfl | assumption)) (@pss_cons _ _ _ _ _ (@ps_set _ _ (6) _ _ _ _ sc_law.nd rfl (Or.inl rfl) (@pe_call _ _ _ _ _ _ _ _ _ _ _ _ _ _ _ _ G_l_mixed (hr.mono (by omega)) (by rfl) T.m_l_mixed T.F_l_mixed.kp T.b_l_mixed .nil pass0 (@pa_cons _ _ _ _ _ (@pe_op _ _ _ _ _ _ _ _ op_add (@pe_call _ _ _ _ _ _ _ _ _ _ _ _ _ _ _ _ G_l_cell (hr.mono (by omega)) (by rfl) T.m_l_cell T.F_l_cell.kp T.b_l_cell .nil pass0 (@pa_cons _ _ _ _ _ (pv 0) (@pa_cons _ _ _ _ _ pe_int pa_nil (by rfl)) (by rfl)) (by decide) (by rfl) (by rfl)) pe_int) pa_nil (by rfl)) (by decide) (by rfl) (by rfl)) (by rfl) (by first | exact .inl rfl | exact .inr rfl | assumption)) (@pss_cons _ _ _ _ _ (@ps_set _ _ (7) _ _ _ _ sc_law.nd rfl (Or.inr rfl) (@pe_call _ _ _ _ _ _ _ _ _ _ _ _ _ _ _ _ G_l_heights (hr.mono (by omega)) (by rfl) T.m_l_heights T.F_l_heights.kp T.b_l_heights .nil pass0 (@pa_cons _ _ _ _ _ (pv 6) (@pa_cons _ _ _ _ _ (pv 2) (@pa_cons _ _ _ _ _ (@pe_op _ _ _ _ _ _ _ _ op_pow pe_int pe_int) pa_nil (by rfl)) (by rfl)) (by rfl)) (by decide) (by rfl) (by rfl)) (by rfl) (by first | exact .inl rfl | exact .inr rfl | assumption)) (@pss_cons _ _ _ _ _ (@ps_set _ _ (8) _ _ _ _ sc_law.nd rfl (Or.inl rfl) (pe_sortk (io := 7) rfl hr (by rfl) T.z_sorted (@pa_cons _ _ _ _ _ (pe_rng (by rfl) T.z_range (@pa_cons _ _ _ _ _ (pv 2) pa_nil (by rfl))) pa_nil (by rfl)) (by rfl) LT (by rfl) (by rfl) (by rfl) (by rfl) (by rfl) (by decide) (by decide) (by decide) (by decide) (by decide) (fun _ _ _ _ _ => rfl)) (by rfl) (by first | exact .inl rfl | exact .inr rfl | assumption)) (@pss_cons _ _ _ _ _ (@ps_set _ _ (9) _ _ _ _ sc_law.nd rfl (Or.inl rfl) (@pe_op _ _ _ _ _ _ _ _ op_mod (@pe_op _ _ _ _ _ _ _ _ op_fdiv (pv 1) pe_int) pe_int) (by rfl) (by first | exact .inl rfl | exact .inr rfl | assumption)) (@pss_cons _ _ _ _ _ (@ps_set _ _ (10) _ _ _ _ sc_law.nd rfl (Or.inl rfl) (@pe_call _ _ _ _ _ _ _ _ _ _ _ _ _ _ _ _ G_l_round (hr.mono (by omega)) (by rfl) T.m_l_round T.F_l_round.kp T.b_l_round .nil pass0 (@pa_cons _ _ _ _ _ (pv 4) (@pa_cons _ _ _ _ _ (pv 8) (@pa_cons _ _ _ _ _ (pv 2) (@pa_cons _ _ _ _ _ (pv 9) pa_nil (by rfl)) (by rfl)) (by rfl)) (by rfl)) (by decide) (by rfl) (by rfl)) (by rfl) (by first | exact .inl rfl | exact .inr rfl | assumption)) (@pss_cons _ _ _ _ _ (@ps_set _ _ (11) _ _ _ _ sc_law.nd rfl (Or.inr rfl) (@pe_call _ _ _ _ _ _ _ _ _ _ _ _ _ _ _ _ G_l_put_in (hr.mono (by omega)) (by rfl) T.m_l_put_in T.F_l_put_in.kp T.b_l_put_in .nil pass0 (@pa_cons _ _ _ _ _ (pv 5) (@pa_cons _ _ _ _ _ (pv 10) (@pa_cons _ _ _ _ _ (pv 6) pa_nil (by rfl)) (by rfl)) (by rfl)) (by decide) (by rfl) (by rfl)) (by rfl) (by first | exact .inl rfl | exact .inr rfl | assumption)) (@pss_cons _ _ _ _ _ (@ps_set _ _ (12) _ _ _ _ sc_law.nd rfl (Or.inl rfl) (@pe_callTy _ _ _ _ _ _ _ _ _ call_list_of (by rfl) T.z_list bt_list (@pa_cons _ _ _ _ _ (pv 11) pa_nil (by rfl)) (by decide) (by decide) (by rfl) (by rfl)) (by rfl) (by first | exact .inl rfl | exact .inr rfl | assumption)) (@pss_cons _ _ _ _ _ (@ps_set _ _ (13) _ _ _ _ sc_law.nd rfl (Or.inl rfl) (@pe_call _ _ _ _ _ _ _ _ _ _ _ _ _ _ _ _ G_settled (hr.mono (by omega)) (by rfl) T.m_settled T.F_settled.kp T.b_settled .nil pass0 (@pa_cons _ _ _ _ _ (pv 2) (@pa_cons _ _ _ _ _ (pv 12) pa_nil (by rfl)) (by rfl)) (by decide) (by rfl) (by rfl)) (by rfl) (by first | exact .inl rfl | exact .inr rfl | assumption)) (@pss_cons _ _ _ _ _ (@ps_if _ _ _ _ _ _ _ _ ((@pw_or _ _ _ _ _ _ _ (@pt_cmpR _ _ _ _ _ _ _ _ (@op_neS _ (@hu64 _ _ hr)) (pv 12) (pv 11) (@nomark _ _ (by decide) (by decide))) (@pw_or _ _ _ _ _ _ _ (@pt_not _ _ _ _ (@pt_val _ _ _ (@pe_callB _ _ _ _ _ _ _ _ _ call_isi (by rfl) T.z_isinstance bt_isinstance (@pa_cons _ _ _ _ _ (pv 13) (@pa_cons _ _ _ _ _ (@pe_bltn _ _ (.ty "tuple") _ _ (by rfl) T.z_tuple bt_tuple rfl (by decide) (by decide)) pa_nil (by rfl)) (by rfl)) (by decide) (by decide) (by rfl) (by rfl)) (by intro _ ; rfl))) (@pw_or1 _ _ _ _ (@pt_cmpR _ _ _ _ _ _ _ _ op_ne (@pe_callB _ _ _ _ _ _ _ _ _ call_len_seq (by rfl) T.z_len bt_len (@pa_cons _ _ _ _ _ (pv 13) pa_nil (by rfl)) (by decide) (by decide) (by rfl) (by rfl)) pe_int (@nomark _ _ (by decide) (by decide))))))).pt (@pss_one _ _ _ (@ps_ret _ _ _ _ pe_bl)) pss_nil) (@pss_cons _ _ _ _ _ (@ps_if _ _ _ _ _ _ _ _ (@pt_cmpR _ _ _ _ _ _ _ _ op_eq (pv 9) pe_int (@nomark _ _ (by decide) (by decide))) (@pss_cons _ _ _ _ _ (@ps_if _ _ _ _ _ _ _ _ ((@pw_or _ _ _ _ _ _ _ (@pt_cmpR _ _ _ _ _ _ _ _ op_ne (@pe_ix _ _ _ _ _ _ _ ix_tup (pv 13) pe_int (fun _ _ => rfl)) pe_str (@nomark _ _ (by decide) (by decide))) (@pw_or _ _ _ _ _ _ _ (@pt_not _ _ _ _ (@pt_val _ _ _ (@pe_call _ _ _ _ _ _ _ _ _ _ _ _ _ _ _ _ G_l_falls (hr.mono (by omega)) (by rfl) T.m_l_falls T.F_l_falls.kp T.b_l_falls .nil pass0 (@pa_cons _ _ _ _ _ (@pe_ix _ _ _ _ _ _ _ ix_tup (pv 13) pe_int (fun _ _ => rfl)) (@pa_cons _ _ _ _ _ (pv 11) pa_nil (by rfl)) (by rfl)) (by decide) (by rfl) (by rfl)) (by intro _ ; rfl))) (@pw_or1 _ _ _ _ (@pt_cmpR _ _ _ _ _ _ _ _ op_ne (@pe_callB _ _ _ _ _ _ _ _ _ call_len_seq (by rfl) T.z_len bt_len (@pa_cons _ _ _ _ _ (@pe_ix _ _ _ _ _ _ _ ix_tup (pv 13) pe_int (fun _ _ => rfl)) pa_nil (by rfl)) (by decide) (by decide) (by rfl) (by rfl)) (pv 2) (@nomark _ _ (by decide) (by decide))))))).pt (@pss_one _ _ _ (@ps_ret _ _ _ _ pe_bl)) pss_nil) (@pss_one _ _ _ (@ps_ret _ _ _ _ (@pe_cmpR _ _ _ _ _ _ _ _ (@op_eqS _ (@hu64 _ _ hr)) (@pe_callB _ _ _ _ _ _ _ _ _ call_sortedB (by rfl) T.z_sorted bt_sorted (@pa_cons _ _ _ _ _ (@pe_compB _ _ _ _ _ _ _ ["_law_number", "_law_bonds"] [none, some 11] _ _ _ _ (by rfl) (@pi_list _ _ _ _ (@pe_ix _ _ _ _ _ _ _ ix_tup (pv 13) pe_int (fun _ _ => rfl))) c_law_1 (fun _ _ _ _ _ _ => ⟨(pg_name (i := 0) c_law_1n rfl (Or.inl rfl)), @pts_nil _, (@pe_ix _ _ _ _ _ _ _ (show IxR _ (rIxL K) from ix_list) (pv 1) (pv 0) (fun _ _ => rfl))⟩) (by intro _ ; rfl)) pa_nil (by rfl)) (by decide) (by decide) (by rfl) (by rfl)) (@pe_callB _ _ _ _ _ _ _ _ _ call_sortedB (by rfl) T.z_sorted bt_sorted (@pa_cons _ _ _ _ _ (pv 10) pa_nil (by rfl)) (by decide) (by decide) (by rfl) (by rfl)) (@nomark _ _ (by decide) (by decide)))))) pss_nil) (@pss_cons _ _ _ _ _ (@ps_if _ _ _ _ _ _ _ _ ((@pw_or _ _ _ _ _ _ _ (@pt_cmpR _ _ _ _ _ _ _ _ op_ne (@pe_ix _ _ _ _ _ _ _ ix_tup (pv 13) pe_int (fun _ _ => rfl)) pe_str (@nomark _ _ (by decide) (by decide))) (@pw_or _ _ _ _ _ _ _ (@pt_not _ _ _ _ (@pt_val _ _ _ (@pe_call _ _ _ _ _ _ _ _ _ _ _ _ _ _ _ _ G_l_hold (hr.mono (by omega)) (by rfl) T.m_l_hold T.F_l_hold.kp T.b_l_hold .nil pass0 (@pa_cons _ _ _ _ _ (@pe_ix _ _ _ _ _ _ _ ix_tup (pv 13) pe_int (fun _ _ => rfl)) (@pa_cons _ _ _ _ _ (pv 2) (@pa_cons _ _ _ _ _ (pv 11) pa_nil (by rfl)) (by rfl)) (by rfl)) (by decide) (by rfl) (by rfl)) (by intro _ ; rfl))) (@pw_or1 _ _ _ _ (@pt_cmpR _ _ _ _ _ _ _ _ (@op_neS _ (@hu64 _ _ hr)) (@pe_ix _ _ _ _ _ _ _ ix_tup (pv 13) pe_int (fun _ _ => rfl)) (@pe_call _ _ _ _ _ _ _ _ _ _ _ _ _ _ _ _ G_l_due (hr.mono (by omega)) (by rfl) T.m_l_due T.F_l_due.kp T.b_l_due .nil pass0 (@pa_cons _ _ _ _ _ (pv 4) pa_nil (by rfl)) (by decide) (by rfl) (by rfl)) (@nomark _ _ (by decide) (by decide))))))).pt (@pss_one _ _ _ (@ps_ret _ _ _ _ pe_bl)) pss_nil) (@pss_cons _ _ _ _ _ (@ps_set _ _ (14) _ _ _ _ sc_law.nd rfl (Or.inl rfl) (@pe_ix _ _ _ _ _ _ _ ix_list (pv 8) (@pe_op _ _ _ _ _ _ _ _ op_mod (pv 6) (pv 2)) (fun _ _ => rfl)) (by rfl) (by first | exact .inl rfl | exact .inr rfl | assumption)) (@pss_cons _ _ _ _ _ (@ps_set _ _ (15) _ _ _ _ sc_law.nd rfl (Or.inl rfl) (@pe_ix _ _ _ _ _ _ _ ix_list (pv 8) (@pe_op _ _ _ _ _ _ _ _ op_mod (@pe_op _ _ _ _ _ _ _ _ op_fdiv (pv 6) pe_int) (pv 2)) (fun _ _ => rfl)) (by rfl) (by first | exact .inl rfl | exact .inr rfl | assumption)) (@pss_cons _ _ _ _ _ (@ps_set _ _ (16) _ _ _ _ sc_law.nd rfl (Or.inl rfl) (@pe_call _ _ _ _ _ _ _ _ _ _ _ _ _ _ _ _ G_most (hr.mono (by omega)) (by rfl) T.m_most T.F_most.kp T.b_most .nil pass0 (@pa_cons _ _ _ _ _ (pv 2) (@pa_cons _ _ _ _ _ (pv 12) (@pa_cons _ _ _ _ _ (pv 14) (@pa_cons _ _ _ _ _ (pv 15) pa_nil (by rfl)) (by rfl)) (by rfl)) (by rfl)) (by decide) (by rfl) (by rfl)) (by rfl) (by first | exact .inl rfl | exact .inr rfl | assumption)) (@pss_cons _ _ _ _ _ (@ps_if _ _ _ _ _ _ _ _ (@pt_not _ _ _ _ (@pt_val _ _ _ (@pe_call _ _ _ _ _ _ _ _ _ _ _ _ _ _ _ _ G_l_reached (hr.mono (by omega)) (by rfl) T.m_l_reached T.F_l_reached.kp T.b_l_reached .nil pass0 (@pa_cons _ _ _ _ _ (pv 16) (@pa_cons _ _ _ _ _ (pv 2) (@pa_cons _ _ _ _ _ (pv 11) (@pa_cons _ _ _ _ _ (pv 14) (@pa_cons _ _ _ _ _ (pv 15) pa_nil (by rfl)) (by rfl)) (by rfl)) (by rfl)) (by rfl)) (by decide) (by rfl) (by rfl)) (by intro _ ; rfl))) (@pss_one _ _ _ (@ps_ret _ _ _ _ pe_bl)) pss_nil) (@pss_one _ _ _ (@ps_ret _ _ _ _ (@pe_and _ _ _ _ _ _ _ (@pe_cmpR _ _ _ _ _ _ _ _ op_eq (@pe_ix _ _ _ _ _ _ _ ix_tup (pv 16) pe_int (fun _ _ => rfl)) (@pe_op _ _ _ _ _ _ _ _ op_sub (@pe_ix _ _ _ _ _ _ _ ix_list (pv 4) (pv 14) (fun _ _ => rfl)) (@pe_ix _ _ _ _ _ _ _ ix_list (pv 4) (pv 15) (fun _ _ => rfl))) (@nomark _ _ (by decide) (by decide))) (@pe_one _ _ _ _ _ (@pe_cmpR _ _ _ _ _ _ _ _ (@op_eqS _ (@hu64 _ _ hr)) (pv 12) (pv 11) (@nomark _ _ (by decide) (by decide))))))))))))))))))))))))))), ?_⟩
  refine ⟨_, rfl, p, ns, 1, rfl, hp, by decide, by decide, fun i => ⟨i, rfl, fun j j0 j1 => ?_⟩⟩
  dsimp only [gName]
  -- count
  refine ⟨_, rfl, _, _, rfl, rfl, (by show (0 : Int) < 6; decide), _, _, rfl, rfl, ?_⟩
  have g0 := Int.emod_nonneg j (show (6 : Int) ≠ 0 by decide)
  have g1 := Int.emod_lt_of_pos j (show (0 : Int) < 6 by decide)
  obtain ⟨n, en⟩ : ∃ n : Nat, 8 + j % 6 = (n : Int) := ⟨(8 + j % 6).toNat, by omega⟩
  dsimp only [gName]
  rw [en]
  have n0 : 0 < n := by omega
  have n8 : 8 ≤ n := by omega
  have n13 : n ≤ 13 := by omega
  have s1 : Same H H := Same.refl _
  -- span
  have k0 := Int.emod_nonneg (j / 6) (show (3 : Int) ≠ 0 by decide)
  have k1 := Int.emod_lt_of_pos (j / 6) (show (0 : Int) < 3 by decide)
  refine ⟨_, _, rfl, rfl, ⟨by decide, by decide, by decide⟩, _, _, rfl, rfl, ⟨by decide, by decide, by decide⟩, _, _, rfl, rfl, .inl ⟨by decide, by decide⟩, szl (by show 3 ≤ 1000000; decide), fun c2 hc2 => ?_⟩
  obtain ⟨sp, hsp, esp⟩ := pickN (L := [6, 10 ^ (6 : Int).toNat, 4 * 10 ^ (19 : Int).toNat]) 3 rfl k0 (by omega)
  have hsp : 0 ≤ sp := by
    simp only [List.mem_cons, List.not_mem_nil, or_false] at hsp
    rcases hsp with rfl | rfl | rfl <;> decide
  refine ⟨_, rfl, _, _, rfl, rfl, ⟨by decide, by decide⟩, _, _, rfl, rfl, (by show (0 : Int) < 3; decide), c2, _, _, _, rfl, rfl, SqL.of upd_same, esp, ?_⟩
  have s2 := s1.trans (same_new hc2 (.lst [V.int 6, V.int (10 ^ (6 : Int).toNat), V.int (4 * 10 ^ (19 : Int).toNat)]))
  dsimp only [gName]
  generalize upd H c2 (.lst [V.int 6, V.int (10 ^ (6 : Int).toNat), V.int (4 * 10 ^ (19 : Int).toNat)]) = H2 at s2
  -- heights
  refine ⟨_, rfl, p, ns, 2, rfl, s2.seq hp, by decide, by decide, fun ch => ⟨_, rfl, _, rfl, ch, sp, n, rfl, by omega, hsp, fun hl H4 f e4 hf => ?_⟩⟩
  have s4 := s2.trans e4
  dsimp only [gName]
  change tSeq _ _ _ [some (.ref p), some (.int j), some (.int (n : Int)), some (.int sp), some (.ref hl), none, none, none, none, none, none, none, none, none, none, none, none] _
  -- the bonds
  refine ⟨_, rfl, p, ns, 47, rfl, s4.seq hp, by decide, by decide, fun cl H5 cs e5 hcl hcs => ⟨cl, rfl, ⟨_, SqL.of hcs⟩, ?_⟩⟩
  refine comp_list (xs := cs.map V.int) (fun i ys H' => Same H5 H' ∧ ∃ B : List Bond, BsIs H' ys B ∧ B.length = i ∧ WF n B ∧ ∀ b ∈ B, 10 ≤ slk f b) ⟨Same.refl _, [], ⟨rfl, fun i v b z => by simp at z⟩, rfl, fun b hb => (by cases hb), fun b hb => (by cases hb)⟩ (by rw [List.length_map]; exact szl (by omega)) (fun i ys H' hi p => ⟨SqL.of (p.1 _ _ hcs), by obtain ⟨_, B, hB, hl, _⟩ := p; rw [hB.1, hl]; exact Nat.le_refl _⟩) (fun i x ys H' hx pp => ?_) (fun ys H' pp lo hlo => ?_)
  · obtain ⟨e6, B, hB, hBl, hw, hh⟩ := pp
    obtain ⟨c, rfl⟩ : ∃ c, x = V.int c := by
      rw [List.getElem?_map] at hx
      cases e : cs[i]? with
      | none => rw [e] at hx; cases hx
      | some z => rw [e] at hx; exact ⟨z, (Option.some.inj hx).symm⟩
    refine ⟨_, rfl, _, rfl, 1, rfl, c, n, f, hl, rfl, by omega, by omega, e6 _ _ (e5 _ _ hf), fun r H7 b e7 bx by2 bh hb => ?_⟩
    exact ⟨e6.trans e7, B ++ [b], (hB.over e7).snoc hb, by rw [List.length_append, hBl]; rfl, WF.app hw (WF.one bx by2), fun b' hb' => (List.mem_append.mp hb').elim (hh b') fun z => by rw [List.mem_singleton.mp z]; exact bh⟩
  obtain ⟨e6, B, hB, hBl, hw, hh⟩ := pp
  have s5 := same_new hlo (.lst ys)
  have hB5 : BondsAt (upd H' lo (.lst ys)) lo B := ⟨ys, upd_same, hB.over s5⟩
  have s6 := s4.trans (e5.trans (e6.trans s5))
  have hf6 := s5 _ _ (e6 _ _ (e5 _ _ hf))
  have hBl2 : B.length ≤ 47 := by rw [hBl, List.length_map]; omega
  dsimp only [gName]
  generalize upd H' lo (.lst ys) = H6 at s6 hB5 hf6
  clear hB hlo s5 e6 hBl hf e4 s4 s2 s1 hcs e5 hc2 esp
  refine ⟨_, rfl, p, ns, 0, rfl, s6.seq hp, by decide, by decide, fun i2 => ⟨_, _, rfl, rfl, _, rfl, fun j2 j20 j21 => ?_⟩⟩
  dsimp only [gName]
  refine ⟨_, rfl, _, rfl, _, _, rfl, rfl, ⟨by decide, by decide, by decide⟩, j2, _, n, rfl, by omega, by decide, fun ho H7 g e7 hg => ?_⟩
  have s7 := s6.trans e7
  have hB7 := hB5.over e7
  have hf7 := e7 _ _ hf6
  have hT7 := s7 _ _ hT
  dsimp only [gName]
  change tSeq _ _ _ [some (.ref p), some (.int j), some (.int (n : Int)), some (.int sp), some (.ref hl), some (.ref lo), some (.int j2), some (.ref ho), none, none, none, none, none, none, none, none, none] _
  clear hB5 hf6 e7
  refine ⟨_, rfl, n, rfl, by omega, fun ra hra => ?_⟩
  have s8 := same_new hra (.rng 0 (n : Int))
  have hT8 := s8 _ _ hT7
  have hB8 := hB7.over s8
  have hf8 := s8 _ _ hf7
  have p8 := (s7.trans s8).seq hp
  have hg8 : (upd H7 ra (.rng 0 (n : Int))) ho = some (.lst (((List.range n).map g).map V.int)) := by rw [List.map_map]; exact s8 _ _ hg
  have hra8 : (upd H7 ra (.rng 0 (n : Int))) ra = some (.rng 0 (n : Int)) := upd_same
  generalize upd H7 ra (.rng 0 (n : Int)) = H8 at s8 hT8 hB8 hf8 p8 hg8 hra8
  refine ⟨ra, ho, n, (List.range n).map g, rfl, hra8, by omega, rfl, hg8, by rw [List.length_map, List.length_range], hT8, fun rk rs pt hrk hpm => ?_⟩
  have hB9 := hB8.tbl (pt := pt) (o := .lst (intsV rs)) hT8 hrk
  have hf9 := keepT (pt := pt) (o := .lst (intsV rs)) hT8 hrk hf8 fun _ => by simp
  have p9 := SqL.tbl (pt := pt) (o := .lst (intsV rs)) p8 hT8 hrk
  have hr9 : (upd (upd H8 a.p_tab (.tbl pt)) rk (.lst (intsV rs))) rk = some (.lst (intsV rs)) := upd_same
  have rl : rs.length = n := by rw [hpm.length_eq, List.length_range]
  have rm : ∀ i ∈ rs, i < n := fun i hi => List.mem_range.mp (hpm.mem_iff.mp hi)
  dsimp only [gName]
  generalize upd (upd H8 a.p_tab (.tbl pt)) rk (.lst (intsV rs)) = H9 at hB9 hf9 p9 hr9
  clear hT8 hB8 hf8 p8 hg8 hra8 s8 hra s7 hB7 hf7 hT7 hg hrk
  -- less
  refine ⟨_, rfl, _, _, rfl, rfl, ⟨by decide, by decide⟩, _, _, rfl, rfl, (by show (0 : Int) < 2; decide), ?_⟩
  dsimp only [gName]
  have k0 := Int.emod_nonneg (j / 18) (show (2 : Int) ≠ 0 by decide)
  have k1 := Int.emod_lt_of_pos (j / 18) (show (0 : Int) < 2 by decide)
  generalize j / 18 % 2 = ls at k0 k1
  change tSeq _ _ _ [some (.ref p), some (.int j), some (.int (n : Int)), some (.int sp), some (.ref hl), some (.ref lo), some (.int j2), some (.ref ho), some (.ref rk), some (.int ls), none, none, none, none, none, none, none] _
  refine ⟨_, rfl, _, rfl, _, rfl, _, rfl, hl, rk, n, n, f, rs, ls, rfl, hf9, hr9, rm, by omega, by omega, by omega, fun r1 H10 e10 hR1 => ?_⟩
  dsimp only [gName]
  refine ⟨_, rfl, _, rfl, _, rfl, lo, r1, j2, B, _, rfl, hB9.over e10, hR1, by omega, by rw [ringB_len]; omega, fun bo H11 B1 e11 hB1 hp1 => ?_⟩
  dsimp only [gName]
  have hR1 := hR1.over e11
  have hf11 := e11 _ _ (e10 _ _ hf9)
  have hr11 := e11 _ _ (e10 _ _ hr9)
  have w1 : WF n B1 := WF.perm hp1 (WF.app hw (ringB_WF n0 rm))
  have len1 : B1.length ≤ 60 := by have := hp1.length_eq; rw [List.length_append, ringB_len] at this; omega
  obtain ⟨bs, hb, hbs⟩ := hB1
  refine ⟨_, rfl, bo, _, rfl, .inl (SqL.of hb), fun ha hha => ?_⟩
  have t1 := same_new hha (.lst bs)
  have hh12 : (upd H11 ha (.lst bs)) ha = some (.lst bs) := upd_same
  have hb12 := t1 _ _ hb
  have hbs12 := hbs.over t1
  have hR12 := hR1.over t1
  have hf12 := t1 _ _ hf11
  have hr12 := t1 _ _ hr11
  dsimp only [gName]
  generalize upd H11 ha (.lst bs) = H12 at t1 hh12 hb12 hbs12 hR12 hf12 hr12
  refine ⟨_, rfl, _, rfl, n, ha, B1, rfl, ⟨bs, hh12, hbs12⟩, w1, n0, by omega, by omega, fun tt ll H13 e13 _ htt hll => ?_⟩
  have hh13 := e13 _ _ hh12
  have hb13 := e13 _ _ hb12
  have hbs13 := hbs12.over e13
  have hR13 := hR12.over e13
  have hf13 := e13 _ _ hf12
  have hr13 := e13 _ _ hr12
  dsimp only [gName]
  clear hh12 hb12 hbs12 hR12 hf12 hr12 hb hbs hR1 hf11 hr11 e10 e11 t1 e13 hf9 hr9 hB9 p9 hha
  change tSeq _ _ _ [some (.ref p), some (.int j), some (.int (n : Int)), some (.int sp), some (.ref hl), some (.ref lo), some (.int j2), some (.ref ho), some (.ref rk), some (.int ls), some (.ref r1), some (.ref bo), some (.ref ha), some (.ref tt), none, none, none] _
  have trB : ∀ {H' : Hp} {l : Addr} {xs : List V} {C : List Bond}, H' l = some (.lst xs) → BsIs H' xs C → TrIs K H' (.ref l) (.lst (C.map bondT)) := fun h1 h2 => .lst (SqL.of h1) h2.tr
  refine ⟨_, rfl, _, rfl, _, _, trB hh13 hbs13, trB hb13 hbs13, ⟨_, rfl⟩, ⟨_, rfl⟩, simT_refl _, ?_, _, rfl, ?_⟩
  · have := bonds_dep B1
    rw [depT]; omega
  rw [eqT_refl _ (trB hh13 hbs13).ok]
  refine iteF ?_
  refine ⟨_, rfl, _, _, _, _, _, rfl, rfl, .tup htt, rfl, _, rfl, iteF ?_⟩
  refine ⟨_, rfl, tt, _, rfl, .inr (SqT.of htt), rfl, _, rfl, iteE (ndF rfl) (iteF ?_)⟩
  dsimp only [tNext]
  by_cases cl : ls = 1
  · subst cl
    refine ⟨_, rfl, rfl, _, rfl, iteE (v := true) (decide_eq_true rfl) (iteT ?_)⟩
    obtain ⟨R, u, eR, hR⟩ : ∃ R u, setR n B1 = (.str "ring", intsV R) ∧ RingOk B1 R u := by
      rcases setR_ok n0 w1 with ⟨g, _, _, hg⟩ | h
      · exact absurd hg (fun z => ringB_none (m := n) (ls := 1) (f := f) (rs := rs) n0 (by decide) (fun b hb => hp1.mem_iff.mpr (List.mem_append_right _ hb)) z)
      · exact h
    rw [eR] at htt hll
    obtain ⟨rlen, rmem, rinj⟩ := ring_only n0 hpm hp1 hh hR
    refine ⟨_, rfl, tt, _, 0, _, rfl, rfl, SqT.of htt, rfl, rfl, _, rfl, iteE (ndF rfl) (iteF ?_)⟩
    refine ⟨_, rfl, tt, _, 1, _, rfl, rfl, SqT.of htt, rfl, _, rfl, ll, bo, R, u, B1, rfl, hll, ⟨bs, hb13, hbs13⟩, hR, by omega, fun H14 e14 => ⟨_, rfl, iteF ?_⟩⟩
    have htt := e14 _ _ htt
    have hll := e14 _ _ hll
    have hb14 := e14 _ _ hb13
    have hbs14 := hbs13.over e14
    have hR14 := hR13.over e14
    refine ⟨_, rfl, tt, _, 1, _, rfl, rfl, SqT.of htt, rfl, ll, _, rfl, .inl (SqL.of hll), _, rfl, rfl, _, rfl, iteE (ndF (by rw [intsV_len, rlen])) (iteF ?_)⟩
    dsimp only [tNext]
    refine ⟨_, rfl, tt, _, 1, _, rfl, rfl, SqT.of htt, rfl, ll, rfl, ⟨_, SqL.of hll⟩, ?_⟩
    refine comp_list (xs := intsV R) (fun i ys H' => H' = H14 ∧ BsIs H14 ys ((R.take i).map fun i => B1.getD i bd0)) ⟨rfl, rfl, fun i v b z => by simp at z⟩ (by rw [intsV_len]; exact szl (by omega)) (fun i ys H' hi pp => ⟨by rw [pp.1]; exact SqL.of hll, by rw [pp.2.1, List.length_map, List.length_take]; exact Nat.min_le_left _ _⟩) (fun i z ys H' hz pp => ?_) (fun ys H' pp r2 hr2 => ?_)
    · obtain ⟨rfl, hC⟩ := pp
      have hi : i < R.length := by have := (List.getElem?_eq_some_iff.mp hz).1; rwa [intsV_len] at this
      have eRi : R[i]? = some R[i] := List.getElem?_eq_getElem hi
      have ex : z = .int (R[i] : Int) := Option.some.inj (hz.symm.trans (intsV_get eRi))
      subst ex
      obtain ⟨bb, kk1, _, _⟩ := hR.bond i _ eRi
      obtain ⟨t4, d0, d1⟩ := hbs14.get kk1
      refine ⟨_, rfl, _, rfl, bo, _, _, _, rfl, rfl, SqL.of hb14, d0, rfl, ?_⟩
      rw [take_snoc eRi, List.map_append]
      refine hC.snoc ⟨t4, rfl, ?_⟩
      show H' t4 = some (.tup [.int ((B1.getD R[i] bd0).x : Int), .int ((B1.getD R[i] bd0).y : Int), .int (B1.getD R[i] bd0).c])
      rw [List.getD_eq_getElem?_getD, kk1]
      exact d1
    · obtain ⟨rfl, hC⟩ := pp
      rw [intsV_len, List.take_length] at hC
      have s2 := same_new hr2 (.lst ys)
      have hR15 := hR14.over s2
      have hC15 : BondsAt (upd H' r2 (.lst ys)) r2 (R.map fun i => B1.getD i bd0) := ⟨ys, upd_same, hC.over s2⟩
      generalize upd H' r2 (.lst ys) = H15 at hR15 hC15
      have gm : ∀ i, i < R.length → (R.map fun i => B1.getD i bd0).getD i bd0 = B1.getD (R.getD i 0) bd0 := fun i hi => by
        rw [List.getD_eq_getElem?_getD, List.getElem?_map, List.getElem?_eq_getElem hi, List.getD_eq_getElem?_getD (l := R), List.getElem?_eq_getElem hi]
        rfl
      refine ⟨r2, _, rfl, hC15, by rw [List.length_map]; omega, by rw [List.length_map]; omega, fun i k hi hk e => ?_, fun l3 zs C hl3 hz hC1 hC2 => ?_⟩
      · rw [List.length_map] at hi hk
        rw [gm i hi, gm k hk] at e
        exact rinj i k hi hk e
      have s3 := same_new hl3 (.lst zs)
      have hz3 := hz.over s3
      have hl3' : (upd H15 l3 (.lst zs)) l3 = some (.lst zs) := upd_same
      have hR16 := hR15.over s3
      generalize upd H15 l3 (.lst zs) = H16 at hz3 hl3' hR16
      obtain ⟨τ, hτ⟩ := perm_back hpm
      have gr : ∀ i, i < n → (ringB f rs n 1).getD i bd0 = ringAt f rs n 1 i := fun i hi => by
        unfold ringB
        rw [List.getD_eq_getElem?_getD, List.getElem?_map, List.getElem?_range hi]
        rfl
      refine ⟨_, rfl, r1, _, rfl, hR16, by rw [ringB_len]; omega, by rw [ringB_len]; omega, fun i k hi hk e => ?_, fun l4 ws D hl4 hw4 hD1 hD2 => ?_⟩
      · rw [ringB_len] at hi hk
        rw [gr i hi, gr k hk] at e
        have e : rs.getD i 0 = rs.getD k 0 := e
        rw [← hτ i hi, e, hτ k hk]
      have s4 := same_new hl4 (.lst ws)
      have eCD : C = D := asc_one hC2 hD2 fun b => by rw [hC1.mem_iff, hD1.mem_iff]; exact rmem b
      subst eCD
      have A1 := trB (s4 _ _ hl3') (hz3.over s4)
      have A2 := trB (C := C) (show (upd H16 l4 (.lst ws)) l4 = some (.lst ws) from upd_same) (hw4.over s4)
      refine ⟨_, _, A1, A2, ⟨_, rfl⟩, ⟨_, rfl⟩, simT_refl _, ?_, ?_⟩
      · have := bonds_dep C
        rw [depT]; omega
      rw [show (if false = true then !eqT (.lst (C.map bondT)) (.lst (C.map bondT)) else eqT (.lst (C.map bondT)) (.lst (C.map bondT))) = true from eqT_refl _ A1.ok]
      exact q _
  · obtain rfl : ls = 0 := by omega
    have yes : Holds f B1 := Holds.perm hp1 (Holds.app (fun b hb => by
      have := hh b hb
      unfold slk at this
      omega) ringB_holds)
    have rsub : ∀ b ∈ ringB f rs n 0, b ∈ B1 := fun b hb => hp1.mem_iff.mpr (List.mem_append_right _ hb)
    obtain ⟨g, eg, g0, hg⟩ := setR_val n0 w1 yes
    have evl : vl n g = vl n fun v => f v - f 0 := by
      rw [vl_map, vl_map]
      refine congrArg (List.map V.int) (List.map_congr_left fun v hv => ?_)
      have := rigid n0 hpm rsub hg (v := v) (w := 0) (List.mem_range.mp hv) n0
      show g v = f v - f 0
      omega
    rw [eg] at htt hll
    have hll : H13 ll = some (.lst (vl n g)) := hll
    refine ⟨_, rfl, rfl, _, rfl, iteE (v := false) (decide_eq_false (by intro z; have := V.int.inj z; omega)) (iteF ?_)⟩
    dsimp only [tNext]
    refine ⟨_, rfl, tt, _, 0, _, rfl, rfl, SqT.of htt, rfl, rfl, _, rfl, iteE (ndF rfl) (iteF ?_)⟩
    refine ⟨_, rfl, tt, _, 1, _, rfl, rfl, SqT.of htt, rfl, _, rfl, _, rfl, ll, bo, n, g, B1, rfl, hll, n0, ⟨bs, hb13, hbs13⟩, w1, g0, hg, _, rfl, iteF ?_⟩
    refine ⟨_, rfl, tt, _, 1, _, rfl, rfl, SqT.of htt, rfl, _, rfl, hl, n, f, rfl, hf13, n0, by omega, fun du H14 e14 hdu => ?_⟩
    have hll := e14 _ _ hll
    rw [← evl] at hdu
    have hh14 := e14 _ _ hh13
    have hb14 := e14 _ _ hb13
    have hbs14 := hbs13.over e14
    have hf14 := e14 _ _ hf13
    have hr14 := e14 _ _ hr13
    have tv : ∀ {l : Addr}, H14 l = some (.lst (vl n g)) → TrIs K H14 (.ref l) (.lst (intTs ((List.range n).map g))) := fun h => .lst (SqL.of (by rw [h, vl_map])) (intTs_is _)
    refine ⟨_, _, tv hll, tv hdu, ⟨_, rfl⟩, ⟨_, rfl⟩, simT_refl _, (by rw [depT, intTs_dep]; decide), _, rfl, ?_⟩
    rw [eqT_refl _ (tv hll).ok]
    refine iteF ?_
    dsimp only [tNext]
    have np : (0 : Int) < (n : Int) := by omega
    obtain ⟨x0, hx0, ex⟩ := mod_nat j2 n0
    obtain ⟨y0, hy0, ey⟩ := mod_nat (j2 / 13) n0
    have rat : ∀ k, k < n → atI (intsV rs) ((k : Nat) : Int) = some (.int ((rs.getD k 0 : Nat) : Int)) := fun k hk => by
      have e : rs[k]? = some (rs.getD k 0) := by rw [List.getD_eq_getElem?_getD, List.getElem?_eq_getElem (by omega)]; rfl
      exact atI_nat (intsV_get e)
    refine ⟨_, rfl, _, rfl, _, rfl, _, _, rfl, rfl, np, rk, _, _, _, rfl, rfl, SqL.of hr14, (by rw [ex]; exact rat x0 hx0), ?_⟩
    dsimp only [gName]
    refine ⟨_, rfl, _, rfl, _, _, rfl, rfl, ⟨by decide, by decide⟩, _, rfl, _, _, rfl, rfl, np, rk, _, _, _, rfl, rfl, SqL.of hr14, (by rw [ey]; exact rat y0 hy0), ?_⟩
    dsimp only [gName]
    have hx := perm_lt hpm hx0
    have hy := perm_lt hpm hy0
    generalize rs.getD x0 0 = x at hx
    generalize rs.getD y0 0 = y at hy
    refine ⟨_, rfl, _, rfl, _, rfl, _, rfl, n, ha, B1, x, y, f, rfl, ⟨bs, hh14, hbs14⟩, w1, by omega, by omega, hx, hy, yes, fun vf H15 e15 hvf => ?_⟩
    have hh15 := e15 _ _ hh14
    have hb15 := e15 _ _ hb14
    have hbs15 := hbs14.over e15
    have hf15 := e15 _ _ hf14
    dsimp only [gName]
    rcases mostR_ok hx hy yes w1 with ⟨hm, hne, hq⟩ | ⟨c, R, g2, u, hm, g20, hg2, hgc, hC, hc, hRl, _, _⟩
    · exfalso
      obtain ⟨g3, hg3⟩ := let_by hy yes w1 hne hq (0 - (f x - f y) - 1)
      have k1 := rigid n0 hpm rsub hg3.left hx hy
      have k2 : g3 y - g3 x ≤ 0 - (f x - f y) - 1 := hg3 ⟨y, x, 0 - (f x - f y) - 1⟩ (List.mem_append_right _ List.mem_cons_self)
      omega
    unfold MostAt at hvf
    rw [hm] at hvf
    obtain ⟨tf, l1, l2, rfl, b1, b2, b3⟩ := hvf
    refine ⟨_, rfl, _, rfl, _, rfl, _, rfl, _, rfl, tf, l1, l2, bo, n, B1, x, y, c, R, g2, u, rfl, b1, b2, b3, ⟨bs, hb15, hbs15⟩, w1, hx, hy, g20, hg2, hgc, hC, hc, _, rfl, iteF ?_⟩
    dsimp only [tNext]
    have k1 := rigid n0 hpm rsub hg2 hx hy
    have ec : c = f x - f y := by omega
    refine ⟨_, rfl, tf, _, 0, _, rfl, rfl, SqT.of b1, rfl, _, rfl, _, rfl, hl, _, _, _, rfl, rfl, SqL.of hf15, vl_at hx, _, rfl, _, rfl, hl, _, _, _, rfl, rfl, SqL.of hf15, vl_at hy, _, _, rfl, rfl, rfl, _, rfl, iteE (v := true) (decide_eq_true (by rw [ec])) (iteT ?_)⟩
    refine ⟨_, rfl, _, rfl, _, _, trB hh15 hbs15, trB hb15 hbs15, ⟨_, rfl⟩, ⟨_, rfl⟩, simT_refl _, ?_, ?_⟩
    · have := bonds_dep B1
      rw [depT]; omega
    rw [show (if false = true then !eqT (.lst (B1.map bondT)) (.lst (B1.map bondT)) else eqT (.lst (B1.map bondT)) (.lst (B1.map bondT))) = true from eqT_refl _ (trB hh15 hbs15).ok]
    exact q _


end
theorem len_1 {us : List Value} (h : us.length = 1) : ∃ x0, us = [x0] := by
  rcases us with _ | ⟨x0, us⟩
  · cases h
  rcases us with _ | ⟨y, us⟩
  · exact ⟨x0, rfl⟩
  · simp only [List.length_cons] at h; omega
theorem len_2 {us : List Value} (h : us.length = 2) : ∃ x0 x1, us = [x0, x1] := by
  rcases us with _ | ⟨x0, us⟩
  · cases h
  rcases us with _ | ⟨x1, us⟩
  · cases h
  rcases us with _ | ⟨y, us⟩
  · exact ⟨x0, x1, rfl⟩
  · simp only [List.length_cons] at h; omega
theorem len_3 {us : List Value} (h : us.length = 3) : ∃ x0 x1 x2, us = [x0, x1, x2] := by
  rcases us with _ | ⟨x0, us⟩
  · cases h
  rcases us with _ | ⟨x1, us⟩
  · cases h
  rcases us with _ | ⟨x2, us⟩
  · cases h
  rcases us with _ | ⟨y, us⟩
  · exact ⟨x0, x1, x2, rfl⟩
  · simp only [List.length_cons] at h; omega
theorem len_4 {us : List Value} (h : us.length = 4) : ∃ x0 x1 x2 x3, us = [x0, x1, x2, x3] := by
  rcases us with _ | ⟨x0, us⟩
  · cases h
  rcases us with _ | ⟨x1, us⟩
  · cases h
  rcases us with _ | ⟨x2, us⟩
  · cases h
  rcases us with _ | ⟨x3, us⟩
  · cases h
  rcases us with _ | ⟨y, us⟩
  · exact ⟨x0, x1, x2, x3, rfl⟩
  · simp only [List.length_cons] at h; omega
theorem len_5 {us : List Value} (h : us.length = 5) : ∃ x0 x1 x2 x3 x4, us = [x0, x1, x2, x3, x4] := by
  rcases us with _ | ⟨x0, us⟩
  · cases h
  rcases us with _ | ⟨x1, us⟩
  · cases h
  rcases us with _ | ⟨x2, us⟩
  · cases h
  rcases us with _ | ⟨x3, us⟩
  · cases h
  rcases us with _ | ⟨x4, us⟩
  · cases h
  rcases us with _ | ⟨y, us⟩
  · exact ⟨x0, x1, x2, x3, x4, rfl⟩
  · simp only [List.length_cons] at h; omega
theorem bd_settled {kV doc pm : Value} {an : Option Addr} {cdv ct : Value} {us : List Value} (h : us.length = 2) : bindArgs (PySem.W.fnOf "settled" "settled" (defArgs s_settled) (defBody s_settled) (defScope s_settled) .none kV doc pm an cdv ct) ⟨us, []⟩ = pure ((["count", "bonds"] : List Str).zip us) := by
  obtain ⟨_, _, rfl⟩ := len_2 h
  rfl
theorem bd_lowered_in_a_round {kV doc pm : Value} {an : Option Addr} {cdv ct : Value} {us : List Value} (h : us.length = 3) : bindArgs (PySem.W.fnOf "lowered_in_a_round" "lowered_in_a_round" (defArgs s_lowered_in_a_round) (defBody s_lowered_in_a_round) (defScope s_lowered_in_a_round) .none kV doc pm an cdv ct) ⟨us, []⟩ = pure ((["bonds", "values", "lowered_by"] : List Str).zip us) := by
  obtain ⟨_, _, _, rfl⟩ := len_3 h
  rfl
theorem bd_ring_behind {kV doc pm : Value} {an : Option Addr} {cdv ct : Value} {us : List Value} (h : us.length = 4) : bindArgs (PySem.W.fnOf "ring_behind" "ring_behind" (defArgs s_ring_behind) (defBody s_ring_behind) (defScope s_ring_behind) .none kV doc pm an cdv ct) ⟨us, []⟩ = pure ((["count", "bonds", "lowered_by", "lowered"] : List Str).zip us) := by
  obtain ⟨_, _, _, _, rfl⟩ := len_4 h
  rfl
theorem bd_most {kV doc pm : Value} {an : Option Addr} {cdv ct : Value} {us : List Value} (h : us.length = 4) : bindArgs (PySem.W.fnOf "most" "most" (defArgs s_most) (defBody s_most) (defScope s_most) .none kV doc pm an cdv ct) ⟨us, []⟩ = pure ((["count", "bonds", "x", "y"] : List Str).zip us) := by
  obtain ⟨_, _, _, _, rfl⟩ := len_4 h
  rfl
theorem bd_shortest_chain {kV doc pm : Value} {an : Option Addr} {cdv ct : Value} {us : List Value} (h : us.length = 4) : bindArgs (PySem.W.fnOf "shortest_chain" "shortest_chain" (defArgs s_shortest_chain) (defBody s_shortest_chain) (defScope s_shortest_chain) .none kV doc pm an cdv ct) ⟨us, []⟩ = pure ((["count", "bonds", "x", "y"] : List Str).zip us) := by
  obtain ⟨_, _, _, _, rfl⟩ := len_4 h
  rfl
theorem bd_chains_to {kV doc pm : Value} {an : Option Addr} {cdv ct : Value} {us : List Value} (h : us.length = 3) : bindArgs (PySem.W.fnOf "chains_to" "chains_to" (defArgs s_chains_to) (defBody s_chains_to) (defScope s_chains_to) .none kV doc pm an cdv ct) ⟨us, []⟩ = pure ((["count", "bonds", "y"] : List Str).zip us) := by
  obtain ⟨_, _, _, rfl⟩ := len_3 h
  rfl
theorem bd_shortened_in_a_round {kV doc pm : Value} {an : Option Addr} {cdv ct : Value} {us : List Value} (h : us.length = 3) : bindArgs (PySem.W.fnOf "shortened_in_a_round" "shortened_in_a_round" (defArgs s_shortened_in_a_round) (defBody s_shortened_in_a_round) (defScope s_shortened_in_a_round) .none kV doc pm an cdv ct) ⟨us, []⟩ = pure ((["bonds", "lengths", "reached_by"] : List Str).zip us) := by
  obtain ⟨_, _, _, rfl⟩ := len_3 h
  rfl
theorem bd_l_cell {kV doc pm : Value} {an : Option Addr} {cdv ct : Value} {us : List Value} (h : us.length = 2) : bindArgs (PySem.W.fnOf "_law_cell" "_law_cell" (defArgs s_l_cell) (defBody s_l_cell) (defScope s_l_cell) .none kV doc pm an cdv ct) ⟨us, []⟩ = pure ((["_law_script", "_law_k"] : List Str).zip us) := by
  obtain ⟨_, _, rfl⟩ := len_2 h
  rfl
theorem bd_l_whole {kV doc pm : Value} {an : Option Addr} {cdv ct : Value} {us : List Value} (h : us.length = 1) : bindArgs (PySem.W.fnOf "_law_whole" "_law_whole" (defArgs s_l_whole) (defBody s_l_whole) (defScope s_l_whole) .none kV doc pm an cdv ct) ⟨us, []⟩ = pure ((["_law_found"] : List Str).zip us) := by
  obtain ⟨_, rfl⟩ := len_1 h
  rfl
theorem bd_l_mixed {kV doc pm : Value} {an : Option Addr} {cdv ct : Value} {us : List Value} (h : us.length = 1) : bindArgs (PySem.W.fnOf "_law_mixed" "_law_mixed" (defArgs s_l_mixed) (defBody s_l_mixed) (defScope s_l_mixed) .none kV doc pm an cdv ct) ⟨us, []⟩ = pure ((["_law_cell_here"] : List Str).zip us) := by
  obtain ⟨_, rfl⟩ := len_1 h
  rfl
theorem bd_l_heights {kV doc pm : Value} {an : Option Addr} {cdv ct : Value} {us : List Value} (h : us.length = 3) : bindArgs (PySem.W.fnOf "_law_heights" "_law_heights" (defArgs s_l_heights) (defBody s_l_heights) (defScope s_l_heights) .none kV doc pm an cdv ct) ⟨us, []⟩ = pure ((["_law_cell_here", "_law_count", "_law_span"] : List Str).zip us) := by
  obtain ⟨_, _, _, rfl⟩ := len_3 h
  rfl
theorem bd_l_bond {kV doc pm : Value} {an : Option Addr} {cdv ct : Value} {us : List Value} (h : us.length = 4) : bindArgs (PySem.W.fnOf "_law_bond" "_law_bond" (defArgs s_l_bond) (defBody s_l_bond) (defScope s_l_bond) .none kV doc pm an cdv ct) ⟨us, []⟩ = pure ((["_law_cell_here", "_law_heights_here", "_law_less", "_law_by"] : List Str).zip us) := by
  obtain ⟨_, _, _, _, rfl⟩ := len_4 h
  rfl
theorem bd_l_cells {kV doc pm : Value} {an : Option Addr} {cdv ct : Value} {us : List Value} (h : us.length = 2) : bindArgs (PySem.W.fnOf "_law_cells" "_law_cells" (defArgs s_l_cells) (defBody s_l_cells) (defScope s_l_cells) .none kV doc pm an cdv ct) ⟨us, []⟩ = pure ((["_law_script", "_law_room"] : List Str).zip us) := by
  obtain ⟨_, _, rfl⟩ := len_2 h
  rfl
theorem bd_l_hold {kV doc pm : Value} {an : Option Addr} {cdv ct : Value} {us : List Value} (h : us.length = 3) : bindArgs (PySem.W.fnOf "_law_hold" "_law_hold" (defArgs s_l_hold) (defBody s_l_hold) (defScope s_l_hold) .none kV doc pm an cdv ct) ⟨us, []⟩ = pure ((["_law_values", "_law_count", "_law_bonds"] : List Str).zip us) := by
  obtain ⟨_, _, _, rfl⟩ := len_3 h
  rfl
theorem bd_l_falls {kV doc pm : Value} {an : Option Addr} {cdv ct : Value} {us : List Value} (h : us.length = 2) : bindArgs (PySem.W.fnOf "_law_falls" "_law_falls" (defArgs s_l_falls) (defBody s_l_falls) (defScope s_l_falls) .none kV doc pm an cdv ct) ⟨us, []⟩ = pure ((["_law_ring", "_law_bonds"] : List Str).zip us) := by
  obtain ⟨_, _, rfl⟩ := len_2 h
  rfl
theorem bd_l_round {kV doc pm : Value} {an : Option Addr} {cdv ct : Value} {us : List Value} (h : us.length = 4) : bindArgs (PySem.W.fnOf "_law_round" "_law_round" (defArgs s_l_round) (defBody s_l_round) (defScope s_l_round) .none kV doc pm an cdv ct) ⟨us, []⟩ = pure ((["_law_heights_here", "_law_ranks", "_law_many", "_law_less"] : List Str).zip us) := by
  obtain ⟨_, _, _, _, rfl⟩ := len_4 h
  rfl
theorem bd_l_put_in {kV doc pm : Value} {an : Option Addr} {cdv ct : Value} {us : List Value} (h : us.length = 3) : bindArgs (PySem.W.fnOf "_law_put_in" "_law_put_in" (defArgs s_l_put_in) (defBody s_l_put_in) (defScope s_l_put_in) .none kV doc pm an cdv ct) ⟨us, []⟩ = pure ((["_law_bonds", "_law_ring", "_law_cell_here"] : List Str).zip us) := by
  obtain ⟨_, _, _, rfl⟩ := len_3 h
  rfl
theorem bd_l_chain {kV doc pm : Value} {an : Option Addr} {cdv ct : Value} {us : List Value} (h : us.length = 5) : bindArgs (PySem.W.fnOf "_law_chain" "_law_chain" (defArgs s_l_chain) (defBody s_l_chain) (defScope s_l_chain) .none kV doc pm an cdv ct) ⟨us, []⟩ = pure ((["_law_chain_here", "_law_bonds", "_law_x", "_law_y", "_law_c"] : List Str).zip us) := by
  obtain ⟨_, _, _, _, _, rfl⟩ := len_5 h
  rfl
theorem bd_l_reached {kV doc pm : Value} {an : Option Addr} {cdv ct : Value} {us : List Value} (h : us.length = 5) : bindArgs (PySem.W.fnOf "_law_reached" "_law_reached" (defArgs s_l_reached) (defBody s_l_reached) (defScope s_l_reached) .none kV doc pm an cdv ct) ⟨us, []⟩ = pure ((["_law_found", "_law_count", "_law_bonds", "_law_x", "_law_y"] : List Str).zip us) := by
  obtain ⟨_, _, _, _, _, rfl⟩ := len_5 h
  rfl
theorem bd_l_due {kV doc pm : Value} {an : Option Addr} {cdv ct : Value} {us : List Value} (h : us.length = 1) : bindArgs (PySem.W.fnOf "_law_due" "_law_due" (defArgs s_l_due) (defBody s_l_due) (defScope s_l_due) .none kV doc pm an cdv ct) ⟨us, []⟩ = pure ((["_law_heights_here"] : List Str).zip us) := by
  obtain ⟨_, rfl⟩ := len_1 h
  rfl
theorem bd_law {kV doc pm : Value} {an : Option Addr} {cdv ct : Value} {us : List Value} (h : us.length = 1) : bindArgs (PySem.W.fnOf "law" "law" (defArgs s_law) (defBody s_law) (defScope s_law) .none kV doc pm an cdv ct) ⟨us, []⟩ = pure ((["_law_script"] : List Str).zip us) := by
  obtain ⟨_, rfl⟩ := len_1 h
  rfl
theorem txt_mk {K : PySem.W.Frag} {h : Heap} {mg : Str → Option Value} {fa : Addr} (X : K.In h) (G : h.Ns mainGlobals mg) (hfa : mg "law" = some (.ref fa))
    {f1 : Addr} {od1 an1 : Option Addr} {sl1 : Array (Option Value)} {oc1 kV1 dc1 pm1 cd1 ct1 : Value} {f2 : Addr} {od2 an2 : Option Addr} {sl2 : Array (Option Value)} {oc2 kV2 dc2 pm2 cd2 ct2 : Value} {f3 : Addr} {od3 an3 : Option Addr} {sl3 : Array (Option Value)} {oc3 kV3 dc3 pm3 cd3 ct3 : Value} {f4 : Addr} {od4 an4 : Option Addr} {sl4 : Array (Option Value)} {oc4 kV4 dc4 pm4 cd4 ct4 : Value} {f5 : Addr} {od5 an5 : Option Addr} {sl5 : Array (Option Value)} {oc5 kV5 dc5 pm5 cd5 ct5 : Value} {f6 : Addr} {od6 an6 : Option Addr} {sl6 : Array (Option Value)} {oc6 kV6 dc6 pm6 cd6 ct6 : Value} {f7 : Addr} {od7 an7 : Option Addr} {sl7 : Array (Option Value)} {oc7 kV7 dc7 pm7 cd7 ct7 : Value} {f8 : Addr} {od8 an8 : Option Addr} {sl8 : Array (Option Value)} {oc8 kV8 dc8 pm8 cd8 ct8 : Value} {f9 : Addr} {od9 an9 : Option Addr} {sl9 : Array (Option Value)} {oc9 kV9 dc9 pm9 cd9 ct9 : Value} {f10 : Addr} {od10 an10 : Option Addr} {sl10 : Array (Option Value)} {oc10 kV10 dc10 pm10 cd10 ct10 : Value} {f11 : Addr} {od11 an11 : Option Addr} {sl11 : Array (Option Value)} {oc11 kV11 dc11 pm11 cd11 ct11 : Value} {f12 : Addr} {od12 an12 : Option Addr} {sl12 : Array (Option Value)} {oc12 kV12 dc12 pm12 cd12 ct12 : Value} {f13 : Addr} {od13 an13 : Option Addr} {sl13 : Array (Option Value)} {oc13 kV13 dc13 pm13 cd13 ct13 : Value} {f14 : Addr} {od14 an14 : Option Addr} {sl14 : Array (Option Value)} {oc14 kV14 dc14 pm14 cd14 ct14 : Value} {f15 : Addr} {od15 an15 : Option Addr} {sl15 : Array (Option Value)} {oc15 kV15 dc15 pm15 cd15 ct15 : Value} {f16 : Addr} {od16 an16 : Option Addr} {sl16 : Array (Option Value)} {oc16 kV16 dc16 pm16 cd16 ct16 : Value} {f17 : Addr} {od17 an17 : Option Addr} {sl17 : Array (Option Value)} {oc17 kV17 dc17 pm17 cd17 ct17 : Value} {f18 : Addr} {od18 an18 : Option Addr} {sl18 : Array (Option Value)} {oc18 kV18 dc18 pm18 cd18 ct18 : Value} {f19 : Addr} {od19 an19 : Option Addr} {sl19 : Array (Option Value)} {oc19 kV19 dc19 pm19 cd19 ct19 : Value} {f20 : Addr} {od20 an20 : Option Addr} {sl20 : Array (Option Value)} {oc20 kV20 dc20 pm20 cd20 ct20 : Value} {f21 : Addr} {od21 an21 : Option Addr} {sl21 : Array (Option Value)} {oc21 kV21 dc21 pm21 ct21 : Value} {c_tab p_tab : Addr} {o_tab : Obj}
    (a1 : PySem.W.nsIn K mainGlobals "settled" = some (some (.ref f1)))
    (l1 : K.lookup f1 = some ⟨oc1, od1, .func (PySem.W.fnOf "settled" "settled" (defArgs s_settled) (defBody s_settled) (defScope s_settled) .none kV1 dc1 pm1 an1 cd1 ct1), sl1⟩) (c1 : PySem.W.codeIn K cd1 "settled" = true) (k1 : PySem.W.keepIn K (.ref f1) = true)
    (a2 : PySem.W.nsIn K mainGlobals "lowered_in_a_round" = some (some (.ref f2)))
    (l2 : K.lookup f2 = some ⟨oc2, od2, .func (PySem.W.fnOf "lowered_in_a_round" "lowered_in_a_round" (defArgs s_lowered_in_a_round) (defBody s_lowered_in_a_round) (defScope s_lowered_in_a_round) .none kV2 dc2 pm2 an2 cd2 ct2), sl2⟩) (c2 : PySem.W.codeIn K cd2 "lowered_in_a_round" = true) (k2 : PySem.W.keepIn K (.ref f2) = true)
    (a3 : PySem.W.nsIn K mainGlobals "ring_behind" = some (some (.ref f3)))
    (l3 : K.lookup f3 = some ⟨oc3, od3, .func (PySem.W.fnOf "ring_behind" "ring_behind" (defArgs s_ring_behind) (defBody s_ring_behind) (defScope s_ring_behind) .none kV3 dc3 pm3 an3 cd3 ct3), sl3⟩) (c3 : PySem.W.codeIn K cd3 "ring_behind" = true) (k3 : PySem.W.keepIn K (.ref f3) = true)
    (a4 : PySem.W.nsIn K mainGlobals "most" = some (some (.ref f4)))
    (l4 : K.lookup f4 = some ⟨oc4, od4, .func (PySem.W.fnOf "most" "most" (defArgs s_most) (defBody s_most) (defScope s_most) .none kV4 dc4 pm4 an4 cd4 ct4), sl4⟩) (c4 : PySem.W.codeIn K cd4 "most" = true) (k4 : PySem.W.keepIn K (.ref f4) = true)
    (a5 : PySem.W.nsIn K mainGlobals "shortest_chain" = some (some (.ref f5)))
    (l5 : K.lookup f5 = some ⟨oc5, od5, .func (PySem.W.fnOf "shortest_chain" "shortest_chain" (defArgs s_shortest_chain) (defBody s_shortest_chain) (defScope s_shortest_chain) .none kV5 dc5 pm5 an5 cd5 ct5), sl5⟩) (c5 : PySem.W.codeIn K cd5 "shortest_chain" = true) (k5 : PySem.W.keepIn K (.ref f5) = true)
    (a6 : PySem.W.nsIn K mainGlobals "chains_to" = some (some (.ref f6)))
    (l6 : K.lookup f6 = some ⟨oc6, od6, .func (PySem.W.fnOf "chains_to" "chains_to" (defArgs s_chains_to) (defBody s_chains_to) (defScope s_chains_to) .none kV6 dc6 pm6 an6 cd6 ct6), sl6⟩) (c6 : PySem.W.codeIn K cd6 "chains_to" = true) (k6 : PySem.W.keepIn K (.ref f6) = true)
    (a7 : PySem.W.nsIn K mainGlobals "shortened_in_a_round" = some (some (.ref f7)))
    (l7 : K.lookup f7 = some ⟨oc7, od7, .func (PySem.W.fnOf "shortened_in_a_round" "shortened_in_a_round" (defArgs s_shortened_in_a_round) (defBody s_shortened_in_a_round) (defScope s_shortened_in_a_round) .none kV7 dc7 pm7 an7 cd7 ct7), sl7⟩) (c7 : PySem.W.codeIn K cd7 "shortened_in_a_round" = true) (k7 : PySem.W.keepIn K (.ref f7) = true)
    (a8 : PySem.W.nsIn K mainGlobals "_law_cell" = some (some (.ref f8)))
    (l8 : K.lookup f8 = some ⟨oc8, od8, .func (PySem.W.fnOf "_law_cell" "_law_cell" (defArgs s_l_cell) (defBody s_l_cell) (defScope s_l_cell) .none kV8 dc8 pm8 an8 cd8 ct8), sl8⟩) (c8 : PySem.W.codeIn K cd8 "_law_cell" = true) (k8 : PySem.W.keepIn K (.ref f8) = true)
    (a9 : PySem.W.nsIn K mainGlobals "_law_whole" = some (some (.ref f9)))
    (l9 : K.lookup f9 = some ⟨oc9, od9, .func (PySem.W.fnOf "_law_whole" "_law_whole" (defArgs s_l_whole) (defBody s_l_whole) (defScope s_l_whole) .none kV9 dc9 pm9 an9 cd9 ct9), sl9⟩) (c9 : PySem.W.codeIn K cd9 "_law_whole" = true) (k9 : PySem.W.keepIn K (.ref f9) = true)
    (a10 : PySem.W.nsIn K mainGlobals "_law_mixed" = some (some (.ref f10)))
    (l10 : K.lookup f10 = some ⟨oc10, od10, .func (PySem.W.fnOf "_law_mixed" "_law_mixed" (defArgs s_l_mixed) (defBody s_l_mixed) (defScope s_l_mixed) .none kV10 dc10 pm10 an10 cd10 ct10), sl10⟩) (c10 : PySem.W.codeIn K cd10 "_law_mixed" = true) (k10 : PySem.W.keepIn K (.ref f10) = true)
    (a11 : PySem.W.nsIn K mainGlobals "_law_heights" = some (some (.ref f11)))
    (l11 : K.lookup f11 = some ⟨oc11, od11, .func (PySem.W.fnOf "_law_heights" "_law_heights" (defArgs s_l_heights) (defBody s_l_heights) (defScope s_l_heights) .none kV11 dc11 pm11 an11 cd11 ct11), sl11⟩) (c11 : PySem.W.codeIn K cd11 "_law_heights" = true) (k11 : PySem.W.keepIn K (.ref f11) = true)
    (a12 : PySem.W.nsIn K mainGlobals "_law_bond" = some (some (.ref f12)))
    (l12 : K.lookup f12 = some ⟨oc12, od12, .func (PySem.W.fnOf "_law_bond" "_law_bond" (defArgs s_l_bond) (defBody s_l_bond) (defScope s_l_bond) .none kV12 dc12 pm12 an12 cd12 ct12), sl12⟩) (c12 : PySem.W.codeIn K cd12 "_law_bond" = true) (k12 : PySem.W.keepIn K (.ref f12) = true)
    (a13 : PySem.W.nsIn K mainGlobals "_law_cells" = some (some (.ref f13)))
    (l13 : K.lookup f13 = some ⟨oc13, od13, .func (PySem.W.fnOf "_law_cells" "_law_cells" (defArgs s_l_cells) (defBody s_l_cells) (defScope s_l_cells) .none kV13 dc13 pm13 an13 cd13 ct13), sl13⟩) (c13 : PySem.W.codeIn K cd13 "_law_cells" = true) (k13 : PySem.W.keepIn K (.ref f13) = true)
    (a14 : PySem.W.nsIn K mainGlobals "_law_hold" = some (some (.ref f14)))
    (l14 : K.lookup f14 = some ⟨oc14, od14, .func (PySem.W.fnOf "_law_hold" "_law_hold" (defArgs s_l_hold) (defBody s_l_hold) (defScope s_l_hold) .none kV14 dc14 pm14 an14 cd14 ct14), sl14⟩) (c14 : PySem.W.codeIn K cd14 "_law_hold" = true) (k14 : PySem.W.keepIn K (.ref f14) = true)
    (a15 : PySem.W.nsIn K mainGlobals "_law_falls" = some (some (.ref f15)))
    (l15 : K.lookup f15 = some ⟨oc15, od15, .func (PySem.W.fnOf "_law_falls" "_law_falls" (defArgs s_l_falls) (defBody s_l_falls) (defScope s_l_falls) .none kV15 dc15 pm15 an15 cd15 ct15), sl15⟩) (c15 : PySem.W.codeIn K cd15 "_law_falls" = true) (k15 : PySem.W.keepIn K (.ref f15) = true)
    (a16 : PySem.W.nsIn K mainGlobals "_law_round" = some (some (.ref f16)))
    (l16 : K.lookup f16 = some ⟨oc16, od16, .func (PySem.W.fnOf "_law_round" "_law_round" (defArgs s_l_round) (defBody s_l_round) (defScope s_l_round) .none kV16 dc16 pm16 an16 cd16 ct16), sl16⟩) (c16 : PySem.W.codeIn K cd16 "_law_round" = true) (k16 : PySem.W.keepIn K (.ref f16) = true)
    (a17 : PySem.W.nsIn K mainGlobals "_law_put_in" = some (some (.ref f17)))
    (l17 : K.lookup f17 = some ⟨oc17, od17, .func (PySem.W.fnOf "_law_put_in" "_law_put_in" (defArgs s_l_put_in) (defBody s_l_put_in) (defScope s_l_put_in) .none kV17 dc17 pm17 an17 cd17 ct17), sl17⟩) (c17 : PySem.W.codeIn K cd17 "_law_put_in" = true) (k17 : PySem.W.keepIn K (.ref f17) = true)
    (a18 : PySem.W.nsIn K mainGlobals "_law_chain" = some (some (.ref f18)))
    (l18 : K.lookup f18 = some ⟨oc18, od18, .func (PySem.W.fnOf "_law_chain" "_law_chain" (defArgs s_l_chain) (defBody s_l_chain) (defScope s_l_chain) .none kV18 dc18 pm18 an18 cd18 ct18), sl18⟩) (c18 : PySem.W.codeIn K cd18 "_law_chain" = true) (k18 : PySem.W.keepIn K (.ref f18) = true)
    (a19 : PySem.W.nsIn K mainGlobals "_law_reached" = some (some (.ref f19)))
    (l19 : K.lookup f19 = some ⟨oc19, od19, .func (PySem.W.fnOf "_law_reached" "_law_reached" (defArgs s_l_reached) (defBody s_l_reached) (defScope s_l_reached) .none kV19 dc19 pm19 an19 cd19 ct19), sl19⟩) (c19 : PySem.W.codeIn K cd19 "_law_reached" = true) (k19 : PySem.W.keepIn K (.ref f19) = true)
    (a20 : PySem.W.nsIn K mainGlobals "_law_due" = some (some (.ref f20)))
    (l20 : K.lookup f20 = some ⟨oc20, od20, .func (PySem.W.fnOf "_law_due" "_law_due" (defArgs s_l_due) (defBody s_l_due) (defScope s_l_due) .none kV20 dc20 pm20 an20 cd20 ct20), sl20⟩) (c20 : PySem.W.codeIn K cd20 "_law_due" = true) (k20 : PySem.W.keepIn K (.ref f20) = true)
    (a21 : PySem.W.nsIn K mainGlobals "law" = some (some (.ref f21)))
    (l21 : K.lookup f21 = some ⟨oc21, od21, .func (PySem.W.fnOf "law" "law" (defArgs s_law) (defBody s_law) (defScope s_law) .none kV21 dc21 pm21 an21 (.ref c_tab) ct21), sl21⟩) (c21 : PySem.W.codeIn K (.ref c_tab) "law" = true) (k21 : PySem.W.keepIn K (.ref f21) = true)
    (z_bool : PySem.W.nsIn K mainGlobals "bool" = some none)
    (z_enumerate : PySem.W.nsIn K mainGlobals "enumerate" = some none)
    (z_int : PySem.W.nsIn K mainGlobals "int" = some none)
    (z_isinstance : PySem.W.nsIn K mainGlobals "isinstance" = some none)
    (z_len : PySem.W.nsIn K mainGlobals "len" = some none)
    (z_list : PySem.W.nsIn K mainGlobals "list" = some none)
    (z_min : PySem.W.nsIn K mainGlobals "min" = some none)
    (z_range : PySem.W.nsIn K mainGlobals "range" = some none)
    (z_sorted : PySem.W.nsIn K mainGlobals "sorted" = some none)
    (z_sum : PySem.W.nsIn K mainGlobals "sum" = some none)
    (z_tuple : PySem.W.nsIn K mainGlobals "tuple" = some none)
    (l_tab : K.lookup c_tab = some o_tab) (qvt_tab : tabP o_tab = some p_tab) (qnt_tab : hasNo K p_tab = true) :
    ∃ a : Ad, Tx K mg a ∧ fa = a.f_law ∧ (∀ (s : Shared) (v : Value), BindsTo s a.d_law ⟨[v], []⟩ [("_law_script", v)]) := by
  have e := hfa.symm.trans (PySem.W.mg_of X G a21)
  cases e
  exact ⟨⟨f1, PySem.W.fnOf "settled" "settled" (defArgs s_settled) (defBody s_settled) (defScope s_settled) .none kV1 dc1 pm1 an1 cd1 ct1, f2, PySem.W.fnOf "lowered_in_a_round" "lowered_in_a_round" (defArgs s_lowered_in_a_round) (defBody s_lowered_in_a_round) (defScope s_lowered_in_a_round) .none kV2 dc2 pm2 an2 cd2 ct2, f3, PySem.W.fnOf "ring_behind" "ring_behind" (defArgs s_ring_behind) (defBody s_ring_behind) (defScope s_ring_behind) .none kV3 dc3 pm3 an3 cd3 ct3, f4, PySem.W.fnOf "most" "most" (defArgs s_most) (defBody s_most) (defScope s_most) .none kV4 dc4 pm4 an4 cd4 ct4, f5, PySem.W.fnOf "shortest_chain" "shortest_chain" (defArgs s_shortest_chain) (defBody s_shortest_chain) (defScope s_shortest_chain) .none kV5 dc5 pm5 an5 cd5 ct5, f6, PySem.W.fnOf "chains_to" "chains_to" (defArgs s_chains_to) (defBody s_chains_to) (defScope s_chains_to) .none kV6 dc6 pm6 an6 cd6 ct6, f7, PySem.W.fnOf "shortened_in_a_round" "shortened_in_a_round" (defArgs s_shortened_in_a_round) (defBody s_shortened_in_a_round) (defScope s_shortened_in_a_round) .none kV7 dc7 pm7 an7 cd7 ct7, f8, PySem.W.fnOf "_law_cell" "_law_cell" (defArgs s_l_cell) (defBody s_l_cell) (defScope s_l_cell) .none kV8 dc8 pm8 an8 cd8 ct8, f9, PySem.W.fnOf "_law_whole" "_law_whole" (defArgs s_l_whole) (defBody s_l_whole) (defScope s_l_whole) .none kV9 dc9 pm9 an9 cd9 ct9, f10, PySem.W.fnOf "_law_mixed" "_law_mixed" (defArgs s_l_mixed) (defBody s_l_mixed) (defScope s_l_mixed) .none kV10 dc10 pm10 an10 cd10 ct10, f11, PySem.W.fnOf "_law_heights" "_law_heights" (defArgs s_l_heights) (defBody s_l_heights) (defScope s_l_heights) .none kV11 dc11 pm11 an11 cd11 ct11, f12, PySem.W.fnOf "_law_bond" "_law_bond" (defArgs s_l_bond) (defBody s_l_bond) (defScope s_l_bond) .none kV12 dc12 pm12 an12 cd12 ct12, f13, PySem.W.fnOf "_law_cells" "_law_cells" (defArgs s_l_cells) (defBody s_l_cells) (defScope s_l_cells) .none kV13 dc13 pm13 an13 cd13 ct13, f14, PySem.W.fnOf "_law_hold" "_law_hold" (defArgs s_l_hold) (defBody s_l_hold) (defScope s_l_hold) .none kV14 dc14 pm14 an14 cd14 ct14, f15, PySem.W.fnOf "_law_falls" "_law_falls" (defArgs s_l_falls) (defBody s_l_falls) (defScope s_l_falls) .none kV15 dc15 pm15 an15 cd15 ct15, f16, PySem.W.fnOf "_law_round" "_law_round" (defArgs s_l_round) (defBody s_l_round) (defScope s_l_round) .none kV16 dc16 pm16 an16 cd16 ct16, f17, PySem.W.fnOf "_law_put_in" "_law_put_in" (defArgs s_l_put_in) (defBody s_l_put_in) (defScope s_l_put_in) .none kV17 dc17 pm17 an17 cd17 ct17, f18, PySem.W.fnOf "_law_chain" "_law_chain" (defArgs s_l_chain) (defBody s_l_chain) (defScope s_l_chain) .none kV18 dc18 pm18 an18 cd18 ct18, f19, PySem.W.fnOf "_law_reached" "_law_reached" (defArgs s_l_reached) (defBody s_l_reached) (defScope s_l_reached) .none kV19 dc19 pm19 an19 cd19 ct19, f20, PySem.W.fnOf "_law_due" "_law_due" (defArgs s_l_due) (defBody s_l_due) (defScope s_l_due) .none kV20 dc20 pm20 an20 cd20 ct20, fa, PySem.W.fnOf "law" "law" (defArgs s_law) (defBody s_law) (defScope s_law) .none kV21 dc21 pm21 an21 (.ref c_tab) ct21, c_tab, p_tab⟩, ⟨fun_mk (st := s_settled) l1 c1 k1, 
    (fun_mk (st := s_settled) l1 c1 k1).binds (ps := ["count", "bonds"]) (fun _ _ _ _ _ _ us hl => bd_settled hl), 
    PySem.W.mg_of X G a1, 
    fun_mk (st := s_lowered_in_a_round) l2 c2 k2, 
    (fun_mk (st := s_lowered_in_a_round) l2 c2 k2).binds (ps := ["bonds", "values", "lowered_by"]) (fun _ _ _ _ _ _ us hl => bd_lowered_in_a_round hl), 
    PySem.W.mg_of X G a2, 
    fun_mk (st := s_ring_behind) l3 c3 k3, 
    (fun_mk (st := s_ring_behind) l3 c3 k3).binds (ps := ["count", "bonds", "lowered_by", "lowered"]) (fun _ _ _ _ _ _ us hl => bd_ring_behind hl), 
    PySem.W.mg_of X G a3, 
    fun_mk (st := s_most) l4 c4 k4, 
    (fun_mk (st := s_most) l4 c4 k4).binds (ps := ["count", "bonds", "x", "y"]) (fun _ _ _ _ _ _ us hl => bd_most hl), 
    PySem.W.mg_of X G a4, 
    fun_mk (st := s_shortest_chain) l5 c5 k5, 
    (fun_mk (st := s_shortest_chain) l5 c5 k5).binds (ps := ["count", "bonds", "x", "y"]) (fun _ _ _ _ _ _ us hl => bd_shortest_chain hl), 
    PySem.W.mg_of X G a5, 
    fun_mk (st := s_chains_to) l6 c6 k6, 
    (fun_mk (st := s_chains_to) l6 c6 k6).binds (ps := ["count", "bonds", "y"]) (fun _ _ _ _ _ _ us hl => bd_chains_to hl), 
    PySem.W.mg_of X G a6, 
    fun_mk (st := s_shortened_in_a_round) l7 c7 k7, 
    (fun_mk (st := s_shortened_in_a_round) l7 c7 k7).binds (ps := ["bonds", "lengths", "reached_by"]) (fun _ _ _ _ _ _ us hl => bd_shortened_in_a_round hl), 
    PySem.W.mg_of X G a7, 
    fun_mk (st := s_l_cell) l8 c8 k8, 
    (fun_mk (st := s_l_cell) l8 c8 k8).binds (ps := ["_law_script", "_law_k"]) (fun _ _ _ _ _ _ us hl => bd_l_cell hl), 
    PySem.W.mg_of X G a8, 
    fun_mk (st := s_l_whole) l9 c9 k9, 
    (fun_mk (st := s_l_whole) l9 c9 k9).binds (ps := ["_law_found"]) (fun _ _ _ _ _ _ us hl => bd_l_whole hl), 
    PySem.W.mg_of X G a9, 
    fun_mk (st := s_l_mixed) l10 c10 k10, 
    (fun_mk (st := s_l_mixed) l10 c10 k10).binds (ps := ["_law_cell_here"]) (fun _ _ _ _ _ _ us hl => bd_l_mixed hl), 
    PySem.W.mg_of X G a10, 
    fun_mk (st := s_l_heights) l11 c11 k11, 
    (fun_mk (st := s_l_heights) l11 c11 k11).binds (ps := ["_law_cell_here", "_law_count", "_law_span"]) (fun _ _ _ _ _ _ us hl => bd_l_heights hl), 
    PySem.W.mg_of X G a11, 
    fun_mk (st := s_l_bond) l12 c12 k12, 
    (fun_mk (st := s_l_bond) l12 c12 k12).binds (ps := ["_law_cell_here", "_law_heights_here", "_law_less", "_law_by"]) (fun _ _ _ _ _ _ us hl => bd_l_bond hl), 
    PySem.W.mg_of X G a12, 
    fun_mk (st := s_l_cells) l13 c13 k13, 
    (fun_mk (st := s_l_cells) l13 c13 k13).binds (ps := ["_law_script", "_law_room"]) (fun _ _ _ _ _ _ us hl => bd_l_cells hl), 
    PySem.W.mg_of X G a13, 
    fun_mk (st := s_l_hold) l14 c14 k14, 
    (fun_mk (st := s_l_hold) l14 c14 k14).binds (ps := ["_law_values", "_law_count", "_law_bonds"]) (fun _ _ _ _ _ _ us hl => bd_l_hold hl), 
    PySem.W.mg_of X G a14, 
    fun_mk (st := s_l_falls) l15 c15 k15, 
    (fun_mk (st := s_l_falls) l15 c15 k15).binds (ps := ["_law_ring", "_law_bonds"]) (fun _ _ _ _ _ _ us hl => bd_l_falls hl), 
    PySem.W.mg_of X G a15, 
    fun_mk (st := s_l_round) l16 c16 k16, 
    (fun_mk (st := s_l_round) l16 c16 k16).binds (ps := ["_law_heights_here", "_law_ranks", "_law_many", "_law_less"]) (fun _ _ _ _ _ _ us hl => bd_l_round hl), 
    PySem.W.mg_of X G a16, 
    fun_mk (st := s_l_put_in) l17 c17 k17, 
    (fun_mk (st := s_l_put_in) l17 c17 k17).binds (ps := ["_law_bonds", "_law_ring", "_law_cell_here"]) (fun _ _ _ _ _ _ us hl => bd_l_put_in hl), 
    PySem.W.mg_of X G a17, 
    fun_mk (st := s_l_chain) l18 c18 k18, 
    (fun_mk (st := s_l_chain) l18 c18 k18).binds (ps := ["_law_chain_here", "_law_bonds", "_law_x", "_law_y", "_law_c"]) (fun _ _ _ _ _ _ us hl => bd_l_chain hl), 
    PySem.W.mg_of X G a18, 
    fun_mk (st := s_l_reached) l19 c19 k19, 
    (fun_mk (st := s_l_reached) l19 c19 k19).binds (ps := ["_law_found", "_law_count", "_law_bonds", "_law_x", "_law_y"]) (fun _ _ _ _ _ _ us hl => bd_l_reached hl), 
    PySem.W.mg_of X G a19, 
    fun_mk (st := s_l_due) l20 c20 k20, 
    (fun_mk (st := s_l_due) l20 c20 k20).binds (ps := ["_law_heights_here"]) (fun _ _ _ _ _ _ us hl => bd_l_due hl), 
    PySem.W.mg_of X G a20, 
    fun_mk (st := s_law) l21 c21 k21, 
    (fun_mk (st := s_law) l21 c21 k21).binds (ps := ["_law_script"]) (fun _ _ _ _ _ _ us hl => bd_law hl), 
    PySem.W.mg_of X G a21, 
    PySem.W.mg_none_of X G z_bool, 
    PySem.W.mg_none_of X G z_enumerate, 
    PySem.W.mg_none_of X G z_int, 
    PySem.W.mg_none_of X G z_isinstance, 
    PySem.W.mg_none_of X G z_len, 
    PySem.W.mg_none_of X G z_list, 
    PySem.W.mg_none_of X G z_min, 
    PySem.W.mg_none_of X G z_range, 
    PySem.W.mg_none_of X G z_sorted, 
    PySem.W.mg_none_of X G z_sum, 
    PySem.W.mg_none_of X G z_tuple, 
    a21, 
    tab_mk a21 l21 rfl l_tab qvt_tab, 
    hasNo_of qnt_tab⟩, rfl, fun s v => .of_eq rfl⟩
end Fw
open PySem PySem.W PyProof.Rows
set_option maxRecDepth 100000 in
set_option maxHeartbeats 0 in
theorem PySem.Challenge.cw_furrow_k47_long_rings_holds : PySem.Challenge.rw_furrow_k47_long_rings.Holds := by
  w_on; o_law; k_head; (case hw => w_witness2)
  k_fill
  refine L2.law_walkT (l := PySem.Challenge.rw_furrow_k47_long_rings) (x := "_law_script") 7 (by decide) rfl rfl rfl (fun w h Y => PySem.W.km_in_of Y) ?F
  case F =>
    intro w mg fa h KX G hmg
    suffices hh : ∃ a : Fw.Ad, Fw.Tx _ mg a ∧ fa = a.f_law ∧ (∀ (s : Shared) (v : Value), BindsTo s a.d_law ⟨[v], []⟩ [("_law_script", v)]) by
      obtain ⟨a, T, e, b⟩ := hh
      subst e
      exact ⟨a.d_law, a.c_tab, a.p_tab, T.tb, T.np, b, fun base _ _ LT => Fw.ok_law T LT⟩
    refine' Fw.txt_mk KX G hmg ?a1 ?l1 ?c1 ?k1 ?a2 ?l2 ?c2 ?k2 ?a3 ?l3 ?c3 ?k3 ?a4 ?l4 ?c4 ?k4 ?a5 ?l5 ?c5 ?k5 ?a6 ?l6 ?c6 ?k6 ?a7 ?l7 ?c7 ?k7 ?a8 ?l8 ?c8 ?k8 ?a9 ?l9 ?c9 ?k9 ?a10 ?l10 ?c10 ?k10 ?a11 ?l11 ?c11 ?k11 ?a12 ?l12 ?c12 ?k12 ?a13 ?l13 ?c13 ?k13 ?a14 ?l14 ?c14 ?k14 ?a15 ?l15 ?c15 ?k15 ?a16 ?l16 ?c16 ?k16 ?a17 ?l17 ?c17 ?k17 ?a18 ?l18 ?c18 ?k18 ?a19 ?l19 ?c19 ?k19 ?a20 ?l20 ?c20 ?k20 ?a21 ?l21 ?c21 ?k21 ?z_bool ?z_enumerate ?z_int ?z_isinstance ?z_len ?z_list ?z_min ?z_range ?z_sorted ?z_sum ?z_tuple ?l_tab ?qvt_tab ?qnt_tab
    (case a1 => k_is)
    (case l1 => k_is)
    (case c1 => k_is)
    (case k1 => k_is)
    (case a2 => k_is)
    (case l2 => k_is)
    (case c2 => k_is)
    (case k2 => k_is)
    (case a3 => k_is)
    (case l3 => k_is)
    (case c3 => k_is)
    (case k3 => k_is)
    (case a4 => k_is)
    (case l4 => k_is)
    (case c4 => k_is)
    (case k4 => k_is)
    (case a5 => k_is)
    (case l5 => k_is)
    (case c5 => k_is)
    (case k5 => k_is)
    (case a6 => k_is)
    (case l6 => k_is)
    (case c6 => k_is)
    (case k6 => k_is)
    (case a7 => k_is)
    (case l7 => k_is)
    (case c7 => k_is)
    (case k7 => k_is)
    (case a8 => k_is)
    (case l8 => k_is)
    (case c8 => k_is)
    (case k8 => k_is)
    (case a9 => k_is)
    (case l9 => k_is)
    (case c9 => k_is)
    (case k9 => k_is)
    (case a10 => k_is)
    (case l10 => k_is)
    (case c10 => k_is)
    (case k10 => k_is)
    (case a11 => k_is)
    (case l11 => k_is)
    (case c11 => k_is)
    (case k11 => k_is)
    (case a12 => k_is)
    (case l12 => k_is)
    (case c12 => k_is)
    (case k12 => k_is)
    (case a13 => k_is)
    (case l13 => k_is)
    (case c13 => k_is)
    (case k13 => k_is)
    (case a14 => k_is)
    (case l14 => k_is)
    (case c14 => k_is)
    (case k14 => k_is)
    (case a15 => k_is)
    (case l15 => k_is)
    (case c15 => k_is)
    (case k15 => k_is)
    (case a16 => k_is)
    (case l16 => k_is)
    (case c16 => k_is)
    (case k16 => k_is)
    (case a17 => k_is)
    (case l17 => k_is)
    (case c17 => k_is)
    (case k17 => k_is)
    (case a18 => k_is)
    (case l18 => k_is)
    (case c18 => k_is)
    (case k18 => k_is)
    (case a19 => k_is)
    (case l19 => k_is)
    (case c19 => k_is)
    (case k19 => k_is)
    (case a20 => k_is)
    (case l20 => k_is)
    (case c20 => k_is)
    (case k20 => k_is)
    (case a21 => k_is)
    (case l21 => k_is)
    (case c21 => k_is)
    (case k21 => k_is)
    (case z_bool => k_is)
    (case z_enumerate => k_is)
    (case z_int => k_is)
    (case z_isinstance => k_is)
    (case z_len => k_is)
    (case z_list => k_is)
    (case z_min => k_is)
    (case z_range => k_is)
    (case z_sorted => k_is)
    (case z_sum => k_is)
    (case z_tuple => k_is)
    (case l_tab => k_is)
    (case qvt_tab => exact rfl)
    (case qnt_tab => kernel_rfl)
#print axioms PySem.Challenge.cw_furrow_k47_long_rings_holds
