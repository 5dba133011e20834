import PyProof.Rows.All
import Wide.All
import OpenK.AllK
import Wide.FinOn
import Lean
import PyProof.EqAt
import PyProof.EqKinds
import PyProof.TupleCall
import PyProof.ListMulRoad
import PySem.Challenge.RW_furrow_k52_loop_bonds
set_option Elab.async false
set_option linter.all false
set_option maxRecDepth 100000
namespace L2
open PySem PySem.Spec PyProof.Rows

abbrev Key := Sum Int Str
def keyIs : Key → Value → Bool
  | .inl k, v => Value.isInt k v
  | .inr x, v => Value.isStrOf x v
def keyH (w : World) : Key → Int
  | .inl k => hashInt k
  | .inr x => hashStr w x
theorem keyIs_shape : ∀ {k : Key} {v : Value}, keyIs k v = true → (∃ i t, k = Sum.inl i ∧ v = Value.int i t) ∨ (∃ x t, k = Sum.inr x ∧ v = Value.str x t)
  | .inl i, v, h => by
    obtain ⟨t, e⟩ := Value.isInt_shape (k := i) (v := v) h
    exact .inl ⟨i, t, rfl, e⟩
  | .inr x, v, h => by
    obtain ⟨t, e⟩ := Value.isStrOf_shape (x := x) (v := v) h
    exact .inr ⟨x, t, rfl, e⟩
theorem keyIs_int (i : Int) (t : Tok) : keyIs (.inl i) (.int i t) = true := by simp [keyIs, Value.isInt]
theorem keyIs_str (x : Str) (t : Tok) : keyIs (.inr x) (.str x t) = true := by simp [keyIs, Value.isStrOf]
theorem key_ll (a b : Int) : decide ((Sum.inl a : Key) = Sum.inl b) = (a == b) := by
  by_cases e : a = b
  · subst e; simp
  · have h : ¬ (Sum.inl a : Key) = Sum.inl b := fun q => e (Sum.inl.inj q)
    rw [decide_eq_false h]
    exact (beq_eq_false_iff_ne.mpr e).symm
theorem key_rr (a b : Str) : decide ((Sum.inr a : Key) = Sum.inr b) = decide (a = b) := by
  by_cases e : a = b
  · subst e; simp
  · have h : ¬ (Sum.inr a : Key) = Sum.inr b := fun q => e (Sum.inr.inj q)
    rw [decide_eq_false h, decide_eq_false e]
theorem key_lr (a : Int) (b : Str) : decide ((Sum.inl a : Key) = Sum.inr b) = false := decide_eq_false (fun q => nomatch q)
theorem key_rl (a : Str) (b : Int) : decide ((Sum.inr a : Key) = Sum.inl b) = false := decide_eq_false (fun q => nomatch q)

def mixKind (prog : Program) (w : World) : PySem.KeyKind prog w Key where
  is := keyIs
  hash := keyH w
  inj := fun v a b ha hb => by
    rcases keyIs_shape ha with ⟨i, t, rfl, rfl⟩ | ⟨x, t, rfl, rfl⟩
    · rcases keyIs_shape hb with ⟨j, u, rfl, e⟩ | ⟨y, u, rfl, e⟩
      · injection e with e1 _; rw [e1]
      · exact nomatch e
    · rcases keyIs_shape hb with ⟨j, u, rfl, e⟩ | ⟨y, u, rfl, e⟩
      · exact nomatch e
      · injection e with e1 _; rw [e1]
  byValue := fun k v h => by
    rcases keyIs_shape h with ⟨i, t, rfl, rfl⟩ | ⟨x, t, rfl, rfl⟩ <;> rfl
  pyHash := fun hv h => by
    rcases keyIs_shape hv with ⟨i, t, rfl, rfl⟩ | ⟨x, t, rfl, rfl⟩
    · exact wpAny_pyHash_int h
    · exact wpAny_pyHash_str h
  eqBool := fun hu hv h => by
    rcases keyIs_shape hu with ⟨i, t, rfl, rfl⟩ | ⟨x, t, rfl, rfl⟩
    · rcases keyIs_shape hv with ⟨j, u, rfl, rfl⟩ | ⟨y, u, rfl, rfl⟩
      · rw [key_ll] at h; exact wpAny_eqBool_int h
      · rw [key_lr] at h; exact SeqAt.EqAt.int_str i t y u _ _ _ _ h
    · rcases keyIs_shape hv with ⟨j, u, rfl, rfl⟩ | ⟨y, u, rfl, rfl⟩
      · rw [key_rl] at h; exact SeqAt.EqAt.str_int x t j u _ _ _ _ h
      · rw [key_rr] at h; exact wpAny_eqBool_str h
  «strs» := fun k x t v h => by
    rcases keyIs_shape h with ⟨i, u, rfl, e⟩ | ⟨y, u, rfl, e⟩
    · exact nomatch e
    · injection e with e1 _
      subst e1
      cases v <;> rfl

theorem mixKind_int (prog : Program) (w : World) (i : Int) (t : Tok) : (mixKind prog w).is (.inl i) (.int i t) = true := keyIs_int i t
theorem mixKind_str (prog : Program) (w : World) (x : Str) (t : Tok) : (mixKind prog w).is (.inr x) (.str x t) = true := keyIs_str x t
end L2

namespace L2
open PySem PySem.Spec PyProof.Rows

inductive V where
  | non | bl (b : Bool) | int (i : Int) | str (x : Str) | byt (b : Array UInt8) | flt (b : UInt64) | ref (a : Addr) | ty (n : String)
  deriving DecidableEq

def RelV : V → Value → Prop
  | .non, u => u = Value.none
  | .bl b, u => u = Value.bool b
  | .int i, u => ∃ t, u = Value.int i t
  | .str x, u => ∃ t, u = Value.str x t
  | .byt b, u => ∃ t, u = Value.bytes b t
  | .flt b, u => ∃ t, u = Value.float b t
  | .ref a, u => u = Value.ref a
  | .ty n, u => u = Value.type n

abbrev Vals : List V → List Value → Prop := Paired RelV
theorem Vals.length {xs : List V} {us : List Value} (r : Vals xs us) : xs.length = us.length := Paired.length r
theorem Vals.get : ∀ {xs : List V} {us : List Value} {i : Nat} {x : V}, Vals xs us → xs[i]? = some x → ∃ u, us[i]? = some u ∧ RelV x u
  | _, _, _, _, .nil, e => by simp at e
  | _, _, 0, _, .cons r _, e => by simp at e; subst e; exact ⟨_, rfl, r⟩
  | _, _, i + 1, x, .cons _ t, e => by
    obtain ⟨u, h1, h2⟩ := Vals.get (i := i) (x := x) t (by simpa using e)
    exact ⟨u, by simpa using h1, h2⟩
theorem Vals.set {x : V} {u : Value} (r : RelV x u) : ∀ {xs : List V} {us : List Value} (i : Nat), Vals xs us → Vals (xs.set i x) (us.set i u)
  | _, _, _, .nil => .nil
  | _, _, 0, .cons _ t => .cons r t
  | _, _, i + 1, .cons q t => .cons q (Vals.set r i t)
theorem Vals.append : ∀ {xs ys : List V} {us ws : List Value}, Vals xs us → Vals ys ws → Vals (xs ++ ys) (us ++ ws)
  | _, _, _, _, .nil, s => s
  | _, _, _, _, .cons r t, s => .cons r (Vals.append t s)
theorem Vals.take : ∀ {xs : List V} {us : List Value} (n : Nat), Vals xs us → Vals (xs.take n) (us.take n)
  | _, _, 0, _ => .nil
  | _, _, _ + 1, .nil => .nil
  | _, _, n + 1, .cons r t => .cons r (Vals.take n t)
theorem Vals.drop : ∀ {xs : List V} {us : List Value} (n : Nat), Vals xs us → Vals (xs.drop n) (us.drop n)
  | _, _, 0, r => r
  | _, _, _ + 1, .nil => .nil
  | _, _, n + 1, .cons _ t => Vals.drop n t
theorem Vals.none_of : ∀ {xs : List V} {us : List Value} {i : Nat}, Vals xs us → xs[i]? = none → us[i]? = none := fun {xs us i} r e => by
  have h1 := r.length
  have h2 : xs.length ≤ i := List.getElem?_eq_none_iff.mp e
  exact List.getElem?_eq_none_iff.mpr (by omega)

def RelO : Option V → Option Value → Prop
  | some v, some u => RelV v u
  | none, none => True
  | _, _ => False
def KV {κ : Type} : List (κ × V) → List (κ × Value) → Prop := Paired fun (p : κ × V) (q : κ × Value) => p.1 = q.1 ∧ RelV p.2 q.2

def kV : Key → V
  | .inl i => .int i
  | .inr x => .str x

inductive HO where
  /-- a list -/
  | lst (xs : List V)
  /-- a tuple (never changes) -/
  | tup (xs : List V)
  /-- a dict whose keys are ints and texts; one whose keys are tuples of ints and texts (the empty one is both) -/
  | dK (kvs : List (Key × V)) | dT (kvs : List (List Key × V))
  /-- a set of ints: its members, its size -/
  | set (S : Int → Bool) (n : Nat)
  /-- an instance of the class at C, its dict at dx, its attributes -/
  | ins (C dx : Addr) (fs : List (Str × V))
  /-- the dict of the instance at x -/
  | own (x : Addr)
  /-- the dict of an exception -/
  | xd (fs : List (Str × V))
  /-- a bound method, f of x -/
  | met (f x : Addr)
  /-- a range object lo, lo + 1, .. below hi -/
  | rng (lo hi : Int)
  /-- a thing that is known to the object (the script; a dict while a loop walks it): read, never written while it is so -/
  | frz (o : Obj) (u : HO)
  /-- a code object's table -/
  | tbl (ps : Array Value)
  /-- any other thing, by what is true of its one object (a def of one's own: SetO a S n := HO.ext fun h => ..) -/
  | ext (φ : Heap → Prop)

abbrev Hp := Addr → Option HO
def upd (H : Hp) (a : Addr) (o : HO) : Hp := fun b => if b = a then some o else H b
theorem upd_same {H : Hp} {a : Addr} {o : HO} : upd H a o a = some o := by unfold upd; rw [if_pos rfl]
theorem upd_ne {H : Hp} {a b : Addr} {o : HO} (h : b ≠ a) : upd H a o b = H b := by unfold upd; rw [if_neg h]
theorem ne_of {H : Hp} {a b : Addr} {o u : HO} (h : H a = some o) (h' : H b = some u) (d : o ≠ u) : a ≠ b := by
  intro e; subst e; rw [h] at h'; exact d (Option.some.inj h')
theorem ne_of_none {H : Hp} {a b : Addr} {o : HO} (h : H a = some o) (h' : H b = none) : a ≠ b := by
  intro e; subst e; rw [h] at h'; cases h'

section
variable (P : Program) (w : World)
def IsTupN (h : Heap) (a : Addr) (its : Array Value) : Prop := ∃ o, h.get? a = some o ∧ o.cls = .type "tuple" ∧ (∃ n, o.data = .seq its n) ∧ o.dict = none
theorem IsTupN.tup {h : Heap} {a : Addr} {its : Array Value} (x : IsTupN h a its) : IsTup h a its := let ⟨o, e, c, d, _⟩ := x; ⟨o, e, c, d⟩
theorem IsTupN.new (h : Heap) (its : Array Value) : IsTupN (h.push { cls := .type "tuple", data := .seq its }) h.objs.size its := ⟨_, Heap.get?_push_size _ rfl, rfl, ⟨_, rfl⟩, rfl⟩
def ObjOk (H : Hp) (h : Heap) (a : Addr) : HO → Prop
  | .lst xs => xs.length ≤ sizeLine ∧ ∃ (its : List Value) (n : Nat), Vals xs its ∧ h.get? a = some { cls := .type "list", data := .seq its.toArray n }
  | .tup xs => xs.length ≤ sizeLine ∧ ∃ its : List Value, Vals xs its ∧ IsTupN h a its.toArray
  | .dK kvs => kvs.length ≤ sizeLine ∧ (a == sysModules) = false ∧ ∃ vs, KV kvs vs ∧ h.DictOf (mixKind P w) a vs
  | .dT kvs => kvs.length ≤ sizeLine ∧ (a == sysModules) = false ∧ ∃ xs : List (List Key × Addr × Value),
      Paired (fun (p : List Key × V) (q : List Key × Addr × Value) => p.1 = q.1 ∧ H q.2.1 = some (.tup (p.1.map kV)) ∧ RelV p.2 q.2.2) kvs xs ∧
      ∃ o es ep, h.get? a = some o ∧ o.ExactDict ∧ o.data = .dict es ep ∧ es.toList = xs.map (entryOfKey (tupleKind (mixKind P w))) ∧ (xs.map (·.1)).Nodup
  | .set S n => h.SetOf (intKind P w) a S n
  | .ins C dx fs => H dx = some (.own a) ∧ fs.length ≤ 1000 ∧ dx ≠ a ∧ h.get? a = some (PySem.W.instObj C dx) ∧
      ∃ mA, h.Ns1 dx mA ∧ (∀ f, RelO (fs.lookup f) (mA f)) ∧ PySem.Within mA (fs.map (·.1))
  | .own _ => ∃ o, h.get? a = some o
  | .xd fs => ∃ mA, h.Ns1 a mA ∧ ∀ f, RelO (fs.lookup f) (mA f)
  | .rng lo hi => ∃ t u v, h.get? a = some { cls := .type "range", data := .fields #[.int lo t, .int hi u, .int 1 v] }
  | .frz o u => h.get? a = some o ∧ ObjOk H h a u
  | .tbl ps => h.get? a = some { cls := .none, data := .fields ps }
  | .met f x => h.get? a = some (PySem.W.methodObj (.ref f) (.ref x))
  | .ext φ => φ h ∧ (∃ o, h.get? a = some o) ∧ ∀ h1 h2 : Heap, φ h1 → (∀ o, h1.get? a = some o → h2.get? a = some o) → φ h2
def HOk (H : Hp) (h : Heap) : Prop := ∀ a o, H a = some o → ObjOk P w H h a o
end

section
variable {P : Program} {w : World} {H H' : Hp} {h h' : Heap} {a : Addr} {o : HO}
theorem ObjOk.lt (x : ObjOk P w H h a o) : a < h.objs.size := by
  cases o with
  | lst xs => obtain ⟨_, _, _, _, e⟩ := x; exact Heap.lt_size e
  | tup xs => obtain ⟨_, _, _, p⟩ := x; exact p.tup.lt
  | dK kvs => obtain ⟨_, _, _, _, o, _, _, e, _⟩ := x; exact Heap.lt_size e
  | dT kvs => obtain ⟨_, _, _, _, o, _, _, e, _⟩ := x; exact Heap.lt_size e
  | set S n => obtain ⟨o, _, _, _, e, _⟩ := x; exact Heap.lt_size e
  | ins C dx fs => obtain ⟨_, _, _, e, _⟩ := x; exact Heap.lt_size e
  | own y => obtain ⟨_, e⟩ := x; exact Heap.lt_size e
  | xd fs => obtain ⟨_, ⟨_, _, _, e, _⟩, _⟩ := x; exact Heap.lt_size e
  | rng lo hi => obtain ⟨_, _, _, e⟩ := x; exact Heap.lt_size e
  | frz ob u => obtain ⟨e, _⟩ := x; exact Heap.lt_size e
  | tbl ps => exact Heap.lt_size (show h.get? a = some _ from x)
  | met f y => exact Heap.lt_size (show h.get? a = some _ from x)
  | ext φ => obtain ⟨_, ⟨_, e⟩, _⟩ := x; exact Heap.lt_size e
theorem Paired.mapP {α β : Type} {F G : α → β → Prop} : ∀ {l₁ : List α} {l₂ : List β}, Paired F l₁ l₂ → (∀ a b, F a b → G a b) → Paired G l₁ l₂
  | _, _, .nil, _ => .nil
  | _, _, .cons r t, f => .cons (f _ _ r) (Paired.mapP t f)
theorem ObjOk.stay (x : ObjOk P w H h a o) (k : ∀ b u, (b = a ∨ H b = some (.own a)) → h.get? b = some u → h'.get? b = some u)
    (ho : ∀ b, H b = some (.own a) → H' b = some (.own a)) (ht : ∀ b xs, H b = some (.tup xs) → H' b = some (.tup xs)) : ObjOk P w H' h' a o := by
  induction o with
  | lst xs => obtain ⟨z, its, n, r, e⟩ := x; exact ⟨z, its, n, r, k _ _ (.inl rfl) e⟩
  | tup xs => obtain ⟨z, its, r, ob, e, c⟩ := x; exact ⟨z, its, r, ob, k _ _ (.inl rfl) e, c⟩
  | dK kvs => obtain ⟨z, y, vs, r, ob, es, ep, e, c⟩ := x; exact ⟨z, y, vs, r, ob, es, ep, k _ _ (.inl rfl) e, c⟩
  | dT kvs =>
    obtain ⟨z, y, xs, r, ob, es, ep, e, c⟩ := x
    exact ⟨z, y, xs, Paired.mapP r fun p q z => ⟨z.1, ht _ _ z.2.1, z.2.2⟩, ob, es, ep, k _ _ (.inl rfl) e, c⟩
  | set S n => obtain ⟨ob, es, ep, t, e, c⟩ := x; exact ⟨ob, es, ep, t, k _ _ (.inl rfl) e, c⟩
  | ins C dx fs =>
    obtain ⟨d, z, ne, e, mA, ⟨od, es, ep, e2, c⟩, r⟩ := x
    exact ⟨ho _ d, z, ne, k _ _ (.inl rfl) e, mA, ⟨od, es, ep, k _ _ (.inr d) e2, c⟩, r⟩
  | own y => obtain ⟨ob, e⟩ := x; exact ⟨ob, k _ _ (.inl rfl) e⟩
  | xd fs => obtain ⟨mA, ⟨od, es, ep, e, c⟩, r⟩ := x; exact ⟨mA, ⟨od, es, ep, k _ _ (.inl rfl) e, c⟩, r⟩
  | rng lo hi => obtain ⟨t, u, v, e⟩ := x; exact ⟨t, u, v, k _ _ (.inl rfl) e⟩
  | frz ob u ih => obtain ⟨e, q⟩ := x; exact ⟨k _ _ (.inl rfl) e, ih q⟩
  | tbl ps =>
    have e : h.get? a = some { cls := .none, data := .fields ps } := x
    show h'.get? a = some { cls := .none, data := .fields ps }
    exact k a _ (.inl rfl) e
  | met f y =>
    have e : h.get? a = some (PySem.W.methodObj (.ref f) (.ref y)) := x
    show h'.get? a = some (PySem.W.methodObj (.ref f) (.ref y))
    exact k a _ (.inl rfl) e
  | ext φ => obtain ⟨p, ⟨o, e⟩, st⟩ := x; exact ⟨st _ _ p fun o q => k _ _ (.inl rfl) q, ⟨o, k _ _ (.inl rfl) e⟩, st⟩
theorem HOk.lt (x : HOk P w H h) (e : H a = some o) : a < h.objs.size := (x a o e).lt
theorem HOk.fresh (x : HOk P w H h) (e : h.objs.size ≤ a) : H a = none := by
  cases q : H a with
  | none => rfl
  | some u => exact absurd (Nat.lt_of_lt_of_le (x.lt q) e) (Nat.lt_irrefl _)
theorem HOk.kept (x : HOk P w H h) (k : ∀ b u, h.get? b = some u → h'.get? b = some u) : HOk P w H h' := fun a o e =>
  (x a o e).stay (fun b u _ q => k b u q) (fun _ q => q) fun _ _ q => q
theorem HOk.laid (x : HOk P w H h) (k : ∀ b u, h.get? b = some u → h'.get? b = some u) (hp : h.objs.size ≤ a) (new : ObjOk P w (upd H a o) h' a o) : HOk P w (upd H a o) h' := fun b u e => by
  have hn := x.fresh hp
  by_cases hb : b = a
  · subst hb; rw [upd_same] at e; cases e; exact new
  · rw [upd_ne hb] at e
    exact (x b u e).stay (fun c v _ q => k c v q) (fun c q => by rw [upd_ne (ne_of_none q hn)]; exact q) fun c xs q => by rw [upd_ne (ne_of_none q hn)]; exact q
end

def Rd (H : Hp) (a : Addr) (u : HO) : Prop := H a = some u ∨ ∃ o, H a = some (.frz o u)
theorem Rd.of {H : Hp} {a : Addr} {u : HO} (h : H a = some u) : Rd H a u := .inl h
theorem Rd.ok {P : Program} {w : World} {H : Hp} {h : Heap} {a : Addr} {u : HO} (r : Rd H a u) (x : HOk P w H h) : ObjOk P w H h a u := by
  rcases r with r | ⟨o, r⟩
  · exact x a u r
  · obtain ⟨_, q⟩ := x a _ r
    exact q
def Mut : Option HO → Prop
  | some (.lst _) => True
  | some (.dK _) => True
  | some (.dT _) => True
  | some (.set _ _) => True
  | some (.ins _ _ _) => True
  | some (.ext _) => True
  | _ => False
section
variable {P : Program} {w : World} {H : Hp} {h h' : Heap} {x e : Addr} {o' : HO}
theorem HOk.write (ok : HOk P w H h) (mu : Mut (H x)) (he : e = x ∨ H e = some (.own x)) (k : ∀ b u, b ≠ e → h.get? b = some u → h'.get? b = some u) (heo : ∃ u, h'.get? e = some u)
    (new : ObjOk P w (upd H x o') h' x o') : HOk P w (upd H x o') h' := fun b u q => by
  have nown : ∀ c y, H c = some (.own y) → c ≠ x := fun c y r z => by subst z; rw [r] at mu; exact mu
  have ntup : ∀ c xs, H c = some (.tup xs) → c ≠ x := fun c xs r z => by subst z; rw [r] at mu; exact mu
  by_cases hb : b = x
  · subst hb; rw [upd_same] at q; cases q; exact new
  · rw [upd_ne hb] at q
    by_cases hbe : b = e
    · have q' : H b = some (.own x) := by
        rcases he with z | z
        · exact absurd (hbe.trans z) hb
        · rw [hbe]; exact z
      rw [q] at q'; cases q'
      obtain ⟨v, hv⟩ := heo
      exact ⟨v, by rw [hbe]; exact hv⟩
    · refine (ok b u q).stay (fun c v hc r => k c v ?_ r) (fun c r => by rw [upd_ne (nown c b r)]; exact r) fun c xs r => by rw [upd_ne (ntup c xs r)]; exact r
      rcases hc with rfl | hc
      · exact hbe
      · rintro rfl
        rcases he with z | z
        · exact nown c b hc z
        · rw [hc] at z; cases z; exact hb rfl
end

structure Un (fs ex : List Addr) (H H' : Hp) (h h' : Heap) : Prop where
  keep : ∀ b o, h.get? b = some o → H b = none → b ∉ fs → b ∉ ex → h'.get? b = some o
  slot : ∀ b o, h.get? b = some o → H b = none → b ∈ fs → b ∉ ex → ∃ sl, h'.get? b = some { o with slots := sl }
  free : ∀ b o, h.get? b = some o → H b = none → b ∉ ex → H' b = none
  there : ∀ b o, h.get? b = some o → b ∉ ex → ∃ o', h'.get? b = some o'
  tups : ∀ b xs, H b = some (.tup xs) → H' b = some (.tup xs)
  frzs : ∀ b o u, H b = some (.frz o u) → H' b = some (.frz o u)
  tbls : ∀ b ps, H b = some (.tbl ps) → ∃ more, H' b = some (.tbl (ps ++ more))
section
variable {fs fs' ex ex' : List Addr} {H H1 H2 : Hp} {h h1 h2 h' : Heap} {a x e : Addr} {o : HO}
theorem Un.any (u : Un fs ex H H1 h h1) {b : Addr} {ob : Obj} (q : h.get? b = some ob) (n : H b = none) (hx : b ∉ ex) : ∃ sl, h1.get? b = some { ob with slots := sl } := by
  by_cases hb : b ∈ fs
  · exact u.slot b ob q n hb hx
  · exact ⟨ob.slots, u.keep b ob q n hb hx⟩
theorem Un.trans (a : Un fs ex H H1 h h1) (b : Un fs ex H1 H2 h1 h2) : Un fs ex H H2 h h2 where
  keep := fun c ob q n hc hx => b.keep c ob (a.keep c ob q n hc hx) (a.free c ob q n hx) hc hx
  slot := fun c ob q n hc hx => by
    obtain ⟨sl, e1⟩ := a.slot c ob q n hc hx
    obtain ⟨sl', e2⟩ := b.slot c _ e1 (a.free c ob q n hx) hc hx
    exact ⟨sl', e2⟩
  free := fun c ob q n hx => by
    obtain ⟨o', e1⟩ := a.there c ob q hx
    exact b.free c o' e1 (a.free c ob q n hx) hx
  there := fun c ob q hx => by
    obtain ⟨o', e1⟩ := a.there c ob q hx
    exact b.there c o' e1 hx
  tups := fun c xs q => b.tups c xs (a.tups c xs q)
  frzs := fun c ob xs q => b.frzs c ob xs (a.frzs c ob xs q)
  tbls := fun c ps q => by
    obtain ⟨m1, e1⟩ := a.tbls c ps q
    obtain ⟨m2, e2⟩ := b.tbls c _ e1
    exact ⟨m1 ++ m2, by rw [e2, Array.append_assoc]⟩
theorem Un.kept (k : ∀ b u, h.get? b = some u → h'.get? b = some u) : Un fs ex H H h h' :=
  ⟨fun b ob q _ _ _ => k b ob q, fun b ob q _ _ _ => ⟨ob.slots, k b ob q⟩, fun _ _ _ n _ => n, fun b ob q _ => ⟨ob, k b ob q⟩, fun _ _ q => q, fun _ _ _ q => q, fun _ ps q => ⟨#[], by rw [q]; simp⟩⟩
theorem Un.refl : Un fs ex H H h h := Un.kept fun _ _ q => q
theorem Un.laid (k : ∀ b u, h.get? b = some u → h'.get? b = some u) (hp : h.objs.size ≤ a) (hn : H a = none) : Un fs ex H (upd H a o) h h' where
  keep := fun b u q _ _ _ => k b u q
  slot := fun b u q _ _ _ => ⟨u.slots, k b u q⟩
  free := fun b u q n _ => by rw [upd_ne (Nat.ne_of_lt (Nat.lt_of_lt_of_le (Heap.lt_size q) hp))]; exact n
  there := fun b u q _ => ⟨u, k b u q⟩
  tups := fun b xs q => by rw [upd_ne (ne_of_none q hn)]; exact q
  frzs := fun b u xs q => by rw [upd_ne (ne_of_none q hn)]; exact q
  tbls := fun b ps q => ⟨#[], by rw [upd_ne (ne_of_none q hn), q]; simp⟩
theorem Un.write (mu : Mut (H x)) (he : e = x ∨ H e = some (.own x)) (k : ∀ b u, b ≠ e → h.get? b = some u → h'.get? b = some u) (heo : ∃ u, h'.get? e = some u) : Un fs ex H (upd H x o) h h' := by
  have hx : ∀ b, H b = none → b ≠ x := fun b n z => by subst z; rw [n] at mu; exact mu
  have hb : ∀ b, H b = none → b ≠ e := fun b n z => by
    subst z
    rcases he with r | r
    · exact hx b n r
    · rw [n] at r; cases r
  have hm : ∀ b u, H b = some u → ¬ Mut (some u) → b ≠ x := fun b u q nm z => by subst z; rw [q] at mu; exact nm mu
  refine ⟨fun b u q n _ _ => k b u (hb b n) q, fun b u q n _ _ => ⟨u.slots, k b u (hb b n) q⟩, fun b u q n _ => by rw [upd_ne (hx b n)]; exact n, fun b u q _ => ?_,
    fun b xs q => by rw [upd_ne (hm b _ q fun z => z)]; exact q, fun b u xs q => by rw [upd_ne (hm b _ q fun z => z)]; exact q, fun b ps q => ⟨#[], by rw [upd_ne (hm b _ q fun z => z), q]; simp⟩⟩
  by_cases hbe : b = e
  · subst hbe; exact heo
  · exact ⟨u, k b u hbe q⟩
theorem Un.mono (u : Un fs ex H H1 h h1) (hs : ∀ b ∈ fs, b ∈ fs') (hx : ∀ b ∈ ex, b ∈ ex') : Un fs' ex' H H1 h h1 :=
  ⟨fun b ob q n hb he => u.keep b ob q n (fun z => hb (hs b z)) fun z => he (hx b z), fun _ _ q n _ he => u.any q n fun z => he (hx _ z), fun b ob q n he => u.free b ob q n fun z => he (hx b z), fun b ob q he => u.there b ob q fun z => he (hx b z), u.tups, u.frzs, u.tbls⟩
end

def trk (h : Heap) (H : Hp) : List Addr := (List.range h.objs.size).filter fun a => (H a).isSome
def hidT (h : Heap) (H : Hp) : Heap := PySem.W.hideAll h (trk h H)
theorem hidT_size (h : Heap) (H : Hp) : (hidT h H).objs.size = h.objs.size := PySem.W.hideAll_size _ _
theorem hidT_get {h : Heap} {H : Hp} {b : Addr} {o : Obj} (e : h.get? b = some o) (n : H b = none) : (hidT h H).get? b = some o :=
  PySem.W.hideAll_get _ e fun hm => by
    have q : (H b).isSome = true := (List.mem_filter.mp hm).2
    rw [n] at q; simp at q
theorem of_hidT {h : Heap} {H : Hp} {b : Addr} {o : Obj} (e : (hidT h H).get? b = some o) : h.get? b = some o ∧ H b = none := by
  have e' : h.get? b = some o := PySem.W.of_hideAll (trk h H) e
  refine ⟨e', ?_⟩
  cases q : H b with
  | none => rfl
  | some x =>
    have hm : b ∈ trk h H := List.mem_filter.mpr ⟨List.mem_range.mpr (Heap.lt_size e'), by simp [q]⟩
    have z : (hidT h H).get? b = none := PySem.W.hideAll_none (trk h H) hm
    rw [z] at e; cases e

def allNews (g h : Heap) (L : Addr) : List (Addr × Obj) := (List.range h.objs.size).filterMap fun a => if a = L ∨ (g.get? a).isSome = true then none else (h.get? a).map fun o => (a, o)
def rest (g h : Heap) (L d : Addr) : List (Addr × Obj) := (allNews g h L).filter fun p => decide (p.1 ≠ d)
end L2

namespace L2
open PySem PySem.Spec PyProof.Rows

structure Mod (K : PySem.W.Frag) (mg : Str → Option Value) (base : Heap) : Prop where
  kin : K.In base
  glob : base.Ns mainGlobals mg
  blt : ∃ mb, base.Ns builtinsNs mb ∧ ∀ x : Str, x ≠ "__name__" → mb x = bootBuiltins x
  nolimit : base.NoLimit

structure Cx where
  prog : Program
  w : World
  K : PySem.W.Frag
  mg : Str → Option Value
  base : Heap
  A : Around
  N : List Str
  s₀ : Shared
  H₀ : Hp
  env : Env
  outer : List Env
  stack : List Env
  ex : List Addr
  fn : Str → Bool
  calm : Bool
  pn : List (Addr × Obj)
  xe : Value → Shared → Prop
def frs (l : List Env) : List Addr := l.filterMap (·.frame)
abbrev Cx.fs (X : Cx) : List Addr := frs X.outer

def Vis (sc : Scope) (x : Str) : Prop := sc.names.lookup x = some .local ∨ sc.names.lookup x = some .cell ∨ sc.names.lookup x = some .free
def Loc (sc : Scope) (x : Str) : Prop := sc.names.lookup x = some .local ∨ sc.names.lookup x = some .cell
def Look (env : Env) (h : Heap) (m : Str → Option Value) (x : Str) (u : Value) : Prop :=
  (env.kindOf x = some .local ∧ m x = some u) ∨ ((env.kindOf x = some .cell ∨ env.kindOf x = some .free) ∧ ∃ c, env.cells.lookup x = some c ∧ h.IsCell c (some u))

structure Cx.Ok (X : Cx) : Prop where
  mod : Mod X.K X.mg X.base
  kind : X.env.scope.kind = .function
  glob : X.env.globals = mainGlobals
  blt : X.env.builtins = builtinsNs
  above : X.s₀.heap.objs.size ≤ X.env.locals
  inj : ∀ x y c, X.env.cells.lookup x = some c → X.env.cells.lookup y = some c → x = y
  has : ∀ x, (X.env.kindOf x = some .cell ∨ X.env.kindOf x = some .free) → ∃ c, X.env.cells.lookup x = some c
  cab : ∀ x c, X.fn x = true → X.env.cells.lookup x = some c → X.s₀.heap.objs.size ≤ c
  hd : X.calm = true → X.A.handled = none
  frames : X.A.frames = some X.stack
  stk : X.stack = X.outer ∨ (X.stack = X.env :: X.outer ∧ X.env.frame = some X.env.locals)
  exf : ∀ b ∈ X.ex, b ≠ X.env.locals ∧ ∀ x c, X.env.cells.lookup x = some c → c ≠ b
  bs : ∀ b o, X.base.get? b = some o → X.s₀.heap.get? b = some o ∧ X.H₀ b = none
  bsz : X.base.objs.size ≤ X.s₀.heap.objs.size
  noex : ∀ b o, X.base.get? b = some o → b ∉ X.ex
  exfs : ∀ b ∈ X.ex, b ∉ X.fs
  funs : X.s₀.heap.FunFrames X.base X.outer
  frf : ∀ b ∈ X.fs, X.H₀ b = none

structure Inv (X : Cx) (pins : List (Addr × Obj)) (σ : List (Option V)) (H : Hp) (s : Shared) : Prop where
  ok : X.Ok
  os : s.os = X.s₀.os
  bare : AllBare s.gens
  base : Un X.fs X.ex X.H₀ H X.s₀.heap s.heap
  loc : ∃ m, s.heap.Ns X.env.locals m ∧ ∀ (i : Nat) (x : Str) (v : V), X.N[i]? = some x → σ[i]? = some (some v) → Vis X.env.scope x → ∃ u, RelV v u ∧ Look X.env s.heap m x u
  cell : ∀ x c, X.env.cells.lookup x = some c → ∃ v, s.heap.IsCell c v
  free : H X.env.locals = none
  freeC : ∀ x c, X.env.cells.lookup x = some c → H c = none
  pin : ∀ p ∈ X.pn ++ pins, s.heap.get? p.1 = some p.2 ∧ H p.1 = none ∧ p.1 ≠ X.env.locals ∧ p.1 ∉ X.fs ∧ ∀ v, p.2.data ≠ .cell v
  hok : HOk X.prog X.w H s.heap
  len : σ.length = X.N.length

section
variable {X : Cx} {pins : List (Addr × Obj)} {σ : List (Option V)} {H H' : Hp} {s : Shared} {h' : Heap}

theorem Cx.Ok.nofr (ok : X.Ok) {b : Addr} {o : Obj} (e : X.base.get? b = some o) : b ∉ X.fs := fun hb => by
  have := (ok.funs.mem hb).1
  rw [e] at this; cases this
theorem Inv.bs (I : Inv X pins σ H s) : ∀ b o, X.base.get? b = some o → s.heap.get? b = some o ∧ H b = none := fun b o e =>
  ⟨I.base.keep b o (I.ok.bs b o e).1 (I.ok.bs b o e).2 (I.ok.nofr e) (I.ok.noex b o e), I.base.free b o (I.ok.bs b o e).1 (I.ok.bs b o e).2 (I.ok.noex b o e)⟩
theorem Inv.bk (I : Inv X pins σ H s) : ∀ b o, X.base.get? b = some o → s.heap.get? b = some o := fun b o e => (I.bs b o e).1
theorem Inv.mod (I : Inv X pins σ H s) : Mod X.K X.mg X.base := I.ok.mod
theorem Inv.kIn (I : Inv X pins σ H s) : X.K.In s.heap := I.ok.mod.kin.keeps I.bk
theorem Inv.nolimit (I : Inv X pins σ H s) : s.heap.NoLimit := I.ok.mod.nolimit.keeps I.bk
theorem Inv.lt (I : Inv X pins σ H s) : X.env.locals < s.heap.objs.size := let ⟨_, hn, _⟩ := I.loc; hn.lt
theorem Inv.sz (I : Inv X pins σ H s) : X.s₀.heap.objs.size ≤ s.heap.objs.size := Nat.le_trans I.ok.above (Nat.le_of_lt I.lt)
theorem Inv.nofs (I : Inv X pins σ H s) {a : Addr} (h : s.heap.objs.size ≤ a) : a ∉ X.fs := fun hb => by
  obtain ⟨_, o, ho, _⟩ := I.ok.funs.mem hb
  exact absurd (Nat.lt_of_lt_of_le (Heap.lt_size ho) (Nat.le_trans I.sz h)) (Nat.lt_irrefl _)
theorem Inv.cne (I : Inv X pins σ H s) : ∀ x c, X.env.cells.lookup x = some c → c ≠ X.env.locals := fun x c e z => by
  obtain ⟨v, o, ho, hd⟩ := I.cell x c e
  obtain ⟨m, ⟨o', es, ep, ho', hd', _⟩, _⟩ := I.loc
  rw [z, ho'] at ho; cases ho; rw [hd'] at hd; cases hd
theorem Inv.funs (I : Inv X pins σ H s) : s.heap.FunFrames X.base X.outer := by
  have all : ∀ (l : List Env), (∀ b ∈ frs l, b ∈ X.fs) → X.s₀.heap.FunFrames X.base l → s.heap.FunFrames X.base l := by
    intro l
    induction l with
    | nil => intro _ _; trivial
    | cons env r ih =>
      intro hs hl
      obtain ⟨hk, ⟨L, o, hf, hn, ho, hd⟩, hr⟩ := hl
      have hL : L ∈ X.fs := hs L (by unfold frs; rw [List.filterMap_cons, hf]; exact List.mem_cons_self)
      obtain ⟨sl, e⟩ := I.base.slot L o ho (I.ok.frf L hL) hL fun z => I.ok.exfs L z hL
      exact ⟨hk, ⟨L, _, hf, hn, e, hd⟩, ih (fun b hb => hs b (by unfold frs; rw [List.filterMap_cons, hf]; exact List.mem_cons_of_mem _ hb)) hr⟩
  exact all X.outer (fun _ hb => hb) I.ok.funs

theorem Inv.stack (I : Inv X pins σ H s) : s.heap.FunFrames X.base X.stack := by
  rcases I.ok.stk with e | ⟨e, hf⟩
  · rw [e]; exact I.funs
  · rw [e]
    obtain ⟨m, hn, _⟩ := I.loc
    refine .cons (by rw [I.ok.kind]; decide) hf hn ?_ I.funs
    exact Heap.get?_none_of_le (Nat.le_trans I.ok.bsz I.ok.above)
theorem Inv.stkSub (I : Inv X pins σ H s) : ∀ b ∈ frs X.stack, b ∈ X.env.locals :: X.fs := fun b hb => by
  rcases I.ok.stk with e | ⟨e, hf⟩
  · rw [e] at hb; exact List.mem_cons_of_mem _ hb
  · rw [e] at hb
    unfold frs at hb
    rw [List.filterMap_cons, hf] at hb
    exact hb
theorem Inv.stkFree (I : Inv X pins σ H s) : ∀ b ∈ frs X.stack, H b = none := fun b hb => by
  rcases List.mem_cons.mp (I.stkSub b hb) with e | hb
  · rw [e]; exact I.free
  · obtain ⟨_, o, ho, _⟩ := I.ok.funs.mem hb
    exact I.base.free b o ho (I.ok.frf b hb) fun z => I.ok.exfs b z hb

theorem Inv.step {g' : Array GenState} {t' : Nat} {d' : Drawn} {ch : List Addr} (I : Inv X pins σ H s)
    (hch : ∀ b ∈ ch, (b ∈ X.ex ∨ X.s₀.heap.objs.size ≤ b) ∧ b ≠ X.env.locals ∧ (∀ x c, X.env.cells.lookup x = some c → c ≠ b) ∧ ∀ p ∈ X.pn ++ pins, p.1 ≠ b)
    (keep : ∀ b o, b ≠ X.env.locals → b ∉ X.fs → b ∉ ch → s.heap.get? b = some o → H b = none → h'.get? b = some o)
    (slot : ∀ b o, b ≠ X.env.locals → b ∈ X.fs → b ∉ ch → s.heap.get? b = some o → H b = none → ∃ sl, h'.get? b = some { o with slots := sl }) (free : ∀ b o, b ∉ ch → s.heap.get? b = some o → H b = none → H' b = none)
    (there : ∀ b o, b ∉ ch → s.heap.get? b = some o → ∃ o', h'.get? b = some o')
    (tups : ∀ b xs, H b = some (.tup xs) → H' b = some (.tup xs)) (frzs : ∀ b o u, H b = some (.frz o u) → H' b = some (.frz o u)) (tbls : ∀ b ps, H b = some (.tbl ps) → ∃ more, H' b = some (.tbl (ps ++ more)))
    (ns : ∀ m, s.heap.Ns X.env.locals m → h'.Ns X.env.locals m) (hok : HOk X.prog X.w H' h') (hg : AllBare g') :
    Inv X pins σ H' { s with heap := h', gens := g', drawn := d', toks := t' } := by
  have neL : ∀ b o, X.s₀.heap.get? b = some o → b ≠ X.env.locals := fun b o e => Nat.ne_of_lt (Nat.lt_of_lt_of_le (Heap.lt_size e) I.ok.above)
  have neC : ∀ b o, X.s₀.heap.get? b = some o → b ∉ X.ex → b ∉ ch := fun b o e hx hb => by
    rcases (hch b hb).1 with z | z
    · exact hx z
    · exact absurd (Nat.lt_of_lt_of_le (Heap.lt_size e) z) (Nat.lt_irrefl _)
  have cellK : ∀ x c, X.env.cells.lookup x = some c → ∀ v, s.heap.IsCell c v → h'.IsCell c v := fun x c e v ⟨o, ho, hd⟩ => by
    have nch : c ∉ ch := fun z => (hch c z).2.2.1 x c e rfl
    by_cases hc : c ∈ X.fs
    · obtain ⟨sl, q⟩ := slot c o (I.cne x c e) hc nch ho (I.freeC x c e)
      exact ⟨_, q, hd⟩
    · exact ⟨o, keep c o (I.cne x c e) hc nch ho (I.freeC x c e), hd⟩
  refine ⟨I.ok, I.os, hg, ⟨fun b o e n hb hx => ?_, fun b o e n hb hx => ?_, fun b o e n hx => ?_, fun b o e hx => ?_, fun b xs e => tups b xs (I.base.tups b xs e), fun b o xs e => frzs b o xs (I.base.frzs b o xs e), fun b ps e => ?_⟩, ?_, fun x c e => ?_, ?_, fun x c e => ?_, fun p hp => ?_, hok, I.len⟩
  · exact keep b o (neL b o e) hb (neC b o e hx) (I.base.keep b o e n hb hx) (I.base.free b o e n hx)
  · obtain ⟨sl, e1⟩ := I.base.slot b o e n hb hx
    obtain ⟨sl', e2⟩ := slot b _ (neL b o e) hb (neC b o e hx) e1 (I.base.free b o e n hx)
    exact ⟨sl', e2⟩
  · obtain ⟨o', e1⟩ := I.base.there b o e hx
    exact free b o' (neC b o e hx) e1 (I.base.free b o e n hx)
  · obtain ⟨o', e1⟩ := I.base.there b o e hx
    exact there b o' (neC b o e hx) e1
  · obtain ⟨m1, e1⟩ := I.base.tbls b ps e
    obtain ⟨m2, e2⟩ := tbls b _ e1
    exact ⟨m1 ++ m2, by rw [e2, Array.append_assoc]⟩
  · obtain ⟨m, hn, hl⟩ := I.loc
    refine ⟨m, ns m hn, fun i x v e1 e2 e3 => ?_⟩
    obtain ⟨u, r, l⟩ := hl i x v e1 e2 e3
    refine ⟨u, r, ?_⟩
    rcases l with l | ⟨k, c, e, z⟩
    · exact .inl l
    · exact .inr ⟨k, c, e, cellK x c e _ z⟩
  · obtain ⟨v, z⟩ := I.cell x c e
    exact ⟨v, cellK x c e v z⟩
  · obtain ⟨m, ⟨o, _, _, ho, _⟩, _⟩ := I.loc
    exact free _ o (fun z => (hch _ z).2.1 rfl) ho I.free
  · obtain ⟨v, o, ho, hd⟩ := I.cell x c e
    exact free c o (fun z => (hch c z).2.2.1 x c e rfl) ho (I.freeC x c e)
  · obtain ⟨e, n, ne, nf, d⟩ := I.pin p hp
    have nch : p.1 ∉ ch := fun z => (hch p.1 z).2.2.2 p hp rfl
    exact ⟨keep p.1 p.2 ne nf nch e n, free p.1 p.2 nch e n, ne, nf, d⟩
theorem Inv.un {t' : Nat} (I : Inv X pins σ H s) (u : Un X.fs [] H H' s.heap h') (hok : HOk X.prog X.w H' h') : Inv X pins σ H' { s with heap := h', toks := t' } := by
  obtain ⟨m, ⟨o, es, ep, ho, r⟩, _⟩ := id I.loc
  obtain ⟨sl, hL⟩ := u.any ho I.free (by simp)
  exact I.step (g' := s.gens) (d' := s.drawn) (ch := []) (fun _ z => nomatch z) (fun b o _ hb _ e n => u.keep b o e n hb (by simp)) (fun b o _ hb _ e n => u.slot b o e n hb (by simp)) (fun b o _ e n => u.free b o e n (by simp)) (fun b o _ e => u.there b o e (by simp)) u.tups u.frzs u.tbls (fun m' hm => by
    obtain ⟨o', es', ep', ho', r'⟩ := hm
    rw [ho] at ho'; cases ho'
    exact ⟨_, es', ep', hL, r'⟩) hok I.bare
theorem Inv.call {g' : Array GenState} {t' : Nat} {d' : Drawn} {ch : List Addr} (I : Inv X pins σ H s) (u : Un (frs X.stack) ch H H' s.heap h') (hok : HOk X.prog X.w H' h') (hg : AllBare g')
    (hch : ∀ b ∈ ch, (b ∈ X.ex ∨ X.s₀.heap.objs.size ≤ b) ∧ b ≠ X.env.locals ∧ (∀ x c, X.env.cells.lookup x = some c → c ≠ b) ∧ ∀ p ∈ X.pn ++ pins, p.1 ≠ b) :
    Inv X pins σ H' { s with heap := h', gens := g', drawn := d', toks := t' } := by
  obtain ⟨m, ⟨o, es, ep, ho, r⟩, _⟩ := id I.loc
  obtain ⟨sl, hL⟩ := u.any ho I.free fun z => (hch _ z).2.1 rfl
  exact I.step (ch := ch) hch (fun b o hL hb hc e n => u.keep b o e n (fun z => (List.mem_cons.mp (I.stkSub b z)).elim hL hb) hc) (fun b o _ _ hc e n => u.any e n hc) (fun b o hc e n => u.free b o e n hc) (fun b o hc e => u.there b o e hc) u.tups u.frzs u.tbls (fun m' hm => by
    obtain ⟨o', es', ep', ho', r'⟩ := hm
    rw [ho] at ho'; cases ho'
    exact ⟨_, es', ep', hL, r'⟩) hok hg
theorem Inv.turned {t' : Nat} {it : Addr} (I : Inv X pins σ H s) (k : ∀ b o, b ≠ it → s.heap.get? b = some o → h'.get? b = some o) (hn : H it = none) (hL : it ≠ X.env.locals)
    (h1 : it ∈ X.ex ∨ X.s₀.heap.objs.size ≤ it) (h2 : ∀ x c, X.env.cells.lookup x = some c → c ≠ it) (h3 : ∀ p ∈ X.pn ++ pins, p.1 ≠ it) : Inv X pins σ H { s with heap := h', toks := t' } := by
  have nit : ∀ b u, H b = some u → b ≠ it := fun b u e z => by rw [z, hn] at e; cases e
  refine I.step (g' := s.gens) (d' := s.drawn) (ch := [it]) (fun b hb => ?_) (fun b o _ _ hc e _ => k b o (fun z => hc (by simp [z])) e) (fun b o _ _ hc e _ => ⟨o.slots, k b o (fun z => hc (by simp [z])) e⟩) (fun _ _ _ _ n => n)
    (fun b o hc e => ⟨o, k b o (fun z => hc (by simp [z])) e⟩) (fun _ _ e => e) (fun _ _ _ e => e) (fun b ps e => ⟨#[], by rw [e]; simp⟩) (fun m hm => ?_) (fun b u e => ?_) I.bare
  · have e : b = it := by simpa using hb
    subst e
    exact ⟨h1, hL, h2, h3⟩
  · obtain ⟨o, es, ep, ho, r⟩ := hm
    exact ⟨o, es, ep, k _ o (Ne.symm hL) ho, r⟩
  · refine (I.hok b u e).stay (fun c v hc q => k c v ?_ q) (fun _ q => q) fun _ _ q => q
    rcases hc with z | z
    · rw [z]; exact nit b u e
    · exact nit c _ z
theorem Inv.tok (I : Inv X pins σ H s) (t : Nat) : Inv X pins σ H { s with toks := t } := I.un (h' := s.heap) (t' := t) Un.refl I.hok
theorem Inv.kept {t' : Nat} (I : Inv X pins σ H s) (k : ∀ b u, s.heap.get? b = some u → h'.get? b = some u) : Inv X pins σ H { s with heap := h', toks := t' } := I.un (Un.kept k) (I.hok.kept k)
theorem Inv.laid {a : Addr} {o : HO} {t' : Nat} (I : Inv X pins σ H s) (k : ∀ b u, s.heap.get? b = some u → h'.get? b = some u) (hp : s.heap.objs.size ≤ a) (new : ObjOk X.prog X.w (upd H a o) h' a o) :
    Inv X pins σ (upd H a o) { s with heap := h', toks := t' } := I.un (Un.laid k hp (I.hok.fresh hp)) (I.hok.laid k hp new)
theorem Inv.write {x e : Addr} {o : HO} {t' : Nat} (I : Inv X pins σ H s) (mu : Mut (H x)) (he : e = x ∨ H e = some (.own x)) (k : ∀ b u, b ≠ e → s.heap.get? b = some u → h'.get? b = some u) (heo : ∃ u, h'.get? e = some u)
    (new : ObjOk X.prog X.w (upd H x o) h' x o) : Inv X pins σ (upd H x o) { s with heap := h', toks := t' } := I.un (Un.write mu he k heo) (I.hok.write mu he k heo new)
theorem Inv.weak {σ' : List (Option V)} (I : Inv X pins σ H s) (hl : σ'.length = σ.length) (w : ∀ (i : Nat) v, σ'[i]? = some (some v) → σ[i]? = some (some v)) : Inv X pins σ' H s :=
  ⟨I.ok, I.os, I.bare, I.base, let ⟨m, hn, hl'⟩ := I.loc; ⟨m, hn, fun i x v e1 e2 e3 => hl' i x v e1 (w i v e2) e3⟩, I.cell, I.free, I.freeC, I.pin, I.hok, hl.trans I.len⟩
theorem Inv.pins_of {pins' : List (Addr × Obj)} (I : Inv X pins σ H s) (h : ∀ p ∈ pins', s.heap.get? p.1 = some p.2 ∧ H p.1 = none ∧ p.1 ≠ X.env.locals ∧ p.1 ∉ X.fs ∧ ∀ v, p.2.data ≠ .cell v) : Inv X pins' σ H s :=
  ⟨I.ok, I.os, I.bare, I.base, I.loc, I.cell, I.free, I.freeC, fun p hp => (List.mem_append.mp hp).elim (fun z => I.pin p (List.mem_append_left _ z)) (h p), I.hok, I.len⟩

theorem nodup_ix {N : List Str} (hN : N.Nodup) {i j : Nat} {x : Str} (a : N[i]? = some x) (b : N[j]? = some x) : i = j := by
  obtain ⟨h1, e1⟩ := List.getElem?_eq_some_iff.mp a
  obtain ⟨h2, e2⟩ := List.getElem?_eq_some_iff.mp b
  exact (List.getElem_inj hN).mp (e1.trans e2.symm)

theorem store_ok2 {M : Model} {A : Around} {E : Value → Shared → Prop} {i : Nat} {x : Str} {v : V} {u : Value} {Q : Unit → Shared → Prop} (I : Inv X pins σ H s) (hN : X.N.Nodup) (hi : X.N[i]? = some x) (hx : Loc X.env.scope x) (r : RelV v u)
    (h : ∀ s', Inv X pins (σ.set i (some v)) H s' → (∃ a, Heap.SameBut a s.heap s'.heap ∧ (a = X.env.locals ∨ X.env.cells.lookup x = some a)) → Q () s') (hf : X.fn x = true ∨ X.env.scope.names.lookup x = some .local := by first | exact .inl rfl | exact .inr rfl | assumption) : wpAny M A (storeName X.env x u) Q E s := by
  obtain ⟨m, hn, hl⟩ := id I.loc
  have hcls : (X.env.scope.kind == .class || (X.env.scope.kind == .module && X.env.locals != X.env.globals)) = false := by rw [I.ok.kind]; rfl
  have hiσ : i < σ.length := by rw [I.len]; exact (List.getElem?_eq_some_iff.mp hi).1
  have cne := I.cne
  have tracked : ∀ {a : Addr} {h' : Heap}, (∃ o, s.heap.get? a = some o ∧ H a = none) → Heap.SameBut a s.heap h' → HOk X.prog X.w H h' := fun {a h'} ha hs b ob e => by
    obtain ⟨_, _, hfree⟩ := ha
    refine (I.hok b ob e).stay (fun c w' hc q => (hs.2 c ?_).trans q) (fun _ q => q) fun _ _ q => q
    rintro rfl
    rcases hc with rfl | hc
    · rw [hfree] at e; cases e
    · rw [hfree] at hc; cases hc
  rcases hx with hk | hk
  · refine wpAny_storeName_local hk hn (fun h' hn' hs => ?_) hcls
    obtain ⟨oL, _, _, hoL, _⟩ := id hn
    refine h _ ⟨I.ok, I.os, I.bare, ⟨fun b o e n hb hx => ?_, fun b o e n hb hx => ?_, I.base.free, fun b o e hx => ?_, I.base.tups, I.base.frzs, I.base.tbls⟩, ⟨_, hn', fun j y v' e1 e2 e3 => ?_⟩, fun y c e => ?_, I.free, I.freeC, fun p hp => ?_, tracked ⟨oL, hoL, I.free⟩ hs, by simpa using I.len⟩ ⟨_, hs, .inl rfl⟩
    · exact (hs.2 b (Nat.ne_of_lt (Nat.lt_of_lt_of_le (Heap.lt_size e) I.ok.above))).trans (I.base.keep b o e n hb hx)
    · obtain ⟨sl, e1⟩ := I.base.slot b o e n hb hx
      exact ⟨sl, (hs.2 b (Nat.ne_of_lt (Nat.lt_of_lt_of_le (Heap.lt_size e) I.ok.above))).trans e1⟩
    · obtain ⟨o', e1⟩ := I.base.there b o e hx
      exact ⟨o', (hs.2 b (Nat.ne_of_lt (Nat.lt_of_lt_of_le (Heap.lt_size e) I.ok.above))).trans e1⟩
    · by_cases hj : j = i
      · subst hj
        rw [hi] at e1; cases e1
        rw [List.getElem?_set_self hiσ] at e2
        cases e2
        exact ⟨u, r, .inl ⟨hk, by simp⟩⟩
      · rw [List.getElem?_set_ne (Ne.symm hj)] at e2
        obtain ⟨u', r', q⟩ := hl j y v' e1 e2 e3
        refine ⟨u', r', ?_⟩
        rcases q with ⟨k, e⟩ | ⟨k, c, e, z⟩
        · refine .inl ⟨k, ?_⟩
          have : y ≠ x := fun e => hj (nodup_ix hN e1 (e ▸ hi))
          simp [this, e]
        · exact .inr ⟨k, c, e, z.sameBut hs (cne y c e)⟩
    · obtain ⟨w', z⟩ := I.cell y c e
      exact ⟨w', z.sameBut hs (cne y c e)⟩
    · obtain ⟨e, n, ne, nf, d⟩ := I.pin p hp
      exact ⟨(hs.2 p.1 ne).trans e, n, ne, nf, d⟩
  · have hfn : X.fn x = true := by
      rcases hf with z | z
      · exact z
      · rw [z] at hk; cases hk
    obtain ⟨c, hc⟩ := I.ok.has x (.inl hk)
    obtain ⟨w', z⟩ := I.cell x c hc
    refine wpAny_storeName_cell I.ok.kind hk hc z (fun h' hc' hs => ?_)
    obtain ⟨oc, hoc, hocd⟩ := id z
    refine h { s with heap := h' } ⟨I.ok, I.os, I.bare, ⟨fun b o e n hb hx => ?_, fun b o e n hb hx => ?_, I.base.free, fun b o e hx => ?_, I.base.tups, I.base.frzs, I.base.tbls⟩, ⟨m, hn.sameBut hs (Ne.symm (cne x c hc)), fun j y v' e1 e2 e3 => ?_⟩, fun y c' e => ?_, I.free, I.freeC, fun p hp => ?_, tracked ⟨oc, hoc, I.freeC x c hc⟩ hs, by simpa using I.len⟩ ⟨c, hs, .inr hc⟩
    · exact (hs.2 b (Nat.ne_of_lt (Nat.lt_of_lt_of_le (Heap.lt_size e) (I.ok.cab x c hfn hc)))).trans (I.base.keep b o e n hb hx)
    · obtain ⟨sl, e1⟩ := I.base.slot b o e n hb hx
      exact ⟨sl, (hs.2 b (Nat.ne_of_lt (Nat.lt_of_lt_of_le (Heap.lt_size e) (I.ok.cab x c hfn hc)))).trans e1⟩
    · obtain ⟨o', e1⟩ := I.base.there b o e hx
      exact ⟨o', (hs.2 b (Nat.ne_of_lt (Nat.lt_of_lt_of_le (Heap.lt_size e) (I.ok.cab x c hfn hc)))).trans e1⟩
    · by_cases hj : j = i
      · subst hj
        rw [hi] at e1; cases e1
        rw [List.getElem?_set_self hiσ] at e2
        cases e2
        exact ⟨u, r, .inr ⟨.inl hk, c, hc, hc'⟩⟩
      · rw [List.getElem?_set_ne (Ne.symm hj)] at e2
        obtain ⟨u', r', q⟩ := hl j y v' e1 e2 e3
        refine ⟨u', r', ?_⟩
        rcases q with q | ⟨k, c', e, z'⟩
        · exact .inl q
        · refine .inr ⟨k, c', e, z'.sameBut hs ?_⟩
          rintro rfl
          exact hj (nodup_ix hN e1 (I.ok.inj _ _ _ e hc ▸ hi))
    · by_cases hcc : c' = c
      · subst hcc; exact ⟨_, hc'⟩
      · obtain ⟨w2, z2⟩ := I.cell y c' e
        exact ⟨w2, z2.sameBut hs hcc⟩
    · obtain ⟨e, n, ne, nf, d⟩ := I.pin p hp
      refine ⟨(hs.2 p.1 ?_).trans e, n, ne, nf, d⟩
      intro q
      rw [q, hoc] at e
      have q' : oc = p.2 := Option.some.inj e
      exact d w' (by rw [← q']; exact hocd)
theorem store_ok {M : Model} {A : Around} {E : Value → Shared → Prop} {i : Nat} {x : Str} {v : V} {u : Value} {Q : Unit → Shared → Prop} (I : Inv X pins σ H s) (hN : X.N.Nodup) (hi : X.N[i]? = some x) (hx : Loc X.env.scope x) (r : RelV v u)
    (h : ∀ s', Inv X pins (σ.set i (some v)) H s' → Q () s') (hf : X.fn x = true ∨ X.env.scope.names.lookup x = some .local := by first | exact .inl rfl | exact .inr rfl | assumption) : wpAny M A (storeName X.env x u) Q E s :=
  store_ok2 I hN hi hx r (fun s' I' _ => h s' I') hf
theorem Inv.call' {s' : Shared} {ch : List Addr} (I : Inv X pins σ H s) (ho : s'.os = s.os) (u : Un (frs X.stack) ch H H' s.heap s'.heap) (hok : HOk X.prog X.w H' s'.heap) (hg : AllBare s'.gens)
    (hch : ∀ b ∈ ch, (b ∈ X.ex ∨ X.s₀.heap.objs.size ≤ b) ∧ b ≠ X.env.locals ∧ (∀ x c, X.env.cells.lookup x = some c → c ≠ b) ∧ ∀ p ∈ X.pn ++ pins, p.1 ≠ b) : Inv X pins σ H' s' := by
  obtain ⟨h', g', d', t', o'⟩ := s'
  have e : o' = s.os := ho
  subst e
  exact I.call (g' := g') (t' := t') (d' := d') u hok hg hch
end

abbrev XK := Value → Option Addr → Hp → Prop
abbrev St := List (Option V)
abbrev VK := V → Hp → Prop
abbrev TE := St → Hp → VK → Prop
abbrev TT := St → Hp → (Bool → Hp → Prop) → Prop
abbrev TA := St → Hp → (List V → Hp → Prop) → Prop
structure Ends where
  nx : St → Hp → Prop
  rt : VK
  bk : St → Hp → Prop := fun _ _ => False
  ct : St → Hp → Prop := fun _ _ => False
abbrev TS := Ends → St → Hp → Prop

def EP (X : Cx) (pins : List (Addr × Obj)) (σ : St) (Q : VK) (u : Value) (s' : Shared) : Prop := ∃ v H', Inv X pins σ H' s' ∧ RelV v u ∧ Q v H'
def TP (X : Cx) (pins : List (Addr × Obj)) (σ : St) (Q : Bool → Hp → Prop) (b : Bool) (s' : Shared) : Prop := ∃ H', Inv X pins σ H' s' ∧ Q b H'
def AP (X : Cx) (pins : List (Addr × Obj)) (σ : St) (Q : List V → Hp → Prop) (us : List Value) (s' : Shared) : Prop := ∃ vs H', Inv X pins σ H' s' ∧ Vals vs us ∧ Q vs H'
def SP (X : Cx) (pins : List (Addr × Obj)) (D : Ends) (f : Flow) (s' : Shared) : Prop :=
  match f with
  | .next => ∃ σ' H', Inv X pins σ' H' s' ∧ D.nx σ' H'
  | .brk => ∃ σ' H', Inv X pins σ' H' s' ∧ D.bk σ' H'
  | .cont => ∃ σ' H', Inv X pins σ' H' s' ∧ D.ct σ' H'
  | .ret u => ∃ v σ' H', Inv X pins σ' H' s' ∧ RelV v u ∧ D.rt v H'

def PE (X : Cx) (e : Expr) (t : TE) : Prop :=
  ∀ (pins : List (Addr × Obj)) (s : Shared) (σ : St) (H : Hp) (Q : VK), Inv X pins σ H s → t σ H Q → wpAny (model X.prog X.w) X.A (eval e X.env) (EP X pins σ Q) X.xe s
def PT (X : Cx) (e : Expr) (t : TT) : Prop :=
  ∀ (pins : List (Addr × Obj)) (s : Shared) (σ : St) (H : Hp) (Q : Bool → Hp → Prop), Inv X pins σ H s → t σ H Q → wpAny (model X.prog X.w) X.A (isTrue e X.env (eval e X.env)) (TP X pins σ Q) X.xe s
def PW (X : Cx) (e : Expr) (t : TT) : Prop :=
  ∀ (whole : Sem Value) (pins : List (Addr × Obj)) (s : Shared) (σ : St) (H : Hp) (Q : Bool → Hp → Prop), Inv X pins σ H s → t σ H Q → wpAny (model X.prog X.w) X.A (isTrue e X.env whole) (TP X pins σ Q) X.xe s
theorem PW.pt {X : Cx} {e : Expr} {t : TT} (h : PW X e t) : PT X e t := h _
def PA (X : Cx) (es : List Expr) (t : TA) : Prop :=
  ∀ (pos : Pos) (pins : List (Addr × Obj)) (s : Shared) (σ : St) (H : Hp) (Q : List V → Hp → Prop), Inv X pins σ H s → t σ H Q → wpAny (model X.prog X.w) X.A (spliced (backTo pos (starEach es X.env))) (AP X pins σ Q) X.xe s
def PS (X : Cx) (st : Stmt) (t : TS) : Prop :=
  ∀ (pins : List (Addr × Obj)) (s : Shared) (σ : St) (H : Hp) (D : Ends), Inv X pins σ H s → t D σ H → wpAny (model X.prog X.w) X.A (exec st X.env) (SP X pins D) X.xe s
def PSs (X : Cx) (st : List Stmt) (t : TS) : Prop :=
  ∀ (pins : List (Addr × Obj)) (s : Shared) (σ : St) (H : Hp) (D : Ends), Inv X pins σ H s → t D σ H → wpAny (model X.prog X.w) X.A (execs st X.env) (SP X pins D) X.xe s
theorem thn {α : Type} {t : Sem α} {Q Q' : α → Shared → Prop} {M : Model} {A : Around} {E : Value → Shared → Prop} {s : Shared} (h : wpAny M A t Q E s) (hQ : ∀ a s, Q a s → Q' a s) : wpAny M A t Q' E s := wpAny_mono h hQ fun _ _ x => x
end L2

namespace L2
open PySem PySem.Spec PyProof.Rows
section
variable {X : Cx}

def tVar (i : Nat) : TE := fun σ H Q => ∃ v, σ[i]? = some (some v) ∧ Q v H
def tC (v : V) : TE := fun _ H Q => Q v H
theorem pe_var {i : Nat} {x : Str} {pos : Pos} (hN : X.N[i]? = some x) (hv : Vis X.env.scope x) (hd : (x == ("__debug__" : Str)) = false := by decide) (hcd : (x == ("__classdict__" : Str)) = false := by decide) : PE X (.Name x pos) (tVar i) := by
  intro pins s σ H Q I h
  obtain ⟨v, e, h⟩ := h
  obtain ⟨m, hn, hl⟩ := I.loc
  obtain ⟨u, r, l⟩ := hl i x v hN e hv
  have fin : EP X pins σ Q u s := ⟨v, H, I, r, h⟩
  rcases l with ⟨hk, hm⟩ | ⟨hk, c, hc, hcell⟩
  · exact wpAny_Name (wpAny_loadName_local I.ok.kind hk hn hm fin) hd
  · rcases hk with hk | hk
    · exact wpAny_Name (wpAny_loadName_cell I.ok.kind hk hc hcell fin) hd
    · exact wpAny_Name (wpAny_loadName_free I.ok.kind hk hc hcell fin hcd) hd
theorem pe_int {i j pos} : PE X (.Constant (.int i) j pos) (tC (.int i)) := fun _ _ _ H _ I h => wpAny_Constant_int ⟨.int i, H, I.tok _, ⟨_, rfl⟩, h⟩
theorem pe_bl {b j pos} : PE X (.Constant (.bool b) j pos) (tC (.bl b)) := fun _ _ _ H _ I h => Constant_bool ⟨.bl b, H, I, rfl, h⟩
theorem pe_str {x j pos} : PE X (.Constant (.str x) j pos) (tC (.str x)) := fun _ _ _ H _ I h => Calls.Constant_str ⟨.str x, H, I.tok _, ⟨_, rfl⟩, h⟩

def Gl (X : Cx) (x : Str) : Prop := X.env.kindOf x = some .globalImplicit
theorem ld_glob {E : Value → Shared → Prop} {pins : List (Addr × Obj)} {s : Shared} {σ : St} {H : Hp} {x : Str} {u : Value} {pos : Pos} {Q : Value → Shared → Prop} (I : Inv X pins σ H s) (hg : Gl X x) (hm : X.mg x = some u) (h : Q u s)
    (hd : (x == ("__debug__" : Str)) = false := by decide) : wpAny (model X.prog X.w) X.A (eval (.Name x pos) X.env) Q E s :=
  Calls.Name_function_global I.ok.kind hg (Calls.loadGlobal_global (by rw [I.ok.glob]; exact I.mod.glob.keeps I.bk) hm h) hd
theorem ld_blt {E : Value → Shared → Prop} {pins : List (Addr × Obj)} {s : Shared} {σ : St} {H : Hp} {x : Str} {u : Value} {pos : Pos} {Q : Value → Shared → Prop} (I : Inv X pins σ H s) (hg : Gl X x) (hm : X.mg x = none) (hv : bootBuiltins x = some u) (h : Q u s)
    (hn : x ≠ "__name__" := by decide) (hd : (x == ("__debug__" : Str)) = false := by decide) : wpAny (model X.prog X.w) X.A (eval (.Name x pos) X.env) Q E s := by
  obtain ⟨mb, h1, h2⟩ := I.mod.blt
  exact Calls.Name_function_global I.ok.kind hg (Calls.loadGlobal_builtin (by rw [I.ok.glob]; exact I.mod.glob.keeps I.bk) hm (by rw [I.ok.blt]; exact h1.keeps I.bk) ((h2 x hn).trans hv) h) hd
theorem pe_bltn {x : Str} {v : V} {u : Value} {pos : Pos} (hg : Gl X x) (hm : X.mg x = none) (hv : bootBuiltins x = some u) (r : RelV v u) (hn : x ≠ "__name__" := by decide) (hd : (x == ("__debug__" : Str)) = false := by decide) : PE X (.Name x pos) (tC v) :=
  fun _ _ _ H _ I h => ld_blt I hg hm hv ⟨v, H, I, r, h⟩ hn hd

variable {a b : Expr} {ta tb : TE} {pos : Pos}
def tB (t : TE) : TT := fun σ H Q => t σ H fun x H1 => ∃ c, x = .bl c ∧ Q c H1
theorem pt_val {e : Expr} {t : TE} (h : PE X e t) (he : ∀ whole, isTrue e X.env whole = (do let v ← whole; standAt e.pos; holding [v] (truthy v)) := by intro _; rfl) : PT X e (tB t) := by
  intro pins s σ H Q I hw
  refine isTrue_plain (thn (h pins s σ H _ I hw) fun v s1 ⟨x, H1, I1, r1, q1⟩ => ?_) (he _)
  obtain ⟨d, rfl, q⟩ := q1
  cases r1
  exact wpAny_truthy_bool ⟨H1, I1, q⟩

variable {tA tB' : TT} {rest : List Expr}
def tAnd (t u : TT) : TT := fun σ H Q => t σ H fun c H1 => if c = true then u σ H1 Q else Q false H1
def tOr (t u : TT) : TT := fun σ H Q => t σ H fun c H1 => if c = true then Q true H1 else u σ H1 Q
def tNot (t : TT) : TT := fun σ H Q => t σ H fun c H1 => Q (!c) H1
theorem pw_or1 (ha : PT X a tA) : PW X (.BoolOp .Or [a] pos) tA := by
  intro wh pins s σ H Q I h
  refine isTrue_or (thn (ha pins s σ H Q I h) fun c s1 e => ?_)
  cases c with
  | false => exact isTrue_or_nil e
  | true => exact e
theorem pw_or (ha : PT X a tA) (hb : PW X (.BoolOp .Or (b :: rest) pos) tB') : PW X (.BoolOp .Or (a :: b :: rest) pos) (tOr tA tB') := by
  intro wh pins s σ H Q I h
  refine isTrue_or (thn (ha pins s σ H _ I h) fun c s1 ⟨H1, I1, q1⟩ => ?_)
  cases c with
  | true => exact ⟨H1, I1, q1⟩
  | false => exact hb wh pins s1 σ H1 Q I1 q1
theorem pt_not (ha : PT X a tA) : PT X (.UnaryOp .Not a pos) (tNot tA) := by
  intro pins s σ H Q I h
  exact isTrue_not (ha pins s σ H (fun c H1 => Q (!c) H1) I h)
def tAndV (ta tb : TE) : TE := fun σ H Q => ta σ H fun x H1 => ∃ c, x = .bl c ∧ if c = true then tb σ H1 Q else Q (.bl false) H1
def tNotV (ta : TE) : TE := fun σ H Q => ta σ H fun x H1 => ∃ c, x = .bl c ∧ Q (.bl (!c)) H1
theorem pe_one {op} {t : TE} (h : PE X a t) : PE X (.BoolOp op [a] pos) t := fun pins s σ H Q I hw => BoolOp_one (h pins s σ H Q I hw)
theorem pe_and (ha : PE X a ta) (hb : PE X (.BoolOp .And (b :: rest) pos) tb) : PE X (.BoolOp .And (a :: b :: rest) pos) (tAndV ta tb) := by
  intro pins s σ H Q I h
  refine BoolOp_and (thn (ha pins s σ H _ I h) fun v s1 ⟨x, H1, I1, r1, q1⟩ => ?_)
  obtain ⟨c, rfl, q1⟩ := q1
  cases r1
  refine wpAny_truthy_bool ?_
  cases c with
  | true => exact hb pins s1 σ H1 Q I1 q1
  | false => exact ⟨.bl false, H1, I1, rfl, q1⟩
theorem pe_not (ha : PE X a ta) : PE X (.UnaryOp .Not a pos) (tNotV ta) := by
  intro pins s σ H Q I h
  refine UnaryOp_ (thn (ha pins s σ H _ I h) fun v s1 ⟨x, H1, I1, r1, q1⟩ => ?_)
  obtain ⟨c, rfl, q1⟩ := q1
  cases r1
  exact not_of (wpAny_truthy_bool ⟨.bl (!c), H1, I1, rfl, q1⟩)
end
end L2

namespace L2
open PySem PySem.Spec PyProof.Rows

def SqL (K : PySem.W.Frag) (H : Hp) (a : Addr) (xs : List V) : Prop :=
  Rd H a (.lst xs) ∨
    ∃ (o : Obj) (its : Array Value) (n : Nat), K.lookup a = some o ∧ o.cls = .type "list" ∧ o.dict = none ∧ o.data = .seq its n ∧ its.size ≤ sizeLine ∧ Vals xs its.toList
def SqT (K : PySem.W.Frag) (H : Hp) (a : Addr) (xs : List V) : Prop :=
  Rd H a (.tup xs) ∨
    ∃ (o : Obj) (its : Array Value) (n : Nat), K.lookup a = some o ∧ o.cls = .type "tuple" ∧ o.data = .seq its n ∧ its.size ≤ sizeLine ∧ Vals xs its.toList
def absV : Value → Option V
  | .none => some .non
  | .bool b => some (.bl b)
  | .int i _ => some (.int i)
  | .str x _ => some (.str x)
  | .bytes b _ => some (.byt b)
  | .float b _ => some (.flt b)
  | .ref a => some (.ref a)
  | .type n => some (.ty n)
  | _ => none
theorem RelV.abs {x : V} {u : Value} (r : RelV x u) : absV u = some x := by
  cases x with
  | non => cases r; rfl
  | bl _ => cases r; rfl
  | int _ => obtain ⟨t, rfl⟩ := r; rfl
  | str _ => obtain ⟨t, rfl⟩ := r; rfl
  | byt _ => obtain ⟨t, rfl⟩ := r; rfl
  | flt _ => obtain ⟨t, rfl⟩ := r; rfl
  | ref _ => cases r; rfl
  | ty _ => cases r; rfl
theorem RelV.inj {x y : V} {u : Value} (r : RelV x u) (q : RelV y u) : x = y := Option.some.inj (r.abs.symm.trans q.abs)
theorem Vals.inj : ∀ {xs ys : List V} {us : List Value}, Vals xs us → Vals ys us → xs = ys
  | _, _, _, .nil, .nil => rfl
  | _, _, _, .cons r t, .cons r' t' => by rw [r.inj r', Vals.inj t t']
section
variable {X : Cx} {pins : List (Addr × Obj)} {σ : St} {H : Hp} {s : Shared} {a : Addr} {xs ys : List V}
theorem SqL.of {K : PySem.W.Frag} (h : H a = some (.lst xs)) : SqL K H a xs := .inl (.inl h)
theorem SqT.of {K : PySem.W.Frag} (h : H a = some (.tup xs)) : SqT K H a xs := .inl (.inl h)
theorem Inv.list (I : Inv X pins σ H s) (h : SqL X.K H a xs) : ∃ its : List Value, Vals xs its ∧ PlainL s.heap a its.toArray ∧ xs.length ≤ sizeLine := by
  rcases h with h | ⟨o, its, n, hk, hc, hd, hs, hz, r⟩
  · obtain ⟨z, its, n, r, e⟩ := h.ok I.hok
    exact ⟨its, r, ⟨_, n, e, rfl, rfl, rfl⟩, z⟩
  · refine ⟨its.toList, r, ⟨o, n, I.kIn a o hk, hc, hd, by simpa using hs⟩, ?_⟩
    have e := r.length
    simp only [Array.length_toList] at e
    omega
theorem Inv.tuple (I : Inv X pins σ H s) (h : SqT X.K H a xs) : ∃ its : List Value, Vals xs its ∧ IsTup s.heap a its.toArray ∧ xs.length ≤ sizeLine := by
  rcases h with h | ⟨o, its, n, hk, hc, hs, hz, r⟩
  · obtain ⟨z, its, r, p⟩ := h.ok I.hok
    exact ⟨its, r, p.tup, z⟩
  · refine ⟨its.toList, r, ⟨o, I.kIn a o hk, hc, n, by simpa using hs⟩, ?_⟩
    have e := r.length
    simp only [Array.length_toList] at e
    omega
theorem Inv.list_inj (I : Inv X pins σ H s) (h : SqL X.K H a xs) (h' : SqL X.K H a ys) : xs = ys := by
  obtain ⟨its, r, ⟨o, n, e, _, _, d⟩, _⟩ := I.list h
  obtain ⟨its', r', ⟨o', n', e', _, _, d'⟩, _⟩ := I.list h'
  rw [e] at e'; cases e'
  rw [d] at d'
  injection d' with d1 _
  have : its = its' := by simpa using congrArg Array.toList d1
  subst this
  exact r.inj r'
theorem Inv.tuple_inj (I : Inv X pins σ H s) (h : SqT X.K H a xs) (h' : SqT X.K H a ys) : xs = ys := by
  obtain ⟨its, r, ⟨o, e, _, n, d⟩, _⟩ := I.tuple h
  obtain ⟨its', r', ⟨o', e', _, n', d'⟩, _⟩ := I.tuple h'
  rw [e] at e'; cases e'
  rw [d] at d'
  injection d' with d1 _
  have : its = its' := by simpa using congrArg Array.toList d1
  subst this
  exact r.inj r'
end

abbrev Cx.wish (X : Cx) (E : Value → Shared → Prop) : Cx := { X with xe := E }
abbrev Cx.nox (X : Cx) : Cx := X.wish fun _ _ => False
theorem Cx.Ok.wish {X : Cx} (ok : X.Ok) (E : Value → Shared → Prop) : (X.wish E).Ok :=
  ⟨ok.mod, ok.kind, ok.glob, ok.blt, ok.above, ok.inj, ok.has, ok.cab, ok.hd, ok.frames, ok.stk, ok.exf, ok.bs, ok.bsz, ok.noex, ok.exfs, ok.funs, ok.frf⟩
theorem Cx.Ok.unwish {X : Cx} {E : Value → Shared → Prop} (ok : (X.wish E).Ok) : X.Ok :=
  ⟨ok.mod, ok.kind, ok.glob, ok.blt, ok.above, ok.inj, ok.has, ok.cab, ok.hd, ok.frames, ok.stk, ok.exf, ok.bs, ok.bsz, ok.noex, ok.exfs, ok.funs, ok.frf⟩
section
variable {X : Cx} {pins : List (Addr × Obj)} {σ : St} {H : Hp} {s : Shared} {E : Value → Shared → Prop}
theorem Inv.wish (I : Inv X pins σ H s) (E : Value → Shared → Prop) : Inv (X.wish E) pins σ H s := ⟨I.ok.wish E, I.os, I.bare, I.base, I.loc, I.cell, I.free, I.freeC, I.pin, I.hok, I.len⟩
theorem Inv.unwish (I : Inv (X.wish E) pins σ H s) : Inv X pins σ H s := ⟨I.ok.unwish, I.os, I.bare, I.base, I.loc, I.cell, I.free, I.freeC, I.pin, I.hok, I.len⟩
theorem SP.unwish {D : Ends} {f : Flow} {s' : Shared} (h : SP (X.wish E) pins D f s') : SP X pins D f s' := by
  cases f with
  | next => obtain ⟨σ', H', I, q⟩ := h; exact ⟨σ', H', I.unwish, q⟩
  | brk => obtain ⟨σ', H', I, q⟩ := h; exact ⟨σ', H', I.unwish, q⟩
  | cont => obtain ⟨σ', H', I, q⟩ := h; exact ⟨σ', H', I.unwish, q⟩
  | ret u => obtain ⟨v, σ', H', I, r, q⟩ := h; exact ⟨v, σ', H', I.unwish, r, q⟩
theorem PE.nox {e : Expr} {t : TE} (h : PE X.nox e t) : PE X e t := fun pins s σ H Q I hw =>
  wpAny_mono (h pins s σ H Q (I.wish _) hw) (fun _ _ ⟨v, H', I', r, q⟩ => ⟨v, H', I'.unwish, r, q⟩) fun _ _ z => False.elim z
theorem PT.nox {e : Expr} {t : TT} (h : PT X.nox e t) : PT X e t := fun pins s σ H Q I hw =>
  wpAny_mono (h pins s σ H Q (I.wish _) hw) (fun _ _ ⟨H', I', q⟩ => ⟨H', I'.unwish, q⟩) fun _ _ z => False.elim z
theorem PSs.nox {st : List Stmt} {t : TS} (h : PSs X.nox st t) : PSs X st t := fun pins s σ H D I hw =>
  wpAny_mono (h pins s σ H D (I.wish _) hw) (fun _ _ q => q.unwish) fun _ _ z => False.elim z
end

section
variable {X : Cx} {st : Stmt} {rest : List Stmt} {t u : TS} {e : Expr} {te : TE} {pos : Pos}
def tNext : TS := fun D σ H => D.nx σ H
def tSeq (t u : TS) : TS := fun D σ H => t { D with nx := u D } σ H
theorem pss_nil : PSs X [] tNext := fun _ _ σ H _ I h => wpAny_execs_nil ⟨σ, H, I, h⟩
theorem pss_cons (h1 : PS X st t) (h2 : PSs X rest u) : PSs X (st :: rest) (tSeq t u) := by
  intro pins s σ H D I h
  refine wpAny_execs_cons (thn (h1 pins s σ H { D with nx := u D } I h) fun f s1 q => ?_)
  cases f with
  | next =>
    obtain ⟨σ', H', I', q⟩ := q
    exact h2 pins s1 σ' H' D I' q
  | ret v => exact q
  | brk => exact q
  | cont => exact q
theorem pss_one (h1 : PS X st t) : PSs X [st] t := by
  intro pins s σ H D I h
  refine wpAny_execs_cons (thn (h1 pins s σ H D I h) fun f s1 q => ?_)
  cases f with
  | next => exact wpAny_execs_nil q
  | ret v => exact q
  | brk => exact q
  | cont => exact q
theorem Inv.quiet {pins : List (Addr × Obj)} {σ : St} {H : Hp} {s : Shared} (I : Inv X pins σ H s) : interactive X.env = false := by simp [interactive, I.ok.kind]
def tDrop (te : TE) : TS := fun D σ H => te σ H fun _ H1 => D.nx σ H1
theorem ps_expr (he : PE X e te) (hs : swapsWith e none pos.line X.env = pure false := by rfl) : PS X (.Expr e pos) (tDrop te) := by
  intro pins s σ H D I h
  exact wpAny_Expr_any (thn (he pins s σ H _ I h) fun v s1 ⟨x, H1, I1, r1, q1⟩ => ⟨σ, H1, I1, q1⟩) I.quiet hs
def tRet (te : TE) : TS := fun D σ H => te σ H D.rt
theorem ps_ret (he : PE X e te) : PS X (.Return (some e) pos) (tRet te) := by
  intro pins s σ H D I h
  exact wpAny_Return_some (thn (he pins s σ H _ I h) fun v s1 ⟨x, H1, I1, r1, q1⟩ => ⟨x, σ, H1, I1, r1, q1⟩)
def tIfS (c : TT) (t u : TS) : TS := fun D σ H => c σ H fun b H1 => if b = true then t D σ H1 else u D σ H1
theorem ps_if {c : Expr} {a b : List Stmt} {tc : TT} (hc : PT X c tc) (ha : PSs X a t) (hb : PSs X b u) : PS X (.If c a b pos) (tIfS tc t u) := by
  intro pins s σ H D I h
  refine wpAny_If (thn (hc pins s σ H _ I h) fun d s1 ⟨H1, I1, q1⟩ => ?_)
  cases d with
  | true => exact ha pins s1 σ H1 D I1 q1
  | false => exact hb pins s1 σ H1 D I1 q1
end

abbrev TG := V → St → Hp → (St → Hp → Prop) → Prop
abbrev TGs := List V → St → Hp → (St → Hp → Prop) → Prop
def PG (X : Cx) (target : Expr) (t : TG) : Prop :=
  ∀ (pins : List (Addr × Obj)) (s : Shared) (σ : St) (H : Hp) (v : V) (u : Value) (Q : St → Hp → Prop), Inv X pins σ H s → RelV v u → t v σ H Q →
    wpAny (model X.prog X.w) X.A (assign target X.env u) (fun _ s' => ∃ σ' H', Inv X pins σ' H' s' ∧ Q σ' H') X.xe s
def PGs (X : Cx) (ts : List Expr) (t : TGs) : Prop :=
  ∀ (pins : List (Addr × Obj)) (s : Shared) (σ : St) (H : Hp) (vs : List V) (us : List Value) (Q : St → Hp → Prop), Inv X pins σ H s → Vals vs us → t vs σ H Q →
    wpAny (model X.prog X.w) X.A (assignInOrder ((assignEach ts X.env).map (·.2)) us) (fun _ s' => ∃ σ' H', Inv X pins σ' H' s' ∧ Q σ' H') X.xe s
section
variable {X : Cx} {pos : Pos}
def gName (i : Nat) : TG := fun v σ H Q => Q (σ.set i (some v)) H
theorem pg_name {i : Nat} {x : Str} (hN : X.N.Nodup) (hi : X.N[i]? = some x) (hx : Loc X.env.scope x) (hf : X.fn x = true ∨ X.env.scope.names.lookup x = some .local := by first | exact .inl rfl | exact .inr rfl | assumption) : PG X (.Name x pos) (gName i) := by
  intro pins s σ H v u Q I r h
  exact wpAny_assign_Name (store_ok I hN hi hx r (fun s' I' => ⟨_, H, I', h⟩) hf)
def gNil : TGs := fun vs σ H Q => vs = [] ∧ Q σ H
def gCons (t : TG) (u : TGs) : TGs := fun vs σ H Q => ∃ v r, vs = v :: r ∧ t v σ H fun σ' H' => u r σ' H' Q
theorem pgs_nil : PGs X [] gNil := by
  intro pins s σ H vs us Q I r h
  obtain ⟨e, h⟩ := h
  subst e
  cases r
  exact assignInOrder_nil ⟨σ, H, I, h⟩
theorem pgs_cons {e : Expr} {es : List Expr} {t : TG} {u : TGs} (h1 : PG X e t) (h2 : PGs X es u)
    (hs : (assignEach (e :: es) X.env).map (·.2) = assign e X.env :: (assignEach es X.env).map (·.2) := by rfl) : PGs X (e :: es) (gCons t u) := by
  intro pins s σ H vs us Q I r h
  obtain ⟨v, vr, e1, h⟩ := h
  subst e1
  cases r with
  | cons r rr =>
    rw [hs]
    refine assignInOrder_cons (thn (h1 pins s σ H _ _ _ I r h) fun _ s1 ⟨σ1, H1, I1, q1⟩ => ?_)
    exact h2 pins s1 σ1 H1 _ _ Q I1 rr q1
def gTup (K : PySem.W.Frag) (n : Nat) (t : TGs) : TG := fun v σ H Q => ∃ a xs, v = .ref a ∧ SqT K H a xs ∧ xs.length = n ∧ t xs σ H Q
theorem pg_tup {es : List Expr} {k : Nat} {t : TGs} {n : Nat} (hc : X.calm = true) (h : PGs X es t)
    (hn : (assignEach es X.env).length = n := by rfl) (hst : (assignEach es X.env).findIdx? (·.1) = none := by rfl) : PG X (.Tuple es k pos) (gTup X.K n t) := by
  intro pins s σ H v u Q I r hw
  obtain ⟨a, xs, e1, hq, hl, hw⟩ := hw
  subst e1
  cases r
  obtain ⟨its, rv, ht, hz⟩ := I.tuple hq
  refine assign_Tuple_tuple (I.ok.hd hc) ht (by simp [hn, ← hl, rv.length]) hst fun h' hx => ?_
  have I1 : Inv X pins σ H { s with heap := h' } := I.kept (t' := s.toks) fun b o e => hx b o (Nat.ne_of_lt (Heap.lt_size e)) e
  exact h pins _ σ H xs _ Q I1 (by simpa using rv) hw
def tAsg (te : TE) (g : TG) : TS := fun D σ H => te σ H fun x H1 => g x σ H1 D.nx
theorem ps_asg {tg e : Expr} {te : TE} {g : TG} (he : PE X e te) (hg : PG X tg g) (hs : swapsWithSole [tg] e pos.line X.env = pure false := by rfl) (hw : swappedStores [tg] e X.env = pure none := by rfl)
    (h1 : (assignEach [tg] X.env).map (·.2) = [assign tg X.env] := by rfl) : PS X (.Assign [tg] e pos) (tAsg te g) := by
  intro pins s σ H D I h
  refine wpAny_Assign_stores (thn (he pins s σ H _ I h) fun v s1 ⟨x, H1, I1, r1, q1⟩ => ?_) hs hw
  rw [h1]
  exact thn (hg pins s1 σ H1 x v _ I1 r1 q1) fun _ s2 q => q
theorem ps_set {i : Nat} {x : Str} {e : Expr} {te : TE} {pos' : Pos} (hN : X.N.Nodup) (hi : X.N[i]? = some x) (hx : Loc X.env.scope x) (he : PE X e te) (hs : swapsWith e (some (.Name x pos')) pos.line X.env = pure false := by rfl) (hf : X.fn x = true ∨ X.env.scope.names.lookup x = some .local := by first | exact .inl rfl | exact .inr rfl | assumption) :
    PS X (.Assign [.Name x pos'] e pos) (tAsg te (gName i)) := by
  intro pins s σ H D I h
  refine wpAny_Assign_Name (thn (he pins s σ H _ I h) fun v s1 ⟨y, H1, I1, r1, q1⟩ => ?_) hs
  exact store_ok I1 hN hi hx r1 (fun s2 I2 => ⟨_, H1, I2, q1⟩) hf
end

section
variable {X : Cx} {pos : Pos}
end

structure It where
  go : Nat → Hp → Prop
  yld : Nat → Hp → V → Hp → Prop
  stop : Nat → Hp → Prop
def FpOk (X : Cx) (pins : List (Addr × Obj)) (H : Hp) (b : Addr) : Prop :=
  H b = none ∧ b ≠ X.env.locals ∧ b ∉ X.fs ∧ (b ∈ X.ex ∨ X.s₀.heap.objs.size ≤ b) ∧ (∀ x c, X.env.cells.lookup x = some c → c ≠ b) ∧ ∀ p ∈ X.pn ++ pins, p.1 ≠ b
theorem Inv.fpOk {X : Cx} {pins : List (Addr × Obj)} {σ : St} {H H' : Hp} {s : Shared} {b : Addr} (I : Inv X pins σ H s) (hb : s.heap.objs.size ≤ b) (hn : H' b = none) : FpOk X pins H' b := by
  refine ⟨hn, Nat.ne_of_gt (Nat.lt_of_lt_of_le I.lt hb), I.nofs hb, .inr (Nat.le_trans I.sz hb), fun x c e z => ?_, fun p hp z => ?_⟩
  · obtain ⟨v, q⟩ := I.cell x c e
    exact absurd (Nat.lt_of_lt_of_le q.lt (by rw [z]; exact hb)) (Nat.lt_irrefl _)
  · exact absurd (Nat.lt_of_lt_of_le (Heap.lt_size (I.pin p hp).1) (by rw [z]; exact hb)) (Nat.lt_irrefl _)
structure Turn (P : Program) (w : World) (K : PySem.W.Frag) (tg : Expr) (J : It) (fp : List Addr) (it : Addr) (tn : Nat → Heap → Prop) : Prop where
  mem : it ∈ fp
  obj : ∀ i h, tn i h → ∀ b ∈ fp, ∃ o, h.get? b = some o ∧ ∀ v, o.data ≠ .cell v
  keep : ∀ i h h', tn i h → (∀ b ∈ fp, ∀ o, h.get? b = some o → h'.get? b = some o) → tn i h'
  item : ∀ (X : Cx), X.prog = P → X.w = w → X.K = K → X.calm = true → ∀ (i : Nat) (pins : List (Addr × Obj)) (s : Shared) (σ : St) (H : Hp) (E : Value → Shared → Prop), Inv X pins σ H s → (∀ b ∈ fp, FpOk X pins H b) → tn i s.heap → J.go i H →
    wpAny (model P w) X.A (pyNext (.ref it)) (fun r s1 => ∃ u, r = some u ∧
      wpAny (model P w) X.A (letOwnedTupleGo tg (.ref it) u) (fun _ s2 => ∃ x H', Inv X pins σ H' s2 ∧ RelV x u ∧ J.yld i H x H' ∧ tn (i + 1) s2.heap ∧ ∀ b ∈ fp, H' b = none) E s1) E s
  done : ∀ (X : Cx), X.prog = P → X.w = w → X.K = K → X.calm = true → ∀ (i : Nat) (pins : List (Addr × Obj)) (s : Shared) (σ : St) (H : Hp) (E : Value → Shared → Prop), Inv X pins σ H s → (∀ b ∈ fp, FpOk X pins H b) → tn i s.heap → J.stop i H →
    wpAny (model P w) X.A (pyNext (.ref it)) (fun r s1 => r = none ∧ Inv X pins σ H s1) E s
  self : ∀ (A : Around) (i : Nat) (s : Shared) (Q : Value → Shared → Prop) (E : Value → Shared → Prop), tn i s.heap → Q (.ref it) s → wpAny (model P w) A (pyIter (.ref it)) Q E s
abbrev TI := St → Hp → (It → Hp → Prop) → Prop
def PIE (X : Cx) (pins : List (Addr × Obj)) (σ : St) (tg : Expr) (R : It → Hp → Prop) (itv : Value) (s2 : Shared) : Prop :=
  ∃ (it : Addr) (fp : List Addr) (tn : Nat → Heap → Prop) (J : It) (H' : Hp), itv = .ref it ∧ Inv X pins σ H' s2 ∧ Turn X.prog X.w X.K tg J fp it tn ∧ tn 0 s2.heap ∧ (∀ b ∈ fp, FpOk X pins H' b) ∧ R J H'
def PI (X : Cx) (tg iter : Expr) (wi : TI) : Prop :=
  ∀ (pins : List (Addr × Obj)) (s : Shared) (σ : St) (H : Hp) (R : It → Hp → Prop), Inv X pins σ H s → wi σ H R →
    wpAny (model X.prog X.w) X.A (eval iter X.env) (fun v s1 => wpAny (model X.prog X.w) X.A (pyIter v) (PIE X pins σ tg R) X.xe s1) X.xe s

theorem go_of {M : Model} {A : Around} {E : Value → Shared → Prop} {s : Shared} {tg : Expr} {it : Addr} {u : Value} {o : Obj} {n : String} {vs : Array Value} {Q : Unit → Shared → Prop} (ho : s.heap.get? it = some o) (hc : o.cls = .type n) (hd : o.data = .fields vs)
    (hn : ["enumerate", "zip", "dict_itemiterator", "dict_reverseitemiterator", "odict_iterator", "itertools.zip_longest", "itertools.pairwise"].contains n = false) (hQ : Q () s) : wpAny M A (letOwnedTupleGo tg (.ref it) u) Q E s := by
  unfold letOwnedTupleGo
  cases tg <;> first
    | exact wpAny_pure hQ
    | (cases u <;> first
        | exact wpAny_pure hQ
        | (refine wpAny_bind (wpAny_load ho ?_)
           rw [hc, hd]
           show wpAny M A (if (["enumerate", "zip", "dict_itemiterator", "dict_reverseitemiterator", "odict_iterator", "itertools.zip_longest", "itertools.pairwise"].contains n && vs[0]? == some (rawInt _)) = true then _ else _) Q E s
           rw [if_neg (by intro h; rw [hn, Bool.false_and] at h; cases h)]
           exact wpAny_pure hQ))

def Itl (K : PySem.W.Frag) (a : Addr) : It :=
  ⟨fun i H => ∃ xs x, SqL K H a xs ∧ xs[i]? = some x, fun i H x H' => H' = H ∧ ∀ xs, SqL K H a xs → xs[i]? = some x, fun i H => ∃ xs, SqL K H a xs ∧ xs.length ≤ i⟩
def Itt (K : PySem.W.Frag) (a : Addr) : It :=
  ⟨fun i H => ∃ xs x, SqT K H a xs ∧ xs[i]? = some x, fun i H x H' => H' = H ∧ ∀ xs, SqT K H a xs → xs[i]? = some x, fun i H => ∃ xs, SqT K H a xs ∧ xs.length ≤ i⟩
def Itr (lo : Int) (n : Nat) : It := ⟨fun i _ => i < n, fun i H x H' => H' = H ∧ x = .int (lo + i), fun i _ => n ≤ i⟩
theorem turn_list {P : Program} {w : World} {K : PySem.W.Frag} {tg : Expr} (a it : Addr) : Turn P w K tg (Itl K a) [it] it (fun i h => h.IsListIter it a i) where
  mem := by simp
  obj := fun i h st b hb => by
    have e : b = it := by simpa using hb
    subst e
    obtain ⟨o, e, c, d⟩ := st
    exact ⟨o, e, fun v z => by rw [d] at z; cases z⟩
  keep := fun i h h' st k => st.at fun o e => k it (by simp) o e
  item := by
    intro X hP hw hK hc i pins s σ H E I hf st hg
    subst hP hw hK
    obtain ⟨xs, x, hq, hx⟩ := hg
    obtain ⟨its, rv, p, hz⟩ := I.list hq
    obtain ⟨u, hu, ru⟩ := rv.get hx
    obtain ⟨f0, f1, f2, f3, f4, f5⟩ := hf it (by simp)
    refine wpAny_pyNext_list_item st p.isList (x := u) (by simpa using hu) fun h' st' sb => ?_
    have I1 : Inv X pins σ H { s with heap := h' } := I.turned (t' := s.toks) (fun b o hb e => (sb.2 b hb).trans e) f0 f1 f3 f4 f5
    obtain ⟨o, e, c, d⟩ := id st'
    exact ⟨u, rfl, go_of (s := { s with heap := h' }) e c d (by decide) ⟨x, H, I1, ru, ⟨rfl, fun ys hy => by rw [I.list_inj hy hq]; exact hx⟩, st', fun b hb => (hf b hb).1⟩⟩
  done := by
    intro X hP hw hK hc i pins s σ H E I hf st hg
    subst hP hw hK
    obtain ⟨xs, hq, hx⟩ := hg
    obtain ⟨its, rv, p, hz⟩ := I.list hq
    obtain ⟨f0, f1, f2, f3, f4, f5⟩ := hf it (by simp)
    have hl := rv.length
    exact wpAny_pyNext_list_end (I.ok.hd hc) st p.isList (by simp; omega) fun h' eb => ⟨rfl, I.turned (t' := s.toks) (fun b o hb e => eb b o hb e) f0 f1 f3 f4 f5⟩
  self := fun _ _ _ _ _ st h => wpAny_pyIter_listiter st h
theorem turn_tuple {P : Program} {w : World} {K : PySem.W.Frag} {tg : Expr} (a it : Addr) : Turn P w K tg (Itt K a) [it] it (fun i h => h.IsTupleIter it a i) where
  mem := by simp
  obj := fun i h st b hb => by
    have e : b = it := by simpa using hb
    subst e
    obtain ⟨o, e, c, d⟩ := st
    exact ⟨o, e, fun v z => by rw [d] at z; cases z⟩
  keep := fun i h h' st k => st.at fun o e => k it (by simp) o e
  item := by
    intro X hP hw hK hc i pins s σ H E I hf st hg
    subst hP hw hK
    obtain ⟨xs, x, hq, hx⟩ := hg
    obtain ⟨its, rv, p, hz⟩ := I.tuple hq
    obtain ⟨u, hu, ru⟩ := rv.get hx
    obtain ⟨f0, f1, f2, f3, f4, f5⟩ := hf it (by simp)
    refine wpAny_pyNext_tuple_item st (show s.heap.IsTuple a its.toArray from p) (x := u) (by simpa using hu) fun h' st' sb => ?_
    have I1 : Inv X pins σ H { s with heap := h' } := I.turned (t' := s.toks) (fun b o hb e => (sb.2 b hb).trans e) f0 f1 f3 f4 f5
    obtain ⟨o, e, c, d⟩ := id st'
    exact ⟨u, rfl, go_of (s := { s with heap := h' }) e c d (by decide) ⟨x, H, I1, ru, ⟨rfl, fun ys hy => by rw [I.tuple_inj hy hq]; exact hx⟩, st', fun b hb => (hf b hb).1⟩⟩
  done := by
    intro X hP hw hK hc i pins s σ H E I hf st hg
    subst hP hw hK
    obtain ⟨xs, hq, hx⟩ := hg
    obtain ⟨its, rv, p, hz⟩ := I.tuple hq
    obtain ⟨f0, f1, f2, f3, f4, f5⟩ := hf it (by simp)
    have hl := rv.length
    exact wpAny_pyNext_tuple_end (I.ok.hd hc) st (show s.heap.IsTuple a its.toArray from p) (by simp; omega) fun h' eb => ⟨rfl, I.turned (t' := s.toks) (fun b o hb e => eb b o hb e) f0 f1 f3 f4 f5⟩
  self := fun _ _ _ _ _ st h => wpAny_pyIter_tupleiter st h
theorem turn_range {P : Program} {w : World} {K : PySem.W.Frag} {tg : Expr} (it : Addr) (lo : Int) (n : Nat) : Turn P w K tg (Itr lo n) [it] it (fun i h => IsRangeIter h it (lo + (i : Nat) * 1) ((n : Int) - (i : Nat)) 1) where
  mem := by simp
  obj := fun i h st b hb => by
    have e : b = it := by simpa using hb
    subst e
    exact ⟨_, st, fun v z => by
      have z' : Data.fields _ = Data.cell v := z
      cases z'⟩
  keep := fun i h h' st k => k it (by simp) _ st
  item := by
    intro X hP hw hK hc i pins s σ H E I hf st hg
    subst hP hw hK
    obtain ⟨f0, f1, f2, f3, f4, f5⟩ := hf it (by simp)
    have W := Walks.range (prog := X.prog) (w := X.w) (I.ok.hd hc) it lo 1 n
    refine W.item i s _ _ hg st fun v h' tk hv st' kk => ?_
    obtain ⟨t, rfl⟩ := hv
    have I1 : Inv X pins σ H { s with heap := h', toks := tk } := I.turned (fun b o hb e => kk b o (by simpa using hb) e) f0 f1 f3 f4 f5
    refine ⟨_, rfl, go_of (s := { s with heap := h', toks := tk }) (n := "range_iterator") st' rfl rfl (by decide) ⟨.int (lo + i), H, I1, ⟨t, ?_⟩, ⟨rfl, rfl⟩, st', fun b hb => (hf b hb).1⟩⟩
    rw [Int.mul_one]
  done := by
    intro X hP hw hK hc i pins s σ H E I hf st hg
    subst hP hw hK
    obtain ⟨f0, f1, f2, f3, f4, f5⟩ := hf it (by simp)
    exact wpAny_pyNext_range_end (I.ok.hd hc) st (by have : n ≤ i := hg; omega) fun h' eb => ⟨rfl, I.turned (t' := s.toks) (fun b o hb e => eb b o hb e) f0 f1 f3 f4 f5⟩
  self := fun _ _ _ _ _ st h => wpAny_pyIter_rangeiter st h
end L2

namespace L2
open PySem PySem.Spec PyProof.Rows
section
variable {X : Cx} {tg : Expr}
def iList (K : PySem.W.Frag) (tl : TE) : TI := fun σ H R => tl σ H fun x H1 => ∃ a, x = .ref a ∧ (∃ xs, SqL K H1 a xs) ∧ R (Itl K a) H1
def iTup (K : PySem.W.Frag) (tl : TE) : TI := fun σ H R => tl σ H fun x H1 => ∃ a, x = .ref a ∧ (∃ xs, SqT K H1 a xs) ∧ R (Itt K a) H1
theorem pi_list {l : Expr} {tl : TE} (hl : PE X l tl) : PI X tg l (iList X.K tl) := by
  intro pins s σ H R I h
  refine thn (hl pins s σ H _ I h) fun v s1 ⟨x, H1, I1, r1, q1⟩ => ?_
  obtain ⟨a, e, ⟨xs, hq⟩, q⟩ := q1
  subst e
  cases r1
  obtain ⟨its, rv, p, hz⟩ := I1.list hq
  refine wpAny_pyIter_list p.isList ?_
  refine ⟨s1.heap.objs.size, [s1.heap.objs.size], _, _, H1, rfl, I1.kept (t' := s1.toks) fun b o e => Heap.get?_push_of_some _ e, turn_list a _, ⟨_, Heap.get?_push_size _ rfl, rfl, rfl⟩, fun b hb => ?_, q⟩
  have e : b = s1.heap.objs.size := by simpa using hb
  subst e
  exact I1.fpOk (Nat.le_refl _) (I1.hok.fresh (Nat.le_refl _))
theorem pi_tup {l : Expr} {tl : TE} (hl : PE X l tl) : PI X tg l (iTup X.K tl) := by
  intro pins s σ H R I h
  refine thn (hl pins s σ H _ I h) fun v s1 ⟨x, H1, I1, r1, q1⟩ => ?_
  obtain ⟨a, e, ⟨xs, hq⟩, q⟩ := q1
  subst e
  cases r1
  obtain ⟨its, rv, p, hz⟩ := I1.tuple hq
  refine wpAny_pyIter_tuple (show s1.heap.IsTuple a its.toArray from p) ?_
  refine ⟨s1.heap.objs.size, [s1.heap.objs.size], _, _, H1, rfl, I1.kept (t' := s1.toks) fun b o e => Heap.get?_push_of_some _ e, turn_tuple a _, ⟨_, Heap.get?_push_size _ rfl, rfl, rfl⟩, fun b hb => ?_, q⟩
  have e : b = s1.heap.objs.size := by simpa using hb
  subst e
  exact I1.fpOk (Nat.le_refl _) (I1.hok.fresh (Nat.le_refl _))
theorem range_it {pins : List (Addr × Obj)} {σ : St} {H : Hp} {s : Shared} {R : It → Hp → Prop} {E : Value → Shared → Prop} {lo hi : Int} {t u v : Tok} {tk : Nat} (I : Inv X pins σ H s) (h1 : -(2 ^ 62) ≤ lo) (h2 : lo < 2 ^ 62) (h3 : -(2 ^ 62) ≤ hi) (h4 : hi < 2 ^ 62)
    (q : R (Itr lo (hi - lo).toNat) H) : wpAny (model X.prog X.w) X.A (pyIter (.ref s.heap.objs.size)) (PIE X pins σ tg R) E { s with heap := s.heap.push { cls := .type "range", data := .fields #[.int lo t, .int hi u, .int 1 v] }, toks := tk } := by
  refine wpAny_pyIter_range (IsRange.new ..) (small_one h1 h2 h3 h4) ?_
  have I1 : Inv X pins σ H { s with heap := s.heap.push { cls := .type "range", data := .fields #[.int lo t, .int hi u, .int 1 v] }, toks := tk } := I.kept fun b o e => Heap.get?_push_of_some _ e
  refine ⟨(s.heap.push { cls := .type "range", data := .fields #[.int lo t, .int hi u, .int 1 v] }).objs.size, [(s.heap.push { cls := .type "range", data := .fields #[.int lo t, .int hi u, .int 1 v] }).objs.size], _, _, H, rfl,
    I1.kept (t' := tk) fun b o e => Heap.get?_push_of_some _ e, turn_range _ lo (hi - lo).toNat, ?_, fun b hb => ?_, q⟩
  · have e1 : lo + ((0 : Nat) : Int) * 1 = lo := by simp
    have e2 : (((hi - lo).toNat : Nat) : Int) - ((0 : Nat) : Int) = Builtin.Range.rangeSize lo hi 1 := by rw [rangeSize_one]; split <;> omega
    show IsRangeIter _ _ (lo + ((0 : Nat) : Int) * 1) ((((hi - lo).toNat : Nat) : Int) - ((0 : Nat) : Int)) 1
    rw [e1, e2]
    exact Heap.get?_push_size _ rfl
  · have e : b = (s.heap.push { cls := .type "range", data := .fields #[.int lo t, .int hi u, .int 1 v] }).objs.size := by simpa using hb
    subst e
    exact I1.fpOk (Nat.le_refl _) (I1.hok.fresh (Nat.le_refl _))
def iRng1 (ta : TA) : TI := fun σ H R => ta σ H fun vs H1 => ∃ j : Int, vs = [.int j] ∧ -(2 ^ 62) ≤ j ∧ j < 2 ^ 62 ∧ R (Itr 0 j.toNat) H1
theorem pi_range1 {a : Expr} {ta : TA} {p pos : Pos} (hg : Gl X "range") (hm : X.mg "range" = none) (ha : PA X [a] ta) (hs : starEach [a] X.env = [(false, eval a X.env)] := by rfl) : PI X tg (.Call (.Name "range" p) [a] [] pos) (iRng1 ta) := by
  intro pins s σ H R I h
  refine Call_ (ld_blt I hg hm boot_range (PyProof.Rows.callWith_type1 (thn (ha pos pins s σ H _ I h) fun us s1 ⟨vs, H1, I1, r1, q1⟩ => ?_) hs rfl))
  obtain ⟨j, e, q1, q2, q⟩ := q1
  subst e
  cases r1 with
  | cons r rr =>
    cases rr
    obtain ⟨t, rfl⟩ := r
    exact call_range_1 (range_it I1 (by omega) (by omega) q1 q2 (by simpa using q))
def tFor (wi : TI) (g : TG) (tb : TS) : TS := fun D σ H => wi σ H fun J H1 => ∃ W : Nat → Nat → St → Hp → Prop, (∃ m, W 0 m σ H1) ∧ ∀ i m σ H, W i m σ H →
  (J.stop i H ∧ D.nx σ H) ∨ (J.go i H ∧ ∃ N : St → Hp → Prop, (∀ σ' H', N σ' H' → ∃ m', m' < m ∧ W (i + 1) m' σ' H') ∧ ∀ x H', J.yld i H x H' → g x σ H' fun σ2 H2 => tb { D with nx := N, ct := N, bk := D.nx } σ2 H2)
def pinsAt (fp : List Addr) (h : Heap) : List (Addr × Obj) := fp.filterMap fun b => (h.get? b).map fun o => (b, o)
theorem mem_pinsAt {fp : List Addr} {h : Heap} {b : Addr} {o : Obj} (hb : b ∈ fp) (e : h.get? b = some o) : (b, o) ∈ pinsAt fp h := List.mem_filterMap.mpr ⟨b, hb, by rw [e]; rfl⟩
theorem of_pinsAt {fp : List Addr} {h : Heap} {p : Addr × Obj} (hp : p ∈ pinsAt fp h) : p.1 ∈ fp ∧ h.get? p.1 = some p.2 := by
  obtain ⟨b, hb, e⟩ := List.mem_filterMap.mp hp
  cases q : h.get? b with
  | none => rw [q] at e; cases e
  | some o =>
    rw [q] at e
    have e' : (b, o) = p := Option.some.inj e
    subst e'
    exact ⟨hb, q⟩
theorem Inv.pinned {pins : List (Addr × Obj)} {σ : St} {H : Hp} {s : Shared} {fp : List Addr} (I : Inv X pins σ H s) (hf : ∀ b ∈ fp, FpOk X pins H b) (ho : ∀ b ∈ fp, ∃ o, s.heap.get? b = some o ∧ ∀ v, o.data ≠ .cell v) : Inv X (pins ++ pinsAt fp s.heap) σ H s :=
  I.pins_of fun p hp => (List.mem_append.mp hp).elim (fun z => I.pin p (List.mem_append_right _ z)) fun z => by
    obtain ⟨hb, e⟩ := of_pinsAt z
    obtain ⟨f0, f1, f2, _⟩ := hf p.1 hb
    obtain ⟨o, e', d⟩ := ho p.1 hb
    rw [e] at e'; cases e'
    exact ⟨e, f0, f1, f2, d⟩
theorem Inv.unpinned {pins pl : List (Addr × Obj)} {σ : St} {H : Hp} {s : Shared} (I : Inv X (pins ++ pl) σ H s) : Inv X pins σ H s := I.pins_of fun p hp => I.pin p (List.mem_append_right _ (List.mem_append_left _ hp))
theorem ps_for {iter : Expr} {body : List Stmt} {wi : TI} {g : TG} {tb : TS} {pos : Pos} (hp : PassesOwn (model X.prog X.w) X.A X.env X.xe) (hc : X.calm = true) (hi : PI X tg iter wi) (hg : PG X tg g) (hb : PSs X body tb)
    (hs : ∀ x, foldedSetIterable iter X.env x = pure x := by intro _; rfl) : PS X (.For tg iter body [] pos) (tFor wi g tb) := by
  intro pins s σ H D I h
  refine wpAny_For (thn (hi pins s σ H _ I h) fun v s1 h1 => thn h1 fun itv s2 h2 => ?_) hs
  obtain ⟨it, fp, tn, J, H2, e, I2, T, st2, f2, W, ⟨m0, w0⟩, turn⟩ := h2
  subst e
  -- what stays true of the iterator's objects through the loop
  have stat : ∀ {H' : Hp}, (∀ b ∈ fp, H' b = none) → ∀ b ∈ fp, FpOk X pins H' b := fun hn b hb => ⟨hn b hb, (f2 b hb).2⟩
  refine codeAny_forLoop_any (fun n s' => ∃ i σ' H', Inv X pins σ' H' s' ∧ tn i s'.heap ∧ (∀ b ∈ fp, H' b = none) ∧ W i n σ' H') ?_ m0 ⟨0, σ, H2, I2, st2, fun b hb => (f2 b hb).1, w0⟩
  rintro n s3 ⟨i, σ3, H3, I3, st3, fr3, w3⟩
  rcases turn i n σ3 H3 w3 with ⟨stop, qn⟩ | ⟨go, N, hN, step⟩
  · refine wpAny_passesOwn hp (thn (T.done X rfl rfl rfl hc i pins s3 σ3 H3 X.xe I3 (stat fr3) st3 stop) fun r s4 ⟨hr, I4⟩ => ?_)
    subst hr
    exact wpAny_execs_nil ⟨σ3, H3, I4, qn⟩
  · refine wpAny_passesOwn hp (thn (T.item X rfl rfl rfl hc i pins s3 σ3 H3 X.xe I3 (stat fr3) st3 go) fun r s4 ⟨u, hr, h4⟩ => ?_)
    subst hr
    refine wpAny_passesOwn hp (thn h4 fun _ s5 ⟨x, H5, I5, r5, y5, st5, fr5⟩ => ?_)
    have I5' := I5.pinned (stat fr5) (T.obj _ _ st5)
    refine wpAny_passesOwn hp (thn (hg _ s5 σ3 H5 x u _ I5' r5 (step x H5 y5)) fun _ s6 ⟨σ6, H6, I6, q6⟩ => ?_)
    refine wpAny_passesOwn hp (thn (hb _ s6 σ6 H6 _ I6 q6) fun f s7 q7 => ?_)
    have again : ∀ {σ7 : St} {H7 : Hp}, Inv X (pins ++ pinsAt fp s5.heap) σ7 H7 s7 → N σ7 H7 → ∃ m, m < n ∧ ∃ i σ' H', Inv X pins σ' H' s7 ∧ tn i s7.heap ∧ (∀ b ∈ fp, H' b = none) ∧ W i m σ' H' := fun {σ7 H7} I7 n7 => by
      obtain ⟨m', hm, w7⟩ := hN σ7 H7 n7
      refine ⟨m', hm, i + 1, σ7, H7, I7.unpinned, T.keep _ _ _ st5 fun b hb o e => (I7.pin (b, o) (List.mem_append_right _ (List.mem_append_right _ (mem_pinsAt hb e)))).1, fun b hb => ?_, w7⟩
      obtain ⟨o, e, d⟩ := T.obj _ _ st5 b hb
      exact (I7.pin (b, o) (List.mem_append_right _ (List.mem_append_right _ (mem_pinsAt hb e)))).2.1
    cases f with
    | next => obtain ⟨σ7, H7, I7, n7⟩ := q7; exact again I7 n7
    | cont => obtain ⟨σ7, H7, I7, n7⟩ := q7; exact again I7 n7
    | brk => obtain ⟨σ7, H7, I7, q7⟩ := q7; exact ⟨σ7, H7, I7.unpinned, q7⟩
    | ret v => obtain ⟨x7, σ7, H7, I7, r7, q7⟩ := q7; exact ⟨x7, σ7, H7, I7.unpinned, r7, q7⟩
end

theorem for_list {K : PySem.W.Frag} {a : Addr} {xs : List V} {g : TG} {tb : TS} {D : Ends} {σ : St} {H : Hp} (Pv : Nat → St → Hp → Prop) (h0 : Pv 0 σ H) (hl : ∀ i σ H, i ≤ xs.length → Pv i σ H → SqL K H a xs)
    (hs : ∀ i x σ H, xs[i]? = some x → Pv i σ H → g x σ H fun σ2 H2 => tb { D with nx := Pv (i + 1), ct := Pv (i + 1), bk := D.nx } σ2 H2) (hd : ∀ σ H, Pv xs.length σ H → D.nx σ H) :
    ∃ W : Nat → Nat → St → Hp → Prop, (∃ m, W 0 m σ H) ∧ ∀ i m σ H, W i m σ H →
      ((Itl K a).stop i H ∧ D.nx σ H) ∨ ((Itl K a).go i H ∧ ∃ N : St → Hp → Prop, (∀ σ' H', N σ' H' → ∃ m', m' < m ∧ W (i + 1) m' σ' H') ∧ ∀ x H', (Itl K a).yld i H x H' → g x σ H' fun σ2 H2 => tb { D with nx := N, ct := N, bk := D.nx } σ2 H2) := by
  refine ⟨fun i m σ H => m = xs.length - i ∧ i ≤ xs.length ∧ Pv i σ H, ⟨xs.length, by simp, Nat.zero_le _, h0⟩, ?_⟩
  rintro i m σ H ⟨rfl, hi, p⟩
  have q := hl i σ H hi p
  by_cases hlt : i < xs.length
  · refine .inr ⟨⟨xs, xs[i], q, by simp [hlt]⟩, Pv (i + 1), fun σ' H' p' => ⟨xs.length - (i + 1), by omega, rfl, hlt, p'⟩, fun x H' y => ?_⟩
    obtain ⟨e, y⟩ := y
    subst e
    exact hs i x σ _ (y xs q) p
  · have e : i = xs.length := by omega
    subst e
    exact .inl ⟨⟨xs, q, Nat.le_refl _⟩, hd σ H p⟩
theorem for_tup {K : PySem.W.Frag} {a : Addr} {xs : List V} {g : TG} {tb : TS} {D : Ends} {σ : St} {H : Hp} (Pv : Nat → St → Hp → Prop) (h0 : Pv 0 σ H) (hl : ∀ i σ H, i ≤ xs.length → Pv i σ H → SqT K H a xs)
    (hs : ∀ i x σ H, xs[i]? = some x → Pv i σ H → g x σ H fun σ2 H2 => tb { D with nx := Pv (i + 1), ct := Pv (i + 1), bk := D.nx } σ2 H2) (hd : ∀ σ H, Pv xs.length σ H → D.nx σ H) :
    ∃ W : Nat → Nat → St → Hp → Prop, (∃ m, W 0 m σ H) ∧ ∀ i m σ H, W i m σ H →
      ((Itt K a).stop i H ∧ D.nx σ H) ∨ ((Itt K a).go i H ∧ ∃ N : St → Hp → Prop, (∀ σ' H', N σ' H' → ∃ m', m' < m ∧ W (i + 1) m' σ' H') ∧ ∀ x H', (Itt K a).yld i H x H' → g x σ H' fun σ2 H2 => tb { D with nx := N, ct := N, bk := D.nx } σ2 H2) := by
  refine ⟨fun i m σ H => m = xs.length - i ∧ i ≤ xs.length ∧ Pv i σ H, ⟨xs.length, by simp, Nat.zero_le _, h0⟩, ?_⟩
  rintro i m σ H ⟨rfl, hi, p⟩
  have q := hl i σ H hi p
  by_cases hlt : i < xs.length
  · refine .inr ⟨⟨xs, xs[i], q, by simp [hlt]⟩, Pv (i + 1), fun σ' H' p' => ⟨xs.length - (i + 1), by omega, rfl, hlt, p'⟩, fun x H' y => ?_⟩
    obtain ⟨e, y⟩ := y
    subst e
    exact hs i x σ _ (y xs q) p
  · have e : i = xs.length := by omega
    subst e
    exact .inl ⟨⟨xs, q, Nat.le_refl _⟩, hd σ H p⟩
theorem for_range {lo : Int} {n : Nat} {g : TG} {tb : TS} {D : Ends} {σ : St} {H : Hp} (Pv : Nat → St → Hp → Prop) (h0 : Pv 0 σ H)
    (hs : ∀ i σ H, i < n → Pv i σ H → g (.int (lo + i)) σ H fun σ2 H2 => tb { D with nx := Pv (i + 1), ct := Pv (i + 1), bk := D.nx } σ2 H2) (hd : ∀ σ H, Pv n σ H → D.nx σ H) :
    ∃ W : Nat → Nat → St → Hp → Prop, (∃ m, W 0 m σ H) ∧ ∀ i m σ H, W i m σ H →
      ((Itr lo n).stop i H ∧ D.nx σ H) ∨ ((Itr lo n).go i H ∧ ∃ N : St → Hp → Prop, (∀ σ' H', N σ' H' → ∃ m', m' < m ∧ W (i + 1) m' σ' H') ∧ ∀ x H', (Itr lo n).yld i H x H' → g x σ H' fun σ2 H2 => tb { D with nx := N, ct := N, bk := D.nx } σ2 H2) := by
  refine ⟨fun i m σ H => m = n - i ∧ i ≤ n ∧ Pv i σ H, ⟨n, by simp, Nat.zero_le _, h0⟩, ?_⟩
  rintro i m σ H ⟨rfl, hi, p⟩
  by_cases hlt : i < n
  · refine .inr ⟨hlt, Pv (i + 1), fun σ' H' p' => ⟨n - (i + 1), by omega, rfl, hlt, p'⟩, fun x H' y => ?_⟩
    obtain ⟨e, y⟩ := y
    subst e y
    exact hs i σ _ hlt p
  · have e : i = n := by omega
    subst e
    exact .inl ⟨Nat.le_refl _, hd σ H p⟩
end L2

namespace L2
open PySem PySem.Spec PyProof.Rows

abbrev R2 := V → V → Hp → VK → Prop
def OpR (X : Cx) (f : Value → Value → Sem Value) (r : R2) : Prop :=
  ∀ (pins : List (Addr × Obj)) (s : Shared) (σ : St) (H : Hp) (x y : V) (v u : Value) (Q : VK), Inv X pins σ H s → RelV x v → RelV y u → r x y H Q →
    wpAny (model X.prog X.w) X.A (f v u) (EP X pins σ Q) X.xe s
def UnR (X : Cx) (f : Value → Sem Value) (r : V → Hp → VK → Prop) : Prop :=
  ∀ (pins : List (Addr × Obj)) (s : Shared) (σ : St) (H : Hp) (x : V) (v : Value) (Q : VK), Inv X pins σ H s → RelV x v → r x H Q →
    wpAny (model X.prog X.w) X.A (f v) (EP X pins σ Q) X.xe s
def CallR (X : Cx) (f : Value) (r : List V → Hp → VK → Prop) : Prop :=
  ∀ (pins : List (Addr × Obj)) (s : Shared) (σ : St) (H : Hp) (xs : List V) (us : List Value) (Q : VK), Inv X pins σ H s → Vals xs us → r xs H Q →
    wpAny (model X.prog X.w) X.A (call f us) (EP X pins σ Q) X.xe s
def tOp (r : R2) (ta tb : TE) : TE := fun σ H Q => ta σ H fun x H1 => tb σ H1 fun y H2 => r x y H2 Q
def tUn (r : V → Hp → VK → Prop) (ta : TE) : TE := fun σ H Q => ta σ H fun x H1 => r x H1 Q
def rI (C : Int → Int → Prop) (g : Int → Int → V) : R2 := fun x y H Q => ∃ i j, x = .int i ∧ y = .int j ∧ C i j ∧ Q (g i j) H
def rI0 (g : Int → Int → V) : R2 := fun x y H Q => ∃ i j, x = .int i ∧ y = .int j ∧ Q (g i j) H
def rU (g : Int → V) : V → Hp → VK → Prop := fun x H Q => ∃ i, x = .int i ∧ Q (g i) H

section
variable {X : Cx} {a b c : Expr} {ta tb tc : TE} {pos : Pos}

theorem binT (ha : PE X a ta) (hb : PE X b tb) {pins : List (Addr × Obj)} {s : Shared} {σ : St} {H : Hp} {R : V → V → Hp → Prop} (I : Inv X pins σ H s)
    (h : ta σ H fun x H1 => tb σ H1 fun y H2 => R x y H2) {Q : Value → Shared → Prop} {f : Value → Value → Sem Value}
    (hf : ∀ v u s2 x y H2, Inv X pins σ H2 s2 → RelV x v → RelV y u → R x y H2 → wpAny (model X.prog X.w) X.A (f v u) Q X.xe s2) :
    wpAny (model X.prog X.w) X.A (eval a X.env) (fun v s₁ => wpAny (model X.prog X.w) X.A (eval b X.env) (fun u s₂ => wpAny (model X.prog X.w) X.A (f v u) Q X.xe s₂) X.xe s₁) X.xe s := by
  refine thn (ha pins s σ H _ I h) fun v s1 ⟨x, H1, I1, r1, q1⟩ => ?_
  refine thn (hb pins s1 σ H1 _ I1 q1) fun u s2 ⟨y, H2, I2, r2, q2⟩ => ?_
  exact hf v u s2 x y H2 I2 r1 r2 q2

theorem pe_op {op : Operator} {r : R2} (ho : OpR X (binaryOp op) r) (ha : PE X a ta) (hb : PE X b tb) : PE X (.BinOp a op b pos) (tOp r ta tb) := by
  intro pins s σ H Q I h
  exact wpAny_BinOp (binT ha hb I h fun v u s2 x y H2 I2 rx ry q => ho pins s2 σ H2 x y v u Q I2 rx ry q)
theorem pe_un {op : UnaryOp} {r : V → Hp → VK → Prop} (ho : UnR X (unaryOp op) r) (ha : PE X a ta) : PE X (.UnaryOp op a pos) (tUn r ta) := by
  intro pins s σ H Q I h
  exact UnaryOp_ (thn (ha pins s σ H _ I h) fun v s1 ⟨x, H1, I1, r1, q1⟩ => ho pins s1 σ H1 x v Q I1 r1 q1)
theorem opI {f : Value → Value → Sem Value} {C : Int → Int → Prop} {g : Int → Int → Int}
    (rule : ∀ (i j : Int) (t u : Tok) (s : Shared) (Q : Value → Shared → Prop) (E : Value → Shared → Prop), C i j → Q (.int (g i j) s.toks) { s with toks := s.toks + 1 } → wpAny (model X.prog X.w) X.A (f (.int i t) (.int j u)) Q E s) :
    OpR X f (rI C fun i j => .int (g i j)) := by
  intro pins s σ H x y v u Q I rx ry h
  obtain ⟨i, j, rfl, rfl, hc, q⟩ := h
  obtain ⟨t, rfl⟩ := rx
  obtain ⟨t', rfl⟩ := ry
  exact rule i j t t' s _ _ hc ⟨.int (g i j), H, I.tok _, ⟨_, rfl⟩, q⟩
theorem opI0 {f : Value → Value → Sem Value} {g : Int → Int → Int}
    (rule : ∀ (i j : Int) (t u : Tok) (s : Shared) (Q : Value → Shared → Prop) (E : Value → Shared → Prop), Q (.int (g i j) s.toks) { s with toks := s.toks + 1 } → wpAny (model X.prog X.w) X.A (f (.int i t) (.int j u)) Q E s) :
    OpR X f (rI0 fun i j => .int (g i j)) := by
  intro pins s σ H x y v u Q I rx ry h
  obtain ⟨i, j, rfl, rfl, q⟩ := h
  obtain ⟨t, rfl⟩ := rx
  obtain ⟨t', rfl⟩ := ry
  exact rule i j t t' s _ _ ⟨.int (g i j), H, I.tok _, ⟨_, rfl⟩, q⟩
theorem opB0 {f : Value → Value → Sem Value} {g : Int → Int → Bool}
    (rule : ∀ (i j : Int) (t u : Tok) (s : Shared) (Q : Value → Shared → Prop) (E : Value → Shared → Prop), Q (.bool (g i j)) s → wpAny (model X.prog X.w) X.A (f (.int i t) (.int j u)) Q E s) :
    OpR X f (rI0 fun i j => .bl (g i j)) := by
  intro pins s σ H x y v u Q I rx ry h
  obtain ⟨i, j, rfl, rfl, q⟩ := h
  obtain ⟨t, rfl⟩ := rx
  obtain ⟨t', rfl⟩ := ry
  exact rule i j t t' s _ _ ⟨.bl (g i j), H, I, rfl, q⟩

def CDiv (i j : Int) : Prop := 0 < j ∧ j < 1073741824
def CPow (i j : Int) : Prop := 0 ≤ j ∧ j ≤ 1000000 ∧ i.natAbs < 2 ^ 64
def CMul (i j : Int) : Prop := (-(2 ^ 64) < i ∧ i < 2 ^ 64) ∨ (-(2 ^ 64) < j ∧ j < 2 ^ 64)
theorem CMul.ok {i j : Int} (h : CMul i j) : IntMulOk i j := by
  rcases h with ⟨h1, h2⟩ | ⟨h1, h2⟩
  · exact .of_left (intBits_le_64 h1 h2)
  · exact .of_right (intBits_le_64 h1 h2)
theorem op_add : OpR X (binaryOp .Add) (rI0 fun i j => .int (i + j)) := opI0 fun _ _ _ _ _ _ _ q => add_int q
theorem op_sub : OpR X (binaryOp .Sub) (rI0 fun i j => .int (i - j)) := opI0 fun _ _ _ _ _ _ _ q => sub_int q
theorem op_mul : OpR X (binaryOp .Mult) (rI CMul fun i j => .int (i * j)) := opI fun _ _ _ _ _ _ _ hc q => mul_int q hc.ok
theorem op_fdiv : OpR X (binaryOp .FloorDiv) (rI CDiv fun i j => .int (i / j)) := opI fun i j _ _ _ _ _ hc q => by
  have h1 : (0 : Int) < j := hc.1
  have h2 : j < 1073741824 := hc.2
  exact floordiv_int (by omega) (by rw [Int.fdiv_eq_ediv_of_nonneg i (by omega)]; exact q) (.inl (PyProof.noPylong_small (by omega)))
theorem op_mod : OpR X (binaryOp .Mod) (rI (fun _ j => 0 < j) fun i j => .int (i % j)) := opI fun i j _ _ _ _ _ hc q => by
  have h1 : (0 : Int) < j := hc
  exact mod_int' (by omega) (by rw [Int.fmod_eq_emod_of_nonneg i (by omega)]; exact q)
theorem op_pow : OpR X (binaryOp .Pow) (rI CPow fun i j => .int (i ^ j.toNat)) := opI fun _ _ _ _ _ _ _ hc q => pow_int_small hc.1 hc.2.1 hc.2.2 q
theorem unI {f : Value → Sem Value} {g : Int → Int}
    (rule : ∀ (i : Int) (t : Tok) (s : Shared) (Q : Value → Shared → Prop) (E : Value → Shared → Prop), Q (.int (g i) s.toks) { s with toks := s.toks + 1 } → wpAny (model X.prog X.w) X.A (f (.int i t)) Q E s) :
    UnR X f (rU fun i => .int (g i)) := by
  intro pins s σ H x v Q I rx h
  obtain ⟨i, rfl, q⟩ := h
  obtain ⟨t, rfl⟩ := rx
  exact rule i t s _ _ ⟨.int (g i), H, I.tok _, ⟨_, rfl⟩, q⟩
theorem un_neg : UnR X (unaryOp .USub) (rU fun i => .int (-i)) := unI fun _ _ _ _ _ q => neg_int q
end

def scal : V → V → Bool
  | .non, .non => true | .non, .int _ => true | .int _, .non => true | .non, .bl _ => true | .bl _, .non => true | .non, .str _ => true | .str _, .non => true
  | .int _, .int _ => true | .bl _, .bl _ => true | .str _, .str _ => true | .byt _, .byt _ => true
  | .int _, .str _ => true | .str _, .int _ => true | .bl _, .str _ => true | .str _, .bl _ => true
  | _, _ => false
def rEq : R2 := fun x y H Q => scal x y = true ∧ Q (.bl (decide (x = y))) H
def rNe : R2 := fun x y H Q => scal x y = true ∧ Q (.bl (!decide (x = y))) H

theorem dec_int {i j : Int} : decide (V.int i = V.int j) = (i == j) := by
  rw [Bool.eq_iff_iff]
  simp
theorem dec_bl {i j : Bool} : decide (V.bl i = V.bl j) = (i == j) := by
  rw [Bool.eq_iff_iff]
  simp
theorem dec_str {i j : Str} : decide (V.str i = V.str j) = (i == j) := by
  rw [Bool.eq_iff_iff]
  simp
theorem dec_byt {i j : Array UInt8} : decide (V.byt i = V.byt j) = (i.toList == j.toList) := by
  rw [Bool.eq_iff_iff]
  cases i
  cases j
  simp

section
variable {X : Cx} {a b c : Expr} {ta tb tc : TE} {pos : Pos}
theorem fin_bl {pins : List (Addr × Obj)} {σ : St} {H : Hp} {s : Shared} {Q : VK} {k k' : Bool} (I : Inv X pins σ H s) (q : Q (.bl k) H) (e : k = k') : EP X pins σ Q (.bool k') s := by
  subst e
  exact ⟨.bl k, H, I, rfl, q⟩
theorem op_eq : OpR X (compareOp .Eq) rEq := by
  intro pins s σ H x y v u Q I rx ry h
  obtain ⟨hs, q⟩ := h
  cases x with
  | non =>
    cases rx
    cases y with
    | non => cases ry; exact PySem.EqNone.eq_none_none (fin_bl I q (by simp))
    | bl j => cases ry; exact PySem.EqNone.eq_none_bool (fin_bl I q (by simp))
    | int j => obtain ⟨t', rfl⟩ := ry; exact PySem.EqNone.eq_none_int (fin_bl I q (by simp))
    | str j => obtain ⟨t', rfl⟩ := ry; exact PySem.EqNone.eq_none_str (fin_bl I q (by simp))
    | _ => exact absurd (show false = true from hs) Bool.false_ne_true
  | bl i =>
    cases rx
    cases y with
    | non => cases ry; exact PySem.EqNone.eq_bool_none (fin_bl I q (by simp))
    | bl j => cases ry; exact eq_bool (fin_bl I q dec_bl)
    | str j => obtain ⟨t', rfl⟩ := ry; exact PySem.EqMixed.eq_bool_str (fin_bl I q (by simp))
    | _ => exact absurd (show false = true from hs) Bool.false_ne_true
  | int i =>
    obtain ⟨t, rfl⟩ := rx
    cases y with
    | non => cases ry; exact PySem.EqNone.eq_int_none (fin_bl I q (by simp))
    | int j => obtain ⟨t', rfl⟩ := ry; exact eq_int (fin_bl I q dec_int)
    | str j => obtain ⟨t', rfl⟩ := ry; exact PySem.EqMixed.eq_int_str (fin_bl I q (by simp))
    | _ => exact absurd (show false = true from hs) Bool.false_ne_true
  | str i =>
    obtain ⟨t, rfl⟩ := rx
    cases y with
    | non => cases ry; exact PySem.EqNone.eq_str_none (fin_bl I q (by simp))
    | bl j => cases ry; exact PySem.EqMixed.eq_str_bool (fin_bl I q (by simp))
    | int j => obtain ⟨t', rfl⟩ := ry; exact PySem.EqMixed.eq_str_int (fin_bl I q (by simp))
    | str j => obtain ⟨t', rfl⟩ := ry; exact eq_str (fin_bl I q dec_str)
    | _ => exact absurd (show false = true from hs) Bool.false_ne_true
  | byt i =>
    obtain ⟨t, rfl⟩ := rx
    cases y with
    | byt j => obtain ⟨t', rfl⟩ := ry; exact PySem.W.eq_bytes (fin_bl I q dec_byt)
    | _ => exact absurd (show false = true from hs) Bool.false_ne_true
  | _ => cases y <;> exact absurd (show false = true from hs) Bool.false_ne_true
theorem op_ne : OpR X (compareOp .NotEq) rNe := by
  intro pins s σ H x y v u Q I rx ry h
  obtain ⟨hs, q⟩ := h
  cases x with
  | non =>
    cases rx
    cases y with
    | non => cases ry; exact PySem.EqNone.ne_none_none (fin_bl I q (by simp))
    | bl j => cases ry; exact PySem.EqNone.ne_none_bool (fin_bl I q (by simp))
    | int j => obtain ⟨t', rfl⟩ := ry; exact PySem.EqNone.ne_none_int (fin_bl I q (by simp))
    | str j => obtain ⟨t', rfl⟩ := ry; exact PySem.EqNone.ne_none_str (fin_bl I q (by simp))
    | _ => exact absurd (show false = true from hs) Bool.false_ne_true
  | bl i =>
    cases rx
    cases y with
    | non => cases ry; exact PySem.EqNone.ne_bool_none (fin_bl I q (by simp))
    | bl j => cases ry; exact ne_bool (fin_bl I q (congrArg not dec_bl))
    | str j => obtain ⟨t', rfl⟩ := ry; exact PySem.EqMixed.ne_bool_str (fin_bl I q (by simp))
    | _ => exact absurd (show false = true from hs) Bool.false_ne_true
  | int i =>
    obtain ⟨t, rfl⟩ := rx
    cases y with
    | non => cases ry; exact PySem.EqNone.ne_int_none (fin_bl I q (by simp))
    | int j => obtain ⟨t', rfl⟩ := ry; exact ne_int (fin_bl I q (congrArg not dec_int))
    | str j => obtain ⟨t', rfl⟩ := ry; exact PySem.EqMixed.ne_int_str (fin_bl I q (by simp))
    | _ => exact absurd (show false = true from hs) Bool.false_ne_true
  | str i =>
    obtain ⟨t, rfl⟩ := rx
    cases y with
    | non => cases ry; exact PySem.EqNone.ne_str_none (fin_bl I q (by simp))
    | bl j => cases ry; exact PySem.EqMixed.ne_str_bool (fin_bl I q (by simp))
    | int j => obtain ⟨t', rfl⟩ := ry; exact PySem.EqMixed.ne_str_int (fin_bl I q (by simp))
    | str j => obtain ⟨t', rfl⟩ := ry; exact ne_str (fin_bl I q (congrArg not dec_str))
    | _ => exact absurd (show false = true from hs) Bool.false_ne_true
  | byt i =>
    obtain ⟨t, rfl⟩ := rx
    cases y with
    | byt j => obtain ⟨t', rfl⟩ := ry; exact PySem.W.ne_bytes (fin_bl I q (congrArg not dec_byt))
    | _ => exact absurd (show false = true from hs) Bool.false_ne_true
  | _ => cases y <;> exact absurd (show false = true from hs) Bool.false_ne_true

theorem op_lt : OpR X (compareOp .Lt) (rI0 fun i j => .bl (decide (i < j))) := opB0 fun _ _ _ _ _ _ _ q => lt_int q
theorem op_le : OpR X (compareOp .LtE) (rI0 fun i j => .bl (decide (i ≤ j))) := opB0 fun _ _ _ _ _ _ _ q => le_int q
theorem op_gt : OpR X (compareOp .Gt) (rI0 fun i j => .bl (decide (j < i))) := opB0 fun _ _ _ _ _ _ _ q => gt_int q
theorem nomark (b : Expr) {op : CmpOp} (h : op ≠ .In := by decide) (h2 : op ≠ .NotIn := by decide) : behindInMarks op b = false := by
  have e1 : (op == CmpOp.In) = false := by cases op <;> first | rfl | exact absurd rfl h
  have e2 : (op == CmpOp.NotIn) = false := by cases op <;> first | rfl | exact absurd rfl h2
  cases b <;> simp [behindInMarks, e1, e2]
def tTest (t : TE) : TT := fun σ H Q => t σ H fun x H' => ∃ k, x = .bl k ∧ Q k H'
theorem pt_cmpR {op : CmpOp} {r : R2} (ho : OpR X (compareOp op) r) (ha : PE X a ta) (hb : PE X b tb) (hm : behindInMarks op b = false) : PT X (.Compare a [op] [b] pos) (tTest (tOp r ta tb)) := by
  intro pins s σ H Q I h
  refine wpAny_isTrue_Compare1 (thn (ha pins s σ H _ I h) fun v s1 ⟨x, H1, I1, r1, q1⟩ => thn (hb pins s1 σ H1 _ I1 q1) fun u s2 ⟨y, H2, I2, r2, q2⟩ =>
    thn (ho pins s2 σ H2 x y v u _ I2 r1 r2 q2) fun c s3 ⟨z, H3, I3, r3, k, e, q3⟩ => ?_) hm
  subst e
  cases r3
  exact wpAny_truthy_bool ⟨H3, I3, q3⟩
def tChain (r r' : R2) (ta tb tc : TE) : TE := fun σ H Q => ta σ H fun x H1 => tb σ H1 fun y H2 => r x y H2 fun z H3 => ∃ k, z = .bl k ∧
  (if k = true then tc σ H3 fun w' H4 => r' y w' H4 Q else Q (.bl false) H3)
theorem pe_chain {op op' : CmpOp} {r r' : R2} (ho : OpR X (compareOp op) r) (ho' : OpR X (compareOp op') r') (ha : PE X a ta) (hb : PE X b tb) (hc : PE X c tc)
    (hm : lastMarks [op, op'] [b, c] = false := by with_unfolding_all rfl) : PE X (.Compare a [op, op'] [b, c] pos) (tChain r r' ta tb tc) := by
  intro pins s σ H Q I h
  refine Compare_chain (thn (ha pins s σ H _ I h) fun v s1 ⟨x, H1, I1, r1, q1⟩ => chain_link (thn (hb pins s1 σ H1 _ I1 q1) fun u s2 ⟨y, H2, I2, r2, q2⟩ =>
    thn (ho pins s2 σ H2 x y v u _ I2 r1 r2 q2) fun d s3 ⟨z, H3, I3, r3, k, e, q3⟩ => ?_)) hm
  subst e
  cases r3
  refine wpAny_truthy_bool ?_
  cases k with
  | false => exact ite_ff ⟨.bl false, H3, I3, rfl, q3⟩
  | true => exact ite_tt (chain_last (thn (hc pins s3 σ H3 _ I3 q3) fun w' s4 ⟨z', H4, I4, r4, q4⟩ => ho' pins s4 σ H4 y z' u w' Q I4 r2 r4 q4))
theorem line63 : (sizeLine : Nat) < 2 ^ 63 := by rw [sizeLine_eq]; decide
theorem op_add_str : OpR X (binaryOp .Add) (fun x y H Q => ∃ i j, x = .str i ∧ y = .str j ∧ i.length + j.length ≤ sizeLine ∧ Q (.str (i ++ j)) H) := by
  intro pins s σ H x y v u Q I rx ry h
  obtain ⟨i, j, rfl, rfl, hz, q⟩ := h
  obtain ⟨t, rfl⟩ := rx
  obtain ⟨t', rfl⟩ := ry
  exact add_str (fun t' tk => ⟨.str (i ++ j), H, I.tok _, ⟨_, rfl⟩, q⟩) hz
theorem vals1 {x : V} {us : List Value} (r : Vals [x] us) : ∃ u, us = [u] ∧ RelV x u := by
  cases r with
  | cons r1 r2 => cases r2; exact ⟨_, rfl, r1⟩
end
end L2

namespace L2
open PySem PySem.Spec PyProof.Rows

structure ObjM (h : Heap) (x dx C : Addr) (mA : Str → Option Value) : Prop where
  obj : h.get? x = some (PySem.W.instObj C dx)
  ns : h.Ns1 dx mA
  ne : dx ≠ x

theorem lookIn_ns {h : Heap} {dx : Addr} {mA : Str → Option Value} (n : h.Ns1 dx mA) : ∃ od, h.get? dx = some od ∧ ∀ name, PySem.W.lookIn name od = some (mA name) := by
  obtain ⟨o, es, ep, ho, hd, hk, _, hm⟩ := n
  refine ⟨o, ho, fun name => ?_⟩
  have e := hm name
  unfold nsFind findBy at e
  rw [← Array.find?_toList] at e
  unfold PySem.W.lookIn
  rw [hd]
  dsimp only
  split
  · rename_i y q
    rw [q] at e
    exact congrArg some e
  · rename_i q
    rw [q] at e
    have a : es.toList.any (·.refKey) = false := by
      rw [List.any_eq_false]
      intro y hy
      obtain ⟨z, t, hkey⟩ := hk y (Array.mem_toList_iff.mp hy)
      simp [DictEntry.refKey, hkey]
    have a' : ¬ es.toList.any (·.refKey) = true := by rw [a]; exact Bool.false_ne_true
    rw [if_neg a']
    exact congrArg some e

theorem ObjM.look {h : Heap} {x dx C : Addr} {mA : Str → Option Value} (I : ObjM h x dx C mA) : ∃ od, PySem.W.InstAt h x (PySem.W.instObj C dx) C (some od) ∧ ∀ name, PySem.W.lookIn name od = some (mA name) :=
  let ⟨od, ho, hl⟩ := lookIn_ns I.ns
  ⟨od, ⟨I.obj, rfl, rfl, ho⟩, hl⟩

section
variable {prog : Program} {w : World} {A : Around} {E : Value → Shared → Prop} {s : Shared} {K : PySem.W.Frag} {x dx C f : Addr} {mA : Str → Option Value} {name : Str} {v : Value}

theorem get_map {expr : Bool} {Q : Value → Shared → Prop} (X : K.In s.heap) (I : ObjM s.heap x dx C mA) (hg : PySem.W.plainGet K C name = true) (hh : PySem.W.hasDictIn K C = true)
    (ha : PySem.W.findIn K (.ref C) name = some none) (hv : mA name = some v) (hv' : PySem.W.handedIn v = true) (h : Q v { s with toks := s.toks + 1 }) :
    wpAny (model prog w) A (getAttr (.ref x) name expr) Q E s := by
  obtain ⟨od, J, hl⟩ := I.look
  exact PySem.W.get_value X J (PySem.W.plainGet_of hg).1 (PySem.W.findObj_own hh ha rfl (by rw [hl, hv])) hv' h

theorem set_map {ns : List Str} {Q : Unit → Shared → Prop} (X : K.In s.heap) (I : ObjM s.heap x dx C mA)
    (hs : PySem.W.findIn K (.ref C) "__setattr__" = some (some (.builtin "object.__setattr__"))) (hp : PySem.W.plainOver K C = true) (ht : PySem.W.takerIn K C name = some none) (hh : PySem.W.hasDictIn K C = true)
    (hw : PySem.Within mA ns) (hsz : ns.length ≤ sizeLine)
    (h : ∀ h', ObjM h' x dx C (fun y => if y = name then some v else mA y) → Heap.SameBut dx s.heap h' → Q () { s with heap := h', toks := s.toks + 2 }) :
    wpAny (model prog w) A (setAttr (.ref x) name v) Q E s := by
  obtain ⟨od, J, hl⟩ := I.look
  refine PySem.W.set_plain X J hs (PySem.W.osa_open (s := { s with toks := s.toks + 1 }) (r := none) X J hp ht fun b => ?_)
  obtain ⟨cd, hc, hd'⟩ := PySem.W.any_some hh
  have hx : s.heap.get? x = some ⟨.ref C, some dx, .plain, #[]⟩ := I.obj
  refine wpAny_bind (wpAny_pure (wpAny_bind (wpAny_bind (wpAny_loadPart hx (wpAny_bind (PySem.W.Looks.here (s := { s with toks := s.toks + 1 }) (PySem.W.looks_clsIn X hc) ?_))))))
  rw [hd']
  refine wpAny_pure (a := some dx) (wpAny_bind (wpAny_pure (wpAny_bind ?_)))
  refine wpAny_nsSet1 (s := { s with toks := s.toks + 1 }) I.ns fun h' hn2 hs2 => ?_
  obtain ⟨oD, esD, epD, hoD, hdD, hcD⟩ := hn2.count (PySem.Within.cons name v hw)
  refine wpAny_bind (wpAny_lookBehind hoD (by rw [hdD]; exact pastItsLine_dict (Nat.le_trans hcD (by rw [List.length_cons]; omega))) ?_)
  exact wpAny_pure (h _ ⟨(hs2.2 _ (Ne.symm I.ne)).trans I.obj, hn2, I.ne⟩ hs2)

theorem make_map {R : Result → Shared → Prop} {vs : List Value} {kw : List (Str × Value)} (X : K.In s.heap) (hm : PySem.W.makesIn K C = true)
    (hi : PySem.W.findIn K (.ref C) "__init__" = some (some (.ref f))) (hf : PySem.W.typeIn K (.ref f) = some (.type "function"))
    (h : codeAny (model prog w) (A.under (.builtin "type.__call__" ⟨.ref C :: vs, kw⟩)) (.call (.ref f) ⟨.ref (s.heap.objs.size + 1) :: vs, kw⟩) (PySem.W.InitBack (s.heap.objs.size + 1) R)
      { s with heap := (s.heap.push PySem.W.emptyDict).push (PySem.W.instObj C s.heap.objs.size) }) :
    codeAny (model prog w) A (.call (.ref C) ⟨vs, kw⟩) R s := by
  obtain ⟨hh, g, d, t, os⟩ := s
  exact PySem.W.make_core (PySem.W.makes_of X hm) (PySem.W.looks_findIn X hi) (fun self => PySem.W.bind_fn X self hf) (.inl rfl) h
end

def putF (f : Str) (v : V) : List (Str × V) → List (Str × V)
  | [] => [(f, v)]
  | (g, x) :: r => if g = f then (g, v) :: r else (g, x) :: putF f v r
theorem lookup_putF (f g : Str) (v : V) : ∀ fs : List (Str × V), (putF f v fs).lookup g = if g = f then some v else fs.lookup g
  | [] => by
    show List.lookup g [(f, v)] = _
    by_cases h : g = f
    · have hb : (g == f) = true := beq_iff_eq.mpr h
      simp only [List.lookup, hb, if_pos h]
    · have hb : (g == f) = false := beq_eq_false_iff_ne.mpr h
      simp only [List.lookup, hb, if_neg h]
  | (k, x) :: r => by
    have ih := lookup_putF f g v r
    rw [show putF f v ((k, x) :: r) = (if k = f then (k, v) :: r else (k, x) :: putF f v r) from rfl]
    by_cases hk : k = f
    · rw [if_pos hk]
      by_cases h : g = k
      · have hb : (g == k) = true := beq_iff_eq.mpr h
        simp only [List.lookup, hb, if_pos (h.trans hk)]
      · have hb : (g == k) = false := beq_eq_false_iff_ne.mpr h
        simp only [List.lookup, hb, if_neg (fun e : g = f => h (e.trans hk.symm))]
    · rw [if_neg hk]
      by_cases h : g = k
      · have hb : (g == k) = true := beq_iff_eq.mpr h
        simp only [List.lookup, hb, if_neg (fun e : g = f => hk (h.symm.trans e))]
      · have hb : (g == k) = false := beq_eq_false_iff_ne.mpr h
        simp only [List.lookup, hb]
        exact ih
theorem keys_putF (f : Str) (v : V) : ∀ fs : List (Str × V), f ∈ (putF f v fs).map (·.1) ∧ ∀ g, g ∈ fs.map (·.1) → g ∈ (putF f v fs).map (·.1)
  | [] => ⟨by simp [putF], fun g h => by simp at h⟩
  | (k, x) :: r => by
    obtain ⟨i1, i2⟩ := keys_putF f v r
    rw [show putF f v ((k, x) :: r) = (if k = f then (k, v) :: r else (k, x) :: putF f v r) from rfl]
    by_cases hk : k = f
    · rw [if_pos hk]
      subst hk
      exact ⟨by simp, fun g h => by simpa using h⟩
    · rw [if_neg hk]
      refine ⟨?_, fun g h => ?_⟩
      · rw [List.map_cons]
        exact List.mem_cons_of_mem _ i1
      · rw [List.map_cons] at h ⊢
        rcases List.mem_cons.mp h with e | e
        · exact List.mem_cons.mpr (.inl e)
        · exact List.mem_cons_of_mem _ (i2 g e)
theorem length_putF (f : Str) (v : V) : ∀ fs : List (Str × V), (putF f v fs).length ≤ fs.length + 1
  | [] => by simp [putF]
  | (k, x) :: r => by
    have ih := length_putF f v r
    rw [show putF f v ((k, x) :: r) = (if k = f then (k, v) :: r else (k, x) :: putF f v r) from rfl]
    by_cases hk : k = f
    · rw [if_pos hk, List.length_cons, List.length_cons]; omega
    · rw [if_neg hk, List.length_cons, List.length_cons]; omega

theorem RelO.some_of {v : V} {o : Option Value} (r : RelO (some v) o) : ∃ u, o = some u ∧ RelV v u := by
  cases o with
  | none => exact (show False from r).elim
  | some u => exact ⟨u, rfl, r⟩
theorem RelO.none_of {o : Option Value} (r : RelO none o) : o = none := by
  cases o with
  | none => rfl
  | some u => exact (show False from r).elim
theorem handed_of {v : V} {u : Value} (r : RelV v u) : PySem.W.handedIn u = true := by
  cases v with
  | non => cases (show u = Value.none from r); rfl
  | bl b => cases (show u = Value.bool b from r); rfl
  | int i => obtain ⟨t, e⟩ := (show ∃ t, u = Value.int i t from r); cases e; rfl
  | str x => obtain ⟨t, e⟩ := (show ∃ t, u = Value.str x t from r); cases e; rfl
  | byt b => obtain ⟨t, e⟩ := (show ∃ t, u = Value.bytes b t from r); cases e; rfl
  | flt b => obtain ⟨t, e⟩ := (show ∃ t, u = Value.float b t from r); cases e; rfl
  | ref a => cases (show u = Value.ref a from r); rfl
  | ty n => cases (show u = Value.type n from r); rfl

section
variable {P : Program} {w : World} {H H' : Hp} {h h' : Heap} {a C dx : Addr} {fs fs' : List (Str × V)}
theorem ins_get (hok : HOk P w H h) (e : H a = some (.ins C dx fs)) : ∃ mA, ObjM h a dx C mA ∧ (∀ f, RelO (fs.lookup f) (mA f)) ∧ PySem.Within mA (fs.map (·.1)) ∧ fs.length ≤ 1000 ∧ H dx = some (.own a) := by
  obtain ⟨d, z, ne, ob, mA, n, r, q⟩ := (show ObjOk P w H h a (.ins C dx fs) from hok a _ e)
  exact ⟨mA, ⟨ob, n, ne⟩, r, q, z, d⟩
end

structure Cls (K : PySem.W.Frag) (C : Addr) : Prop where
  pg : PySem.W.plainGet K C Str.empty = true
  hd : PySem.W.hasDictIn K C = true
  po : PySem.W.plainOver K C = true
  sa : PySem.W.findIn K (.ref C) "__setattr__" = some (some (.builtin "object.__setattr__"))
theorem Cls.get {K : PySem.W.Frag} {C : Addr} (c : Cls K C) (f : Str) : PySem.W.plainGet K C f = true := c.pg
def NoAttr (K : PySem.W.Frag) (C : Addr) (f : Str) : Prop := PySem.W.findIn K (.ref C) f = some none
theorem NoAttr.taker {K : PySem.W.Frag} {C : Addr} {f : Str} (n : NoAttr K C f) : PySem.W.takerIn K C f = some none := by
  unfold PySem.W.takerIn
  rw [show PySem.W.findIn K (.ref C) f = some none from n]
  rfl
structure Con (K : PySem.W.Frag) (C : Addr) (f : Str) (v : V) (u : Value) : Prop where
  at_ : PySem.W.findIn K (.ref C) f = some (some u)
  rel : RelV v u
  get : PySem.W.specialIn K u "__get__" = some none
  cp : PySem.W.copiedNames.contains f = false
structure Meth (K : PySem.W.Frag) (C : Addr) (m : Str) (f : Addr) : Prop where
  at_ : PySem.W.findIn K (.ref C) m = some (some (.ref f))
  fn : PySem.W.isFn K (.ref f) = true
  kp : PySem.W.keepIn K (.ref f) = true

section
variable {X : Cx} {pins : List (Addr × Obj)} {σ : St} {H : Hp} {s : Shared} {a C dx : Addr} {fs : List (Str × V)} {f : Str} {v : V} {A : Around} {E : Value → Shared → Prop}

theorem getattr_ok {b : Bool} {Q : Value → Shared → Prop} (I : Inv X pins σ H s) (e : H a = some (.ins C dx fs)) (c : Cls X.K C) (n : NoAttr X.K C f) (l : fs.lookup f = some v)
    (h : ∀ u s', Inv X pins σ H s' → RelV v u → Q u s') : wpAny (model X.prog X.w) A (getAttr (.ref a) f b) Q E s := by
  obtain ⟨mA, O, r, _, _, _⟩ := ins_get I.hok e
  obtain ⟨u, hu, ru⟩ := RelO.some_of (v := v) (o := mA f) (by rw [← l]; exact r f)
  exact get_map I.kIn O (c.get f) c.hd n hu (handed_of ru) (h u _ (I.tok _) ru)

theorem setattr_ok {y : V} {u : Value} {Q : Unit → Shared → Prop} (I : Inv X pins σ H s) (e : H a = some (.ins C dx fs)) (c : Cls X.K C) (n : NoAttr X.K C f) (hl : fs.length < 1000) (ry : RelV y u)
    (h : ∀ s', Inv X pins σ (upd H a (.ins C dx (putF f y fs))) s' → Q () s') : wpAny (model X.prog X.w) A (setAttr (.ref a) f u) Q E s := by
  obtain ⟨mA, O, r, wi, _, ho⟩ := ins_get I.hok e
  have hz : (fs.map (·.1)).length ≤ sizeLine := by rw [List.length_map, sizeLine_eq]; omega
  refine set_map I.kIn O c.sa c.po n.taker c.hd wi hz fun h' O' sb => h _ ?_
  have hd : ∃ o, h'.get? dx = some o := let ⟨o, _, _, e', _⟩ := O'.ns; ⟨o, e'⟩
  refine I.write (x := a) (e := dx) (by rw [e]; exact True.intro) (.inr ho) (fun b q hb z => (sb.2 b hb).trans z) hd ?_
  refine ⟨by rw [upd_ne O.ne]; exact ho, ?_, O.ne, O'.obj, _, O'.ns, fun g => ?_, fun g hg => ?_⟩
  · have := length_putF f y fs; omega
  · show RelO ((putF f y fs).lookup g) (if g = f then some u else mA g)
    rw [lookup_putF]
    by_cases q : g = f
    · rw [if_pos q, if_pos q]; exact ry
    · rw [if_neg q, if_neg q]; exact r g
  · by_cases q : g = f
    · rw [q]; exact (keys_putF f y fs).1
    · refine (keys_putF f y fs).2 g (wi g fun z => hg ?_)
      show (if g = f then some u else mA g) = none
      rw [if_neg q]; exact z

theorem Inv.made (I : Inv X pins σ H s) : Inv X pins σ (upd (upd H s.heap.objs.size (.own (s.heap.objs.size + 1))) (s.heap.objs.size + 1) (.ins C s.heap.objs.size []))
    { s with heap := (s.heap.push PySem.W.emptyDict).push (PySem.W.instObj C s.heap.objs.size) } := by
  have e1 : (s.heap.push PySem.W.emptyDict).get? s.heap.objs.size = some PySem.W.emptyDict := Heap.get?_push_size s.heap rfl
  have e2 : ((s.heap.push PySem.W.emptyDict).push (PySem.W.instObj C s.heap.objs.size)).get? (s.heap.objs.size + 1) = some (PySem.W.instObj C s.heap.objs.size) := by
    have := Heap.get?_push_size (s.heap.push PySem.W.emptyDict) (o := PySem.W.instObj C s.heap.objs.size) rfl
    rwa [Heap.size_push] at this
  have e3 : (s.heap.push PySem.W.emptyDict).Ns s.heap.objs.size (fun _ => none) := ⟨PySem.W.emptyDict, #[], _, e1, rfl, (fun e he => absurd he (by simp)), fun _ => rfl⟩
  have I1 := I.laid (a := s.heap.objs.size) (o := .own (s.heap.objs.size + 1)) (h' := s.heap.push PySem.W.emptyDict) (t' := s.toks) (fun b u q => Heap.get?_push_of_some _ q) (Nat.le_refl _) ⟨_, e1⟩
  refine I1.laid (a := s.heap.objs.size + 1) (o := .ins C s.heap.objs.size []) (t' := s.toks) (fun b u q => Heap.get?_push_of_some _ q) (Nat.le_of_eq (Heap.size_push _ _)) ?_
  have ne : s.heap.objs.size ≠ s.heap.objs.size + 1 := Nat.ne_of_lt (Nat.lt_succ_self _)
  refine ⟨by rw [upd_ne ne, upd_same], Nat.zero_le _, ne, e2, fun _ => none, (Heap.Ns1.of_empty e3).at fun o q => Heap.get?_push_of_some _ q, fun _ => True.intro, fun y hy => absurd rfl hy⟩

theorem attr_of {prog : Program} {w : World} {env : Env} {e : Expr} {f : Str} {pos : Pos} {s : Shared} {Q : Value → Shared → Prop} (hb : attributeBase e f env (eval e env) = eval e env)
    (h : wpAny (model prog w) A (eval e env) (fun o s₁ => wpAny (model prog w) A (getAttr o f true) Q E s₁) E s) : wpAny (model prog w) A (eval (.Attribute e f pos) env) Q E s :=
  Attribute_any_ h (by rw [arm_eval_Attribute, hb])
end

def tFld (K : PySem.W.Frag) (ta : TE) (f : Str) : TE := fun σ H Q => ta σ H fun x H1 => ∃ a C dx fs v, x = .ref a ∧ H1 a = some (.ins C dx fs) ∧ Cls K C ∧ NoAttr K C f ∧ fs.lookup f = some v ∧ Q v H1
def sFld (K : PySem.W.Frag) (ta tv : TE) (f : Str) : TS := fun D σ H => tv σ H fun y H1 => ta σ H1 fun x H2 => ∃ a C dx fs, x = .ref a ∧ H2 a = some (.ins C dx fs) ∧ Cls K C ∧ NoAttr K C f ∧ fs.length < 1000 ∧
  D.nx σ (upd H2 a (.ins C dx (putF f y fs)))
section
variable {X : Cx} {o e value : Expr} {f : Str} {pos pos' tpos : Pos} {ta tv : TE}
theorem pe_fld (he : PE X e ta) (hb : attributeBase e f X.env (eval e X.env) = eval e X.env) : PE X (.Attribute e f pos) (tFld X.K ta f) := by
  intro pins s σ H Q I h
  refine attr_of hb (thn (he pins s σ H _ I h) fun u s1 ⟨x, H1, I1, rx, a, C, dx, fs, v, ex, ea, c, n, l, q⟩ => ?_)
  subst ex
  obtain rfl : u = Value.ref a := rx
  exact getattr_ok I1 ea c n l fun u' s2 I2 ru => ⟨v, H1, I2, ru, q⟩
theorem ps_fld (ha : PE X o ta) (hv : PE X value tv) (hs : swapsWith value (some (.Attribute o f pos')) pos.line X.env = pure false) : PS X (.Assign [.Attribute o f pos'] value pos) (sFld X.K ta tv f) := by
  intro pins s σ H D I h
  refine plainObj_wpAny_Assign_Attribute (thn (hv pins s σ H _ I h) fun u s1 ⟨y, H1, I1, ry, q⟩ => thn (ha pins s1 σ H1 _ I1 q) fun ov s2 ⟨x, H2, I2, rx, a, C, dx, fs, ex, ea, c, n, l, q2⟩ => ?_) hs
  subst ex
  obtain rfl : ov = Value.ref a := rx
  exact setattr_ok I2 ea c n l ry fun s3 I3 => ⟨σ, _, I3, q2⟩
end

section
variable {X : Cx} {pins : List (Addr × Obj)} {σ : St} {H : Hp} {s : Shared} {A : Around} {E : Value → Shared → Prop} {Q : Value → Shared → Prop} {c : Value} {b : Bool}
inductive TyOf (K : PySem.W.Frag) (H : Hp) : V → Value → Prop where
  | non : TyOf K H .non (.type "NoneType")
  | bl (x : Bool) : TyOf K H (.bl x) (.type "bool")
  | int (i : Int) : TyOf K H (.int i) (.type "int")
  | str (x : Str) : TyOf K H (.str x) (.type "str")
  | flt (x : UInt64) : TyOf K H (.flt x) (.type "float")
  | lst {a : Addr} {xs : List V} (e : H a = some (.lst xs)) : TyOf K H (.ref a) (.type "list")
  | frz {a : Addr} {o : Obj} {xs : List V} (e : H a = some (.frz o (.lst xs))) : TyOf K H (.ref a) (.type "list")
  | tup {a : Addr} {xs : List V} (e : H a = some (.tup xs)) : TyOf K H (.ref a) (.type "tuple")
  | dK {a : Addr} {kvs : List (Key × V)} (e : H a = some (.dK kvs)) : TyOf K H (.ref a) (.type "dict")
  | dT {a : Addr} {kvs : List (List Key × V)} (e : H a = some (.dT kvs)) : TyOf K H (.ref a) (.type "dict")
  | ins {a C dx : Addr} {fs : List (Str × V)} (e : H a = some (.ins C dx fs)) (cl : Cls K C) (ha : PySem.W.findIn K (.ref C) "__class__" = some (some (.builtin "object.__class__")))
      (hn : PySem.W.specialIn K (.builtin "object.__class__") "__get__" = some (some (.builtin "getset_descriptor.__get__"))) (htk : PySem.W.takesIn K (.builtin "object.__class__") = some true)
      (hm : PySem.W.mroIn K C (.type "object") = some true) : TyOf K H (.ref a) (.ref C)
theorem isinst_ok {x : V} {u t : Value} (I : Inv X pins σ H s) (rx : RelV x u) (ty : TyOf X.K H x t) (e : PySem.W.kitOne X.K t c = some b) (h : ∀ tk, Q (.bool b) { s with toks := tk }) :
    wpAny (model X.prog X.w) A (call (.builtin "isinstance") [u, c]) Q E s := by
  cases ty with
  | non => cases (show u = Value.none from rx); exact PySem.W.kia_one PySem.W.kitx_none I.kIn True.intro e (fun z => nomatch z) h
  | bl y => cases (show u = Value.bool y from rx); exact PySem.W.kia_one PySem.W.kitx_bool I.kIn True.intro e (fun z => nomatch z) h
  | int i => obtain ⟨t, q⟩ := (show ∃ t, u = Value.int i t from rx); cases q; exact PySem.W.kia_one PySem.W.kitx_int I.kIn True.intro e (fun z => nomatch z) h
  | str y => obtain ⟨t, q⟩ := (show ∃ t, u = Value.str y t from rx); cases q; exact PySem.W.kia_one PySem.W.kitx_str I.kIn True.intro e (fun z => nomatch z) h
  | flt y => obtain ⟨t, q⟩ := (show ∃ t, u = Value.float y t from rx); cases q; exact PySem.W.kia_one PySem.W.kitx_float I.kIn True.intro e (fun z => nomatch z) h
  | @lst a xs ea =>
    cases (show u = Value.ref a from rx)
    obtain ⟨_, _, n, _, h1⟩ := (show ObjOk X.prog X.w H s.heap a (.lst xs) from I.hok a _ ea)
    exact PySem.W.kia_one PySem.W.kitx_list I.kIn ⟨_, h1, rfl⟩ e (fun z => nomatch z) h
  | @frz a ob xs ea =>
    cases (show u = Value.ref a from rx)
    obtain ⟨_, _, _, n, _, h1⟩ := (show ObjOk X.prog X.w H s.heap a (.frz ob (.lst xs)) from I.hok a _ ea)
    exact PySem.W.kia_one PySem.W.kitx_list I.kIn ⟨_, h1, rfl⟩ e (fun z => nomatch z) h
  | @tup a xs ea =>
    cases (show u = Value.ref a from rx)
    obtain ⟨_, _, _, p⟩ := (show ObjOk X.prog X.w H s.heap a (.tup xs) from I.hok a _ ea)
    obtain ⟨o, h1, h2, _⟩ := p
    exact PySem.W.kia_one PySem.W.kitx_tuple I.kIn ⟨o, h1, h2⟩ e (fun z => nomatch z) h
  | @dK a kvs ea =>
    cases (show u = Value.ref a from rx)
    obtain ⟨_, _, vs, _, p⟩ := (show ObjOk X.prog X.w H s.heap a (.dK kvs) from I.hok a _ ea)
    obtain ⟨o, es, ep, h1, h2, _⟩ := p
    exact PySem.W.kia_one PySem.W.kitx_dict I.kIn ⟨o, h1, h2.1⟩ e (fun z => nomatch z) h
  | @dT a kvs ea =>
    cases (show u = Value.ref a from rx)
    obtain ⟨_, _, xs, _, o, es, ep, h1, h2, _⟩ := (show ObjOk X.prog X.w H s.heap a (.dT kvs) from I.hok a _ ea)
    exact PySem.W.kia_one PySem.W.kitx_dict I.kIn ⟨o, h1, h2.1⟩ e (fun z => nomatch z) h
  | @ins a C dx fs ea cl ha hn htk hm =>
    cases (show u = Value.ref a from rx)
    obtain ⟨mA, O, _⟩ := ins_get I.hok ea
    obtain ⟨od, J, _⟩ := O.look
    exact PySem.W.kia_one (PySem.W.kitx_own (cl.get _) cl.hd ha hn htk hm) I.kIn J e (fun z => nomatch z) h
end
end L2

namespace L2
open PySem PySem.Spec PyProof.Rows

structure Room (k : Nat) (A : Around) : Prop where
  hd : A.handled = none
  dp : A.depth + 3 * k + 5 < recursionLimit
  un : A.units + 16 * k + 200 < cLine
theorem Room.mono {j k : Nat} {A : Around} (r : Room k A) (h : j ≤ k) : Room j A := ⟨r.hd, by have := r.dp; omega, by have := r.un; omega⟩
theorem Room.deeper {k : Nat} {A : Around} (r : Room (k + 1) A) (env : Env) : Room k (A.deeper env) :=
  ⟨r.hd, by have := r.dp; show A.depth + 1 + 3 * k + 5 < _; omega, by have := r.un; show A.units + 3 + 16 * k + 200 < _; omega⟩
theorem Room.in1 {k : Nat} {A : Around} (r : Room (k + 1) A) : Room k A.in1 :=
  ⟨r.hd, by have := r.dp; show A.depth + 3 * k + 5 < _; omega, by have := r.un; show A.units + 1 + 16 * k + 200 < _; omega⟩
theorem make_depth {A : Around} {C : Addr} {us : List Value} {kw : List (Str × Value)} : (A.under (.builtin "type.__call__" ⟨.ref C :: us, kw⟩)).depth = A.depth + 1 := by
  first | rfl | simp [Around.under, Code.weight, Code.isCreation, Code.isGuard, Code.isCaller, Code.frames, Code.isFrame, guardIds]
theorem make_units {A : Around} {C : Addr} {us : List Value} {kw : List (Str × Value)} : (A.under (.builtin "type.__call__" ⟨.ref C :: us, kw⟩)).units = A.units + 1 := by
  first | rfl | simp [Around.under, Code.cUnits, Code.frames, Code.isFrame]
theorem Room.make {k : Nat} {A : Around} (r : Room (k + 1) A) (C : Addr) (us : List Value) (kw : List (Str × Value)) : Room k (A.under (.builtin "type.__call__" ⟨.ref C :: us, kw⟩)) :=
  ⟨r.hd, by have := r.dp; rw [make_depth]; omega, by have := r.un; rw [make_units]; omega⟩
theorem Room.depth {k : Nat} {A : Around} (r : Room k A) : A.depth < recursionLimit := by have := r.dp; omega
theorem Room.units {k : Nat} {A : Around} (r : Room k A) : A.units + 64 < cLine := by have := r.un; omega
def tNil : TA := fun _ H Q => Q [] H
def tCons (ta : TE) (tr : TA) : TA := fun σ H Q => ta σ H fun x H1 => tr σ H1 fun xs H2 => Q (x :: xs) H2
section
variable {X : Cx} {e : Expr} {es : List Expr} {te : TE} {t : TA} {pos : Pos}
theorem pa_nil : PA X [] tNil := fun _ _ _ _ H Q I h => Calls.spliced_nil ⟨[], H, I, .nil, h⟩
theorem pa_cons (ha : PE X e te) (hr : PA X es t) (hs : starEach (e :: es) X.env = (false, eval e X.env) :: starEach es X.env := by rfl) : PA X (e :: es) (tCons te t) := by
  intro pos pins s σ H Q I h
  rw [hs]
  show wpAny _ _ (spliced ((false, eval e X.env) :: backTo pos (starEach es X.env))) _ _ s
  refine Calls.spliced_cons (thn (ha pins s σ H _ I h) fun u s1 ⟨x, H1, I1, r1, q1⟩ => ?_)
  exact thn (hr pos pins s1 σ H1 _ I1 q1) fun us s2 ⟨xs, H2, I2, r2, q2⟩ => ⟨x :: xs, H2, I2, .cons r1 r2, q2⟩

def tTup (t : TA) : TE := fun σ H Q => t σ H fun xs H1 => xs.length ≤ sizeLine ∧ ∀ p, H1 p = none → Q (.ref p) (upd H1 p (.tup xs))
def tLst (t : TA) : TE := fun σ H Q => t σ H fun xs H1 => xs.length ≤ sizeLine ∧ ∀ p, H1 p = none → Q (.ref p) (upd H1 p (.lst xs))
theorem pe_tup {x1} (h : PA X es t) : PE X (.Tuple es x1 pos) (tTup t) := by
  intro pins s σ H Q I hq
  refine wpAny_Tuple_spliced (thn (h pos pins s σ H _ I hq) fun us s1 ⟨xs, H1, I1, r, z, q⟩ => ⟨by rw [← r.length]; exact z, ?_⟩)
  have hf : H1 s1.heap.objs.size = none := I1.hok.fresh (Nat.le_refl _)
  refine ⟨.ref s1.heap.objs.size, upd H1 s1.heap.objs.size (.tup xs), I1.laid (t' := s1.toks) (fun b u e => Heap.get?_push_of_some _ e) (Nat.le_refl _) ?_, rfl, q _ hf⟩
  exact ⟨z, us, r, ⟨_, Heap.get?_push_size _ rfl, rfl, ⟨_, rfl⟩, rfl⟩⟩
theorem pe_lst (h : PA X es t) : PE X (.List es pos) (tLst t) := by
  intro pins s σ H Q I hq
  refine wpAny_List_spliced (thn (h pos pins s σ H _ I hq) fun us s1 ⟨xs, H1, I1, r, z, q⟩ => ⟨by rw [← r.length]; exact z, ?_⟩)
  have hf : H1 s1.heap.objs.size = none := I1.hok.fresh (Nat.le_refl _)
  refine ⟨.ref s1.heap.objs.size, upd H1 s1.heap.objs.size (.lst xs), I1.laid (t' := s1.toks) (fun b u e => Heap.get?_push_of_some _ e) (Nat.le_refl _) ?_, rfl, q _ hf⟩
  exact ⟨z, us, 0, r, Heap.get?_push_size _ rfl⟩
end

abbrev Sp := List V → Hp → VK → XK → Prop
abbrev CXT := List Env → Hp → Shared → XK → Value → Shared → Prop

structure Env0 (P : Program) (w : World) (K : PySem.W.Frag) (mg : Str → Option Value) (base : Heap) (A : Around) (outer : List Env) (s : Shared) (H : Hp) : Prop where
  frames : A.frames = some outer
  mod : Mod K mg base
  bs : ∀ b o, base.get? b = some o → s.heap.get? b = some o ∧ H b = none
  bsz : base.objs.size ≤ s.heap.objs.size
  funs : s.heap.FunFrames base outer
  frf : ∀ b ∈ frs outer, H b = none
  hok : HOk P w H s.heap
  bare : AllBare s.gens
def CE (outer : List Env) (P : Program) (w : World) (H : Hp) (s : Shared) (Q : VK) (u : Value) (s' : Shared) : Prop :=
  ∃ v H', s'.os = s.os ∧ AllBare s'.gens ∧ Un (frs outer) [] H H' s.heap s'.heap ∧ HOk P w H' s'.heap ∧ RelV v u ∧ Q v H'
def CR (CX : CXT) (outer : List Env) (P : Program) (w : World) (H : Hp) (s : Shared) (Q : VK) (E : XK) (r : Result) (s' : Shared) : Prop :=
  match r with
  | .ok (.ret u) => CE outer P w H s Q u s'
  | .ok _ => False
  | .error e => CX outer H s E e s'
structure FnOk (P : Program) (w : World) (K : PySem.W.Frag) (mg : Str → Option Value) (base : Heap) (CX : CXT) (k : Nat) (f : Addr) (fd : FuncData) (ps : List Str) (sp : Sp) : Prop where
  len : ∀ vs H Q E, sp vs H Q E → vs.length = ps.length
  run : ∀ (A : Around) (outer : List Env) (s : Shared) (H : Hp) (args : Args) (us : List Value) (vs : List V) (Q : VK) (E : XK), Room k A → Env0 P w K mg base A outer s H → BindsTo s fd args (ps.zip us) → Vals vs us → sp vs H Q E →
    codeAny (model P w) A (.call (.ref f) args) (CR CX outer P w H s Q E) s
theorem FnOk.mono {P : Program} {w : World} {K : PySem.W.Frag} {mg : Str → Option Value} {base : Heap} {CX : CXT} {j k : Nat} {f : Addr} {fd : FuncData} {ps : List Str} {sp : Sp} (F : FnOk P w K mg base CX j f fd ps sp) (h : j ≤ k) :
    FnOk P w K mg base CX k f fd ps sp := ⟨F.len, fun A outer s H args us vs Q E hr => F.run A outer s H args us vs Q E (hr.mono h)⟩
theorem Env0.make {P : Program} {w : World} {K : PySem.W.Frag} {mg : Str → Option Value} {base : Heap} {A : Around} {outer : List Env} {s : Shared} {H : Hp} (e : Env0 P w K mg base A outer s H) (C : Addr) (us : List Value) (kw : List (Str × Value)) :
    Env0 P w K mg base (A.under (.builtin "type.__call__" ⟨.ref C :: us, kw⟩)) outer s H := ⟨by first | exact e.frames | (simpa [Around.under, Code.envs, Code.isFrame, pushEnvs] using e.frames), e.mod, e.bs, e.bsz, e.funs, e.frf, e.hok, e.bare⟩
theorem Env0.in1 {P : Program} {w : World} {K : PySem.W.Frag} {mg : Str → Option Value} {base : Heap} {A : Around} {outer : List Env} {s : Shared} {H : Hp} (e : Env0 P w K mg base A outer s H) :
    Env0 P w K mg base A.in1 outer s H := ⟨e.frames, e.mod, e.bs, e.bsz, e.funs, e.frf, e.hok, e.bare⟩

section
variable {X : Cx} {pins : List (Addr × Obj)} {σ : St} {H : Hp} {s s' : Shared}
theorem Inv.env0 (I : Inv X pins σ H s) : Env0 X.prog X.w X.K X.mg X.base X.A X.stack s H :=
  ⟨I.ok.frames, I.ok.mod, I.bs, Nat.le_trans I.ok.bsz I.sz, I.stack, I.stkFree, I.hok, I.bare⟩
theorem Inv.after {Q : VK} {u : Value} (I : Inv X pins σ H s) (h : CE X.stack X.prog X.w H s Q u s') : EP X pins σ Q u s' := by
  obtain ⟨v, H', os, bare, un, hok, r, q⟩ := h
  obtain ⟨hh, g, d, t, os'⟩ := s'
  obtain rfl : os' = s.os := os
  exact ⟨v, H', I.call (h' := hh) (g' := g) (d' := d) (t' := t) (ch := []) un hok bare (fun b z => absurd z (by simp)), r, q⟩
end

def tCall (sp : Sp) (dvs : List V) (E : XK) (t : TA) : TE := fun σ H Q => t σ H fun vs H1 => sp (vs ++ dvs) H1 Q E
def tMake (C : Addr) (sp : Sp) (dvs : List V) (E : XK) (t : TA) : TE := fun σ H Q => t σ H fun vs H1 => ∀ x dx, H1 x = none → H1 dx = none → dx ≠ x →
  sp (.ref x :: (vs ++ dvs)) (upd (upd H1 dx (.own x)) x (.ins C dx [])) (fun v H2 => v = .non ∧ Q (.ref x) H2) E

def Binds (K : PySem.W.Frag) (fd : FuncData) (ps : List Str) (ds : List Value) : Prop :=
  ∀ (s : Shared) (us : List Value), K.In s.heap → (us ++ ds).length = ps.length → BindsTo s fd ⟨us, []⟩ (ps.zip (us ++ ds))
theorem Binds.all {K : PySem.W.Frag} {fd : FuncData} {ps : List Str} (h : ∀ us : List Value, us.length = ps.length → bindArgs fd ⟨us, []⟩ = pure (ps.zip us)) : Binds K fd ps [] := fun s us _ hl => by
  rw [List.append_nil] at hl ⊢
  exact .of_eq (h us hl)

def Passes (CX : CXT) (X : Cx) (E : XK) : Prop := ∀ (pins : List (Addr × Obj)) (σ : St) (H : Hp) (s : Shared) (e : Value) (s' : Shared), Inv X pins σ H s → CX X.stack H s E e s' → X.xe e s'

section
variable {X : Cx} {CX : CXT} {k : Nat} {f C : Addr} {fd : FuncData} {ps : List Str} {sp : Sp} {dvs : List V} {ds : List Value} {E : XK} {x m : Str} {p pos apos : Pos} {e o : Expr} {es : List Expr} {ta : TE} {t : TA}

theorem run_fn {pins : List (Addr × Obj)} {σ : St} {H : Hp} {s : Shared} {Q : VK} {us : List Value} {vs : List V} (F : FnOk X.prog X.w X.K X.mg X.base CX k f fd ps sp) (hr : Room k X.A) (hb : Binds X.K fd ps ds) (hd : Vals dvs ds) (hx : Passes CX X E)
    (I : Inv X pins σ H s) (r : Vals vs us) (h : sp (vs ++ dvs) H Q E) : wpAny (model X.prog X.w) X.A (call (.ref f) us) (EP X pins σ Q) X.xe s := by
  have r2 : Vals (vs ++ dvs) (us ++ ds) := r.append hd
  have hl : (us ++ ds).length = ps.length := by rw [← r2.length]; exact F.len _ _ _ _ h
  refine wpAny_call (codeAny_mono (F.run X.A X.stack s H ⟨us, []⟩ (us ++ ds) (vs ++ dvs) Q E hr I.env0 (hb s us I.kIn hl) r2 h) fun r s' hq => ?_)
  cases r with
  | error e => exact hx pins σ H s e s' I hq
  | ok fl =>
    cases fl with
    | ret u => exact I.after hq
    | next => exact False.elim hq
    | brk => exact False.elim hq
    | cont => exact False.elim hq

theorem pe_call (F : FnOk X.prog X.w X.K X.mg X.base CX k f fd ps sp) (hr : Room k X.A) (hg : Gl X x) (hm : X.mg x = some (.ref f)) (hk : PySem.W.keepIn X.K (.ref f) = true) (hb : Binds X.K fd ps ds) (hd : Vals dvs ds) (hx : Passes CX X E)
    (ha : PA X (e :: es) t) (hdb : (x == ("__debug__" : Str)) = false := by decide) (he : starEach (e :: es) X.env = (false, eval e X.env) :: starEach es X.env := by rfl) (hpl : (backTo pos (starEach es X.env)).any (·.1) = false := by rfl) :
    PE X (.Call (.Name x p) (e :: es) [] pos) (tCall sp dvs E t) := by
  intro pins s σ H Q I h
  refine wpAny_Call_Name_kw (ld_glob I hg hm ?_ hdb)
  refine PySem.W.callWith_K (h₀ := X.base) I.ok.mod.kin hk (thn (ha pos pins s σ H _ I h) fun us s1 ⟨vs, H1, I1, r, q⟩ => ⟨I1.kIn, ?_⟩) he hpl
  exact run_fn F hr hb hd hx I1 r q
structure Mk (K : PySem.W.Frag) (C f : Addr) : Prop where
  makes : PySem.W.makesIn K C = true
  init : PySem.W.findIn K (.ref C) "__init__" = some (some (.ref f))
  fn : PySem.W.isFn K (.ref f) = true
  kp : PySem.W.keepIn K (.ref C) = true

theorem run_make {pins : List (Addr × Obj)} {σ : St} {H : Hp} {s : Shared} {Q : VK} {us : List Value} {vs : List V} (M : Mk X.K C f) (F : FnOk X.prog X.w X.K X.mg X.base CX k f fd ps sp) (hr : Room (k + 1) X.A) (hb : Binds X.K fd ps ds) (hd : Vals dvs ds)
    (hx : Passes CX X E) (I : Inv X pins σ H s) (r : Vals vs us)
    (h : ∀ x dx, H x = none → H dx = none → dx ≠ x → sp (.ref x :: (vs ++ dvs)) (upd (upd H dx (.own x)) x (.ins C dx [])) (fun v H2 => v = .non ∧ Q (.ref x) H2) E) :
    wpAny (model X.prog X.w) X.A (call (.ref C) us) (EP X pins σ Q) X.xe s := by
  have hq := h (s.heap.objs.size + 1) s.heap.objs.size (I.hok.fresh (Nat.le_succ _)) (I.hok.fresh (Nat.le_refl _)) (Nat.ne_of_lt (Nat.lt_succ_self _))
  have I2 := Inv.made (C := C) I
  have r2 : Vals (V.ref (s.heap.objs.size + 1) :: (vs ++ dvs)) (Value.ref (s.heap.objs.size + 1) :: (us ++ ds)) := .cons rfl (r.append hd)
  have hl : (Value.ref (s.heap.objs.size + 1) :: us ++ ds).length = ps.length := by
    have e := r2.length
    rw [F.len _ _ _ _ hq] at e
    exact e.symm
  refine wpAny_call (make_map (f := f) I.kIn M.makes M.init (beq_iff_eq.mp M.fn) (codeAny_mono (F.run _ X.stack _ _ ⟨Value.ref (s.heap.objs.size + 1) :: us, []⟩ (Value.ref (s.heap.objs.size + 1) :: (us ++ ds)) _ _ E (hr.make C us [])
    (I2.env0.make C us []) (hb _ (Value.ref (s.heap.objs.size + 1) :: us) I2.kIn hl) r2 hq) fun r s' hq' => ?_))
  cases r with
  | error e => exact hx pins σ _ _ e s' I2 hq'
  | ok fl =>
    cases fl with
    | ret u =>
      obtain ⟨v, H', I3, rv, ev, q3⟩ := I2.after hq'
      subst ev
      exact ⟨rv, ⟨V.ref (s.heap.objs.size + 1), H', I3, rfl, q3⟩⟩
    | next => exact False.elim hq'
    | brk => exact False.elim hq'
    | cont => exact False.elim hq'
theorem pe_make (M : Mk X.K C f) (F : FnOk X.prog X.w X.K X.mg X.base CX k f fd ps sp) (hr : Room (k + 1) X.A) (hg : Gl X x) (hm : X.mg x = some (.ref C)) (hb : Binds X.K fd ps ds) (hd : Vals dvs ds) (hx : Passes CX X E)
    (ha : PA X (e :: es) t) (hdb : (x == ("__debug__" : Str)) = false := by decide) (he : starEach (e :: es) X.env = (false, eval e X.env) :: starEach es X.env := by rfl) (hpl : (backTo pos (starEach es X.env)).any (·.1) = false := by rfl) :
    PE X (.Call (.Name x p) (e :: es) [] pos) (tMake C sp dvs E t) := by
  intro pins s σ H Q I h
  refine wpAny_Call_Name_kw (ld_glob I hg hm ?_ hdb)
  refine PySem.W.callWith_K (h₀ := X.base) I.ok.mod.kin M.kp (thn (ha pos pins s σ H _ I h) fun us s1 ⟨vs, H1, I1, r, q⟩ => ⟨I1.kIn, ?_⟩) he hpl
  exact run_make M F hr hb hd hx I1 r q
end

section
variable {X : Cx} {CX : CXT} {k : Nat} {f C : Addr} {fd : FuncData} {ps ks : List Str} {sp : Sp} {E : XK} {x m : Str} {p pos apos kpos : Pos} {e o : Expr} {es : List Expr} {kws : List Keyword} {te ta : TE} {t tk : TA} {nm : Option Str}
structure KBinds (K : PySem.W.Frag) (fd : FuncData) (ps ks : List Str) (g : List Value → List Value → List Value) (gV : List V → List V → List V) : Prop where
  to : ∀ (s : Shared) (us ws : List Value), K.In s.heap → (g us ws).length = ps.length → BindsTo s fd ⟨us, ks.zip ws⟩ (ps.zip (g us ws))
  rel : ∀ {vs : List V} {us : List Value} {zs : List V} {ws : List Value}, Vals vs us → Vals zs ws → Vals (gV vs zs) (g us ws)
variable {g : List Value → List Value → List Value} {gV : List V → List V → List V}
end

structure FnScope (N P : List Str) (sc : Scope) : Prop where
  kind : sc.kind = .function
  co : sc.isCoroutine = false
  gen : sc.isGenerator = false
  nd : N.Nodup
  pre : N.take P.length = P
  par : ∀ x ∈ P, sc.names.lookup x = some .local ∨ sc.names.lookup x = some .cell
  nofree : ∀ y ∈ sc.names, y.2 ≠ .free

theorem bindL_out {kindOf : Str → Option NameKind} {x : Str} : ∀ {binds : List (Str × Value)} {m : Str → Option Value}, (∀ v, (x, v) ∉ binds) → bindL kindOf binds m x = m x
  | [], _, _ => rfl
  | (n, v) :: r, m, h => by
    unfold bindL
    rw [bindL_out fun w hw => h w (List.mem_cons_of_mem _ hw)]
    split
    · have : x ≠ n := by rintro rfl; exact h v List.mem_cons_self
      simp [this]
    · rfl
theorem bindC_out {kindOf : Str → Option NameKind} {x : Str} : ∀ {binds : List (Str × Value)} {m : Str → Option Value}, (∀ v, (x, v) ∉ binds) → bindC kindOf binds m x = m x
  | [], _, _ => rfl
  | (n, v) :: r, m, h => by
    unfold bindC
    rw [bindC_out fun w hw => h w (List.mem_cons_of_mem _ hw)]
    split
    · rfl
    · have : x ≠ n := by rintro rfl; exact h v List.mem_cons_self
      simp [this]
theorem bindL_get {kindOf : Str → Option NameKind} {x : Str} {v : Value} : ∀ {P : List Str} {vs : List Value} {i : Nat} {m : Str → Option Value}, P.Nodup → P[i]? = some x → vs[i]? = some v → kindOf x = some .local →
    bindL kindOf (P.zip vs) m x = some v
  | [], _, _, _, _, h, _, _ => by simp at h
  | _ :: _, [], _, _, _, _, h, _ => by simp at h
  | p :: P, w :: vs, 0, m, nd, h1, h2, hk => by
    simp at h1 h2; subst h1; subst h2
    show bindL kindOf ((p, w) :: P.zip vs) m p = _
    unfold bindL
    rw [bindL_out fun v hv => (List.nodup_cons.mp nd).1 (List.of_mem_zip hv).1, if_pos hk]
    simp
  | p :: P, w :: vs, i + 1, m, nd, h1, h2, hk => by
    show bindL kindOf ((p, w) :: P.zip vs) m x = _
    unfold bindL
    exact bindL_get (i := i) (List.nodup_cons.mp nd).2 (by simpa using h1) (by simpa using h2) hk
theorem bindC_get {kindOf : Str → Option NameKind} {x : Str} {v : Value} : ∀ {P : List Str} {vs : List Value} {i : Nat} {m : Str → Option Value}, P.Nodup → P[i]? = some x → vs[i]? = some v → kindOf x ≠ some .local →
    bindC kindOf (P.zip vs) m x = some v
  | [], _, _, _, _, h, _, _ => by simp at h
  | _ :: _, [], _, _, _, _, h, _ => by simp at h
  | p :: P, w :: vs, 0, m, nd, h1, h2, hk => by
    simp at h1 h2; subst h1; subst h2
    show bindC kindOf ((p, w) :: P.zip vs) m p = _
    unfold bindC
    rw [bindC_out fun v hv => (List.nodup_cons.mp nd).1 (List.of_mem_zip hv).1, if_neg hk]
    simp
  | p :: P, w :: vs, i + 1, m, nd, h1, h2, hk => by
    show bindC kindOf ((p, w) :: P.zip vs) m x = _
    unfold bindC
    exact bindC_get (i := i) (List.nodup_cons.mp nd).2 (by simpa using h1) (by simpa using h2) hk

def start (N : List Str) (vs : List V) : St := vs.map some ++ List.replicate (N.length - vs.length) none

def cxOf (CX : CXT) (P : Program) (w : World) (K : PySem.W.Frag) (mg : Str → Option Value) (base : Heap) (N : List Str) (qual : Str) (scope : Scope) (f : Addr) (cd : Value) (A : Around) (outer : List Env) (s : Shared) (H : Hp) (E : XK) : Cx where
  prog := P
  w := w
  K := K
  mg := mg
  base := base
  A := A.deeper (envOfC qual scope s.heap.objs.size f cd)
  N := N
  s₀ := s
  H₀ := H
  env := envOfC qual scope s.heap.objs.size f cd
  outer := outer
  stack := envOfC qual scope s.heap.objs.size f cd :: outer
  ex := []
  calm := true
  fn := fun _ => true
  pn := []
  xe := fun e s' => wpAny (model P w) (A.deeper (envOfC qual scope s.heap.objs.size f cd)) (leaving (envOfC qual scope s.heap.objs.size f cd) e) (fun _ s'' => CX outer H s E e s'') (fun e' s'' => CX outer H s E e' s'') s'

theorem cell_has {sc : Scope} {n : Nat} {x : Str} (h : sc.names.lookup x = some .cell) : ∃ c, (cellsFrom n sc.names []).lookup x = some c := by
  have q := PySem.W.cellsFrom_some sc.names n [] (.inl h)
  exact Option.isSome_iff_exists.mp q

theorem inv_start {CX : CXT} {P : Program} {w : World} {K : PySem.W.Frag} {mg : Str → Option Value} {base : Heap} {N ps : List Str} {qual : Str} {scope : Scope} {f : Addr} {cd : Value} {A : Around} {outer : List Env} {s s1 : Shared} {H : Hp} {E : XK} {us : List Value} {vs : List V}
    (S : FnScope N ps scope) (hd : A.handled = none) (e0 : Env0 P w K mg base A outer s H) (hl : vs.length = ps.length) (r : Vals vs us)
    (x : InCallC s s.heap.objs.size (bindL (envOfC qual scope s.heap.objs.size f cd).kindOf (ps.zip us) fun _ => none) (cellsFrom (s.heap.objs.size + 1) scope.names []) (bindC (envOfC qual scope s.heap.objs.size f cd).kindOf (ps.zip us) fun _ => none) s1) :
    Inv (cxOf CX P w K mg base N qual scope f cd A outer s H E) [] (start N vs) H s1 := by
  have hpl : ps.length ≤ N.length := by have := congrArg List.length S.pre; rw [List.length_take] at this; omega
  obtain ⟨h1, tk, rfl, hk⟩ := x.done
  have noA : ∀ b : Addr, b ∉ (cxOf CX P w K mg base N qual scope f cd A outer s H E).ex := fun b z => absurd (show b ∈ ([] : List Addr) from z) (by simp)
  refine ⟨⟨e0.mod, S.kind, rfl, rfl, Nat.le_refl _, fun y z c h1 h2 => ?_, fun y hy => ?_, fun y c _ h => ?_, fun _ => hd, Around.frames_deeper e0.frames, .inr ⟨rfl, rfl⟩, fun b z => absurd z (noA b), e0.bs, e0.bsz, fun b _ _ => noA b, fun b z => absurd z (noA b), e0.funs, e0.frf⟩,
    rfl, e0.bare, Un.kept hk, ⟨_, x.toInCall.ns, fun i y v h1 h2 h3 => ?_⟩, fun y c h => ⟨_, x.cell y c h⟩, e0.hok.fresh (Nat.le_refl _), fun y c h => ?_, fun p hp => absurd (show p ∈ ([] : List (Addr × Obj)) from hp) (by simp), e0.hok.kept hk, ?_⟩
  · exact name_of_addr x.apart (PySem.mem_of_lookup h1) (PySem.mem_of_lookup h2)
  · have hy : scope.names.lookup y = some .cell ∨ scope.names.lookup y = some .free := hy
    rcases hy with hy | hy
    · exact cell_has hy
    · exact absurd rfl (S.nofree _ (PySem.mem_of_lookup hy))
  · exact Nat.le_of_lt (x.above y c (PySem.mem_of_lookup h))
  · have hi : i < vs.length := by
      unfold start at h2
      by_cases hi : i < vs.length
      · exact hi
      · rw [List.getElem?_append_right (by simpa using hi)] at h2
        rw [List.getElem?_replicate] at h2
        split at h2 <;> cases h2
    have ha : vs[i]? = some v := by
      unfold start at h2
      rw [List.getElem?_append_left (by simpa using hi), List.getElem?_map] at h2
      cases e : vs[i]? with
      | none => rw [e] at h2; cases h2
      | some a => rw [e] at h2; cases h2; rfl
    obtain ⟨u, hu, rv⟩ := r.get ha
    have hp : ps[i]? = some y := by
      rw [← S.pre, List.getElem?_take_of_lt (by omega)]; exact h1
    have ndP : ps.Nodup := by rw [← S.pre]; exact S.nd.sublist (List.take_sublist _ _)
    refine ⟨u, rv, ?_⟩
    rcases S.par y (List.mem_of_getElem? hp) with k | k
    · exact .inl ⟨k, bindL_get ndP hp hu k⟩
    · obtain ⟨c, e⟩ := cell_has (n := s.heap.objs.size + 1) k
      refine .inr ⟨.inl k, c, e, ?_⟩
      have q := x.cell y c e
      rw [bindC_get ndP hp hu (by show scope.names.lookup y ≠ _; rw [k]; decide)] at q
      exact q
  · exact e0.hok.fresh (Nat.le_of_lt (x.above y c (PySem.mem_of_lookup h)))
  · unfold start
    show _ = N.length
    rw [List.length_append, List.length_map, List.length_replicate]
    omega

theorem fn_of {CX : CXT} {P : Program} {w : World} {K : PySem.W.Frag} {mg : Str → Option Value} {base : Heap} {k : Nat} {f : Addr} {name qual : Str} {params : Arguments} {body : List Stmt} {scope : Scope} {dV kV doc pm cdv ct oc : Value} {an od : Option Addr}
    {osl : Array (Option Value)} {N ps : List Str} {sp : Sp} (lk : K.lookup f = some ⟨oc, od, .func (PySem.W.fnOf name qual params body scope dV kV doc pm an cdv ct), osl⟩) (hcd : PySem.W.codeIn K cdv qual = true) (S : FnScope N ps scope)
    (len : ∀ vs H Q E, sp vs H Q E → vs.length = ps.length)
    (hbody : ∀ (A : Around) (outer : List Env) (s : Shared) (H : Hp) (vs : List V) (Q : VK) (E : XK), Room k (A.deeper (envOfC qual scope s.heap.objs.size f cdv)) → sp vs H Q E →
      ∃ t, PSs (cxOf CX P w K mg base N qual scope f cdv A outer s H E) body t ∧ t { nx := fun _ H' => Q .non H', rt := Q } (start N vs) H) :
    FnOk P w K mg base CX (k + 1) f (PySem.W.fnOf name qual params body scope dV kV doc pm an cdv ct) ps sp := by
  refine ⟨len, fun A outer s H args us vs Q E hr e0 hb r hsp => ?_⟩
  have hl := len _ _ _ _ hsp
  have KX : K.In s.heap := e0.mod.kin.keeps fun b o e => (e0.bs b o e).1
  have lim : s.heap.NoLimit := e0.mod.nolimit.keeps fun b o e => (e0.bs b o e).1
  have hkind : ∀ y ∈ ps.zip us, scope.names.lookup y.1 = some .local ∨ (scope.names.lookup y.1 = some .cell ∧ ((cellsFrom (s.heap.objs.size + 1) scope.names []).lookup y.1).isSome = true) := fun ⟨n, v⟩ hy => by
    rcases S.par n (List.of_mem_zip hy).1 with q | q
    · exact .inl q
    · exact .inr ⟨q, PySem.W.cellsFrom_some _ _ _ (.inl q)⟩
  refine codeAny_call_function hr.depth (KX _ _ lk) rfl S.co S.gen rfl (PySem.W.codeRec_of KX hcd) (hb _ _ _ _ ?_)
  refine wpAny_newFunctionEnv_cells S.kind hkind fun env he s1 x => ?_
  subst he
  refine ⟨lim.keeps x.toInCall.keep, codeAny_func ?_⟩
  obtain ⟨t, ht, hq⟩ := hbody A outer s H vs Q E (hr.deeper _) hsp
  have I : Inv (cxOf CX P w K mg base N qual scope f cdv A outer s H E) [] (start N vs) H s1 := inv_start S hr.hd e0 hl r x
  refine wpAny_mono (ht [] s1 (start N vs) H _ I hq) (fun fl s' hs => ?_) fun e s' hs => hs
  have fin : ∀ {σ' : St} {H' : Hp} {v : V} {u : Value}, Inv (cxOf CX P w K mg base N qual scope f cdv A outer s H E) [] σ' H' s' → RelV v u → Q v H' → CE outer P w H s Q u s' :=
    fun {σ' H' v u} J rv q => ⟨v, H', J.os, J.bare, J.base, J.hok, rv, q⟩
  cases fl with
  | ret u =>
    obtain ⟨v, σ', H', J, rv, q⟩ := hs
    exact fin J rv q
  | next =>
    obtain ⟨σ', H', J, q⟩ := hs
    exact fin (v := V.non) (u := Value.none) J rfl q
  | brk =>
    obtain ⟨_, _, _, q⟩ := hs
    exact False.elim q
  | cont =>
    obtain ⟨_, _, _, q⟩ := hs
    exact False.elim q
end L2

namespace L2
open PySem PySem.Spec PyProof.Rows
section
variable {X : Cx} {x : Str} {p pos : Pos} {e : Expr} {es : List Expr} {t : TA} {id T : String} {r : List V → Hp → VK → Prop}

def tCB (r : List V → Hp → VK → Prop) (t : TA) : TE := fun σ H Q => t σ H fun vs H1 => r vs H1 Q
theorem pe_callB (hc : CallR X (.builtin id) r) (hg : Gl X x) (hm : X.mg x = none) (hv : bootBuiltins x = some (.builtin id)) (ha : PA X (e :: es) t) (hn : x ≠ "__name__" := by decide) (hdb : (x == ("__debug__" : Str)) = false := by decide)
    (he : starEach (e :: es) X.env = (false, eval e X.env) :: starEach es X.env := by rfl) (hpl : (backTo pos (starEach es X.env)).any (·.1) = false := by rfl) : PE X (.Call (.Name x p) (e :: es) [] pos) (tCB r t) := by
  intro pins s σ H Q I h
  refine wpAny_Call_Name_kw (ld_blt I hg hm hv ?_ hn hdb)
  exact PyProof.Rows.callWith_builtin1 (thn (ha pos pins s σ H _ I h) fun us s1 ⟨vs, H1, I1, r1, q1⟩ => hc pins s1 σ H1 vs us Q I1 r1 q1) he hpl
theorem pe_callTy (hc : CallR X (.type T) r) (hg : Gl X x) (hm : X.mg x = none) (hv : bootBuiltins x = some (.type T)) (ha : PA X (e :: es) t) (hn : x ≠ "__name__" := by decide) (hdb : (x == ("__debug__" : Str)) = false := by decide)
    (he : starEach (e :: es) X.env = (false, eval e X.env) :: starEach es X.env := by rfl) (hpl : (backTo pos (starEach es X.env)).any (·.1) = false := by rfl) : PE X (.Call (.Name x p) (e :: es) [] pos) (tCB r t) := by
  intro pins s σ H Q I h
  refine wpAny_Call_Name_kw (ld_blt I hg hm hv ?_ hn hdb)
  exact PyProof.Rows.callWith_type1 (thn (ha pos pins s σ H _ I h) fun us s1 ⟨vs, H1, I1, r1, q1⟩ => hc pins s1 σ H1 vs us Q I1 r1 q1) he hpl
end
end L2

namespace HT
open PySem PyProof.Rows

section
open PySem.SeqAt
open PySem.AutoSeq1 (wpAny_loadPart')
open PySem.MeetsSeq PySem.MeetsSeq2 PySem.MeetsSeq3

end

section
variable {prog : Program} {w : World} {A : Around} {E : Value → Shared → Prop} {s : Shared}

theorem cat_tup {t b : Addr} {vs ws : List Value} {Q : Value → Shared → Prop} (ht : IsTup s.heap t vs.toArray) (hb : IsTup s.heap b ws.toArray) (hv : vs ≠ [])
    (h1 : ws = [] → Q (.ref t) s) (h2 : ws ≠ [] → Q (.ref s.heap.objs.size) { s with heap := s.heap.push { cls := .type "tuple", data := .seq (vs ++ ws).toArray } })
    (hsz : vs.length + ws.length ≤ sizeLine) : wpAny (model prog w) A (binaryOp .Add (.ref t) (.ref b)) Q E s := by
  obtain ⟨⟨cls, dd, data, sl⟩, ho, hc, n, hd⟩ := id ht
  obtain ⟨⟨cls2, dd2, data2, sl2⟩, ho2, hc2, n2, hd2⟩ := id hb
  simp only at hc hd hc2 hd2
  subst hc hd hc2 hd2
  have e : vs.toArray ++ ws.toArray = (vs ++ ws).toArray := by simp
  by_cases hw : ws = []
  · exact concat_meets ⟨_, ho, rfl⟩ ⟨_, ho2, rfl⟩ noFill_tuple_add seq_tuple_add PySem.F.slot_tuple_add PySem.F.entry_tuple_add (PySem.F.args_tuple_add_2 _ _)
      (tuple_addW1 t b vs.toArray ws.toArray n n2 dd dd2 sl sl2 (by simpa using hv) (by simp [hw])) ⟨ho, ho2, h1 hw⟩
  · refine concat_meets ⟨_, ho, rfl⟩ ⟨_, ho2, rfl⟩ noFill_tuple_add seq_tuple_add PySem.F.slot_tuple_add PySem.F.entry_tuple_add (PySem.F.args_tuple_add_2 _ _)
      (tuple_addW2 t b vs.toArray ws.toArray n n2 dd dd2 sl sl2 (by simpa using hv) (by simpa using hw) (by rw [List.size_toArray, List.size_toArray]; exact hsz)) ⟨ho, ho2, ?_⟩
    rw [e]
    exact h2 hw

def sIx (n d : Nat) : Option Int → Nat
  | none => d
  | some v => if v < 0 then (v + (n : Int)).toNat else min v.toNat n
theorem sIx_none (n d : Nat) : sIx n d none = d := rfl
theorem sIx_nat (n d k : Nat) : sIx n d (some (k : Int)) = min k n := by
  show (if (k : Int) < 0 then ((k : Int) + (n : Int)).toNat else min (k : Int).toNat n) = min k n
  rw [if_neg (by omega), Int.toNat_natCast]
theorem sIx_le (n d : Nat) (hd : d ≤ n) (o : Option Int) : sIx n d o ≤ n := by
  cases o with
  | none => exact hd
  | some v =>
    show (if v < 0 then (v + (n : Int)).toNat else min v.toNat n) ≤ n
    by_cases hv : v < 0
    · rw [if_pos hv]; omega
    · rw [if_neg hv]; exact Nat.min_le_right _ _
theorem clip_eq (v : Int) (n d : Nat) : (if v < 0 then max (v + (n : Int)) 0 else min v (n : Int)) = ((sIx n d (some v) : Nat) : Int) := by
  show (if v < 0 then max (v + (n : Int)) 0 else min v (n : Int)) = (((if v < 0 then (v + (n : Int)).toNat else min v.toNat n) : Nat) : Int)
  by_cases hv : v < 0
  · simp only [if_pos hv]; omega
  · simp only [if_neg hv]; omega
theorem adjust_gen (lo hi : Option Int) (n : Nat) : Builtin.Slice.sliceAdjust lo hi 1 (n : Int) = (((sIx n 0 lo : Nat) : Int), ((sIx n n hi : Nat) : Int)) := by
  have h1 : ¬ ((1 : Int) < 0) := by omega
  unfold Builtin.Slice.sliceAdjust
  simp only [h1, if_false]
  refine Prod.ext ?_ ?_
  · cases lo with
    | none => rfl
    | some v => exact clip_eq v n 0
  · cases hi with
    | none => rfl
    | some v => exact clip_eq v n n
theorem places_gen (i j : Nat) : Builtin.Slice.slicePlaces (i : Int) (j : Int) 1 = j - i := by
  unfold Builtin.Slice.slicePlaces
  have h1 : (1 : Int) > 0 := by omega
  simp only [h1, if_true, Int.ediv_one]
  split <;> omega
theorem slicePart_ {v : Value} {o : Option Int} {Q : Option Int → Shared → Prop} (p : IsPart v o) (h : Q o s) : wpAny (model prog w) A (Builtin.Slice.slicePartIndex v) Q E s := by
  cases p with
  | none => exact slicePart_none h
  | int i t => exact slicePart_int h
theorem sliceApplied_gen {sl : Addr} {vl vu : Value} {lo hi : Option Int} {n : Nat} {Q : Int × Int × Nat → Shared → Prop} (hs : s.heap.IsSliceOf sl vl vu .none) (pl : IsPart vl lo) (pu : IsPart vu hi)
    (h : Q (((sIx n 0 lo : Nat) : Int), 1, sIx n n hi - sIx n 0 lo) s) : wpAny (model prog w) A (Builtin.Slice.sliceApplied (.ref sl) (pure (n : Int))) Q E s := by
  obtain ⟨os, hos, hcs, hds⟩ := id hs
  unfold Builtin.Slice.sliceApplied Builtin.Slice.sliceFields
  refine wpAny_bind (wpAny_bind (wpAny_field hos hds (x := vl) rfl (wpAny_bind (wpAny_field hos hds (x := vu) rfl (wpAny_bind (wpAny_field hos hds (x := .none) rfl (wpAny_pure ?_)))))))
  refine wpAny_bind (slicePart_none ?_)
  show wpAny _ _ (if ((1 : Int) == 0) = true then _ else _) _ _ s
  rw [if_neg (by decide)]
  refine wpAny_bind (slicePart_ pl (wpAny_bind (slicePart_ pu (wpAny_bind (wpAny_pure ?_)))))
  show wpAny _ _ (match Builtin.Slice.sliceAdjust lo hi 1 (n : Int) with | (lo, hi) => pure (lo, (1 : Int), Builtin.Slice.slicePlaces lo hi 1)) _ _ s
  rw [adjust_gen lo hi n]
  show wpAny _ _ (pure (((sIx n 0 lo : Nat) : Int), (1 : Int), Builtin.Slice.slicePlaces ((sIx n 0 lo : Nat) : Int) ((sIx n n hi : Nat) : Int) 1)) _ _ s
  rw [places_gen]
  exact wpAny_pure h
theorem pick_gen (xs : Array Value) (i k : Nat) : ((List.range k).filterMap fun (m : Nat) => xs[((i : Int) + (m : Int) * 1).toNat]?).toArray = ((xs.toList.drop i).take k).toArray := by
  have e : (fun (m : Nat) => xs[((i : Int) + (m : Int) * 1).toNat]?) = fun m => xs[i + m]? := by
    funext m
    have : ((i : Int) + (m : Int) * 1).toNat = i + m := by omega
    rw [this]
  rw [e]
  have := pick_run xs i k
  rw [List.filterMap_map] at this
  have e2 : ((fun x => xs[x]?) ∘ fun x => i + x) = fun m => xs[i + m]? := rfl
  rw [e2] at this
  rw [this]

theorem getItem_tuple_cut {t sl : Addr} {items : Array Value} {vl vu : Value} {lo hi : Option Int} {Q : Value → Shared → Prop} (ht : IsTup s.heap t items) (hs : s.heap.IsSliceOf sl vl vu .none) (pl : IsPart vl lo) (pu : IsPart vu hi)
    (hw : ¬ (sIx items.size 0 lo = 0 ∧ sIx items.size items.size hi = items.size))
    (h : Q (.ref s.heap.objs.size) { s with heap := s.heap.push { cls := .type "tuple", data := .seq ((items.toList.drop (sIx items.size 0 lo)).take (sIx items.size items.size hi - sIx items.size 0 lo)).toArray } })
    (hsz : items.size ≤ sizeLine) : wpAny (model prog w) A (getItem (.ref t) (.ref sl)) Q E s := by
  have htake : sizeOk (.seq ((items.toList.drop (sIx items.size 0 lo)).take (sIx items.size items.size hi - sIx items.size 0 lo)).toArray) := by
    show ((items.toList.drop (sIx items.size 0 lo)).take (sIx items.size items.size hi - sIx items.size 0 lo)).toArray.size ≤ sizeLine
    rw [List.size_toArray, List.length_take, List.length_drop, Array.length_toList]
    omega
  have hj : sIx items.size items.size hi ≤ items.size := sIx_le _ _ (Nat.le_refl _) hi
  obtain ⟨os, hos, hcs, hds⟩ := id hs
  have hTs : s.TypeIs (.ref sl) "slice" := ⟨os, hos, hcs⟩
  unfold getItem
  try with_reducible refine wpAny_holding ?_
  first | refine wpAny_bind (wpAny_pure ?_) | skip
  refine wpAny_bind (wpAny_sequenceKey ht.typeIs (by decide) ?_)
  refine wpAny_bind (wpAny_callSpecial?_slot (name := Str.ofString "__getitem__") ht.typeIs PyProof.Rows.slot_tuple_getitem
    (wpAny_call_entry PyProof.Rows.slot_tuple_getitem ht.typeIs entry_tuple_getitem ?_ (args_tuple_getitem _ _)))
  show wpAny _ _ (Builtin.Tuple.tupleItemsOf (.ref t) >>= _) _ _ s
  refine wpAny_bind (tupleItemsOf_ ht ?_)
  refine wpAny_bind (wpAny_typeOf hTs ?_)
  rw [if_pos (by decide)]
  refine wpAny_bind (sliceApplied_gen hs pl pu ?_)
  have hno : ¬ ((((sIx items.size 0 lo : Nat) : Int) == 0 && (1 : Int) == 1 && (sIx items.size items.size hi - sIx items.size 0 lo) == items.size) = true) := by
    intro q
    rw [Bool.and_eq_true, Bool.and_eq_true] at q
    have q1 : ((sIx items.size 0 lo : Nat) : Int) = 0 := eq_of_beq q.1.1
    have q2 : sIx items.size items.size hi - sIx items.size 0 lo = items.size := eq_of_beq q.2
    exact hw ⟨by omega, by omega⟩
  show wpAny _ _ (if (((sIx items.size 0 lo : Nat) : Int) == 0 && (1 : Int) == 1 && (sIx items.size items.size hi - sIx items.size 0 lo) == items.size) = true then _ else _) _ _ s
  rw [if_neg hno, pick_gen]
  first
    | exact wpAny_bind (m := Builtin.Tuple.tupleExact _) (wpAny_newObj_type (wpAny_pure ⟨_, rfl, wpAny_pure h⟩) htake)
    | exact wpAny_bind (m := Builtin.Tuple.tupleExact _) (wpAny_newObj_type (wpAny_bind (wpAny_pure (wpAny_pure ⟨_, rfl, wpAny_pure h⟩))) htake)
    | exact wpAny_bind (wpAny_bind (m := Builtin.Tuple.tupleExact _) (wpAny_newObj_type (wpAny_pure (wpAny_pure ⟨_, rfl, wpAny_pure h⟩)) htake))
    | exact wpAny_bind (wpAny_bind (m := Builtin.Tuple.tupleExact _) (wpAny_newObj_type (wpAny_pure ⟨_, rfl, wpAny_pure h⟩) htake))
end
end HT

namespace L2
open PySem PySem.Spec PyProof.Rows

abbrev TO := St → Hp → (Option Int → Hp → Prop) → Prop
def PO (X : Cx) (e : Option Expr) (t : TO) : Prop :=
  ∀ (pins : List (Addr × Obj)) (s : Shared) (σ : St) (H : Hp) (Q : Option Int → Hp → Prop), Inv X pins σ H s → t σ H Q →
    wpAny (model X.prog X.w) X.A (evalPart e X.env) (fun u s' => ∃ o H', Inv X pins σ H' s' ∧ IsPart u o ∧ Q o H') X.xe s
def tNoPart : TO := fun _ H Q => Q none H
def tPart (t : TE) : TO := fun σ H Q => t σ H fun x H1 => ∃ i, x = .int i ∧ Q (some i) H1

section
variable {X : Cx} {e : Expr} {te : TE} {lo hi : Option Expr} {tl th : TO} {pos p2 : Pos}

theorem po_none : PO X none tNoPart := by
  intro pins s σ H Q I h
  rw [evalPart_none]
  exact wpAny_pure ⟨none, H, I, .none, h⟩
theorem po_some (h : PE X e te) : PO X (some e) (tPart te) := by
  intro pins s σ H Q I hw
  rw [evalPart_some]
  refine thn (h pins s σ H _ I hw) fun u s1 ⟨x, H1, I1, r1, q1⟩ => ?_
  obtain ⟨i, rfl, q⟩ := q1
  obtain ⟨t, rfl⟩ := r1
  exact ⟨some i, H1, I1, .int i t, q⟩

def SlR (X : Cx) (r : V → Option Int → Option Int → Hp → VK → Prop) : Prop :=
  ∀ (pins : List (Addr × Obj)) (s : Shared) (σ : St) (H : Hp) (x : V) (v vl vu : Value) (lo hi : Option Int) (sl : Addr) (Q : VK), Inv X pins σ H s → RelV x v → s.heap.IsSliceOf sl vl vu .none → IsPart vl lo → IsPart vu hi → r x lo hi H Q →
    ∃ T id, typeLookup (.type T) "__getitem__" = pure (some (.builtin id)) ∧ s.TypeIs v T ∧ wpAny (model X.prog X.w) X.A (getItem v (.ref sl)) (EP X pins σ Q) X.xe s
def tSl (r : V → Option Int → Option Int → Hp → VK → Prop) (te : TE) (tl th : TO) : TE := fun σ H Q => te σ H fun x H1 => tl σ H1 fun l H2 => th σ H2 fun u H3 => r x l u H3 Q
theorem pe_slice {r : V → Option Int → Option Int → Hp → VK → Prop} (hr : SlR X r) (he : PE X e te) (hl : PO X lo tl) (hu : PO X hi th) : PE X (.Subscript e (.Slice lo hi none p2) pos) (tSl r te tl th) := by
  intro pins s σ H Q I h
  refine Subscript_ (thn (he pins s σ H _ I h) fun v s1 ⟨x, H1, I1, r1, q1⟩ => ?_)
  refine wpAny_Slice (thn (hl pins s1 σ H1 _ I1 q1) fun vl s2 ⟨l, H2, I2, pl, q2⟩ => thn (hu pins s2 σ H2 _ I2 q2) fun vu s3 ⟨u, H3, I3, pu, q3⟩ => ?_)
  rw [evalPart_none]
  refine wpAny_pure ?_
  have I4 : Inv X pins σ H3 { s3 with heap := s3.heap.push { cls := .type "slice", data := .fields #[vl, vu, .none] } } := I3.kept (t' := s3.toks) fun b ob q => Heap.get?_push_of_some _ q
  obtain ⟨T, id, hT, ht, hg⟩ := hr pins { s3 with heap := s3.heap.push { cls := .type "slice", data := .fields #[vl, vu, .none] } } σ H3 x v vl vu l u s3.heap.objs.size Q I4 r1 (Heap.IsSliceOf.new ..) pl pu q3
  show wpAny (model X.prog X.w) X.A (subscriptTail e (.Slice lo hi none p2) v (.ref s3.heap.objs.size)) (EP X pins σ Q) X.xe { s3 with heap := s3.heap.push { cls := .type "slice", data := .fields #[vl, vu, .none] } }
  exact tail_any (ops := [.ref s3.heap.objs.size, v]) ht hT hg (by with_unfolding_all rfl)

def cutV (xs : List V) (lo hi : Option Int) : List V := (xs.drop (HT.sIx xs.length 0 lo)).take (HT.sIx xs.length xs.length hi - HT.sIx xs.length 0 lo)
theorem cutV_length (xs : List V) (lo hi : Option Int) : (cutV xs lo hi).length ≤ xs.length := by
  unfold cutV
  rw [List.length_take, List.length_drop]
  omega
def rSlT (K : PySem.W.Frag) : V → Option Int → Option Int → Hp → VK → Prop := fun x lo hi H Q => ∃ a xs, x = .ref a ∧ SqT K H a xs ∧
  ¬ (HT.sIx xs.length 0 lo = 0 ∧ HT.sIx xs.length xs.length hi = xs.length) ∧ ∀ p, H p = none → Q (.ref p) (upd H p (.tup (cutV xs lo hi)))
theorem sl_tup : SlR X (rSlT X.K) := by
  intro pins s σ H x v vl vu lo hi sl Q I rx hs pl pu h
  obtain ⟨a, xs, rfl, hx, hw, q⟩ := h
  cases rx
  obtain ⟨its, r, ht, hz⟩ := I.tuple hx
  have hlen : its.toArray.size = xs.length := by rw [List.size_toArray]; exact r.length.symm
  refine ⟨"tuple", _, PyProof.Rows.slot_tuple_getitem.lookup, ht.typeIs, ?_⟩
  refine HT.getItem_tuple_cut ht hs pl pu (by rw [hlen]; exact hw) ?_ (by rw [hlen]; exact hz)
  rw [hlen]
  refine ⟨.ref s.heap.objs.size, _, I.laid (t' := s.toks) (o := .tup (cutV xs lo hi)) (fun b ob q => Heap.get?_push_of_some _ q) (Nat.le_refl _) ?_, rfl, q _ (I.hok.fresh (Nat.le_refl _))⟩
  exact ⟨Nat.le_trans (cutV_length xs lo hi) hz, _, (r.drop (HT.sIx xs.length 0 lo)).take (HT.sIx xs.length xs.length hi - HT.sIx xs.length 0 lo), IsTupN.new _ _⟩

def rCatT (K : PySem.W.Frag) : R2 := fun x y H Q => ∃ a b xs ys, x = .ref a ∧ y = .ref b ∧ SqT K H a xs ∧ SqT K H b ys ∧ xs ≠ [] ∧ xs.length + ys.length ≤ sizeLine ∧
  (ys = [] → Q (.ref a) H) ∧ (ys ≠ [] → ∀ p, H p = none → Q (.ref p) (upd H p (.tup (xs ++ ys))))
theorem Vals.nil_iff {xs : List V} {us : List Value} (r : Vals xs us) : us = [] ↔ xs = [] := by
  cases r with
  | nil => simp
  | cons _ _ => simp
theorem op_catT : OpR X (binaryOp .Add) (rCatT X.K) := by
  intro pins s σ H x y v u Q I rx ry h
  obtain ⟨a, b, xs, ys, rfl, rfl, ha, hb, hx, hz, q1, q2⟩ := h
  cases rx
  cases ry
  obtain ⟨its, r1, p1, _⟩ := I.tuple ha
  obtain ⟨its2, r2, p2, _⟩ := I.tuple hb
  refine HT.cat_tup p1 p2 (fun z => hx (r1.nil_iff.mp z)) (fun z => ⟨.ref a, H, I, rfl, q1 (r2.nil_iff.mp z)⟩) (fun z => ?_) (by rw [← r1.length, ← r2.length]; exact hz)
  refine ⟨.ref s.heap.objs.size, _, I.laid (t' := s.toks) (o := .tup (xs ++ ys)) (fun b ob q => Heap.get?_push_of_some _ q) (Nat.le_refl _) ?_, rfl, q2 (fun w => z (r2.nil_iff.mpr w)) _ (I.hok.fresh (Nat.le_refl _))⟩
  exact ⟨by rw [List.length_append]; exact hz, _, r1.append r2, IsTupN.new _ _⟩
end
end L2

namespace L2
open PySem PySem.Spec PyProof.Rows

def ixN (n : Nat) (i : Int) : Option Nat := if 0 ≤ i then (if i < n then some i.toNat else none) else if -(n : Int) ≤ i then some (i + n).toNat else none
def atI {α : Type} (xs : List α) (i : Int) : Option α := (ixN xs.length i).bind fun j => xs[j]?
theorem ixN_seq {n : Nat} {i : Int} {j : Nat} (h : ixN n i = some j) : seqIndex? i n = some j ∧ j < n ∧ -(n : Int) ≤ i ∧ i < n := by
  unfold ixN at h
  by_cases h0 : 0 ≤ i
  · rw [if_pos h0] at h
    by_cases h1 : i < n
    · rw [if_pos h1] at h
      have e : i.toNat = j := Option.some.inj h
      exact ⟨by rw [seqIndex_of h0 h1, e], by omega, by omega, h1⟩
    · rw [if_neg h1] at h; cases h
  · rw [if_neg h0] at h
    by_cases h1 : -(n : Int) ≤ i
    · rw [if_pos h1] at h
      have e : (i + n).toNat = j := Option.some.inj h
      exact ⟨by rw [seqIndex_neg (by omega) h1, e], by omega, h1, by omega⟩
    · rw [if_neg h1] at h; cases h
theorem atI_get {α : Type} {xs : List α} {i : Int} {v : α} (h : atI xs i = some v) : ∃ j, seqIndex? i xs.length = some j ∧ xs[j]? = some v ∧ j < xs.length ∧ -(xs.length : Int) ≤ i ∧ i < xs.length := by
  unfold atI at h
  cases e : ixN xs.length i with
  | none => rw [e] at h; cases h
  | some j =>
    rw [e] at h
    obtain ⟨h1, h2, h3, h4⟩ := ixN_seq e
    exact ⟨j, h1, h, h2, h3, h4⟩
theorem atI_nat {α : Type} {xs : List α} {j : Nat} {v : α} (h : xs[j]? = some v) : atI xs (j : Int) = some v := by
  have hj : j < xs.length := (List.getElem?_eq_some_iff.mp h).1
  have e : ixN xs.length (j : Int) = some j := by
    unfold ixN
    rw [if_pos (by omega), if_pos (by omega)]; simp
  unfold atI; rw [e]; exact h
def PlainIx (b : Expr) : Prop := ∀ o i, subscripted b false o i = operate [o, i] (getItem o i)
def IxR (X : Cx) (r : R2) : Prop :=
  ∀ (value slice : Expr) (pins : List (Addr × Obj)) (s : Shared) (σ : St) (H : Hp) (x y : V) (v u : Value) (Q : VK), Inv X pins σ H s → RelV x v → RelV y u → r x y H Q →
    subscripted slice false v u = operate [v, u] (getItem v u) → wpAny (model X.prog X.w) X.A (subscriptTail value slice v u) (EP X pins σ Q) X.xe s
def MtR (X : Cx) (id : String) (r : V → List V → Hp → VK → Prop) : Prop :=
  ∀ (pins : List (Addr × Obj)) (s : Shared) (σ : St) (H : Hp) (x : V) (xs : List V) (v : Value) (us : List Value) (Q : VK), Inv X pins σ H s → RelV x v → Vals xs us → r x xs H Q →
    wpAny (model X.prog X.w) X.A (call (.builtin id) (v :: us)) (EP X pins σ Q) X.xe s
section
variable {X : Cx} {a b : Expr} {ta tb : TE} {pos : Pos}
theorem pe_ix {r : R2} (hr : IxR X r) (ha : PE X a ta) (hb : PE X b tb) (hs : PlainIx b) : PE X (.Subscript a b pos) (tOp r ta tb) := by
  intro pins s σ H Q I h
  exact Subscript_ (binT ha hb I h fun v u s2 x y H2 I2 rx ry q => hr a b pins s2 σ H2 x y v u Q I2 rx ry q (hs _ _))

def rIxL (K : PySem.W.Frag) : R2 := fun x y H Q => ∃ p xs i v, x = .ref p ∧ y = .int i ∧ SqL K H p xs ∧ atI xs i = some v ∧ Q v H
def rIxT (K : PySem.W.Frag) : R2 := fun x y H Q => ∃ p xs i v, x = .ref p ∧ y = .int i ∧ SqT K H p xs ∧ atI xs i = some v ∧ Q v H
def rIxS : R2 := fun x y H Q => ∃ z i c, x = .str z ∧ y = .int i ∧ z.length ≤ sizeLine ∧ atI z.cps.toList i = some c ∧ Q (.str ⟨#[c]⟩) H
theorem ix_list : IxR X (rIxL X.K) := by
  intro value slice pins s σ H x y v u Q I rx ry h hs
  obtain ⟨p, xs, i, z, rfl, rfl, hq, he, q⟩ := h
  cases rx
  obtain ⟨t, rfl⟩ := ry
  obtain ⟨its, r, pl, hz⟩ := I.list hq
  obtain ⟨j, h1, h2, h3, h4, h5⟩ := atI_get he
  obtain ⟨w, ew, rw'⟩ := r.get h2
  have hl := r.length
  have hn := line63
  have fin : EP X pins σ Q w s := ⟨z, H, I, rw', q⟩
  by_cases h0 : 0 ≤ i
  · have hj : i.toNat = j := by
      rw [seqIndex_of h0 h5] at h1
      exact Option.some.inj h1
    exact item_listR pl.isList h0 (by omega) (by rw [hj]; simpa using ew) fin hs
  · have hj : (i + (its.toArray.size : Int)).toNat = j := by
      rw [seqIndex_neg (by omega) h4] at h1
      rw [List.size_toArray, ← hl]
      exact Option.some.inj h1
    exact subscriptTail_builtinR (x := w) pl.isList.typeIs slot_list_getitem.lookup
      (wpAny_getItem_list_neg (Q := fun r s' => r = w ∧ EP X pins σ Q r s') pl.isList (by omega) (by rw [List.size_toArray] <;> omega) (by omega) (by rw [hj]; simpa using ew) ⟨rfl, fin⟩) hs
theorem ix_tup : IxR X (rIxT X.K) := by
  intro value slice pins s σ H x y v u Q I rx ry h hs
  obtain ⟨p, xs, i, z, rfl, rfl, hq, he, q⟩ := h
  cases rx
  obtain ⟨t, rfl⟩ := ry
  obtain ⟨its, r, pl, hz⟩ := I.tuple hq
  obtain ⟨j, h1, h2, h3, h4, h5⟩ := atI_get he
  obtain ⟨w, ew, rw'⟩ := r.get h2
  have hl := r.length
  have hn := line63
  have fin : EP X pins σ Q w s := ⟨z, H, I, rw', q⟩
  exact subscriptTail_builtinR (x := w) pl.typeIs slot_tuple_getitem.lookup
    (getItem_tuple (j := j) (Q := fun r s' => r = w ∧ EP X pins σ Q r s') pl (by omega) (by omega) (by rw [List.size_toArray, ← hl]; exact h1) (by simpa using ew) ⟨rfl, fin⟩) hs
theorem ix_str : IxR X rIxS := by
  intro value slice pins s σ H x y v u Q I rx ry h hs
  obtain ⟨z, i, c, rfl, rfl, hz, he, q⟩ := h
  obtain ⟨t, rfl⟩ := rx
  obtain ⟨t', rfl⟩ := ry
  obtain ⟨j, h1, h2, h3, h4, h5⟩ := atI_get he
  have hl : z.cps.toList.length = z.length := by simp [Str.length]
  rw [hl] at h1 h4 h5
  have hn := line63
  exact tail_any (typeIs_str s z t) slot_str_getitem.lookup (getItem_str (c := c) (by
    have e1 : decide (i < -(2 ^ 63 : Int)) = false := decide_eq_false (by omega)
    have e2 : decide (i ≥ 2 ^ 63) = false := decide_eq_false (by omega)
    rw [e1, e2, Bool.or_false]) (by rw [h1]; simpa using h2) ⟨.str ⟨#[c]⟩, H, I.tok _, ⟨_, rfl⟩, q⟩) hs
theorem Inv.lst {pins : List (Addr × Obj)} {σ : St} {H : Hp} {s : Shared} {p : Addr} {xs : List V} (I : Inv X pins σ H s) (h : H p = some (.lst xs)) :
    ∃ (its : List Value) (n : Nat), Vals xs its ∧ s.heap.get? p = some { cls := .type "list", data := .seq its.toArray n } ∧ xs.length ≤ sizeLine := by
  obtain ⟨z, its, n, r, e⟩ := I.hok p _ h
  exact ⟨its, n, r, e, z⟩
def flatV : V → Bool
  | .non => true
  | .bl _ => true
  | .int _ => true
  | .str _ => true
  | _ => false
def eqV : V → V → Bool
  | .non, .non => true
  | .bl a, .bl b => a == b
  | .bl a, .int b => (if a then 1 else 0) == b
  | .int a, .bl b => a == (if b then 1 else 0)
  | .int a, .int b => a == b
  | .str a, .str b => a == b
  | _, _ => false
theorem eqAt_V {A : Around} {s : Shared} {y x : V} {u v : Value} (ry : RelV y u) (rx : RelV x v) (fy : flatV y = true) (fx : flatV x = true) : SeqAt.EqAt A s u v (eqV y x) := by
  cases y with
  | non =>
    cases ry
    cases x with
    | non => cases rx; exact SeqAt.EqAt.same _
    | bl b => cases rx; exact SeqAt.EqAt.none_bool b
    | int b => obtain ⟨t, rfl⟩ := rx; exact SeqAt.EqAt.none_int b t
    | str b => obtain ⟨t, rfl⟩ := rx; exact SeqAt.EqAt.none_str b t
    | _ => exact absurd (show false = true from fx) Bool.false_ne_true
  | bl a =>
    cases ry
    cases x with
    | non => cases rx; exact SeqAt.EqAt.bool_none a
    | bl b => cases rx; exact SeqAt.EqAt.bool_bool a b
    | int b => obtain ⟨t, rfl⟩ := rx; exact SeqAt.EqAt.bool_int a b t
    | str b => obtain ⟨t, rfl⟩ := rx; exact SeqAt.EqAt.bool_str a b t
    | _ => exact absurd (show false = true from fx) Bool.false_ne_true
  | int a =>
    obtain ⟨t', rfl⟩ := ry
    cases x with
    | non => cases rx; exact SeqAt.EqAt.int_none a t'
    | bl b => cases rx; exact SeqAt.EqAt.int_bool a t' b
    | int b => obtain ⟨t, rfl⟩ := rx; exact SeqAt.EqAt.int_int a t' b t
    | str b => obtain ⟨t, rfl⟩ := rx; exact SeqAt.EqAt.int_str a t' b t
    | _ => exact absurd (show false = true from fx) Bool.false_ne_true
  | str a =>
    obtain ⟨t', rfl⟩ := ry
    cases x with
    | non => cases rx; exact SeqAt.EqAt.str_none a t'
    | bl b => cases rx; exact SeqAt.EqAt.str_bool a t' b
    | int b => obtain ⟨t, rfl⟩ := rx; exact SeqAt.EqAt.str_int a t' b t
    | str b => obtain ⟨t, rfl⟩ := rx; exact SeqAt.EqAt.str_str a t' b t
    | _ => exact absurd (show false = true from fx) Bool.false_ne_true
  | _ => exact absurd (show false = true from fy) Bool.false_ne_true
def eqU (x : V) (u : Value) : Bool := match u with
  | .none => eqV .non x
  | .bool b => eqV (.bl b) x
  | .int i _ => eqV (.int i) x
  | .str z _ => eqV (.str z) x
  | _ => false
theorem eqU_of {x y : V} {u : Value} (r : RelV y u) (f : flatV y = true) : eqU x u = eqV y x := by
  cases y with
  | non => cases r; rfl
  | bl b => cases r; rfl
  | int i => obtain ⟨t, rfl⟩ := r; rfl
  | str z => obtain ⟨t, rfl⟩ := r; rfl
  | _ => exact absurd (show false = true from f) Bool.false_ne_true
theorem any_eqU {x : V} : ∀ {xs : List V} {us : List Value}, Vals xs us → xs.all flatV = true → us.any (eqU x) = xs.any fun y => eqV y x
  | _, _, .nil, _ => rfl
  | y :: xs, u :: us, .cons r t, f => by
    rw [List.all_cons, Bool.and_eq_true] at f
    rw [List.any_cons, List.any_cons, eqU_of r f.1, any_eqU t f.2]
theorem mem_eqAt {A : Around} {s : Shared} {x : V} {v : Value} (rx : RelV x v) (fx : flatV x = true) : ∀ {xs : List V} {us : List Value}, Vals xs us → xs.all flatV = true → ∀ u ∈ us, SeqAt.EqAt A s u v (eqU x u)
  | _, _, .nil, _ => fun u hu => by cases hu
  | y :: xs, u :: us, .cons r t, f => fun u' hu => by
    rw [List.all_cons, Bool.and_eq_true] at f
    rcases List.mem_cons.mp hu with rfl | hu
    · rw [eqU_of r f.1]; exact eqAt_V r rx f.1 fx
    · exact mem_eqAt rx fx t f.2 u' hu
def inV (x : V) (xs : List V) : Bool := xs.any fun y => eqV y x
def rIn (K : PySem.W.Frag) (neg : Bool) : R2 := fun x y H Q => ∃ p xs, y = .ref p ∧ (SqL K H p xs ∨ SqT K H p xs) ∧ flatV x = true ∧ xs.all flatV = true ∧ Q (.bl (if neg then !inV x xs else inV x xs)) H
theorem op_in_seq : OpR X (compareOp .In) (rIn X.K false) := by
  intro pins s σ H x y v u Q I rx ry h
  obtain ⟨p, xs, rfl, hq, fx, fs, q⟩ := h
  cases ry
  rcases hq with hq | hq
  · obtain ⟨its, r, pl, hz⟩ := I.list hq
    refine SeqAt.in_listAt (eqU x) pl.isList (fun w hw => mem_eqAt rx fx r fs w (by simpa using hw)) ⟨.bl _, H, I, rfl, ?_⟩
    rw [show its.toArray.any (eqU x) = its.any (eqU x) by simp, any_eqU r fs]
    exact q
  · obtain ⟨its, r, pl, hz⟩ := I.tuple hq
    refine SeqAt.in_tupleAt (eqU x) pl (fun w hw => mem_eqAt rx fx r fs w (by simpa using hw)) ⟨.bl _, H, I, rfl, ?_⟩
    rw [show its.toArray.any (eqU x) = its.any (eqU x) by simp, any_eqU r fs]
    exact q
theorem call_len_seq : CallR X (.builtin "len") (fun xs H Q => ∃ p ys, xs = [.ref p] ∧ (SqL X.K H p ys ∨ SqT X.K H p ys) ∧ Q (.int ys.length) H) := by
  intro pins s σ H xs us Q I r h
  obtain ⟨p, ys, rfl, hq, q⟩ := h
  obtain ⟨u, rfl, rx⟩ := vals1 r
  cases rx
  have hn := line63
  rcases hq with hq | hq
  · obtain ⟨its, r', pl, hz⟩ := I.list hq
    have hlen := r'.length
    exact Calls.call_len_list pl.isList (by simp only [List.size_toArray] <;> omega) ⟨.int ys.length, H, I.tok _, ⟨s.toks + 1, by rw [List.size_toArray, hlen]⟩, q⟩
  · obtain ⟨its, r', pl, hz⟩ := I.tuple hq
    have hlen := r'.length
    exact len_tuple pl (by simp only [List.size_toArray] <;> omega) ⟨.int ys.length, H, I.tok _, ⟨s.toks + 1, by rw [List.size_toArray, hlen]⟩, q⟩
theorem call_len_str : CallR X (.builtin "len") (fun xs H Q => ∃ z, xs = [.str z] ∧ z.length ≤ sizeLine ∧ Q (.int z.length) H) := by
  intro pins s σ H xs us Q I r h
  obtain ⟨z, rfl, hz, q⟩ := h
  obtain ⟨u, rfl, t, rfl⟩ := vals1 r
  have hn := line63
  exact len_str (by omega) ⟨.int z.length, H, I.tok _, ⟨_, rfl⟩, q⟩
theorem call_tuple_of : CallR X (.type "tuple") (fun xs H Q => ∃ p ys, xs = [.ref p] ∧ ((SqL X.K H p ys ∧ ∀ l, H l = none → Q (.ref l) (upd H l (.tup ys))) ∨ (SqT X.K H p ys ∧ Q (.ref p) H))) := by
  intro pins s σ H xs us Q I r h
  obtain ⟨p, ys, rfl, h⟩ := h
  obtain ⟨u, rfl, rx⟩ := vals1 r
  cases rx
  rcases h with ⟨hq, q⟩ | ⟨hq, q⟩
  · obtain ⟨its, r', pl, hz⟩ := I.list hq
    have hlen := r'.length
    refine call_tuple_list pl.isList (fun h' kp => ?_) (by simp only [List.size_toArray] <;> omega)
    have I1 : Inv X pins σ H { s with heap := h' } := I.kept (t' := s.toks) kp
    have I2 : Inv X pins σ (upd H h'.objs.size (.tup ys)) { s with heap := h'.push { cls := .type "tuple", data := .seq its.toArray } } :=
      I1.laid (t' := s.toks) (fun b o e => Heap.get?_push_of_some _ e) (Nat.le_refl _) (show ObjOk X.prog X.w _ _ _ (.tup ys) from ⟨hz, its, r', IsTupN.new _ _⟩)
    exact ⟨.ref h'.objs.size, _, I2, rfl, q _ (I1.hok.fresh (Nat.le_refl _))⟩
  · obtain ⟨its, r', pl, hz⟩ := I.tuple hq
    exact call_tuple_same pl ⟨.ref p, H, I, rfl, q⟩

def tyV (K : PySem.W.Frag) (T : String) (x : V) (H : Hp) : Prop := match x with
  | .str _ => T = "str"
  | .int _ => T = "int"
  | .ref p => (T = "list" ∧ ∃ xs, SqL K H p xs) ∨ (T = "tuple" ∧ ∃ o, K.lookup p = some o ∧ o.cls = .type "tuple" ∧ o.dict = none) ∨
      (T = "dict" ∧ ((∃ kvs, H p = some (.dK kvs)) ∨ ∃ kvs, H p = some (.dT kvs))) ∨ (T = "set" ∧ ∃ S n, H p = some (.set S n))
  | _ => False
theorem tyV_is {pins : List (Addr × Obj)} {σ : St} {H : Hp} {s : Shared} {T : String} {x : V} {v : Value} (I : Inv X pins σ H s) (r : RelV x v) (ty : tyV X.K T x H) :
    s.TypeIs v T ∧ ∀ a, v = .ref a → ∃ ob, s.heap.get? a = some ob ∧ ob.dict = none := by
  cases x with
  | str z =>
    obtain ⟨t, rfl⟩ := r
    cases (show T = "str" from ty)
    exact ⟨typeIs_str s z t, fun _ e => nomatch e⟩
  | int i =>
    obtain ⟨t, rfl⟩ := r
    cases (show T = "int" from ty)
    exact ⟨typeIs_int s i t, fun _ e => nomatch e⟩
  | ref p =>
    cases r
    rcases ty with ⟨rfl, xs, hq⟩ | ⟨rfl, o, hk, hc, hd⟩ | ⟨rfl, hk⟩ | ⟨rfl, S, n, hk⟩
    · obtain ⟨its, _, pl, _⟩ := I.list hq
      refine ⟨pl.isList.typeIs, fun a e => ?_⟩
      cases e
      obtain ⟨o, n, e, c, hd, _⟩ := pl
      exact ⟨o, e, hd⟩
    · refine ⟨⟨o, I.kIn p o hk, hc⟩, fun a e => ?_⟩
      cases e
      exact ⟨o, I.kIn _ o hk, hd⟩
    · have z : ∃ o, s.heap.get? p = some o ∧ o.ExactDict := by
        rcases hk with ⟨kvs, hk⟩ | ⟨kvs, hk⟩
        · obtain ⟨_, _, _, _, o, _, _, e, ex, _⟩ := I.hok p _ hk
          exact ⟨o, e, ex⟩
        · obtain ⟨_, _, _, _, o, _, _, e, ex, _⟩ := I.hok p _ hk
          exact ⟨o, e, ex⟩
      obtain ⟨o, e, ex⟩ := z
      refine ⟨⟨o, e, ex.1⟩, fun a e2 => ?_⟩
      cases e2
      exact ⟨o, e, ex.2.1⟩
    · obtain ⟨o, _, _, _, e, ex, _⟩ := I.hok p _ hk
      refine ⟨⟨o, e, ex.1⟩, fun a e2 => ?_⟩
      cases e2
      exact ⟨o, e, ex.2.1⟩
  | _ => exact False.elim ty
def tBM (K : PySem.W.Frag) (T : String) (r : V → List V → Hp → VK → Prop) (to : TE) (t : TA) : TE := fun σ H Q => to σ H fun x H1 => tyV K T x H1 ∧ t σ H1 fun xs H2 => r x xs H2 Q
variable {o e : Expr} {es : List Expr} {to : TE} {t : TA} {name : Str} {apos cpos : Pos} {T id : String} {r : V → List V → Hp → VK → Prop}
theorem pe_bm (pa : PlainAttrs T) (slot : Slot T name id) (hty : typeOf (.builtin id) = pure (.type "method_descriptor")) (hm : MtR X id r) (ho : PE X o to) (ha : PA X (e :: es) t)
    (hbase : attributeBase o name X.env (eval o X.env) = eval o X.env := by rfl)
    (hfew : ((backTo cpos (starEach (e :: es) X.env)).all (fun x => !x.1) && (backToKw cpos (keywordEach [] X.env)).all (fun x => x.1.isSome)
      && decide ((e :: es).length + ([] : List Keyword).length + (if ([] : List Keyword).isEmpty then 0 else 1) < 30)) = true := by rfl)
    (hline : (apos.endLine == cpos.line) = true := by rfl) (hs : starEach (e :: es) X.env = (false, eval e X.env) :: starEach es X.env := by rfl) (hplain : (backTo cpos (starEach es X.env)).any (·.1) = false := by rfl) :
    PE X (.Call (.Attribute o name apos) (e :: es) [] cpos) (tBM X.K T r to t) := by
  intro pins s σ H Q I h
  refine wpAny_Call_method_late hbase hfew hline rfl (thn (ho pins s σ H _ I h) fun v s1 ⟨x, H1, I1, r1, ty, q1⟩ => ?_)
  obtain ⟨h1, h2⟩ := tyV_is I1 r1 ty
  refine ⟨T, id, pa, slot, hty, h1, h2, ?_⟩
  have hA := ha cpos pins s1 σ H1 _ I1 q1
  rw [hs] at hA ⊢
  refine Calls.callWith_builtin (by show (false || (backTo cpos (starEach es X.env)).any (·.1)) = false; rw [hplain] <;> rfl) (Calls.evalArgs_plain ?_)
  exact thn hA fun us s2 ⟨vs, H2, I2, r2, q2⟩ => hm pins s2 σ H2 x vs v us Q I2 r1 r2 q2
end
end L2

namespace L2
open PySem PySem.Spec PyProof.Rows

def MtM (X : Cx) (id : String) (r : V → List V → Hp → VK → Prop) : Prop :=
  ∀ (pins : List (Addr × Obj)) (s : Shared) (σ : St) (H : Hp) (x : V) (xs : List V) (v : Value) (us : List Value) (Q : VK), Inv X pins σ H s → RelV x v → Vals xs us → r x xs H Q →
    wpAny (model X.prog X.w) X.A (call (.builtin id) (v :: us)) (EP X pins σ Q) X.xe s

theorem Vals.one : ∀ {x : V} {us : List Value}, Vals [x] us → ∃ u, us = [u] ∧ RelV x u
  | _, _, .cons r .nil => ⟨_, rfl, r⟩
theorem Vals.two : ∀ {x y : V} {us : List Value}, Vals [x, y] us → ∃ u v, us = [u, v] ∧ RelV x u ∧ RelV y v
  | _, _, _, .cons r (.cons q .nil) => ⟨_, _, rfl, r, q⟩
theorem Vals.zero : ∀ {us : List Value}, Vals [] us → us = []
  | _, .nil => rfl
section
variable {X : Cx} {pins : List (Addr × Obj)} {σ : St} {H : Hp} {s : Shared} {l b : Addr} {xs ys zs : List V}

theorem Inv.lset {its its' : List Value} {n : Nat} {f : Array Value → Array Value} {t' : Nat} (I : Inv X pins σ H s) (hH : H l = some (.lst xs))
    (e : s.heap.get? l = some { cls := .type "list", data := .seq its.toArray n }) (hf : f its.toArray = its'.toArray) (hv : Vals ys its') (hz : ys.length ≤ sizeLine) :
    Inv X pins σ (upd H l (.lst ys)) { s with heap := s.heap.update l (Obj.mapSeq f), toks := t' } := by
  have q := PySem.IsL.update e f
  rw [hf] at q
  refine I.write (x := l) (e := l) (by rw [hH]; exact trivial) (.inl rfl) (fun b' u hb hu => (Heap.get?_update_other s.heap (Obj.mapSeq f) (Ne.symm hb)).trans hu) ⟨_, q⟩ ?_
  exact ⟨hz, its', _, hv, q⟩
theorem Inv.lnew {its : List Value} {t' : Nat} (I : Inv X pins σ H s) (hv : Vals ys its) (hz : ys.length ≤ sizeLine) :
    Inv X pins σ (upd H s.heap.objs.size (.lst ys)) { s with heap := s.heap.push { cls := .type "list", data := .seq its.toArray }, toks := t' } :=
  I.laid (fun _ _ q => Heap.get?_push_of_some _ q) (Nat.le_refl _) ⟨hz, its, 0, hv, Heap.get?_push_size _ rfl⟩
theorem Inv.fresh (I : Inv X pins σ H s) : H s.heap.objs.size = none := I.hok.fresh (Nat.le_refl _)
theorem Inv.lstM (I : Inv X pins σ H s) (hH : H l = some (.lst xs)) : xs.length ≤ sizeLine ∧ ∃ (its : List Value) (n : Nat), Vals xs its ∧ xs.length = its.length ∧ s.heap.get? l = some { cls := .type "list", data := .seq its.toArray n } := by
  obtain ⟨z, its, n, r, e⟩ := I.hok l _ hH
  exact ⟨z, its, n, r, r.length, e⟩

end

section
variable {X : Cx}

def rAppend : V → List V → Hp → VK → Prop := fun x vs H Q => ∃ l xs y, x = .ref l ∧ vs = [y] ∧ H l = some (.lst xs) ∧ xs.length < sizeLine ∧ Q .non (upd H l (.lst (xs ++ [y])))
theorem mt_append : MtM X "list.append" rAppend := by
  intro pins s σ H x vs v us Q I rx rv h
  obtain ⟨l, xs, y, rfl, rfl, hH, hz, q⟩ := h
  cases rx
  obtain ⟨u, rfl, ru⟩ := rv.one
  obtain ⟨z, its, n, r, hl, e⟩ := I.lstM hH
  refine call_meets F.slot_list_append ⟨_, e, rfl⟩ F.entry_list_append (F.args_list_append_2 _ _) (PySem.list_append l its.toArray n u (by rw [List.size_toArray]; omega)) ⟨e, ?_⟩
  refine ⟨.non, _, I.lset (its' := its ++ [u]) hH e (by simp) (r.append (.cons ru .nil)) ?_, rfl, q⟩
  rw [List.length_append, List.length_singleton]
  omega

def rCat : R2 := fun x y H Q => ∃ l b xs zs, x = .ref l ∧ y = .ref b ∧ H l = some (.lst xs) ∧ H b = some (.lst zs) ∧ xs.length + zs.length ≤ sizeLine ∧ ∀ p, H p = none → Q (.ref p) (upd H p (.lst (xs ++ zs)))
theorem op_cat : OpR X (binaryOp .Add) rCat := by
  intro pins s σ H x y v u Q I rx ry h
  obtain ⟨l, b, xs, zs, rfl, rfl, hH, hB, hz, q⟩ := h
  cases rx
  cases ry
  obtain ⟨z, its, n, r, hl, e⟩ := I.lstM hH
  obtain ⟨z2, its2, n2, r2, hl2, e2⟩ := I.lstM hB
  refine PySem.P.add_list e e2 ?_ (by rw [List.size_toArray, List.size_toArray]; omega)
  have ea : its.toArray ++ its2.toArray = (its ++ its2).toArray := by simp
  rw [ea]
  exact ⟨.ref _, _, I.lnew (t' := s.toks) (r.append r2) (by rw [List.length_append]; omega), rfl, q _ I.fresh⟩
end

section
variable {prog : Program} {w : World} {A : Around} {E : Value → Shared → Prop} {s : Shared}
set_option maxRecDepth 100000 in
end

section
variable {X : Cx}
end
end L2

namespace L2
open PySem PySem.Spec PyProof.Rows

section
variable {κ : Type} [DecidableEq κ]
def valV (kvs : List (κ × V)) (k : κ) : Option V := (kvs.find? fun kv => decide (kv.1 = k)).map (·.2)
def putK (kvs : List (κ × V)) (k : κ) (v : V) : List (κ × V) :=
  if (kvs.any fun kv => decide (kv.1 = k)) = true then kvs.map (fun kv => if kv.1 = k then (kv.1, v) else kv) else kvs ++ [(k, v)]
def dropK (kvs : List (κ × V)) (k : κ) : List (κ × V) := kvs.filter fun kv => decide (kv.1 ≠ k)

theorem valV_pos {p : κ × V} {r : List (κ × V)} {k : κ} (e : p.1 = k) : valV (p :: r) k = some p.2 := by simp [valV, List.find?_cons, e]
theorem valV_neg {p : κ × V} {r : List (κ × V)} {k : κ} (e : ¬ p.1 = k) : valV (p :: r) k = valV r k := by simp [valV, List.find?_cons, e]
theorem valV_any (k : κ) : ∀ kvs : List (κ × V), (kvs.any fun kv => decide (kv.1 = k)) = (valV kvs k).isSome
  | [] => rfl
  | p :: r => by
    rw [List.any_cons]
    by_cases e : p.1 = k
    · simp only [valV_pos e, decide_eq_true e, Bool.true_or, Option.isSome_some]
    · rw [valV_neg e, decide_eq_false e, Bool.false_or]; exact valV_any k r
theorem valV_map (k j : κ) (y : V) : ∀ kvs : List (κ × V), valV (kvs.map fun kv => if kv.1 = k then (kv.1, y) else kv) j = (valV kvs j).map fun x => if j = k then y else x
  | [] => rfl
  | p :: r => by
    have ih := valV_map k j y r
    rw [List.map_cons]
    by_cases h : p.1 = k
    · rw [if_pos h]
      by_cases e : p.1 = j
      · rw [valV_pos (p := (p.1, y)) e, valV_pos e, Option.map_some, if_pos (e.symm.trans h)]
      · rw [valV_neg (p := (p.1, y)) e, valV_neg e, ih]
    · rw [if_neg h]
      by_cases e : p.1 = j
      · rw [valV_pos (p := p) e, valV_pos e, Option.map_some, if_neg (fun z => h (e.trans z))]
      · rw [valV_neg (p := p) e, valV_neg e, ih]
theorem valV_snoc (k j : κ) (y : V) : ∀ kvs : List (κ × V), valV kvs k = none → valV (kvs ++ [(k, y)]) j = if j = k then some y else valV kvs j
  | [], _ => by
    by_cases e : k = j
    · rw [if_pos e.symm]; exact valV_pos (p := (k, y)) e
    · rw [if_neg (fun z => e z.symm)]; exact valV_neg (p := (k, y)) e
  | p :: r, hn => by
    rw [List.cons_append]
    have hk : ¬ p.1 = k := fun z => by rw [valV_pos z] at hn; cases hn
    rw [valV_neg hk] at hn
    have ih := valV_snoc k j y r hn
    by_cases e : p.1 = j
    · rw [valV_pos e, valV_pos e, if_neg (fun z => hk (e.trans z))]
    · rw [valV_neg e, valV_neg e, ih]
theorem valV_put (kvs : List (κ × V)) (k j : κ) (y : V) : valV (putK kvs k y) j = if j = k then some y else valV kvs j := by
  unfold putK
  by_cases a : (kvs.any fun kv => decide (kv.1 = k)) = true
  · rw [if_pos a, valV_map]
    rw [valV_any] at a
    by_cases e : j = k
    · obtain ⟨x, hx⟩ := Option.isSome_iff_exists.mp a
      rw [if_pos e, e, hx, Option.map_some, if_pos rfl]
    · rw [if_neg e]
      cases valV kvs j with
      | none => rfl
      | some x => rw [Option.map_some, if_neg e]
  · rw [if_neg a]
    refine valV_snoc k j y kvs ?_
    rw [valV_any] at a
    cases q : valV kvs k with
    | none => rfl
    | some x => rw [q] at a; exact (a rfl).elim
theorem length_putK (kvs : List (κ × V)) (k : κ) (v : V) : (putK kvs k v).length ≤ kvs.length + 1 := by
  unfold putK
  split
  · rw [List.length_map]; omega
  · rw [List.length_append, List.length_cons, List.length_nil]; omega
theorem putK_new {kvs : List (κ × V)} {k : κ} (v : V) (h : valV kvs k = none) : putK kvs k v = kvs ++ [(k, v)] := by
  unfold putK
  rw [valV_any, h]
  exact if_neg (by decide)

theorem RelO.isSome_eq {o : Option V} {u : Option Value} (r : RelO o u) : o.isSome = u.isSome := by
  cases o with
  | none => cases u with
    | none => rfl
    | some _ => exact (show False from r).elim
  | some _ => cases u with
    | none => exact (show False from r).elim
    | some _ => rfl
theorem RelO.getD {o : Option V} {u : Option Value} {d : V} {d' : Value} (r : RelO o u) (rd : RelV d d') : RelV (o.getD d) (u.getD d') := by
  cases o with
  | none => cases u with
    | none => exact rd
    | some _ => exact (show False from r).elim
  | some _ => cases u with
    | none => exact (show False from r).elim
    | some _ => exact r

theorem KV.val {kvs : List (κ × V)} {vs : List (κ × Value)} (r : KV kvs vs) (k : κ) : RelO (valV kvs k) (valueAt vs k) := by
  unfold KV at r
  induction r with
  | nil => exact True.intro
  | @cons p q ps qs h t ih =>
    obtain ⟨h1, h2⟩ := h
    by_cases e : p.1 = k
    · have e' : q.1 = k := h1.symm.trans e
      have b : valueAt (q :: qs) k = some q.2 := by simp [valueAt, List.find?_cons, e']
      rw [valV_pos e, b]; exact h2
    · have e' : ¬ q.1 = k := fun z => e (h1.trans z)
      have b : valueAt (q :: qs) k = valueAt qs k := by simp [valueAt, List.find?_cons, e']
      rw [valV_neg e, b]; exact ih
theorem KV.any {kvs : List (κ × V)} {vs : List (κ × Value)} (r : KV kvs vs) (k : κ) : (kvs.any fun kv => decide (kv.1 = k)) = vs.any fun kv => decide (kv.1 = k) := by
  unfold KV at r
  induction r with
  | nil => rfl
  | cons h t ih => rw [List.any_cons, List.any_cons, ih, h.1]
theorem KV.repl {kvs : List (κ × V)} {vs : List (κ × Value)} (r : KV kvs vs) (k : κ) {y : V} {u : Value} (ry : RelV y u) :
    KV (kvs.map fun kv => if kv.1 = k then (kv.1, y) else kv) (vs.map fun kv => if kv.1 = k then (kv.1, u) else kv) := by
  unfold KV at r ⊢
  induction r with
  | nil => exact .nil
  | @cons p q ps qs h t ih =>
    rw [List.map_cons, List.map_cons]
    refine .cons ?_ ih
    obtain ⟨h1, h2⟩ := h
    by_cases e : p.1 = k
    · rw [if_pos e, if_pos (h1.symm.trans e)]; exact ⟨h1, ry⟩
    · rw [if_neg e, if_neg (fun z => e (h1.trans z))]; exact ⟨h1, h2⟩
theorem KV.put {kvs : List (κ × V)} {vs : List (κ × Value)} (r : KV kvs vs) (k : κ) {y : V} {u : Value} (ry : RelV y u) : KV (putK kvs k y) (stored vs k u) := by
  unfold putK stored
  rw [r.any k]
  by_cases e : (vs.any fun kv => decide (kv.1 = k)) = true
  · rw [if_pos e, if_pos e]; exact r.repl k ry
  · rw [if_neg e, if_neg e]; exact Paired.snoc r ⟨rfl, ry⟩
theorem KV.drop {kvs : List (κ × V)} {vs : List (κ × Value)} (r : KV kvs vs) (k : κ) : KV (dropK kvs k) (without vs k) := by
  unfold KV at r ⊢
  unfold dropK without
  induction r with
  | nil => exact .nil
  | @cons p q ps qs h t ih =>
    obtain ⟨h1, h2⟩ := h
    rw [List.filter_cons, List.filter_cons]
    by_cases e : p.1 = k
    · have a : ¬ decide (p.1 ≠ k) = true := by simp [e]
      have b : ¬ decide (q.1 ≠ k) = true := by simp [h1.symm.trans e]
      rw [if_neg a, if_neg b]; exact ih
    · have e' : ¬ q.1 = k := fun z => e (h1.trans z)
      have a : decide (p.1 ≠ k) = true := by simp [e]
      have b : decide (q.1 ≠ k) = true := by simp [e']
      rw [if_pos a, if_pos b]; exact .cons ⟨h1, h2⟩ ih
theorem KV.keys {kvs : List (κ × V)} {vs : List (κ × Value)} (r : KV kvs vs) : kvs.map (·.1) = vs.map (·.1) := by
  unfold KV at r
  induction r with
  | nil => rfl
  | cons h t ih => rw [List.map_cons, List.map_cons, ih, h.1]
theorem KV.length {kvs : List (κ × V)} {vs : List (κ × Value)} (r : KV kvs vs) : kvs.length = vs.length := Paired.length r
end


theorem kV_is {P : Program} {w : World} {k : Key} {u : Value} (r : RelV (kV k) u) : (mixKind P w).is k u = true := by
  cases k with
  | inl i => obtain ⟨t, e⟩ := (show ∃ t, u = Value.int i t from r); subst e; exact mixKind_int P w i t
  | inr x => obtain ⟨t, e⟩ := (show ∃ t, u = Value.str x t from r); subst e; exact mixKind_str P w x t
theorem items_are {P : Program} {w : World} : ∀ {ks : List Key} {us : List Value}, Vals (ks.map kV) us → ItemsAre (mixKind P w) ks us
  | [], _, r => by rw [List.map_nil] at r; cases r; exact .nil
  | k :: ks, _, r => by
    rw [List.map_cons] at r
    cases r with
    | cons h t => exact .cons (kV_is h) (items_are t)

abbrev KT (H : Hp) : List (List Key × V) → List (List Key × Addr × Value) → Prop := Paired fun p q => p.1 = q.1 ∧ H q.2.1 = some (.tup (p.1.map kV)) ∧ RelV p.2 q.2.2
theorem KT.val {H : Hp} {kvs : List (List Key × V)} {xs : List (List Key × Addr × Value)} (r : KT H kvs xs) (k : List Key) : RelO (valV kvs k) ((atKey xs k).map (·.2)) := by
  induction r with
  | nil => exact True.intro
  | @cons p q ps qs h t ih =>
    obtain ⟨h1, _, h2⟩ := h
    by_cases e : p.1 = k
    · have e' : q.1 = k := h1.symm.trans e
      have b : atKey (q :: qs) k = some q.2 := by simp [atKey, List.find?_cons, e']
      rw [valV_pos e, b]; exact h2
    · have e' : ¬ q.1 = k := fun z => e (h1.trans z)
      have b : atKey (q :: qs) k = atKey qs k := by simp [atKey, List.find?_cons, e']
      rw [valV_neg e, b]; exact ih
theorem KT.repl {H : Hp} {kvs : List (List Key × V)} {xs : List (List Key × Addr × Value)} (r : KT H kvs xs) (k : List Key) {y : V} {u : Value} (ry : RelV y u) :
    KT H (kvs.map fun kv => if kv.1 = k then (kv.1, y) else kv) (xs.map (putAt k u)) := by
  induction r with
  | nil => exact .nil
  | @cons p q ps qs h t ih =>
    rw [List.map_cons, List.map_cons]
    refine .cons ?_ ih
    obtain ⟨h1, h2, h3⟩ := h
    unfold putAt
    by_cases e : p.1 = k
    · rw [if_pos e, if_pos (h1.symm.trans e)]; exact ⟨h1, h2, ry⟩
    · rw [if_neg e, if_neg (fun z => e (h1.trans z))]; exact ⟨h1, h2, h3⟩
theorem KT.put {H : Hp} {kvs : List (List Key × V)} {xs : List (List Key × Addr × Value)} (r : KT H kvs xs) (k : List Key) {b : Addr} {y : V} {u : Value} (hb : H b = some (.tup (k.map kV))) (ry : RelV y u) :
    KT H (putK kvs k y) (storedH xs k b u) := by
  have e : (kvs.any fun kv => decide (kv.1 = k)) = (atKey xs k).isSome := by
    rw [valV_any, (r.val k).isSome_eq, Option.isSome_map]
  unfold putK storedH
  rw [e]
  by_cases q : (atKey xs k).isSome = true
  · rw [if_pos q, if_pos q]; exact r.repl k ry
  · rw [if_neg q, if_neg q]; exact Paired.snoc r ⟨rfl, hb, ry⟩
theorem KT.keeps {H H' : Hp} {kvs : List (List Key × V)} {xs : List (List Key × Addr × Value)} (r : KT H kvs xs) (ht : ∀ b ys, H b = some (.tup ys) → H' b = some (.tup ys)) : KT H' kvs xs :=
  Paired.mapP r fun _ _ z => ⟨z.1, ht _ _ z.2.1, z.2.2⟩

section
variable {P : Program} {w : World} {H : Hp} {h : Heap} {a : Addr}
theorem rd_of {u : HO} (ok : HOk P w H h) (e : Rd H a u) : ObjOk P w H h a u := e.ok ok
theorem dk_rd {kvs : List (Key × V)} (ok : HOk P w H h) (e : Rd H a (.dK kvs)) : kvs.length ≤ sizeLine ∧ (a == sysModules) = false ∧ ∃ vs, KV kvs vs ∧ h.DictOf (mixKind P w) a vs :=
  show ObjOk P w H h a (.dK kvs) from rd_of ok e
theorem dk_of {kvs : List (Key × V)} (ok : HOk P w H h) (e : H a = some (.dK kvs)) : kvs.length ≤ sizeLine ∧ (a == sysModules) = false ∧ ∃ vs, KV kvs vs ∧ h.DictOf (mixKind P w) a vs := dk_rd ok (.inl e)
theorem key_of {ks : List Key} (ok : HOk P w H h) (e : H a = some (.tup (ks.map kV))) : (tupleKind (mixKind P w)).is h ks a := by
  obtain ⟨_, its, r, o, h1, h2, ⟨n, h3⟩, _⟩ := (show ObjOk P w H h a (.tup (ks.map kV)) from ok a _ e)
  exact ⟨o, its.toArray, n, h1, h2, h3, by simpa using items_are r⟩
theorem dt_rd {kvs : List (List Key × V)} (ok : HOk P w H h) (e : Rd H a (.dT kvs)) : kvs.length ≤ sizeLine ∧ (a == sysModules) = false ∧
    ∃ xs, KT H kvs xs ∧ h.DictOfH (tupleKind (mixKind P w)) a xs := by
  obtain ⟨z, y, xs, r, o, es, ep, h1, h2, h3, h4, h5⟩ := (show ObjOk P w H h a (.dT kvs) from rd_of ok e)
  refine ⟨z, y, xs, r, o, es, ep, h1, h2, h3, h4, fun x hx => ?_, h5⟩
  have all : ∀ {l : List (List Key × V)} {m : List (List Key × Addr × Value)}, KT H l m → ∀ x ∈ m, (tupleKind (mixKind P w)).is h x.1 x.2.1 := by
    intro l m q
    induction q with
    | nil => intro x hx; exact nomatch hx
    | @cons p q ps qs hq t ih =>
      intro x hx
      rcases List.mem_cons.mp hx with e | hx
      · subst e
        exact key_of ok (by rw [← hq.1]; exact hq.2.1)
      · exact ih x hx
  exact all r x hx
theorem dt_of {kvs : List (List Key × V)} (ok : HOk P w H h) (e : H a = some (.dT kvs)) : kvs.length ≤ sizeLine ∧ (a == sysModules) = false ∧
    ∃ xs, KT H kvs xs ∧ h.DictOfH (tupleKind (mixKind P w)) a xs := dt_rd ok (.inl e)
end

def DGet (H : Hp) (a : Addr) (y : V) (r : Option V) : Prop :=
  (∃ kvs k, Rd H a (.dK kvs) ∧ y = kV k ∧ r = valV kvs k) ∨ ∃ kvs k b, Rd H a (.dT kvs) ∧ y = .ref b ∧ H b = some (.tup (k.map kV)) ∧ r = valV kvs k
def DPut (H : Hp) (a : Addr) (y v : V) (H' : Hp) : Prop :=
  (∃ kvs k, H a = some (.dK kvs) ∧ y = kV k ∧ kvs.length < sizeLine ∧ H' = upd H a (.dK (putK kvs k v))) ∨
  ∃ kvs k b, H a = some (.dT kvs) ∧ y = .ref b ∧ H b = some (.tup (k.map kV)) ∧ kvs.length < sizeLine ∧ H' = upd H a (.dT (putK kvs k v))
theorem DGet.k {H : Hp} {a : Addr} {kvs : List (Key × V)} {k : Key} (e : H a = some (.dK kvs)) : DGet H a (kV k) (valV kvs k) := .inl ⟨kvs, k, .inl e, rfl, rfl⟩
theorem DGet.t {H : Hp} {a b : Addr} {kvs : List (List Key × V)} {k : List Key} (e : H a = some (.dT kvs)) (eb : H b = some (.tup (k.map kV))) : DGet H a (.ref b) (valV kvs k) := .inr ⟨kvs, k, b, .inl e, rfl, eb, rfl⟩
theorem DPut.k {H : Hp} {a : Addr} {kvs : List (Key × V)} {k : Key} {v : V} (e : H a = some (.dK kvs)) (hl : kvs.length < sizeLine) : DPut H a (kV k) v (upd H a (.dK (putK kvs k v))) := .inl ⟨kvs, k, e, rfl, hl, rfl⟩
theorem DPut.t {H : Hp} {a b : Addr} {kvs : List (List Key × V)} {k : List Key} {v : V} (e : H a = some (.dT kvs)) (eb : H b = some (.tup (k.map kV))) (hl : kvs.length < sizeLine) :
    DPut H a (.ref b) v (upd H a (.dT (putK kvs k v))) := .inr ⟨kvs, k, b, e, rfl, eb, hl, rfl⟩


section
variable {X : Cx} {pins : List (Addr × Obj)} {σ : St} {H : Hp} {s : Shared} {a : Addr} {y v : V} {u r : Value} {o : Option V} {A : Around} {E : Value → Shared → Prop}

theorem Inv.big (I : Inv X pins σ H s) : sysModules < s.heap.objs.size := by
  have h : mainGlobals < s.heap.objs.size := (I.mod.glob.keeps I.bk).lt
  exact Nat.lt_trans (by decide) h

theorem d_getItem {Q : Value → Shared → Prop} (hu : A.units + 1 < cLine) (I : Inv X pins σ H s) (g : DGet H a y (some v)) (ry : RelV y u) (h : ∀ w' s', Inv X pins σ H s' → RelV v w' → Q w' s') :
    wpAny (model X.prog X.w) A (getItem (.ref a) u) Q E s := by
  rcases g with ⟨kvs, k, e, ey, l⟩ | ⟨kvs, k, b, e, ey, eb, l⟩
  · subst ey
    obtain ⟨z, hd, vs, rel, dd⟩ := dk_rd I.hok e
    obtain ⟨w', hw, rw'⟩ := RelO.some_of (v := v) (o := valueAt vs k) (by rw [l]; exact rel.val k)
    exact wpAny_getItem_of (kV_is ry) dd.mapOf hw (h w' _ (I.tok _) rw')
  · subst ey
    cases (show u = Value.ref b from ry)
    obtain ⟨z, hd, xs, rel, dd⟩ := dt_rd I.hok e
    obtain ⟨w', hw, rw'⟩ := RelO.some_of (v := v) (o := (atKey xs k).map (·.2)) (by rw [l]; exact rel.val k)
    obtain ⟨p, hp, hp2⟩ := Option.map_eq_some_iff.mp hw
    refine wpAny_getItem_heap (tupleKind_room_in1 hu) (key_of I.hok eb) dd hp ?_
    rw [hp2]
    exact h w' _ (I.tok _) rw'
theorem d_write {h' : Heap} {t' : Nat} {ob : HO} (I : Inv X pins σ H s) (mu : Mut (H a)) (hs : Heap.SameBut a s.heap h') (he : ∃ q, h'.get? a = some q) (new : ObjOk X.prog X.w (upd H a ob) h' a ob) :
    Inv X pins σ (upd H a ob) { s with heap := h', toks := t' } :=
  I.write (x := a) (e := a) mu (.inl rfl) (fun b q hb z => (hs.2 b hb).trans z) he new
theorem dk_new {P : Program} {w : World} {H' : Hp} {h' : Heap} {kvs : List (Key × V)} {vs : List (Key × Value)} (z : kvs.length ≤ sizeLine) (hd : (a == sysModules) = false) (rel : KV kvs vs) (dd : h'.DictOf (mixKind P w) a vs) :
    ObjOk P w H' h' a (.dK kvs) := ⟨z, hd, vs, rel, dd⟩
theorem d_setItem {H' : Hp} {Q : Unit → Shared → Prop} (hu : A.units + 1 < cLine) (I : Inv X pins σ H s) (g : DPut H a y v H') (ry : RelV y u) (rv : RelV v r) (h : ∀ s', Inv X pins σ H' s' → Q () s') :
    wpAny (model X.prog X.w) A (setItem (.ref a) u r) Q E s := by
  rcases g with ⟨kvs, k, e, ey, l, eH⟩ | ⟨kvs, k, b, e, ey, eb, l, eH⟩
  · subst ey eH
    obtain ⟨z, hd, vs, rel, dd⟩ := dk_of I.hok e
    have hz : vs.length ≤ sizeLine := by rw [← rel.length]; exact z
    have hl : (putK kvs k v).length ≤ sizeLine := by have := length_putK kvs k v; omega
    refine wpAny_setItem_pairs (hsz := hz) (kV_is ry) dd fun h' dd' hs => h _ ?_
    have he : ∃ q, h'.get? a = some q := let ⟨q, _, _, hq, _⟩ := dd'; ⟨q, hq⟩
    exact d_write I (by rw [e]; exact True.intro) hs he (dk_new hl hd (rel.put k rv) dd')
  · subst ey eH
    cases (show u = Value.ref b from ry)
    obtain ⟨z, hd, xs, rel, dd⟩ := dt_of I.hok e
    have hz : xs.length ≤ sizeLine := by rw [← Paired.length rel]; exact z
    have hl : (putK kvs k v).length ≤ sizeLine := by have := length_putK kvs k v; omega
    refine wpAny_setItem_heap (hsz := hz) (tupleKind_room_in1 hu) (key_of I.hok eb) dd fun h' dd' hs => h _ ?_
    obtain ⟨q, es, ep, hq, h2, h3, h4, _, h5⟩ := dd'
    refine d_write I (by rw [e]; exact True.intro) hs ⟨q, hq⟩ ⟨hl, hd, _, (rel.put k eb rv).keeps fun c ys ec => ?_, q, es, ep, hq, h2, h3, h4, h5⟩
    rw [upd_ne (ne_of ec e (fun z => nomatch z))]
    exact ec
end

section
variable {X : Cx} {pins : List (Addr × Obj)} {σ : St} {H : Hp} {s : Shared} {a : Addr} {kvs : List (Key × V)} {k : Key} {u : Value} {A : Around} {E : Value → Shared → Prop}
end


def NoSl (i : Expr) : Prop := ∀ ov iv, subscripted i false ov iv = operate [ov, iv] (getItem ov iv)
theorem subD_of {prog : Program} {w : World} {A : Around} {E : Value → Shared → Prop} {s : Shared} {env : Env} {value slice : Expr} {pos : Pos} {T id : String} {Q : Value → Shared → Prop}
    (hl : typeLookup (.type T) "__getitem__" = pure (some (.builtin id))) (hs : NoSl slice)
    (h : wpAny (model prog w) A (eval value env) (fun o s₁ => wpAny (model prog w) A (eval slice env) (fun i s₂ => s₂.TypeIs o T ∧ wpAny (model prog w) A (getItem o i) Q E s₂) E s₁) E s) :
    wpAny (model prog w) A (eval (.Subscript value slice pos) env) Q E s := by
  refine Subscript_ (wpAny_mono h (fun o s₁ h₁ => wpAny_mono h₁ (fun i s₂ h₂ => ?_) fun _ _ x => x) fun _ _ x => x)
  obtain ⟨hT, h₂⟩ := h₂
  unfold subscriptTail
  refine wpAny_bind ?_
  rw [getitemInPython_of_ne hT.not_modules]
  refine wpAny_bind (wpAny_specialOf hT hl ?_)
  have fin : wpAny (model prog w) A (subscripted slice false o i) (fun r s₃ => wpAny (model prog w) A (letTemporaryGo value o r >>= fun _ => pure r) Q E s₃) E s₂ := by
    rw [hs o i]
    exact wpAny_operating (wpAny_mono h₂ (fun r s₃ h₃ => wpAny_bind (wpAny_letTemporaryGo (wpAny_pure h₃))) fun _ _ x => x)
  first
    | exact wpAny_pure (wpAny_bind fin)
    | exact wpAny_bind (wpAny_pure (wpAny_bind fin))
    | exact wpAny_bind fin

theorem dict_typeIs {X : Cx} {pins : List (Addr × Obj)} {σ : St} {H : Hp} {s : Shared} {a : Addr} {y : V} {o : Option V} (I : Inv X pins σ H s) (g : DGet H a y o) : s.TypeIs (.ref a) "dict" := by
  rcases g with ⟨kvs, k, e, _, _⟩ | ⟨kvs, k, b, e, _, _, _⟩
  · obtain ⟨_, _, vs, _, dd⟩ := dk_rd I.hok e
    exact dd.typeIs
  · obtain ⟨_, _, xs, _, dd⟩ := dt_rd I.hok e
    exact dd.typeIs
def tDGet (td ty : TE) : TE := fun σ H Q => td σ H fun x H1 => ty σ H1 fun y H2 => ∃ a v, x = .ref a ∧ DGet H2 a y (some v) ∧ Q v H2
def sDPut (td ty tv : TE) : TS := fun D σ H => tv σ H fun v H1 => td σ H1 fun x H2 => ty σ H2 fun y H3 => ∃ a H4, x = .ref a ∧ DPut H3 a y v H4 ∧ D.nx σ H4
section
variable {X : Cx} {o i e value : Expr} {pos pos' tpos : Pos} {td ty tv : TE}
theorem pe_dget (hu : X.A.units + 1 < cLine) (ho : PE X o td) (hi : PE X i ty) (hs : NoSl i) : PE X (.Subscript o i pos) (tDGet td ty) := by
  intro pins s σ H Q I h
  refine subD_of PySem.F.slot_dict_getitem.lookup hs (thn (ho pins s σ H _ I h) fun u s1 ⟨x, H1, I1, rx, q1⟩ => thn (hi pins s1 σ H1 _ I1 q1) fun iv s2 ⟨y, H2, I2, ry, a, v, ex, g, q2⟩ => ?_)
  subst ex
  obtain rfl : u = Value.ref a := rx
  exact ⟨dict_typeIs I2 g, d_getItem hu I2 g ry fun w' s3 I3 rw' => ⟨v, H2, I3, rw', q2⟩⟩
theorem ps_dput (hu : X.A.units + 1 < cLine) (ho : PE X o td) (hi : PE X i ty) (hv : PE X value tv) (hs : swapsWith value (some (.Subscript o i pos')) pos.line X.env = pure false) :
    PS X (.Assign [.Subscript o i pos'] value pos) (sDPut td ty tv) := by
  intro pins s σ H D I h
  refine wpAny_Assign_Subscript (thn (hv pins s σ H _ I h) fun r s1 ⟨v, H1, I1, rv, q1⟩ => thn (ho pins s1 σ H1 _ I1 q1) fun u s2 ⟨x, H2, I2, rx, q2⟩ => thn (hi pins s2 σ H2 _ I2 q2) fun iv s3 ⟨y, H3, I3, ry, a, H4, ex, g, q3⟩ => ?_) hs
  subst ex
  obtain rfl : u = Value.ref a := rx
  exact d_setItem hu I3 g ry rv fun s4 I4 => ⟨σ, H4, I4, q3⟩
end


theorem dk_empty {P : Program} {w : World} {H : Hp} (h : Heap) (hb : sysModules < h.objs.size) : ObjOk P w H (h.push { cls := .type "dict", data := .dict #[] }) h.objs.size (.dK []) :=
  ⟨Nat.zero_le _, beq_eq_false_iff_ne.mpr (Ne.symm (Nat.ne_of_lt hb)), [], .nil, Heap.DictOf.new h⟩
def tDNewK : TE := fun _ H Q => ∀ p, H p = none → Q (.ref p) (upd H p (.dK []))
section
variable {X : Cx} {pos : Pos}
theorem pe_dnewK : PE X (.Dict [] [] pos) tDNewK := fun pins s σ H Q I h =>
  wpAny_Dict_empty ⟨.ref s.heap.objs.size, _, I.laid (a := s.heap.objs.size) (o := .dK []) (t' := s.toks) (fun _ _ q => Heap.get?_push_of_some _ q) (Nat.le_refl _) (dk_empty s.heap I.big), rfl, h _ (I.hok.fresh (Nat.le_refl _))⟩
end

structure M1 (X : Cx) (o : Expr) (m : Str) (apos : Pos) (e : Expr) (cpos : Pos) : Prop where
  base : attributeBase o m X.env (eval o X.env) = eval o X.env
  few : ((backTo cpos (starEach [e] X.env)).all (fun x => !x.1) && (backToKw cpos (keywordEach [] X.env)).all (fun x => x.1.isSome)
    && decide (([e] : List Expr).length + ([] : List Keyword).length + (if ([] : List Keyword).isEmpty then 0 else 1) < 30)) = true
  line : (apos.endLine == cpos.line) = true
  trees : backTo cpos (starEach [e] X.env) = [(false, eval e X.env)]
structure M2 (X : Cx) (o : Expr) (m : Str) (apos : Pos) (e f : Expr) (cpos : Pos) : Prop where
  base : attributeBase o m X.env (eval o X.env) = eval o X.env
  few : ((backTo cpos (starEach [e, f] X.env)).all (fun x => !x.1) && (backToKw cpos (keywordEach [] X.env)).all (fun x => x.1.isSome)
    && decide (([e, f] : List Expr).length + ([] : List Keyword).length + (if ([] : List Keyword).isEmpty then 0 else 1) < 30)) = true
  line : (apos.endLine == cpos.line) = true
  trees : backTo cpos (starEach [e, f] X.env) = [(false, eval e X.env), (false, eval f X.env)]

section
variable {X : Cx} {pins : List (Addr × Obj)} {σ : St} {H : Hp} {s : Shared} {a : Addr} {y d : V} {u r : Value} {o : Option V} {A : Around} {E : Value → Shared → Prop}
end

section
variable {X : Cx} {o e f : Expr} {apos cpos : Pos} {td ty tx : TE}
end

section
variable {X : Cx} {pins : List (Addr × Obj)} {σ : St} {H : Hp} {s : Shared} {a : Addr} {kvs : List (Key × V)} {A : Around} {E : Value → Shared → Prop}
end


section
variable {X : Cx} {pins : List (Addr × Obj)} {σ : St} {H : Hp} {s : Shared} {a : Addr} {y : V} {u : Value} {A : Around} {E : Value → Shared → Prop}
end
end L2

namespace Att
open PySem PySem.W PySem.Calls PyProof.Rows

theorem ints_of_wellAll {P : Params} {h : Heap} : ∀ (ns : List Int) (vs : List Value), WellAll P h vs (ns.map WData.int) → IntsAre vs ns := by
  intro ns
  induction ns with
  | nil =>
    intro vs w
    rw [List.map_nil] at w
    cases w
    exact .nil
  | cons n ns ih =>
    intro vs w
    rw [List.map_cons] at w
    cases w with
    | cons a b =>
      cases a
      exact .cons _ _ (ih _ b)

theorem script_of {l : OpenLaw} {n : Nat} (hn : l.most = some n) {P : Params} {h : Heap} {args : List WData} {vals : List Value}
    (hpre : l.row.toRowW.claim.pre args = true) (hwl : WellAll P h vals args) :
    ∃ a vs ns, vals = [Value.ref a] ∧ args = [WData.list (ns.map WData.int)] ∧ h.get? a = some { cls := .type "list", data := .seq vs.toArray } ∧ IntsAre vs ns ∧ ns.length ≤ n := by
  have hsh : WShape.hasAll [] args [.list .int] = true := (pre_splitW hpre).1
  have hc : l.pre.holds [] { args := args } = true := (pre_splitW hpre).2
  obtain ⟨d, r, rfl, h1, h2⟩ := hasAllW_cons hsh
  obtain rfl := hasAllW_nil h2
  obtain ⟨xs, rfl, h3⟩ := hasW_list h1
  obtain ⟨ns, rfl⟩ := items_int h3
  have hlen : ns.length ≤ n := by
    unfold OpenLaw.pre at hc
    have h4 : (WTm.not (.lt (.lit (.int (n : Int))) (.len (.arg 0)))).holds [] { args := [.list (ns.map .int)] } = true := by
      have h4 := (holds_andW hc).1
      rw [hn] at h4
      exact h4
    have h5 := condW_of h4 (w_not (w_lt w_lit (w_len_list (w_arg rfl))))
    rw [List.length_map] at h5
    refine Nat.le_of_not_lt fun q => ?_
    have q' : (n : Int) < ((ns.length : Nat) : Int) := by omega
    first
      | (rw [decide_eq_true q'] at h5; exact absurd h5 (by decide))
      | (simp at h5; omega)
  cases hwl with
  | cons w1 w2 =>
    cases w2
    cases w1 with
    | list ho hall => exact ⟨_, _, ns, rfl, rfl, ho, ints_of_wellAll ns _ hall, hlen⟩

theorem post_true (l : OpenLaw) (args : List WData) : l.row.toRowW.claim.post args (.bool true) args = true :=
  postW_of (r := l.row.toRowW) (X := (true == true))
    (show WShape.has [] (.bool true) .bool = true by first | rfl | decide | simp [WShape.has, WShape.arms, WShape.armsAll])
    (show (WTm.eq .res (.lit (.bool true))).value [] { args := args, res := some (.bool true), after := args } = some (.bool (true == true)) from w_eq_bool (w_res rfl) w_lit) rfl

theorem attach_call {l : OpenLaw} {n : Nat} {q : Program} {loose : List Str} {XP : (Str → Option Value) → Heap → Prop} {YP : World → Heap → Prop} {d : DefRec}
    (hn : l.most = some n) (hdf : d.params.defaults = [])
    (call : ∀ (w : World) (s₀ s₁ : Shared) (mg mb : Str → Option Value) (fa : Addr) (o : Obj) (pm cd doc : Value) (a : Addr) (vs : List Value) (ns : List Int),
      Ground q loose [] XP w s₀ mg mb s₁.heap → YP w s₁.heap →
      s₁.heap.get? fa = some o → o.data = .func (docDef d.name d.params d.body d.scope pm cd doc) → s₁.heap.CodeRec cd d.name → mg d.name = some (.ref fa) →
      s₁.heap.get? a = some { cls := .type "list", data := .seq vs.toArray } → IntsAre vs ns → ns.length ≤ n → s₁.gens = #[] →
      codeAny (model l.prog w) callerA (.call (.ref fa) ⟨[.ref a], []⟩) (fun r s' => r = .ok (.ret (.bool true)) ∧ OldK s₁.heap s'.heap ∧ s'.os = s₁.os ∧ AllBare s'.gens) s₁) :
    WalkO q loose XP YP l.row.toRowW d [] (fun f vs => PySem.call f vs) := by
  intro w s₀ s₁ mg mb G Y fa o pm cd doc dV kV ho hd hcd hD hmg hg args vals as hpre hlay hrd hwl hlo
  obtain rfl : dV = .none := Dflts.none hD hdf
  obtain rfl : kV = .none := Dflts.noKw hD
  obtain ⟨a, vs, ns, rfl, rfl, hobj, hints, hlen⟩ := script_of hn hpre hwl
  refine enter_call (codeAny_mono (call w s₀ s₁ mg mb fa o pm cd doc a vs ns G Y ho (fd_plain hd) hcd hmg hobj hints hlen hg) fun r s' hq => ?_)
  obtain ⟨rfl, h2, h3, h4⟩ := hq
  exact ⟨.inl ⟨.bool true, .bool true, [], rfl, fun _ => rfl, .bool true, post_true l _, fun _ => ⟨List.Pairwise.nil, fun _ hm => (nomatch hm)⟩⟩, h2, h3, h4⟩

section
variable {prog : Program} {w : World} {A : Around} {E : Value → Shared → Prop} {s : Shared} {K : Frag}

end
end Att

namespace L2
open PySem PySem.Spec PyProof.Rows

theorem vals_ints : ∀ {vs : List Value} {ns : List Int}, IntsAre vs ns → Vals (ns.map V.int) vs
  | _, _, .nil => .nil
  | _, _, .cons n t h => .cons ⟨t, rfl⟩ (vals_ints h)

def Only (H : Hp) : Prop := ∀ b, H b = none ∨ ∃ o xs, H b = some (.frz o (.lst xs))

theorem law_call {P : Program} {w : World} {K : PySem.W.Frag} {mg mb : Str → Option Value} {CX : CXT} {k : Nat} {fa a : Addr} {fd : FuncData} {x : Str} {sp : Sp} {s₁ : Shared} {vs : List Value} {ns : List Int}
    (KX : K.In s₁.heap) (hns : s₁.heap.Ns mainGlobals mg) (hb : s₁.heap.Ns builtinsNs mb) (hbb : ∀ x : Str, x ≠ "__name__" → mb x = bootBuiltins x) (hlim : s₁.heap.NoLimit) (hg : s₁.gens = #[])
    (ha : s₁.heap.get? a = some { cls := .type "list", data := .seq vs.toArray }) (hi : IntsAre vs ns) (hl : ns.length ≤ sizeLine) (hr : Room k callerA)
    (F : ∀ base : Heap, K.In base → base.Ns mainGlobals mg → FnOk P w K mg base CX k fa fd [x] sp) (hbind : ∀ (s : Shared) (u : Value), BindsTo s fd ⟨[u], []⟩ [(x, u)])
    (hsp : ∀ H : Hp, Only H → SqL K H a (ns.map V.int) → sp [.ref a] H (fun v _ => v = .bl true) fun _ _ _ => False)
    (hCX : ∀ H e s', CX [] H s₁ (fun _ _ _ => False) e s' → False) :
    codeAny (model P w) callerA (.call (.ref fa) ⟨[.ref a], []⟩) (fun r s' => r = .ok (.ret (.bool true)) ∧ OldK s₁.heap s'.heap ∧ s'.os = s₁.os ∧ AllBare s'.gens) s₁ := by
  have rv := vals_ints hi
  have lenV := hi.length
  -- from an abstract heap in which nothing but the script may be tracked
  have core : ∀ H : Hp, Only H → SqL K H a (ns.map V.int) → HOk P w H s₁.heap → (∀ b, H b ≠ none → b = a) → (H a ≠ none → K.lookup a = none) →
      codeAny (model P w) callerA (.call (.ref fa) ⟨[.ref a], []⟩) (fun r s' => r = .ok (.ret (.bool true)) ∧ OldK s₁.heap s'.heap ∧ s'.os = s₁.os ∧ AllBare s'.gens) s₁ := by
    intro H hO hS hok hA hK
    have base_of : ∀ {b : Addr} {o : Obj}, s₁.heap.get? b = some o → H b = none → (hidT s₁.heap H).get? b = some o := fun e n => hidT_get e n
    have noA : ∀ {b : Addr} {o : Obj} {es : Array DictEntry} {ep : Nat}, s₁.heap.get? b = some o → o.data = .dict es ep → H b = none := fun {b o es ep} e d => by
      cases q : H b with
      | none => rfl
      | some u =>
        have e' : b = a := hA b (by rw [q]; simp)
        subst e'
        rw [ha] at e; cases e
        have d' : Data.seq vs.toArray _ = Data.dict es ep := d
        cases d'
    have nsK : ∀ {b : Addr} {m : Str → Option Value}, s₁.heap.Ns b m → (hidT s₁.heap H).Ns b m := fun {b m} ⟨o, es, ep, e, d, r⟩ => ⟨o, es, ep, base_of e (noA e d), d, r⟩
    have hKb : K.In (hidT s₁.heap H) := fun b o e => base_of (KX b o e) (by
      cases q : H b with
      | none => rfl
      | some u =>
        have e' : b = a := hA b (by rw [q]; simp)
        subst e'
        rw [hK (by rw [q]; simp)] at e; cases e)
    have hM : Mod K mg (hidT s₁.heap H) := ⟨hKb, nsK hns, ⟨mb, nsK hb, hbb⟩, let ⟨mc, h1, h2⟩ := hlim; ⟨mc, nsK h1, h2⟩⟩
    have e0 : Env0 P w K mg (hidT s₁.heap H) callerA [] s₁ H := ⟨rfl, hM, fun b o e => of_hidT e, Nat.le_of_eq (hidT_size _ _), trivial, fun b hb => absurd (show b ∈ ([] : List Addr) from hb) (by simp), hok, .of_eq hg⟩
    refine codeAny_mono ((F _ hKb (nsK hns)).run callerA [] s₁ H ⟨[.ref a], []⟩ [.ref a] [.ref a] _ _ hr e0 (hbind s₁ (.ref a)) (.cons rfl .nil) (hsp H hO hS)) fun r s' h => ?_
    cases r with
    | error e => exact (hCX H e s' h).elim
    | ok fl =>
      cases fl with
      | next => exact False.elim h
      | brk => exact False.elim h
      | cont => exact False.elim h
      | ret u =>
        obtain ⟨v, H', os, bare, un, hok', r', q⟩ := h
        have q' : v = .bl true := q
        subst q'
        obtain rfl : u = Value.bool true := r'
        refine ⟨rfl, OldK.of_keep fun b o e => ?_, os, bare⟩
        cases q : H b with
        | none => exact un.keep b o e q (by intro z; exact absurd (show b ∈ ([] : List Addr) from z) (by simp)) (by simp)
        | some u =>
          rcases hO b with z | ⟨ob, xs, z⟩
          · rw [q] at z; cases z
          · have z2 := un.frzs b ob _ z
            obtain ⟨e1, _⟩ := hok b _ z
            obtain ⟨e2, _⟩ := hok' b _ z2
            rw [e] at e1; cases e1
            exact e2
  cases hk : K.lookup a with
  | some o =>
    -- the script is one of the module's own objects
    have e := KX a o hk
    rw [ha] at e
    cases e
    refine core (fun _ => none) (fun _ => .inl rfl) (.inr ⟨_, vs.toArray, _, hk, rfl, rfl, rfl, by rw [List.size_toArray, lenV]; exact hl, by simpa using rv⟩) (fun b u z => by have z' : (none : Option HO) = some u := z; cases z') (fun b z => absurd rfl z) fun z => absurd rfl z
  | none =>
    refine core (fun b => if b = a then some (.frz { cls := .type "list", data := .seq vs.toArray } (.lst (ns.map V.int))) else none) (fun b => ?_) (.inl (.inr ⟨{ cls := .type "list", data := .seq vs.toArray }, if_pos rfl⟩)) (fun b u z => ?_) (fun b z => ?_) fun _ => hk
    · by_cases hb : b = a
      · exact .inr ⟨_, _, if_pos hb⟩
      · exact .inl (if_neg hb)
    · by_cases hb : b = a
      · have z' := (if_pos hb).symm.trans z
        cases z'
        subst hb
        exact ⟨ha, by rw [List.length_map]; exact hl, vs, _, rv, ha⟩
      · have z' := (if_neg hb).symm.trans z
        cases z'
    · by_cases hb : b = a
      · exact hb
      · exact absurd (if_neg hb) z
end L2

namespace L2
open PySem PySem.Spec PyProof.Rows

theorem walk_of {l : PySem.W.OpenLaw} {n k : Nat} {q : Program} {loose : List Str} {XP : (Str → Option Value) → Heap → Prop} {YP : World → Heap → Prop} {d : DefRec} {K : Params → PySem.W.Frag} {CX : World → CXT} {sp : World → Sp} {x : Str}
    (hn : l.most = some n) (hn2 : n ≤ sizeLine) (hdf : d.params.defaults = []) (hr : Room k callerA)
    (hY : ∀ (w : World) (h : Heap), YP w h → (K w.params).In h)
    (F : ∀ (w : World) (mg : Str → Option Value) (fa : Addr) (h : Heap), (K w.params).In h → h.Ns mainGlobals mg → mg d.name = some (.ref fa) →
      ∃ fd : FuncData, (∀ (s : Shared) (u : Value), BindsTo s fd ⟨[u], []⟩ [(x, u)]) ∧
        ∀ base : Heap, (K w.params).In base → base.Ns mainGlobals mg → FnOk l.prog w (K w.params) mg base (CX w) k fa fd [x] (sp w))
    (hsp : ∀ (w : World) (H : Hp) (a : Addr) (ns : List Int), ns.length ≤ n → Only H → SqL (K w.params) H a (ns.map V.int) → sp w [.ref a] H (fun v _ => v = .bl true) fun _ _ _ => False)
    (hCX : ∀ (w : World) (H : Hp) (s : Shared) (e : Value) (s' : Shared), CX w [] H s (fun _ _ _ => False) e s' → False) :
    PySem.W.WalkO q loose XP YP l.row.toRowW d [] (fun f vs => PySem.call f vs) := by
  refine Att.attach_call hn hdf fun w s₀ s₁ mg mb fa o pm cd doc a vs ns G Y ho hd hcd hmg hobj hints hlen hg => ?_
  have KX := hY w _ Y
  obtain ⟨fd, hb, hF⟩ := F w mg fa _ KX G.T.g hmg
  exact law_call KX G.T.g G.T.b G.T.builtins G.T.nolimit hg hobj hints (Nat.le_trans hlen hn2) hr hF hb (fun H hO hS => hsp w H a ns hlen hO hS) fun H e s' => hCX w H s₁ e s'
end L2


namespace L2
open PySem PySem.Spec PyProof.Rows

def inClass (s : Stmt) (j : Nat) : Stmt := match s with
  | .ClassDef _ _ _ body _ _ _ _ _ _ _ => body.getD j (.Pass ⟨0, 0, 0, 0⟩)
  | _ => .Pass ⟨0, 0, 0, 0⟩
def defArgs (s : Stmt) : Arguments := match s with
  | .FunctionDef _ a _ _ _ _ _ _ _ _ => a
  | _ => { posonlyargs := [], args := [], vararg := none, kwonlyargs := [], kw_defaults := [], kwarg := none, defaults := [] }
def defBody (s : Stmt) : List Stmt := match s with
  | .FunctionDef _ _ b _ _ _ _ _ _ _ => b
  | _ => []
def defScope (s : Stmt) : Scope := match s with
  | .FunctionDef _ _ _ _ _ _ sc _ _ _ => sc
  | _ => { kind := .function, names := [], isGenerator := false, isCoroutine := false }

abbrev CX0 : CXT := fun _ _ _ _ _ _ => False
abbrev E0 : XK := fun _ _ _ => False
theorem pass0 {X : Cx} : Passes CX0 X E0 := fun _ _ _ _ _ _ _ h => h.elim

structure Fun (K : PySem.W.Frag) (x qual : Str) (st : Stmt) (f : Addr) (fd : FuncData) : Prop where
  ex : ∃ (oc : Value) (od : Option Addr) (kV doc pm : Value) (an : Option Addr) (cdv ct : Value) (osl : Array (Option Value)),
    fd = PySem.W.fnOf x qual (defArgs st) (defBody st) (defScope st) .none kV doc pm an cdv ct ∧ K.lookup f = some ⟨oc, od, .func fd, osl⟩ ∧ PySem.W.codeIn K cdv qual = true
  kp : PySem.W.keepIn K (.ref f) = true
section
variable {P : Program} {w : World} {K : PySem.W.Frag} {mg : Str → Option Value} {base : Heap}
theorem Fun.ok {x qual : Str} {st : Stmt} {f : Addr} {fd : FuncData} {N ps : List Str} {k : Nat} {sp : Sp} (F : Fun K x qual st f fd) (S : FnScope N ps (defScope st)) (len : ∀ vs H Q E, sp vs H Q E → vs.length = ps.length)
    (hbody : ∀ (cdv : Value) (A : Around) (outer : List Env) (s : Shared) (H : Hp) (vs : List V) (Q : VK) (E : XK), Room k (A.deeper (envOfC qual (defScope st) s.heap.objs.size f cdv)) → sp vs H Q E →
      ∃ t, PSs (cxOf CX0 P w K mg base N qual (defScope st) f cdv A outer s H E).nox (defBody st) t ∧ t { nx := fun _ H' => Q .non H', rt := Q } (start N vs) H) : FnOk P w K mg base CX0 (k + 1) f fd ps sp := by
  obtain ⟨oc, od, kV, doc, pm, an, cdv, ct, osl, rfl, lk, hcd⟩ := F.ex
  refine fn_of lk hcd S len fun A outer s H vs Q E hr hsp => ?_
  obtain ⟨t, h, q⟩ := hbody cdv A outer s H vs Q E hr hsp
  exact ⟨t, h.nox, q⟩
theorem Fun.binds {x qual : Str} {st : Stmt} {f : Addr} {fd : FuncData} {ps : List Str} (F : Fun K x qual st f fd)
    (h : ∀ (kV doc pm : Value) (an : Option Addr) (cdv ct : Value) (us : List Value), us.length = ps.length → bindArgs (PySem.W.fnOf x qual (defArgs st) (defBody st) (defScope st) .none kV doc pm an cdv ct) ⟨us, []⟩ = pure (ps.zip us)) : Binds K fd ps [] := by
  obtain ⟨oc, od, kV, doc, pm, an, cdv, ct, osl, rfl, lk, hcd⟩ := F.ex
  exact .all (h kV doc pm an cdv ct)
theorem fun_mk {x qual : Str} {st : Stmt} {f : Addr} {oc : Value} {od an : Option Addr} {osl : Array (Option Value)} {kV doc pm cdv ct : Value} (l : K.lookup f = some ⟨oc, od, .func (PySem.W.fnOf x qual (defArgs st) (defBody st) (defScope st) .none kV doc pm an cdv ct), osl⟩)
    (c : PySem.W.codeIn K cdv qual = true) (k : PySem.W.keepIn K (.ref f) = true) : Fun K x qual st f (PySem.W.fnOf x qual (defArgs st) (defBody st) (defScope st) .none kV doc pm an cdv ct) := ⟨⟨oc, od, kV, doc, pm, an, cdv, ct, osl, rfl, l, c⟩, k⟩
end
theorem hu_of {A : Around} {k : Nat} (hr : Room k A) : A.units + 1 < cLine := Nat.lt_of_le_of_lt (Nat.add_le_add_left (by decide : 1 ≤ 64) _) hr.units
section
variable {X : Cx}
theorem pv (i : Nat) {x : Str} {pos : Pos} (hN : X.N[i]? = some x := by rfl) (hv : Vis X.env.scope x := by first | exact Or.inl rfl | exact Or.inr (Or.inl rfl) | exact Or.inr (Or.inr rfl)) (hd : (x == ("__debug__" : Str)) = false := by decide)
    (hcd : (x == ("__classdict__" : Str)) = false := by decide) : PE X (.Name x pos) (tVar i) := pe_var hN hv hd hcd
end

theorem iteF {A B : Prop} (h : B) : if false = true then A else B := by
  rw [if_neg Bool.false_ne_true]
  exact h
theorem iteT {A B : Prop} (h : A) : if true = true then A else B := by
  rw [if_pos rfl]
  exact h
theorem ite2 {c A B : Prop} [Decidable c] (h1 : c → A) (h2 : ¬ c → B) : if c then A else B := by
  by_cases h : c
  · rw [if_pos h]
    exact h1 h
  · rw [if_neg h]
    exact h2 h
def Same (H H' : Hp) : Prop := ∀ b o, H b = some o → H' b = some o
theorem Same.refl (H : Hp) : Same H H := fun _ _ h => h
theorem Same.trans {H H1 H2 : Hp} (a : Same H H1) (b : Same H1 H2) : Same H H2 := fun c o h => b c o (a c o h)
theorem Same.free {H H' : Hp} (e : Same H H') {l : Addr} (h : H' l = Option.none) : H l = Option.none := by
  cases q : H l with
  | none => rfl
  | some o =>
    rw [e l o q] at h
    cases h
theorem Same.seq {K : PySem.W.Frag} {H H' : Hp} {a : Addr} {xs : List V} (e : Same H H') (h : SqL K H a xs) : SqL K H' a xs := by
  rcases h with (h | ⟨o, h⟩) | h
  · exact .inl (.inl (e _ _ h))
  · exact .inl (.inr ⟨o, e _ _ h⟩)
  · exact .inr h

section
variable {κ : Type} [DecidableEq κ]
theorem valV_not {kvs : List (κ × V)} {k : κ} (h : valV kvs k = none) : ¬ k ∈ kvs.map (·.1) := by
  intro m
  obtain ⟨p, hp, e⟩ := List.mem_map.mp m
  have q : (kvs.any fun kv => decide (kv.1 = k)) = true := List.any_eq_true.mpr ⟨p, hp, decide_eq_true e⟩
  rw [valV_any, h] at q
  exact absurd q (by simp)
theorem nd_snoc : ∀ {l : List κ} {k : κ}, l.Nodup → ¬ k ∈ l → (l ++ [k]).Nodup
  | [], k, _, _ => by simp
  | a :: r, k, h, hk => by
    obtain ⟨h1, h2⟩ := List.nodup_cons.mp h
    show (a :: (r ++ [k])).Nodup
    refine List.nodup_cons.mpr ⟨fun m => ?_, nd_snoc h2 fun m => hk (List.mem_cons.mpr (Or.inr m))⟩
    rcases List.mem_append.mp m with q | q
    · exact h1 q
    · exact hk (List.mem_cons.mpr (Or.inl (List.mem_singleton.mp q).symm))
theorem nd_putK {kvs : List (κ × V)} {k : κ} (v : V) (hn : (kvs.map (·.1)).Nodup) (h : valV kvs k = none) : ((putK kvs k v).map (·.1)).Nodup := by
  rw [putK_new v h, List.map_append]
  exact nd_snoc hn (valV_not h)
end
end L2


set_option Elab.async false
set_option linter.all false
set_option maxRecDepth 100000
set_option maxHeartbeats 4000000
namespace L2
open PySem PySem.Spec PyProof.Rows

theorem clos_aux (env : Env) : ∀ (l : List (Str × NameKind)) (cs : List (Str × Addr)), (∀ n, (n, NameKind.free) ∈ l → ∃ c, env.cells.lookup n = some c) → (∀ x c, cs.lookup x = some c → env.cells.lookup x = some c) →
    ∃ cl, (forIn l cs fun x s => if (x.snd == NameKind.free) = true then do let c ← cellOf env x.fst; pure (ForInStep.yield ((x.fst, c) :: s)) else pure (ForInStep.yield s)) = (pure cl : Sem (List (Str × Addr))) ∧
      (∀ x c, cl.lookup x = some c → env.cells.lookup x = some c) ∧ (∀ n, (n, NameKind.free) ∈ l → ∃ c, cl.lookup n = some c) ∧ ∀ n c, cs.lookup n = some c → ∃ c', cl.lookup n = some c'
  | [], cs, _, h => ⟨cs, rfl, h, (fun _ z => nomatch z), (fun n c e => ⟨c, e⟩)⟩
  | (n, k) :: r, cs, hf, h => by
    by_cases hk : k = .free
    · subst hk
      obtain ⟨c, hc⟩ := hf n List.mem_cons_self
      have e : cellOf env n = pure c := by unfold cellOf; rw [hc]
      obtain ⟨cl, e1, h1, h2, h3⟩ := clos_aux env r ((n, c) :: cs) (fun m hm => hf m (List.mem_cons_of_mem _ hm)) (fun x c' q => by
        rw [List.lookup_cons] at q
        by_cases hx : x = n
        · subst hx; simp at q; subst q; exact hc
        · have : (x == n) = false := by simpa using hx
          rw [this] at q; exact h x c' q)
      refine ⟨cl, ?_, h1, fun m hm => ?_, fun m c' q => ?_⟩
      · rw [List.forIn_cons]
        show ((do let c ← cellOf env n; pure (ForInStep.yield ((n, c) :: cs))) >>= _) = _
        rw [e]
        exact e1
      · rcases List.mem_cons.mp hm with z | z
        · cases z; exact h3 n c (by simp)
        · exact h2 m z
      · by_cases hx : m = n
        · subst hx; exact h3 m c (by simp)
        · have : (m == n) = false := by simpa using hx
          exact h3 m c' (by rw [List.lookup_cons, this]; exact q)
    · have hb : (k == NameKind.free) = false := by simpa using hk
      obtain ⟨cl, e1, h1, h2, h3⟩ := clos_aux env r cs (fun m hm => hf m (List.mem_cons_of_mem _ hm)) h
      refine ⟨cl, ?_, h1, fun m hm => ?_, h3⟩
      · rw [List.forIn_cons]
        dsimp only
        rw [hb]
        exact e1
      · rcases List.mem_cons.mp hm with z | z
        · cases z; exact absurd rfl hk
        · exact h2 m z

theorem closureFor_of {scope : Scope} {env : Env} (h : ∀ n, (n, NameKind.free) ∈ scope.names → ∃ c, env.cells.lookup n = some c) :
    ∃ cl, closureFor scope env = pure cl ∧ (∀ x c, cl.lookup x = some c → env.cells.lookup x = some c) ∧ ∀ n, (n, NameKind.free) ∈ scope.names → ∃ c, cl.lookup n = some c := by
  obtain ⟨cl, e, h1, h2, _⟩ := clos_aux env scope.names [] h (fun _ _ z => by simp at z)
  refine ⟨cl, ?_, h1, h2⟩
  simp only [closureFor]
  rw [e]
  rfl

def compCx (X : Cx) (scope : Scope) (N' : List Str) (cl : List (Str × Addr)) (C : Addr) (s : Shared) (H : Hp) (fp : List Addr) (pins : List (Addr × Obj)) : Cx where
  prog := X.prog
  w := X.w
  K := X.K
  mg := X.mg
  base := X.base
  A := X.A
  N := N'
  s₀ := s
  H₀ := H
  env := compEnvC scope cl C X.env
  outer := X.stack
  stack := X.stack
  ex := fp
  calm := X.calm
  fn := fun _ => false
  pn := X.pn ++ pins
  xe := fun _ _ => False

structure CompScope (sc : Scope) (out : Scope) : Prop where
  kind : sc.kind = .function
  cell : ∀ y ∈ sc.names, y.2 ≠ .cell
  loc : ∀ y ∈ sc.names, y.2 = .local → sc.names.lookup y.1 = some .local
  free : ∀ y ∈ sc.names, y.2 = .free → out.names.lookup y.1 = some .cell ∨ out.names.lookup y.1 = some .free

def inSt (ρ : List (Option Nat)) (σ : St) : St := ρ.map fun o => match o with | some i => (σ[i]?).getD none | none => none
def SlotOk (sc : Scope) (env : Env) (N N' : List Str) (ρ : List (Option Nat)) : Prop :=
  ρ.length = N'.length ∧ ∀ (j i : Nat) (x : Str), ρ[j]? = some (some i) → N'[j]? = some x → N[i]? = some x ∧ Vis env.scope x ∧ (x, NameKind.free) ∈ sc.names

theorem lookup_relabel {names : List (Str × NameKind)} {env : Env} {x : Str} {k : NameKind} (h : (names.map fun (n, k) => if (k == NameKind.free && env.scope.kind == .function && env.kindOf n == some .cell) then (n, NameKind.cell) else (n, k)).lookup x = some k)
    (hk : k = .cell ∨ k = .free) (hc : ∀ y ∈ names, y.2 ≠ .cell) : (x, NameKind.free) ∈ names := by
  induction names with
  | nil => simp at h
  | cons p r ih =>
    obtain ⟨n, k'⟩ := p
    by_cases hx : x = n
    · subst hx
      have hk' : k' = .free := by
        by_cases hc' : (k' == NameKind.free && env.scope.kind == .function && env.kindOf x == some .cell) = true
        · simp only [Bool.and_eq_true, beq_iff_eq] at hc'
          exact hc'.1.1
        · simp only [List.map_cons] at h
          rw [if_neg hc'] at h
          simp at h
          subst h
          rcases hk with z | z
          · exact absurd z (hc (x, k') List.mem_cons_self)
          · exact z
      rw [hk']; exact List.mem_cons_self
    · have hb : (x == n) = false := by simpa using hx
      refine List.mem_cons_of_mem _ (ih ?_ fun y hy => hc y (List.mem_cons_of_mem _ hy))
      simp only [List.map_cons] at h
      by_cases hc' : (k' == NameKind.free && env.scope.kind == .function && env.kindOf n == some .cell) = true
      · rw [if_pos hc', List.lookup_cons, hb] at h; exact h
      · rw [if_neg hc', List.lookup_cons, hb] at h; exact h

theorem lookup_relabel_free : ∀ {names : List (Str × NameKind)} {env : Env} {x : Str}, (x, NameKind.free) ∈ names → (names.map fun (n, k) => if (k == NameKind.free && env.scope.kind == .function && env.kindOf n == some .cell) then (n, NameKind.cell) else (n, k)).lookup x = some .cell ∨
    (names.map fun (n, k) => if (k == NameKind.free && env.scope.kind == .function && env.kindOf n == some .cell) then (n, NameKind.cell) else (n, k)).lookup x = some .free ∨ names.lookup x ≠ some .free := by
  intro names env x hm
  by_cases hl : names.lookup x = some .free
  · induction names with
    | nil => simp at hl
    | cons p r ih =>
      obtain ⟨n, k'⟩ := p
      by_cases hx : x = n
      · subst hx
        simp at hl
        subst hl
        by_cases hc' : (NameKind.free == NameKind.free && env.scope.kind == .function && env.kindOf x == some .cell) = true
        · left; simp only [List.map_cons]; rw [if_pos hc']; simp
        · right; left; simp only [List.map_cons]; rw [if_neg hc']; simp
      · have hb : (x == n) = false := by simpa using hx
        rw [List.lookup_cons, hb] at hl
        have hm' : (x, NameKind.free) ∈ r := by
          rcases List.mem_cons.mp hm with z | z
          · cases z; exact absurd rfl hx
          · exact z
        have q := ih hm' hl
        simp only [List.map_cons]
        by_cases hc' : (k' == NameKind.free && env.scope.kind == .function && env.kindOf n == some .cell) = true
        · rw [if_pos hc', List.lookup_cons, hb, List.lookup_cons, hb]; exact q
        · rw [if_neg hc', List.lookup_cons, hb, List.lookup_cons, hb]; exact q
  · exact .inr (.inr hl)

section
variable {X : Cx} {pins : List (Addr × Obj)} {σ : St} {H : Hp} {s : Shared} {scope : Scope} {N' : List Str} {ρ : List (Option Nat)} {cl : List (Str × Addr)} {fp : List Addr} {C D : Addr}

theorem comp_ok (I : Inv X pins σ H s) (S : CompScope scope X.env.scope) (hf : ∀ b ∈ fp, FpOk X pins H b) (h1 : ∀ x c, cl.lookup x = some c → X.env.cells.lookup x = some c) (h2 : ∀ n, (n, NameKind.free) ∈ scope.names → ∃ c, cl.lookup n = some c)
    (hC : s.heap.objs.size ≤ C) (hfs : ∀ b ∈ fp, b < s.heap.objs.size) : (compCx X scope N' cl C s H fp pins).Ok where
  mod := I.ok.mod
  kind := S.kind
  glob := I.ok.glob
  blt := I.ok.blt
  above := hC
  inj := fun x y c e1 e2 => I.ok.inj x y c (h1 x c e1) (h1 y c e2)
  has := fun x hk => h2 x (by
    rcases hk with hk | hk
    · exact lookup_relabel (env := X.env) hk (.inl rfl) S.cell
    · exact lookup_relabel (env := X.env) hk (.inr rfl) S.cell)
  cab := fun _ _ z => nomatch z
  hd := I.ok.hd
  frames := I.ok.frames
  stk := .inl rfl
  exf := fun b hb => ⟨Nat.ne_of_lt (Nat.lt_of_lt_of_le (hfs b hb) hC), fun x c e => (hf b hb).2.2.2.2.1 x c (h1 x c e)⟩
  bs := I.bs
  bsz := Nat.le_trans I.ok.bsz I.sz
  noex := fun b o e hb => by
    rcases (hf b hb).2.2.2.1 with z | z
    · exact I.ok.noex b o e z
    · exact absurd (Nat.lt_of_lt_of_le (Nat.lt_of_lt_of_le (Heap.lt_size e) I.ok.bsz) z) (Nat.lt_irrefl _)
  exfs := fun b hb z => by
    rcases List.mem_cons.mp (I.stkSub b z) with q | q
    · exact (hf b hb).2.1 q
    · exact (hf b hb).2.2.1 q
  funs := I.stack
  frf := I.stkFree

theorem comp_start {h₁ : Heap} {tk : Nat} (I : Inv X pins σ H s) (S : CompScope scope X.env.scope) (hρ : SlotOk scope X.env X.N N' ρ) (hf : ∀ b ∈ fp, FpOk X pins H b) (h1 : ∀ x c, cl.lookup x = some c → X.env.cells.lookup x = some c)
    (h2 : ∀ n, (n, NameKind.free) ∈ scope.names → ∃ c, cl.lookup n = some c) (hC : s.heap.objs.size ≤ C) (hfs : ∀ b ∈ fp, b < s.heap.objs.size) (hn : h₁.Ns C (fun _ => none)) (hk : ∀ b o, s.heap.get? b = some o → h₁.get? b = some o)
    (hl : ∀ x, (x, NameKind.free) ∈ scope.names → scope.names.lookup x = some .free) :
    Inv (compCx X scope N' cl C s H fp pins) [] (inSt ρ σ) H { s with heap := h₁, toks := tk } where
  ok := comp_ok I S hf h1 h2 hC hfs
  os := rfl
  bare := I.bare
  base := Un.kept hk
  loc := by
    refine ⟨_, hn, fun j x v e1 e2 hv => ?_⟩
    obtain ⟨m, hm, hl'⟩ := I.loc
    unfold inSt at e2
    rw [List.getElem?_map] at e2
    cases hr : ρ[j]? with
    | none => rw [hr] at e2; simp at e2
    | some o =>
      cases o with
      | none => rw [hr] at e2; simp at e2
      | some i =>
        rw [hr] at e2
        obtain ⟨q1, q2, q3⟩ := hρ.2 j i x hr e1
        have e3 : σ[i]? = some (some v) := by
          cases hσ : σ[i]? with
          | none => simp [hσ] at e2
          | some z => simp [hσ] at e2; rw [e2]
        obtain ⟨u, r, lk⟩ := hl' i x v q1 e3 q2
        refine ⟨u, r, ?_⟩
        obtain ⟨c, hc⟩ := h2 x q3
        have hkind : (relabel scope X.env).names.lookup x = some .cell ∨ (relabel scope X.env).names.lookup x = some .free := by
          rcases lookup_relabel_free (env := X.env) q3 with z | z | z
          · exact .inl z
          · exact .inr z
          · exact absurd (hl x q3) z
        refine .inr ⟨hkind, c, hc, ?_⟩
        rcases lk with ⟨k, _⟩ | ⟨_, c', e', z⟩
        · rcases S.free (x, .free) q3 rfl with z | z
          · have k' : X.env.scope.names.lookup x = some .local := k
            rw [z] at k'; cases k'
          · have k' : X.env.scope.names.lookup x = some .local := k
            rw [z] at k'; cases k'
        · have := h1 x c hc
          rw [e'] at this; cases this
          obtain ⟨o, ho, hd⟩ := z
          exact ⟨o, hk _ _ ho, hd⟩
  cell := fun x c e => by
    obtain ⟨v, o, ho, hd⟩ := I.cell x c (h1 x c e)
    exact ⟨v, o, hk _ _ ho, hd⟩
  free := I.hok.fresh hC
  freeC := fun x c e => I.freeC x c (h1 x c e)
  pin := fun p hp => by
    have hp' : p ∈ X.pn ++ pins := by simpa [compCx] using hp
    obtain ⟨e, n, ne, nf, d⟩ := I.pin p hp'
    refine ⟨hk _ _ e, n, Nat.ne_of_lt (Nat.lt_of_lt_of_le (Heap.lt_size e) hC), fun z => ?_, d⟩
    rcases List.mem_cons.mp (I.stkSub p.1 z) with q | q
    · exact ne q
    · exact nf q
  hok := I.hok.kept hk
  len := by
    show (inSt ρ σ).length = N'.length
    unfold inSt
    rw [List.length_map]; exact hρ.1
end

theorem HOk.track {P : Program} {w : World} {H : Hp} {h : Heap} {D : Addr} {o : HO} (x : HOk P w H h) (n : H D = none) (new : ObjOk P w (upd H D o) h D o) : HOk P w (upd H D o) h := fun b u e => by
  by_cases hb : b = D
  · subst hb; rw [upd_same] at e; cases e; exact new
  · rw [upd_ne hb] at e
    exact (x b u e).stay (fun c v _ q => q) (fun c q => by rw [upd_ne (ne_of_none q n)]; exact q) fun c xs q => by rw [upd_ne (ne_of_none q n)]; exact q

section
variable {prog : Program} {w : World} {A : Around} {R : Result → Shared → Prop} {s : Shared}
theorem compLoop_gen {elt target iter : Expr} {ifs : List Expr} {scope : Scope} {pos : Pos} {it acc : Value} {env : Env} (I : Nat → Shared → Prop)
    (turn : ∀ n s, I n s → wpAny (model prog w) A (pyNext it) (fun r s₁ => match r with
      | none => R (.ok .next) s₁
      | some v => wpAny (model prog w) A (letOwnedTupleGo target it v) (fun _ s₁' => wpAny (model prog w) A (assign target env v) (fun _ s₂ =>
          wpAny (model prog w) A (forIn ifs true fun c r => if r = true then do let ok ← isTrue c env (eval c env); pure (ForInStep.yield ok) else pure (ForInStep.yield r)) (fun ok s₃ =>
            if ok = true then wpAny (model prog w) A (eval elt env) (fun x s₄ =>
              wpAny (model prog w) A (call (.builtin "list.append") [acc, x]) (fun _ s₅ => ∃ m, m < n ∧ I m s₅) (fun _ _ => False) s₄) (fun _ _ => False) s₃
            else ∃ m, m < n ∧ I m s₃) (fun _ _ => False) s₂) (fun _ _ => False) s₁') (fun _ _ => False) s₁) (fun _ _ => False) s)
    (n : Nat) (h : I n s) :
    codeAny (model prog w) A (.compLoop (.ListComp elt [⟨target, iter, ifs, 0⟩] scope pos) 0 it acc env) R s := by
  refine codeAny_loop rfl I (fun n s hI => ?_) n h
  show wpAny _ A ((compTurn (.ListComp elt [⟨target, iter, ifs, 0⟩] scope pos) 0 it acc env).onRaise (fun x => do noteFrame x env; theTreesLotGoes x)) _ _ s
  refine wpAny_noted ?_
  rw [compTurn_list]
  refine wpAny_bind (wpAny_standAt (wpAny_bind (wpAny_mono (turn n s hI) (fun r s₁ h₁ => ?_) fun _ _ h' => h'.elim)))
  cases r with
  | none => exact wpAny_pure h₁
  | some v =>
    refine wpAny_bind (wpAny_mono h₁ (fun _ s₁' h₁ => ?_) fun _ _ h' => h'.elim)
    refine wpAny_bind (wpAny_mono h₁ (fun _ s₂ h₂ => wpAny_bind (wpAny_mono h₂ (fun ok s₃ h₃ => ?_) fun _ _ h' => h'.elim)) fun _ _ h' => h'.elim)
    cases ok with
    | false => exact wpAny_pure ⟨rfl, h₃⟩
    | true =>
      exact wpAny_bind (wpAny_bind (wpAny_mono h₃ (fun x s₄ h₄ => wpAny_bind (wpAny_mono h₄ (fun _ s₅ h₅ => wpAny_pure (wpAny_pure ⟨rfl, h₅⟩)) fun _ _ h' => h'.elim)) fun _ _ h' => h'.elim))
end

def PTs (X : Cx) (ifs : List Expr) (t : TT) : Prop :=
  ∀ (pins : List (Addr × Obj)) (s : Shared) (σ : St) (H : Hp) (Q : Bool → Hp → Prop), Inv X pins σ H s → t σ H Q →
    wpAny (model X.prog X.w) X.A (forIn ifs true fun c r => if r = true then do let ok ← isTrue c X.env (eval c X.env); pure (ForInStep.yield ok) else pure (ForInStep.yield r)) (TP X pins σ Q) X.xe s
def tYes : TT := fun _ H Q => Q true H
theorem pts_nil {X : Cx} : PTs X [] tYes := fun _ _ _ H _ I h => wpAny_tests_nil ⟨H, I, h⟩
theorem pts_one {X : Cx} {c : Expr} {t : TT} (h : PT X c t) : PTs X [c] t := fun pins s σ H Q I hw => wpAny_tests_one (h pins s σ H Q I hw)

def Outs (ρ : List (Option Nat)) (σ σ2 : St) : Prop := σ2.length = ρ.length ∧ ∀ (j : Nat) v, (inSt ρ σ)[j]? = some (some v) → σ2[j]? = some (some v)
def CompW (ρ : List (Option Nat)) (g : TG) (tt : TT) (te : TE) (σ : St) (Q : VK) (J : It) (H1 : Hp) : Prop := ∃ W : Nat → Nat → List V → Hp → Prop, (∃ m, W 0 m [] H1) ∧ ∀ i m ys H', W i m ys H' →
  (J.stop i H' ∧ ys.length ≤ sizeLine ∧ ∀ p, H' p = none → Q (.ref p) (upd H' p (.lst ys))) ∨
  (J.go i H' ∧ ys.length < sizeLine ∧ ∃ N : List V → Hp → Prop, (∀ ys' H'', N ys' H'' → ∃ m', m' < m ∧ W (i + 1) m' ys' H'') ∧ ∀ x H2, J.yld i H' x H2 → g x (inSt ρ σ) H2 fun σ2 H3 => Outs ρ σ σ2 ∧ tt σ2 H3 fun ok H4 => if ok = true then te σ2 H4 fun v H5 => N (ys ++ [v]) H5 else N ys H4)
def tComp (ρ : List (Option Nat)) (wi : TI) (g : TG) (tt : TT) (te : TE) : TE := fun σ H Q => wi σ H fun J H1 => CompW ρ g tt te σ Q J H1

theorem comp_run {X : Cx} {elt iter tg : Expr} {ifs : List Expr} {scope : Scope} {pos : Pos} {N' : List Str} {ρ : List (Option Nat)} {wi : TI} {g : TG} {tt : TT} {te : TE} {cl : List (Str × Addr)} {RR : Value → Addr → Result → Shared → Prop} (hc : X.calm = true) (hi : PI X tg iter wi) (S : CompScope scope X.env.scope) (hρ : SlotOk scope X.env X.N N' ρ)
    (hl : ∀ x, (x, NameKind.free) ∈ scope.names → scope.names.lookup x = some .free)
    (inner : ∀ (cl : List (Str × Addr)) (C : Addr) (s : Shared) (H : Hp) (fp : List Addr) (pins : List (Addr × Obj)), PG (compCx X scope N' cl C s H fp pins) tg g ∧ PTs (compCx X scope N' cl C s H fp pins) ifs tt ∧ PE (compCx X scope N' cl C s H fp pins) elt te)
    {pins : List (Addr × Obj)} {s : Shared} {σ : St} {H : Hp} {Q : VK} (I : Inv X pins σ H s) (h : tComp ρ wi g tt te σ H Q)
    (h1 : ∀ x c, cl.lookup x = some c → X.env.cells.lookup x = some c) (h2 : ∀ n, (n, NameKind.free) ∈ scope.names → ∃ c, cl.lookup n = some c)
    (fin : ∀ D C s' H' m, Inv X pins σ H' s' → Q (.ref D) H' → s'.heap.Ns C m → FpOk X pins H' C → RR (.ref D) C (.ok .next) s') :
    wpAny (model X.prog X.w) X.A (eval iter X.env) (fun x s₁ => wpAny (model X.prog X.w) X.A (pyIter x) (fun it s₂ => wpAny (model X.prog X.w) X.A (newList []) (fun acc s₃ =>
      wpAny (model X.prog X.w) X.A (newFunctionEnv scope X.env.globals cl [] X.env.qual none .none (some X.env)) (fun cenv s₄ =>
        codeAny (model X.prog X.w) X.A (.compStart (.ListComp elt [⟨tg, iter, ifs, 0⟩] scope pos) 0 it acc { cenv with scope := relabel scope X.env }) (RR acc cenv.locals) s₄) X.xe s₃) X.xe s₂) X.xe s₁) X.xe s := by
  refine thn (hi pins s σ H _ I h) fun v s1 h1' => thn h1' fun itv s2 hx => ?_
  obtain ⟨it, fp, tn, J, H2, e, I2, T, st2, f2, W, ⟨m0, w0⟩, turn⟩ := hx
  subst e
  have hfs : ∀ b ∈ fp, b < s2.heap.objs.size := fun b hb => by
    obtain ⟨o, e, _⟩ := T.obj _ _ st2 b hb
    exact Heap.lt_size e
  refine wpAny_newObj_type (wpAny_newFunctionEnv S.cell (by intro y hy; simp at hy) (fun h₁ hns₁ hsb₁ => ?_) S.kind)
  dsimp only at hns₁ hsb₁ ⊢
  generalize hH2 : s2.heap.push { cls := .type "list", dict := none, data := .seq ([] : List Value).toArray } = G at hns₁ hsb₁ ⊢
  have hC : G.objs.size = s2.heap.objs.size + 1 := by rw [← hH2, Heap.size_push]
  have hDC : s2.heap.objs.size ≠ G.objs.size := by rw [hC]; exact Nat.ne_of_lt (Nat.lt_succ_self _)
  have hCle : s2.heap.objs.size ≤ G.objs.size := by rw [hC]; exact Nat.le_succ _
  have old : ∀ b o, s2.heap.get? b = some o → h₁.get? b = some o := fun b o e => hsb₁.extBut b o (Nat.ne_of_lt (Nat.lt_of_lt_of_le (Heap.lt_size e) hCle)) (Heap.get?_push_of_some _ (hH2 ▸ Heap.get?_push_of_some _ e))
  have hacc : h₁.get? s2.heap.objs.size = some { cls := .type "list", dict := none, data := .seq ([] : List Value).toArray } := hsb₁.extBut _ _ hDC (Heap.get?_push_of_some _ (hH2 ▸ Heap.get?_push_size _ rfl))
  have hns₂ : h₁.Ns G.objs.size (fun _ => none) := hns₁
  generalize hXX : compCx X scope N' cl G.objs.size s2 H2 fp pins = XX at *
  have IN : ∀ (tk : Nat), Inv XX [] (inSt ρ σ) H2 { s2 with heap := h₁, toks := tk } := fun tk => hXX ▸ comp_start (N' := N') I2 S hρ f2 h1 h2 hCle hfs hns₂ old hl
  obtain ⟨pg, pt, pe⟩ := inner cl G.objs.size s2 H2 fp pins
  rw [hXX] at pg pt pe
  have eP : XX.prog = X.prog := by rw [← hXX]; rfl
  have eW : XX.w = X.w := by rw [← hXX]; rfl
  have eK : XX.K = X.K := by rw [← hXX]; rfl
  have eA : XX.A = X.A := by rw [← hXX]; rfl
  have eE : XX.env = compEnvC scope cl G.objs.size X.env := by rw [← hXX]; rfl
  have eL : XX.env.locals = G.objs.size := by rw [eE]; rfl
  have ec : XX.calm = true := by rw [← hXX]; exact hc
  have ex : XX.xe = fun _ _ => False := by rw [← hXX]; rfl
  have es0 : XX.s₀ = s2 := by rw [← hXX]; rfl
  have eex : XX.ex = fp := by rw [← hXX]; rfl
  have efs : XX.fs = frs X.stack := by rw [← hXX]; rfl
  have eH0 : XX.H₀ = H2 := by rw [← hXX]; rfl
  have epn : XX.pn = X.pn ++ pins := by rw [← hXX]; rfl
  have ecl : XX.env.cells = cl := by rw [eE]; rfl
  -- what stays true of the iterator's records
  have stat : ∀ {H' : Hp} {ps : List (Addr × Obj)}, (∀ b ∈ fp, H' b = none) → (∀ p ∈ ps, p.1 = s2.heap.objs.size) → ∀ b ∈ fp, FpOk XX ps H' b := fun {H' ps} hn hp b hb => by
    refine ⟨hn b hb, ?_, ?_, ?_, ?_, ?_⟩
    · rw [eL]; exact Nat.ne_of_lt (Nat.lt_of_lt_of_le (hfs b hb) hCle)
    · rw [efs]
      intro z
      rcases List.mem_cons.mp (I2.stkSub b z) with q | q
      · exact (f2 b hb).2.1 q
      · exact (f2 b hb).2.2.1 q
    · rw [eex]; exact .inl hb
    · rw [ecl]; exact fun x c e => (f2 b hb).2.2.2.2.1 x c (h1 x c e)
    · intro p hp' z
      rw [epn] at hp'
      rcases List.mem_append.mp hp' with q | q
      · exact (f2 b hb).2.2.2.2.2 p q z
      · rw [hp p q] at z
        exact absurd (hfs b hb) (by rw [z]; exact Nat.lt_irrefl _)
  have nofsD : s2.heap.objs.size ∉ XX.fs := by
    rw [efs]; intro z
    rcases List.mem_cons.mp (I2.stkSub _ z) with q | q
    · exact absurd I2.lt (by rw [← q]; exact Nat.lt_irrefl _)
    · exact I2.nofs (Nat.le_refl _) q
  have pinD : ∀ {σ' : St} {H' : Hp} {s' : Shared} {its : List Value} {n : Nat}, Inv XX [] σ' H' s' → H' s2.heap.objs.size = none → s'.heap.get? s2.heap.objs.size = some { cls := .type "list", data := .seq its.toArray n } →
      Inv XX [(s2.heap.objs.size, { cls := .type "list", data := .seq its.toArray n })] σ' H' s' := fun {σ' H' s' its n} I' hn ho => I'.pins_of fun p hp => by
    have e : p = (s2.heap.objs.size, { cls := .type "list", data := .seq its.toArray n }) := by simpa using hp
    subst e
    refine ⟨ho, hn, by rw [eL]; exact hDC, nofsD, fun v z => ?_⟩
    have z' : Data.seq its.toArray n = Data.cell v := z
    cases z'
  have loop : ∀ s₃ : Shared, (∃ tk, s₃ = { s2 with heap := h₁, toks := tk }) →
      codeAny (model X.prog X.w) X.A (.compLoop (.ListComp elt [⟨tg, iter, ifs, 0⟩] scope pos) 0 (.ref it) (.ref s2.heap.objs.size) (compEnvC scope cl G.objs.size X.env)) (RR (.ref s2.heap.objs.size) G.objs.size) s₃ := by
    rintro s₃ ⟨tk, rfl⟩
    refine compLoop_gen (fun n s' => ∃ i ys its k H', Inv XX [] (inSt ρ σ) H' s' ∧ tn i s'.heap ∧ (∀ b ∈ fp, H' b = none) ∧ H' s2.heap.objs.size = none ∧ Vals ys its ∧
      s'.heap.get? s2.heap.objs.size = some { cls := .type "list", data := .seq its.toArray k } ∧ W i n ys H') ?_ m0
      ⟨0, [], [], 0, H2, IN tk, T.keep _ _ _ st2 fun b _ o e => old b o e, fun b hb => (f2 b hb).1, I2.hok.fresh (Nat.le_refl _), .nil, hacc, w0⟩
    rintro n s3 ⟨i, ys, its, k, H3, I3, st3, fr3, hD3, rv, ho3, w3⟩
    rcases turn i n ys H3 w3 with ⟨stop, hz, qn⟩ | ⟨go, hz, N, hN, step⟩
    · have I3p := pinD I3 hD3 ho3
      have q := T.done XX eP eW eK ec i _ s3 (inSt ρ σ) H3 (fun _ _ => False) I3p (stat fr3 (by simp)) st3 stop
      rw [eA] at q
      refine thn q fun r s4 ⟨hr, I4⟩ => ?_
      subst hr
      have ho4 := (I4.pin (s2.heap.objs.size, { cls := .type "list", data := .seq its.toArray k }) (by simp)).1
      obtain ⟨m, hm, _⟩ := I4.loc
      rw [eL] at hm
      have hun : Un (frs X.stack) fp H2 (upd H3 s2.heap.objs.size (.lst ys)) s2.heap s4.heap := by
        have u := I4.base
        rw [efs, eex, eH0, es0] at u
        refine ⟨u.keep, u.slot, fun b o e n hx => ?_, u.there, fun b xs e => ?_, fun b o xs e => ?_, fun b ps e => ?_⟩
        · rw [upd_ne (Nat.ne_of_lt (Heap.lt_size e))]; exact u.free b o e n hx
        · have q := u.tups b xs e
          rw [upd_ne (ne_of_none q hD3)]; exact q
        · have q := u.frzs b o xs e
          rw [upd_ne (ne_of_none q hD3)]; exact q
        · obtain ⟨more, q⟩ := u.tbls b ps e
          exact ⟨more, by rw [upd_ne (ne_of_none q hD3)]; exact q⟩
      have hok : HOk X.prog X.w (upd H3 s2.heap.objs.size (.lst ys)) s4.heap := by
        have q := I4.hok
        rw [eP, eW] at q
        exact q.track hD3 ⟨hz, its, k, rv, ho4⟩
      have hfr : ∀ b ∈ fp, (b ∈ X.ex ∨ X.s₀.heap.objs.size ≤ b) ∧ b ≠ X.env.locals ∧ (∀ x c, X.env.cells.lookup x = some c → c ≠ b) ∧ ∀ p ∈ X.pn ++ pins, p.1 ≠ b := fun b hb => ⟨(f2 b hb).2.2.2.1, (f2 b hb).2.1, (f2 b hb).2.2.2.2.1, (f2 b hb).2.2.2.2.2⟩
      have IO : Inv X pins σ (upd H3 s2.heap.objs.size (.lst ys)) s4 := I2.call' (by have := I4.os; rw [es0] at this; exact this) hun hok I4.bare hfr
      refine fin _ _ s4 _ m IO (qn _ hD3) hm (I2.fpOk hCle ?_)
      rw [upd_ne (Ne.symm hDC)]
      have := I4.free
      rw [eL] at this
      exact this
    · have I3p := pinD I3 hD3 ho3
      have q := T.item XX eP eW eK ec i _ s3 (inSt ρ σ) H3 (fun _ _ => False) I3p (stat fr3 (by simp)) st3 go
      rw [eA] at q
      refine thn q fun r s4 ⟨u, hr, h4⟩ => ?_
      subst hr
      refine thn h4 fun _ s5 ⟨x, H5, I5, r5, y5, st5, fr5⟩ => ?_
      have I5' := I5.pinned (stat fr5 (by simp)) (T.obj _ _ st5)
      have qa := pg _ s5 (inSt ρ σ) H5 x u _ I5' r5 (step x H5 y5)
      rw [eP, eW, eA, eE, ex] at qa
      refine thn qa fun _ s6 ⟨σ6, H6, I6, ⟨ou1, ou2⟩, q6⟩ => ?_
      have hw6 : (inSt ρ σ).length = σ6.length := by rw [ou1]; unfold inSt; rw [List.length_map]
      have qt := pt _ s6 σ6 H6 _ I6 q6
      rw [eP, eW, eA, eE, ex] at qt
      refine thn qt fun ok s7 ⟨H7, I7, q7⟩ => ?_
      have back : ∀ {s8 : Shared} {H8 : Hp}, Inv XX ([(s2.heap.objs.size, { cls := .type "list", data := .seq its.toArray k })] ++ pinsAt fp s5.heap) σ6 H8 s8 → tn (i + 1) s8.heap ∧ (∀ b ∈ fp, H8 b = none) ∧ H8 s2.heap.objs.size = none ∧
          s8.heap.get? s2.heap.objs.size = some { cls := .type "list", data := .seq its.toArray k } := fun {s8 H8} I8 => by
        refine ⟨T.keep _ _ _ st5 fun b hb o e => (I8.pin (b, o) (List.mem_append_right _ (List.mem_append_right _ (mem_pinsAt hb e)))).1, fun b hb => ?_, ?_, ?_⟩
        · obtain ⟨o, e, d⟩ := T.obj _ _ st5 b hb
          exact (I8.pin (b, o) (List.mem_append_right _ (List.mem_append_right _ (mem_pinsAt hb e)))).2.1
        · exact (I8.pin (s2.heap.objs.size, { cls := .type "list", data := .seq its.toArray k }) (by simp)).2.1
        · exact (I8.pin (s2.heap.objs.size, { cls := .type "list", data := .seq its.toArray k }) (by simp)).1
      cases ok with
      | false =>
        obtain ⟨m', hm, w7⟩ := hN _ _ q7
        obtain ⟨b1, b2, b3, b4⟩ := back I7
        exact ⟨m', hm, i + 1, ys, its, k, H7, (I7.pins_of (pins' := []) (fun _ z => nomatch z)).weak hw6 ou2, b1, b2, b3, rv, b4, w7⟩
      | true =>
        have qe := pe _ s7 σ6 H7 _ I7 q7
        rw [eP, eW, eA, eE, ex] at qe
        refine thn qe fun y s8 ⟨v8, H8, I8, r8, n8⟩ => ?_
        obtain ⟨m', hm, w8⟩ := hN _ _ n8
        obtain ⟨b1, b2, b3, b4⟩ := back I8
        have hlen := rv.length
        refine call_meets F.slot_list_append ⟨_, b4, rfl⟩ F.entry_list_append (F.args_list_append_2 _ _) (PySem.list_append s2.heap.objs.size its.toArray k y (by rw [List.size_toArray]; omega)) ⟨b4, ?_⟩
        have qL := PySem.IsL.update b4 (fun xs => xs.push y)
        have I8' : Inv XX [] σ6 H8 s8 := I8.pins_of (fun _ z => nomatch z)
        have I9 : Inv XX [] σ6 H8 { s8 with heap := s8.heap.update s2.heap.objs.size (Obj.mapSeq fun xs => xs.push y), toks := s8.toks } := I8'.turned (it := s2.heap.objs.size) (fun b o hb e => (Heap.get?_update_other s8.heap _ (Ne.symm hb)).trans e) b3
          (by rw [eL]; exact hDC) (.inr (by rw [es0]; exact Nat.le_refl _)) (by
            rw [ecl]; intro x c e z
            obtain ⟨v, qc⟩ := I2.cell x c (h1 x c e)
            exact absurd qc.lt (by rw [z]; exact Nat.lt_irrefl _)) (by
            intro p hp z
            have hp' : p ∈ X.pn ++ pins := by rw [epn] at hp; simpa using hp
            exact absurd (Heap.lt_size (I2.pin p hp').1) (by rw [z]; exact Nat.lt_irrefl _))
        have hnd : s2.heap.objs.size ∉ fp := fun z => Nat.lt_irrefl _ (hfs _ z)
        rw [show its.toArray.push y = (its ++ [y]).toArray by simp] at qL
        refine ⟨m', hm, i + 1, ys ++ [v8], its ++ [y], _, H8, I9.weak hw6 ou2, T.keep _ _ _ b1 fun b hb o e => (Heap.get?_update_other s8.heap _ (by rintro rfl; exact hnd hb)).trans e, b2, b3, rv.append (.cons r8 .nil), qL, w8⟩
  refine codeAny_compStart_list (loop _ ⟨_, rfl⟩) (T.self X.A 0 _ _ _ (T.keep _ _ _ st2 fun b _ o e => old b o e) (loop _ ⟨_, rfl⟩))
theorem pe_comp {X : Cx} {elt iter tg : Expr} {ifs : List Expr} {scope : Scope} {pos : Pos} (N' : List Str) (ρ : List (Option Nat)) {wi : TI} {g : TG} {tt : TT} {te : TE} (hc : X.calm = true) (hi : PI X tg iter wi) (S : CompScope scope X.env.scope) (hρ : SlotOk scope X.env X.N N' ρ)
    (hl : ∀ x, (x, NameKind.free) ∈ scope.names → scope.names.lookup x = some .free)
    (inner : ∀ (cl : List (Str × Addr)) (C : Addr) (s : Shared) (H : Hp) (fp : List Addr) (pins : List (Addr × Obj)), PG (compCx X scope N' cl C s H fp pins) tg g ∧ PTs (compCx X scope N' cl C s H fp pins) ifs tt ∧ PE (compCx X scope N' cl C s H fp pins) elt te)
    (hs : ∀ x, foldedSetIterable iter X.env x = pure x := by intro _; rfl) : PE X (.ListComp elt [⟨tg, iter, ifs, 0⟩] scope pos) (tComp ρ wi g tt te) := by
  intro pins s σ H Q I h
  obtain ⟨cl, hcl, h1, h2⟩ := closureFor_of (scope := scope) (env := X.env) (fun n hn => I.ok.has n (S.free (n, .free) hn rfl))
  rw [eval_ListComp]
  refine wpAny_comprehension_free (use := none) rfl hs hcl S.kind S.loc ?_
  refine comp_run (RR := fun acc C => compPost (model X.prog X.w) X.A X.xe none (EP X pins σ Q) acc C) hc hi S hρ hl inner I h h1 h2 ?_
  intro D C s' H' m I' q hm hf
  refine ⟨m, hm, fun h' sb => ⟨.ref D, H', ?_, rfl, q⟩⟩
  exact I'.turned (t' := s'.toks) (fun b o hb e => (sb.2 b hb).trans e) hf.1 hf.2.1 hf.2.2.2.1 hf.2.2.2.2.1 hf.2.2.2.2.2

theorem inSt_cons (σ : St) (o : Option Nat) (ρ : List (Option Nat)) : inSt (o :: ρ) σ = (match o with | some i => (σ[i]?).getD none | none => none) :: inSt ρ σ := rfl
theorem outs1 {ρ : List (Option Nat)} {σ : St} (o : Option V) : Outs (none :: ρ) σ (o :: inSt ρ σ) := by
  refine ⟨by unfold inSt; simp, fun j v e => ?_⟩
  cases j with
  | zero => rw [inSt_cons] at e; simp at e
  | succ j => rw [inSt_cons] at e; simpa using e
theorem comp_by {J : It} {n : Nat} {X : Nat → V → Prop} {ρ : List (Option Nat)} {tt : TT} {te : TE} {σ : St} {H : Hp} {Q : VK} (Pv : Nat → List V → Hp → Prop) (h0 : Pv 0 [] H) (hlen : n ≤ sizeLine)
    (hy : ∀ i ys H, i ≤ n → Pv i ys H → ys.length ≤ i) (hgo : ∀ i ys H, i < n → Pv i ys H → J.go i H) (hyl : ∀ i ys H x H', i < n → Pv i ys H → J.yld i H x H' → H' = H ∧ X i x) (hst : ∀ ys H, Pv n ys H → J.stop n H)
    (hs : ∀ i x ys H, i < n → X i x → Pv i ys H → tt (some x :: inSt ρ σ) H fun ok H4 => if ok = true then te (some x :: inSt ρ σ) H4 fun v H5 => Pv (i + 1) (ys ++ [v]) H5 else Pv (i + 1) ys H4)
    (hd : ∀ ys H, Pv n ys H → ∀ p, H p = none → Q (.ref p) (upd H p (.lst ys))) :
    CompW (none :: ρ) (gName 0) tt te σ Q J H := by
  refine ⟨fun i m ys H => m = n - i ∧ i ≤ n ∧ Pv i ys H, ⟨n, by simp, Nat.zero_le _, h0⟩, ?_⟩
  rintro i m ys H ⟨rfl, hi, p⟩
  have hl := hy i ys H hi p
  by_cases hlt : i < n
  · refine .inr ⟨hgo i ys H hlt p, by omega, Pv (i + 1), fun ys' H'' p' => ⟨n - (i + 1), by omega, rfl, hlt, p'⟩, fun x H' y => ?_⟩
    obtain ⟨e, y2⟩ := hyl i ys H x H' hlt p y
    subst e
    exact ⟨outs1 _, hs i x ys _ hlt y2 p⟩
  · have e : i = n := by omega
    subst e
    exact .inl ⟨hst ys H p, by omega, hd ys H p⟩
theorem comp_tup {K : PySem.W.Frag} {a : Addr} {xs : List V} {ρ : List (Option Nat)} {tt : TT} {te : TE} {σ : St} {H : Hp} {Q : VK} (Pv : Nat → List V → Hp → Prop) (h0 : Pv 0 [] H) (hlen : xs.length ≤ sizeLine) (hl : ∀ i ys H, i ≤ xs.length → Pv i ys H → SqT K H a xs ∧ ys.length ≤ i)
    (hs : ∀ i x ys H, xs[i]? = some x → Pv i ys H → tt (some x :: inSt ρ σ) H fun ok H4 => if ok = true then te (some x :: inSt ρ σ) H4 fun v H5 => Pv (i + 1) (ys ++ [v]) H5 else Pv (i + 1) ys H4)
    (hd : ∀ ys H, Pv xs.length ys H → ∀ p, H p = none → Q (.ref p) (upd H p (.lst ys))) :
    CompW (none :: ρ) (gName 0) tt te σ Q (Itt K a) H :=
  comp_by (n := xs.length) (X := fun i x => xs[i]? = some x) Pv h0 hlen (fun i ys H hi p => (hl i ys H hi p).2) (fun i ys H hi p => ⟨xs, xs[i], (hl i ys H (Nat.le_of_lt hi) p).1, by simp [hi]⟩) (fun i ys H x H' hi p y => ⟨y.1, y.2 xs (hl i ys H (Nat.le_of_lt hi) p).1⟩)
    (fun ys H p => ⟨xs, (hl _ ys H (Nat.le_refl _) p).1, Nat.le_refl _⟩) (fun i x ys H _ e p => hs i x ys H e p) hd
theorem comp_list {K : PySem.W.Frag} {a : Addr} {xs : List V} {ρ : List (Option Nat)} {tt : TT} {te : TE} {σ : St} {H : Hp} {Q : VK} (Pv : Nat → List V → Hp → Prop) (h0 : Pv 0 [] H) (hlen : xs.length ≤ sizeLine) (hl : ∀ i ys H, i ≤ xs.length → Pv i ys H → SqL K H a xs ∧ ys.length ≤ i)
    (hs : ∀ i x ys H, xs[i]? = some x → Pv i ys H → tt (some x :: inSt ρ σ) H fun ok H4 => if ok = true then te (some x :: inSt ρ σ) H4 fun v H5 => Pv (i + 1) (ys ++ [v]) H5 else Pv (i + 1) ys H4)
    (hd : ∀ ys H, Pv xs.length ys H → ∀ p, H p = none → Q (.ref p) (upd H p (.lst ys))) :
    CompW (none :: ρ) (gName 0) tt te σ Q (Itl K a) H :=
  comp_by (n := xs.length) (X := fun i x => xs[i]? = some x) Pv h0 hlen (fun i ys H hi p => (hl i ys H hi p).2) (fun i ys H hi p => ⟨xs, xs[i], (hl i ys H (Nat.le_of_lt hi) p).1, by simp [hi]⟩) (fun i ys H x H' hi p y => ⟨y.1, y.2 xs (hl i ys H (Nat.le_of_lt hi) p).1⟩)
    (fun ys H p => ⟨xs, (hl _ ys H (Nat.le_refl _) p).1, Nat.le_refl _⟩) (fun i x ys H _ e p => hs i x ys H e p) hd
end L2

set_option Elab.async false
set_option linter.all false
set_option maxRecDepth 100000
set_option maxHeartbeats 4000000
namespace L2
open PySem PySem.Spec PyProof.Rows

abbrev cds (x : Str) : List Nat := x.cps.toList
theorem cds_len (x : Str) : (cds x).length = x.length := by simp [cds, Str.length]
theorem cds_ext {x y : Str} (h : cds x = cds y) : x = y := StrLaws.mk_of_toList (x := x) h ▸ (StrLaws.mk_of_toList (x := y) rfl).symm
theorem cds_app (x y : Str) : cds (x ++ y) = cds x ++ cds y := by simp [cds, Str.cps_append]
theorem cds_mk (l : List Nat) : cds ⟨l.toArray⟩ = l := by simp [cds]
def sOf (l : List Nat) : Str := ⟨l.toArray⟩
theorem cds_sOf (l : List Nat) : cds (sOf l) = l := by simp [cds, sOf]
theorem sOf_cds (x : Str) : sOf (cds x) = x := cds_ext (cds_sOf _)

def cutC {α : Type} (xs : List α) (lo hi : Option Int) : List α := (xs.drop (HT.sIx xs.length 0 lo)).take (HT.sIx xs.length xs.length hi - HT.sIx xs.length 0 lo)
theorem clip_str (n : Nat) (i : Int) (k : Nat) : max 0 (min (if i < 0 then i + (n : Int) else i) (n : Int)) = ((HT.sIx n k (some i) : Nat) : Int) := by
  unfold HT.sIx
  dsimp only
  split <;> omega
theorem slice_ix (lo hi : Option Int) (n : Nat) : Builtin.Str.strSliceIndices lo hi 1 n = (List.range (HT.sIx n n hi - HT.sIx n 0 lo)).map (fun k => HT.sIx n 0 lo + k) := by
  have e : Builtin.Str.strSliceIndices lo hi 1 n = sliceRange ((HT.sIx n 0 lo : Nat) : Int) ((HT.sIx n n hi : Nat) : Int) 1 := by
    unfold Builtin.Str.strSliceIndices
    simp only [show ((1 : Int) > 0) = True by simp, if_true]
    congr 1
    · cases lo with
      | none => rfl
      | some i => exact clip_str n i 0
    · cases hi with
      | none => rfl
      | some i => exact clip_str n i n
  rw [e]
  unfold sliceRange
  simp only [show ((1 : Int) > 0) = True by simp, if_true]
  generalize HT.sIx n 0 lo = a
  generalize HT.sIx n n hi = b
  by_cases h : (a : Int) < b
  · rw [if_pos h, show (((b : Int) - a + 1 - 1) / 1).toNat = b - a by simp <;> omega]
    refine List.map_congr_left fun k _ => ?_
    omega
  · rw [if_neg h, show b - a = 0 by omega]
    rfl
theorem cds_slice (x : Str) (lo hi : Option Int) : cds (Txt.slice x lo hi) = cutC (cds x) lo hi := by
  unfold Txt.slice cutC
  have hl := cds_len x
  rw [hl, slice_ix]
  have b1 := HT.sIx_le x.length 0 (Nat.zero_le _) lo
  have b2 := HT.sIx_le x.length x.length (Nat.le_refl _) hi
  generalize HT.sIx x.length 0 lo = a at *
  generalize HT.sIx x.length x.length hi = b at *
  split
  · rename_i h
    have hb : b - a = x.length := by simpa using h
    have ha : a = 0 := by omega
    subst ha
    rw [List.drop_zero, hb, ← hl, List.take_length]
  · by_cases hab : a ≤ b
    · have q := StrLaws.picks (cds x) (b - a) a (by omega)
      have q2 : (List.filterMap (fun x_1 => x.cps[x_1]?) (List.map (fun k => a + k) (List.range (b - a)))) = List.filterMap (fun x_1 => (cds x)[x_1]?) (List.map (fun k => a + k) (List.range (b - a))) := by
        simp [cds]
      rw [cds_mk, q2, q]
    · rw [show b - a = 0 by omega]
      simp [cds]
section
variable {X : Cx}
def rSlS : V → Option Int → Option Int → Hp → VK → Prop := fun x lo hi H Q => ∃ z, x = .str z ∧ z.length ≤ sizeLine ∧ Q (.str (sOf (cutC (cds z) lo hi))) H
theorem sl_str : SlR X rSlS := by
  intro pins s σ H x v vl vu lo hi sl Q I rx hs pl pu h
  obtain ⟨z, rfl, hz, q⟩ := h
  obtain ⟨t, rfl⟩ := rx
  rw [← cds_slice, sOf_cds] at q
  refine ⟨"str", _, F.slot_str_getitem.lookup, typeIs_str _ _ _, ?_⟩
  have go : ∀ (l u : Option (Int × Tok)), l.map (·.1) = lo → u.map (·.1) = hi → s.heap.IsSlice sl l u none → wpAny (model X.prog X.w) X.A (getItem (.str z t) (.ref sl)) (EP X pins σ Q) X.xe s := fun l u e1 e2 hS => by
    subst e1 e2
    exact wpAny_getItem_str_slice hS rfl (post_val_or_str ⟨Nat.le_trans (Txt.slice_le z _ _) hz, fun t' k => ⟨.str _, H, I.tok _, ⟨_, rfl⟩, q⟩⟩)
  cases pl with
  | none =>
    cases pu with
    | none => exact go none none rfl rfl hs
    | int j u => exact go none (some (j, u)) rfl rfl hs
  | int i t' =>
    cases pu with
    | none => exact go (some (i, t')) none rfl rfl hs
    | int j u => exact go (some (i, t')) (some (j, u)) rfl rfl hs

end

section
variable {X : Cx}
def clsV : V → Option Value
  | .ty n => some (.type n)
  | .ref a => some (.ref a)
  | _ => none
theorem call_isi : CallR X (.builtin "isinstance") (fun xs H Q => ∃ x c t cv b, xs = [x, c] ∧ clsV c = some cv ∧ TyOf X.K H x t ∧ PySem.W.kitOne X.K t cv = some b ∧ Q (.bl b) H) := by
  intro pins s σ H xs us Q I r h
  obtain ⟨x, c, t, cv, b, rfl, rc, ty, e, q⟩ := h
  obtain ⟨u, w', rfl, rx, rw'⟩ := r.two
  have : w' = cv := by
    cases c with
    | ref a => cases rc; exact rw'
    | ty a => cases rc; exact rw'
    | _ => cases rc
  subst this
  exact isinst_ok I rx ty e fun tk => ⟨.bl b, H, I.tok _, rfl, q⟩
end
end L2

set_option Elab.async false
set_option linter.all false
set_option maxRecDepth 100000
set_option maxHeartbeats 4000000
namespace L2
open PySem PySem.Spec PyProof.Rows

def compB (sc out : Scope) (N N' : List Str) (ρ : List (Option Nat)) : Bool :=
  decide (sc.kind = .function) && sc.names.all (fun y => decide (y.2 ≠ .cell)) && sc.names.all (fun y => decide (y.2 = .local → sc.names.lookup y.1 = some .local)) &&
  sc.names.all (fun y => decide (y.2 = .free → sc.names.lookup y.1 = some .free ∧ (out.names.lookup y.1 = some .cell ∨ out.names.lookup y.1 = some .free))) &&
  decide (ρ.length = N'.length) && decide N'.Nodup &&
  (ρ.zip N').all (fun p => match p.1 with | none => true | some i => decide (N[i]? = some p.2) && decide (out.names.lookup p.2 = some .local ∨ out.names.lookup p.2 = some .cell ∨ out.names.lookup p.2 = some .free) && sc.names.any (fun y => decide (y = (p.2, NameKind.free))))
structure CompF (sc : Scope) (env : Env) (N N' : List Str) (ρ : List (Option Nat)) : Prop where
  S : CompScope sc env.scope
  sl : SlotOk sc env N N' ρ
  hl : ∀ x, (x, NameKind.free) ∈ sc.names → sc.names.lookup x = some .free
  nd : N'.Nodup
theorem compF_of {sc : Scope} {env : Env} {N N' : List Str} {ρ : List (Option Nat)} (h : compB sc env.scope N N' ρ = true) : CompF sc env N N' ρ := by
  unfold compB at h
  simp only [Bool.and_eq_true, decide_eq_true_eq, List.all_eq_true] at h
  obtain ⟨⟨⟨⟨⟨⟨h1, h2⟩, h3⟩, h4⟩, h5⟩, h6⟩, h7⟩ := h
  refine ⟨⟨h1, h2, h3, fun y hy e => (h4 y hy e).2⟩, ⟨h5, fun j i x e1 e2 => ?_⟩, fun x hx => (h4 _ hx rfl).1, h6⟩
  have hm : (some i, x) ∈ ρ.zip N' := by
    refine List.mem_of_getElem? (i := j) ?_
    rw [List.getElem?_zip_eq_some]
    exact ⟨e1, e2⟩
  have q := h7 _ hm
  simp only [Bool.and_eq_true, decide_eq_true_eq, List.any_eq_true] at q
  obtain ⟨⟨q1, q2⟩, y, hy, e⟩ := q
  exact ⟨q1, q2, e ▸ hy⟩

theorem pe_compB {X : Cx} {elt iter tg : Expr} {ifs : List Expr} {scope : Scope} {pos : Pos} (N' : List Str) (ρ : List (Option Nat)) {wi : TI} {g : TG} {tt : TT} {te : TE} (hc : X.calm = true) (hi : PI X tg iter wi) (h : compB scope X.env.scope X.N N' ρ = true)
    (inner : ∀ (cl : List (Str × Addr)) (C : Addr) (s : Shared) (H : Hp) (fp : List Addr) (pins : List (Addr × Obj)), PG (compCx X scope N' cl C s H fp pins) tg g ∧ PTs (compCx X scope N' cl C s H fp pins) ifs tt ∧ PE (compCx X scope N' cl C s H fp pins) elt te)
    (hs : ∀ x, foldedSetIterable iter X.env x = pure x := by intro _; rfl) : PE X (.ListComp elt [⟨tg, iter, ifs, 0⟩] scope pos) (tComp ρ wi g tt te) :=
  have F := compF_of h
  pe_comp N' ρ hc hi F.S F.sl F.hl inner hs
def spLaw (K : PySem.W.Frag) : Sp := fun vs H Q _ => ∃ (a : Addr) (ns : List Int), vs = [.ref a] ∧ SqL K H a (ns.map V.int) ∧ ns.length ≤ 63 ∧ Only H ∧ ∀ H', Q (.bl true) H'
theorem law_walk {l : PySem.W.OpenLaw} {q : Program} {loose : List Str} {XP : (Str → Option Value) → Heap → Prop} {YP : World → Heap → Prop} {d : DefRec} {K : Params → PySem.W.Frag} {x : Str} (k : Nat) (hk : k ≤ 200) (hn : l.most = some 63) (hdf : d.params.defaults = [])
    (hY : ∀ (w : World) (h : Heap), YP w h → (K w.params).In h)
    (F : ∀ (w : World) (mg : Str → Option Value) (fa : Addr) (h : Heap), (K w.params).In h → h.Ns mainGlobals mg → mg d.name = some (.ref fa) →
      ∃ fd : FuncData, (∀ (s : Shared) (u : Value), BindsTo s fd ⟨[u], []⟩ [(x, u)]) ∧ ∀ base : Heap, (K w.params).In base → base.Ns mainGlobals mg → FnOk l.prog w (K w.params) mg base CX0 k fa fd [x] (spLaw (K w.params))) :
    PySem.W.WalkO q loose XP YP l.row.toRowW d [] (fun f vs => PySem.call f vs) :=
  L2.walk_of (n := 63) (k := k) (x := x) (CX := fun _ => CX0) (sp := fun w => spLaw (K w.params)) hn (by decide) hdf
    ⟨rfl, by have : callerA.depth + 605 < recursionLimit := by decide
             omega, by have : callerA.units + 3400 < cLine := by decide
                       omega⟩ hY F (fun _ H a ns hl hO hS => ⟨a, ns, rfl, hS, hl, hO, fun _ => rfl⟩) fun _ _ _ _ _ z => z
end L2
namespace L2
open PySem
def mkSc (l : List (Str × NameKind)) : Scope := { kind := .function, names := l, isGenerator := false, isCoroutine := false, more := [] }
end L2

namespace L2
open PySem
theorem bt_len : bootBuiltins "len" = some (.builtin "len") := by decide +kernel
theorem bt_isinstance : bootBuiltins "isinstance" = some (.builtin "isinstance") := by decide +kernel
theorem bt_int : bootBuiltins "int" = some (.type "int") := by decide +kernel
theorem bt_bool : bootBuiltins "bool" = some (.type "bool") := by decide +kernel
theorem bt_list : bootBuiltins "list" = some (.type "list") := by decide +kernel
theorem bt_tuple : bootBuiltins "tuple" = some (.type "tuple") := by decide +kernel
end L2

set_option Elab.async false
set_option linter.all false
set_option maxRecDepth 100000
set_option maxHeartbeats 4000000
namespace L2
open PySem PySem.Spec PyProof.Rows

theorem szl {n : Nat} (h : n ≤ 1000000) : n ≤ sizeLine := by rw [sizeLine_eq]; omega
theorem szlt {n : Nat} (h : n < 1000000) : n < sizeLine := by rw [sizeLine_eq]; omega
theorem same_new {H : Hp} {p : Addr} (h : H p = none) (o : HO) : Same H (upd H p o) := fun b u q => by rw [upd_ne (ne_of_none q h)]; exact q
theorem Same.seqT {K : PySem.W.Frag} {H H' : Hp} {a : Addr} {xs : List V} (e : Same H H') (h : SqT K H a xs) : SqT K H' a xs := by
  rcases h with h | h
  · rcases h with h | ⟨o, h⟩
    · exact .inl (.inl (e _ _ h))
    · exact .inl (.inr ⟨o, e _ _ h⟩)
  · exact .inr h
theorem dT {p : Prop} [Decidable p] (h : decide p = true) : p := of_decide_eq_true h
theorem dF {p : Prop} [Decidable p] (h : ¬ decide p = true) : ¬ p := fun z => h (decide_eq_true z)

theorem cell_in {ns : List Int} {k : Int} (h0 : 0 ≤ k) (h : k < (ns.length : Int)) : atI (ns.map V.int) k = some (.int (ns.getD k.toNat 0)) := by
  have hk : k.toNat < ns.length := by omega
  have ek : k = ((k.toNat : Nat) : Int) := by omega
  have q : atI (ns.map V.int) ((k.toNat : Nat) : Int) = some (.int (ns.getD k.toNat 0)) := atI_nat (by rw [List.getElem?_map, List.getElem?_eq_getElem hk]; simp [List.getD_eq_getElem?_getD, hk])
  rw [← ek] at q
  exact q
def isInt : V → Bool
  | .int _ => true
  | _ => false
def plainV : V → Bool
  | .int _ => true
  | .bl _ => true
  | .non => true
  | .str _ => true
  | _ => false
def spWhole : Sp := fun vs H Q _ => ∃ x, vs = [x] ∧ plainV x = true ∧ Q (.bl (isInt x)) H
def GoodN (l : List Nat) : Prop := 1 ≤ l.length ∧ l.length ≤ 18 ∧ ¬ (l.head? = some 48 ∧ 1 < l.length) ∧ ∀ c ∈ l, 48 ≤ c ∧ c ≤ 57
instance (l : List Nat) : Decidable (GoodN l) := by unfold GoodN; infer_instance
theorem take_snoc {α : Type} {l : List α} {i : Nat} {c : α} (h : l[i]? = some c) : l.take (i + 1) = l.take i ++ [c] := by
  rw [List.take_succ, h]; rfl
end L2
namespace L2
open PySem
end L2
namespace L2
open PySem
theorem seq_any {t u : TS} {D : Ends} {σ : St} {H : Hp} (M : St → Hp → Prop) (hu : ∀ σ' H', M σ' H' → u D σ' H') (ht : (∀ σ' H', M σ' H' → u D σ' H') → t { D with nx := u D } σ H) : tSeq t u D σ H := ht hu
theorem ndF {p : Prop} [Decidable p] (h : p) : (!decide p) = false := by rw [decide_eq_true h]; rfl
theorem iteE {b : Bool} {A B : Prop} {v : Bool} (e : b = v) (h : if v = true then A else B) : if b = true then A else B := by rw [e]; exact h
end L2
namespace L2
open PySem
theorem len_sOf (l : List Nat) : (sOf l).length = l.length := by rw [← cds_len, cds_sOf]
theorem len_app (x y : Str) : (x ++ y).length = x.length + y.length := Str.length_append x y
end L2

set_option Elab.async false
set_option linter.all false
set_option maxRecDepth 100000
set_option maxHeartbeats 4000000
namespace L2
open PySem PySem.Spec PyProof.Rows

inductive Tr where
  | v (x : V)
  | lst (l : List Tr)
  | tup (l : List Tr)
mutual
inductive TrIs (K : PySem.W.Frag) (H : Hp) : V → Tr → Prop
  | flat {x : V} : flatV x = true → TrIs K H x (.v x)
  | lst {p : Addr} {xs : List V} {l : List Tr} : SqL K H p xs → TrsIs K H xs l → TrIs K H (.ref p) (.lst l)
  | tup {p : Addr} {xs : List V} {l : List Tr} : SqT K H p xs → TrsIs K H xs l → TrIs K H (.ref p) (.tup l)
inductive TrsIs (K : PySem.W.Frag) (H : Hp) : List V → List Tr → Prop
  | nil : TrsIs K H [] []
  | cons {x : V} {t : Tr} {xs : List V} {l : List Tr} : TrIs K H x t → TrsIs K H xs l → TrsIs K H (x :: xs) (t :: l)
end
mutual
def eqT : Tr → Tr → Bool
  | .v x, .v y => eqV x y
  | .lst l, .lst m => eqTs l m
  | .tup l, .tup m => eqTs l m
  | _, _ => false
def eqTs : List Tr → List Tr → Bool
  | [], [] => true
  | x :: l, y :: m => eqT x y && eqTs l m
  | _, _ => false
end
mutual
def simT : Tr → Tr → Bool
  | .v _, .v _ => true
  | .lst l, .lst m => simTs l m
  | .tup l, .tup m => simTs l m
  | _, _ => false
def simTs : List Tr → List Tr → Bool
  | x :: l, y :: m => simT x y && simTs l m
  | _, _ => true
end
mutual
def depT : Tr → Nat
  | .v _ => 0
  | .lst l => depTs l + 1
  | .tup l => depTs l + 1
def depTs : List Tr → Nat
  | [] => 0
  | x :: l => max (depT x) (depTs l)
end
theorem eqV_refl {x : V} (h : flatV x = true) : eqV x x = true := by
  cases x <;> first | rfl | (simp [eqV]; done) | (simp [flatV] at h)
mutual
/-- a tree of flat values -/
def okT : Tr → Bool
  | .v x => flatV x
  | .lst l => okTs l
  | .tup l => okTs l
def okTs : List Tr → Bool
  | [] => true
  | x :: l => okT x && okTs l
end
mutual
theorem eqT_refl : ∀ t : Tr, okT t = true → eqT t t = true
  | .v x, h => by rw [eqT]; exact eqV_refl (by simpa [okT] using h)
  | .lst l, h => by rw [eqT]; exact eqTs_refl l (by simpa [okT] using h)
  | .tup l, h => by rw [eqT]; exact eqTs_refl l (by simpa [okT] using h)
theorem eqTs_refl : ∀ l : List Tr, okTs l = true → eqTs l l = true
  | [], _ => by rw [eqTs]
  | x :: l, h => by
    rw [okTs, Bool.and_eq_true] at h
    rw [eqTs, eqT_refl x h.1, eqTs_refl l h.2]; rfl
end
mutual
theorem simT_refl : ∀ t : Tr, simT t t = true
  | .v x => by rw [simT]
  | .lst l => by rw [simT]; exact simTs_refl l
  | .tup l => by rw [simT]; exact simTs_refl l
theorem simTs_refl : ∀ l : List Tr, simTs l l = true
  | [] => by simp [simTs]
  | x :: l => by rw [simTs, simT_refl x, simTs_refl l]; rfl
end
mutual
theorem TrIs.ok {K : PySem.W.Frag} {H : Hp} : ∀ {x : V} {t : Tr}, TrIs K H x t → okT t = true
  | _, _, .flat h => by rw [okT]; exact h
  | _, _, .lst _ h => by rw [okT]; exact h.ok
  | _, _, .tup _ h => by rw [okT]; exact h.ok
theorem TrsIs.ok {K : PySem.W.Frag} {H : Hp} : ∀ {xs : List V} {l : List Tr}, TrsIs K H xs l → okTs l = true
  | _, _, .nil => by rw [okTs]
  | _, _, .cons h r => by rw [okTs, h.ok, r.ok]; rfl
end
theorem TrsIs.length {K : PySem.W.Frag} {H : Hp} : ∀ {xs : List V} {l : List Tr}, TrsIs K H xs l → xs.length = l.length
  | _, _, .nil => rfl
  | _, _, .cons _ r => by simp [r.length]
theorem eqTs_len : ∀ {l m : List Tr}, l.length ≠ m.length → eqTs l m = false
  | [], [], h => absurd rfl h
  | [], _ :: _, _ => by rw [eqTs] <;> simp
  | _ :: _, [], _ => by rw [eqTs] <;> simp
  | x :: l, y :: m, h => by
    rw [eqTs, eqTs_len (l := l) (m := m) (fun e => h (by simp [e])), Bool.and_false]
section
variable {X : Cx} {pins : List (Addr × Obj)} {σ : St} {H : Hp} {s : Shared}
mutual
theorem TrIs.inj (I : Inv X pins σ H s) : ∀ {t t' : Tr} {x : V}, TrIs X.K H x t → TrIs X.K H x t' → t = t'
  | .v x, t', _, .flat h, h' => by
    cases h' with
    | flat _ => rfl
    | lst _ _ => cases h
    | tup _ _ => cases h
  | .lst l, t', _, .lst (p := p) (xs := xs) hq hr, h' => by
    cases h' with
    | flat h => cases h
    | lst hq' hr' =>
      have e := I.list_inj hq hq'
      subst e
      rw [TrsIs.inj I hr hr']
    | tup hq' hr' =>
      obtain ⟨_, _, ⟨o, n, e1, c1, _⟩, _⟩ := I.list hq
      obtain ⟨_, _, ⟨o', e2, c2, _⟩, _⟩ := I.tuple hq'
      rw [e1] at e2; cases e2
      rw [c1] at c2; simp at c2
  | .tup l, t', _, .tup (p := p) (xs := xs) hq hr, h' => by
    cases h' with
    | flat h => cases h
    | tup hq' hr' =>
      have e := I.tuple_inj hq hq'
      subst e
      rw [TrsIs.inj I hr hr']
    | lst hq' hr' =>
      obtain ⟨_, _, ⟨o, n, e1, c1, _⟩, _⟩ := I.list hq'
      obtain ⟨_, _, ⟨o', e2, c2, _⟩, _⟩ := I.tuple hq
      rw [e1] at e2; cases e2
      rw [c1] at c2; simp at c2
theorem TrsIs.inj (I : Inv X pins σ H s) : ∀ {l l' : List Tr} {xs : List V}, TrsIs X.K H xs l → TrsIs X.K H xs l' → l = l'
  | [], _, _, .nil, h' => by cases h'; rfl
  | t :: l, _, _, .cons h r, h' => by
    cases h' with
    | cons h2 r2 => rw [TrIs.inj I h h2, TrsIs.inj I r r2]
end
theorem range_all_eq {α : Type} {e : Nat → Bool} {f : α → Bool} : ∀ {l : List α}, (∀ j x, l[j]? = some x → e j = f x) → (List.range l.length).all e = l.all f := by
  intro l h
  rw [Bool.eq_iff_iff]
  simp only [List.all_eq_true, List.mem_range]
  constructor
  · intro q x hx
    obtain ⟨i, hi, hx⟩ := List.mem_iff_getElem.mp hx
    rw [← h i x (by rw [List.getElem?_eq_getElem hi, hx])]
    exact q i hi
  · intro q i hi
    rw [h i l[i] (List.getElem?_eq_getElem hi)]
    exact q _ (List.getElem_mem hi)
theorem eqTs_zip : ∀ {l m : List Tr}, l.length = m.length → eqTs l m = (l.zip m).all fun p => eqT p.1 p.2
  | [], [], _ => by rw [eqTs]; rfl
  | [], _ :: _, h => by simp at h
  | _ :: _, [], h => by simp at h
  | x :: l, y :: m, h => by
    rw [eqTs, eqTs_zip (l := l) (m := m) (by simpa using h)]
    rfl
theorem TrsIs.at {K : PySem.W.Frag} {H : Hp} : ∀ {xs : List V} {l : List Tr} {j : Nat} {t : Tr}, TrsIs K H xs l → l[j]? = some t → ∃ x, xs[j]? = some x ∧ TrIs K H x t
  | _, _, _, _, .nil, h => by simp at h
  | _, _, 0, _, .cons h _, e => by simp at e; subst e; exact ⟨_, rfl, h⟩
  | _, _, j + 1, _, .cons _ r, e => by
    obtain ⟨x, h1, h2⟩ := r.at (j := j) (by simpa using e)
    exact ⟨x, by simpa using h1, h2⟩
theorem simTs_at : ∀ {l m : List Tr} {j : Nat} {t t' : Tr}, simTs l m = true → l[j]? = some t → m[j]? = some t' → simT t t' = true
  | [], _, _, _, _, _, h, _ => by simp at h
  | _ :: _, [], _, _, _, _, _, h => by simp at h
  | x :: l, y :: m, 0, t, t', h, e1, e2 => by
    simp at e1 e2; subst e1 e2
    rw [simTs, Bool.and_eq_true] at h; exact h.1
  | x :: l, y :: m, j + 1, t, t', h, e1, e2 => by
    rw [simTs, Bool.and_eq_true] at h
    exact simTs_at (j := j) h.2 (by simpa using e1) (by simpa using e2)
theorem depTs_at : ∀ {l : List Tr} {j : Nat} {t : Tr}, l[j]? = some t → depT t ≤ depTs l
  | [], _, _, h => by simp at h
  | x :: l, 0, t, h => by simp at h; subst h; rw [depTs]; omega
  | x :: l, j + 1, t, h => by
    have := depTs_at (l := l) (j := j) (t := t) (by simpa using h)
    rw [depTs]; omega
theorem items_eq {A : Around} {l m : List Tr} {xs ys : List V} {its jts : List Value} (hr : TrsIs X.K H xs l) (hr' : TrsIs X.K H ys m) (rv : Vals xs its) (rv' : Vals ys jts)
    (ih : ∀ (j : Nat) (t t' : Tr) (x y : V) (u v : Value), l[j]? = some t → m[j]? = some t' → TrIs X.K H x t → RelV x u → TrIs X.K H y t' → RelV y v → SeqAt.EqAt A.in1 s u v (eqT t t')) :
    ∀ j (h1 : j < its.toArray.size) (h2 : j < jts.toArray.size), SeqAt.EqAt A.in1 s its.toArray[j] jts.toArray[j] (match l[j]?, m[j]? with | some t, some t' => eqT t t' | _, _ => true) := by
  intro j h1 h2
  have l1 := hr.length; have l2 := hr'.length; have l3 := rv.length; have l4 := rv'.length
  rw [List.size_toArray] at h1 h2
  obtain ⟨t, ht⟩ : ∃ t, l[j]? = some t := ⟨l[j]'(by omega), List.getElem?_eq_getElem (by omega)⟩
  obtain ⟨t', ht'⟩ : ∃ t', m[j]? = some t' := ⟨m[j]'(by omega), List.getElem?_eq_getElem (by omega)⟩
  obtain ⟨x, hx, hxt⟩ := hr.at ht
  obtain ⟨y, hy, hyt⟩ := hr'.at ht'
  obtain ⟨u, hu, ru⟩ := rv.get hx
  obtain ⟨v, hv, rw'⟩ := rv'.get hy
  rw [ht, ht']
  have e1 : its.toArray[j] = u := by
    have := List.getElem?_eq_getElem (l := its) (i := j) h1
    rw [hu] at this
    simpa using (Option.some.inj this).symm
  have e2 : jts.toArray[j] = v := by
    have := List.getElem?_eq_getElem (l := jts) (i := j) h2
    rw [hv] at this
    simpa using (Option.some.inj this).symm
  rw [e1, e2]
  exact ih j t t' x y u v ht ht' hxt ru hyt rw'
theorem all_items {l m : List Tr} (h : l.length = m.length) : (List.range l.length).all (fun j => match l[j]?, m[j]? with | some t, some t' => eqT t t' | _, _ => true) = eqTs l m := by
  rw [eqTs_zip h]
  have e : l.length = (l.zip m).length := by rw [List.length_zip]; omega
  rw [e]
  refine range_all_eq fun j p hp => ?_
  obtain ⟨h1, h2⟩ := List.getElem?_zip_eq_some.mp hp
  rw [h1, h2]
theorem RcAt_lists {A : Around} {p q : Addr} {xs ys : List V} {l m : List Tr} (I : Inv X pins σ H s) (hu : A.units < cLine) (hq : SqL X.K H p xs) (hr : TrsIs X.K H xs l) (hq' : SqL X.K H q ys) (hr' : TrsIs X.K H ys m)
    (ih : ∀ (j : Nat) (t t' : Tr) (x y : V) (u v : Value), l[j]? = some t → m[j]? = some t' → TrIs X.K H x t → RelV x u → TrIs X.K H y t' → RelV y v → SeqAt.EqAt A.in1 s u v (eqT t t')) :
    SeqAt.RcAt A s (.ref p) (.ref q) (eqTs l m) ∧ SeqAt.RcNeAt A s (.ref p) (.ref q) (!eqTs l m) := by
  obtain ⟨its, rv, pl, _⟩ := I.list hq
  obtain ⟨jts, rv', pl', _⟩ := I.list hq'
  have l1 := hr.length; have l2 := hr'.length; have l3 := rv.length; have l4 := rv'.length
  by_cases hl : l.length = m.length
  · have e : its.toArray.size = l.length := by rw [List.size_toArray]; omega
    have a := SeqAt.RcAt.lists (A := A) pl.isList pl'.isList (by rw [List.size_toArray, List.size_toArray]; omega) hu (items_eq hr hr' rv rv' ih)
    have b := SeqAt.RcNeAt.lists (A := A) pl.isList pl'.isList (by rw [List.size_toArray, List.size_toArray]; omega) hu (items_eq hr hr' rv rv' ih)
    rw [e, all_items hl] at a b
    exact ⟨a, b⟩
  · rw [eqTs_len hl]
    have hne : (its.toArray.size != jts.toArray.size) = true := by
      rw [List.size_toArray, List.size_toArray]
      simp only [bne_iff_ne, ne_eq]; omega
    exact ⟨SeqAt.RcAt.lists_lengths pl.isList pl'.isList hne hu, SeqAt.RcNeAt.lists_lengths pl.isList pl'.isList hne hu⟩
theorem RcAt_tuples {A : Around} {p q : Addr} {xs ys : List V} {l m : List Tr} (I : Inv X pins σ H s) (hu : A.units < cLine) (hq : SqT X.K H p xs) (hr : TrsIs X.K H xs l) (hq' : SqT X.K H q ys) (hr' : TrsIs X.K H ys m)
    (ih : ∀ (j : Nat) (t t' : Tr) (x y : V) (u v : Value), l[j]? = some t → m[j]? = some t' → TrIs X.K H x t → RelV x u → TrIs X.K H y t' → RelV y v → SeqAt.EqAt A.in1 s u v (eqT t t')) :
    SeqAt.RcAt A s (.ref p) (.ref q) (eqTs l m) ∧ SeqAt.RcNeAt A s (.ref p) (.ref q) (!eqTs l m) := by
  obtain ⟨its, rv, pl, _⟩ := I.tuple hq
  obtain ⟨jts, rv', pl', _⟩ := I.tuple hq'
  have l1 := hr.length; have l2 := hr'.length; have l3 := rv.length; have l4 := rv'.length
  have a := SeqAt.RcAt.tuples (A := A) (show s.heap.IsTuple p its.toArray from pl) (show s.heap.IsTuple q jts.toArray from pl') hu (items_eq hr hr' rv rv' ih)
  have b := SeqAt.RcNeAt.tuples (A := A) (show s.heap.IsTuple p its.toArray from pl) (show s.heap.IsTuple q jts.toArray from pl') hu (items_eq hr hr' rv rv' ih)
  have e : ((List.range (min its.toArray.size jts.toArray.size)).all (fun j => match l[j]?, m[j]? with | some t, some t' => eqT t t' | _, _ => true) && its.toArray.size == jts.toArray.size) = eqTs l m := by
    by_cases hl : l.length = m.length
    · have e1 : min its.toArray.size jts.toArray.size = l.length := by rw [List.size_toArray, List.size_toArray]; omega
      have e2 : (its.toArray.size == jts.toArray.size) = true := by rw [List.size_toArray, List.size_toArray]; simp; omega
      rw [e1, e2, all_items hl, Bool.and_true]
    · have e2 : (its.toArray.size == jts.toArray.size) = false := by rw [List.size_toArray, List.size_toArray]; simp; omega
      rw [e2, eqTs_len hl, Bool.and_false]
  rw [e] at a b
  exact ⟨a, b⟩
theorem eqAt_T (I : Inv X pins σ H s) (n : Nat) : ∀ (A : Around) (t t' : Tr) (x y : V) (u v : Value), depT t ≤ n → A.units + n < cLine → simT t t' = true → TrIs X.K H x t → RelV x u → TrIs X.K H y t' → RelV y v → SeqAt.EqAt A s u v (eqT t t') := by
  induction n with
  | zero =>
    intro A t t' x y u v hd hu hs hx rx hy ry
    cases hx with
    | flat fx =>
      cases hy with
      | flat fy => rw [eqT]; exact eqAt_V rx ry fx fy
      | lst _ _ => simp [simT] at hs
      | tup _ _ => simp [simT] at hs
    | lst _ _ => simp [depT] at hd
    | tup _ _ => simp [depT] at hd
  | succ n ih =>
    intro A t t' x y u v hd hu hs hx rx hy ry
    cases hx with
    | flat fx =>
      cases hy with
      | flat fy => rw [eqT]; exact eqAt_V rx ry fx fy
      | lst _ _ => simp [simT] at hs
      | tup _ _ => simp [simT] at hs
    | @lst p xs l hq hr =>
      cases hy with
      | flat fy => simp [simT] at hs
      | tup _ _ => simp [simT] at hs
      | @lst q ys m hq' hr' =>
        cases rx; cases ry
        rw [depT] at hd
        rw [simT] at hs
        by_cases e : p = q
        · subst e
          have e1 := TrIs.inj I (TrIs.lst hq hr) (TrIs.lst hq' hr')
          rw [← e1, eqT_refl _ (TrIs.lst hq hr).ok]
          exact SeqAt.EqAt.same _
        · rw [eqT]
          refine SeqAt.EqAt.of_refs e (RcAt_lists I (by omega) hq hr hq' hr' fun j t t' x y u v h1 h2 h3 h4 h5 h6 => ?_).1
          exact ih A.in1 t t' x y u v (by have := depTs_at h1; omega) (by show A.units + 1 + n < cLine; omega) (simTs_at hs h1 h2) h3 h4 h5 h6
    | @tup p xs l hq hr =>
      cases hy with
      | flat fy => simp [simT] at hs
      | lst _ _ => simp [simT] at hs
      | @tup q ys m hq' hr' =>
        cases rx; cases ry
        rw [depT] at hd
        rw [simT] at hs
        by_cases e : p = q
        · subst e
          have e1 := TrIs.inj I (TrIs.tup hq hr) (TrIs.tup hq' hr')
          rw [← e1, eqT_refl _ (TrIs.tup hq hr).ok]
          exact SeqAt.EqAt.same _
        · rw [eqT]
          refine SeqAt.EqAt.of_refs e (RcAt_tuples I (by omega) hq hr hq' hr' fun j t t' x y u v h1 h2 h3 h4 h5 h6 => ?_).1
          exact ih A.in1 t t' x y u v (by have := depTs_at h1; omega) (by show A.units + 1 + n < cLine; omega) (simTs_at hs h1 h2) h3 h4 h5 h6
end

section
variable {X : Cx}
def rEqX (K : PySem.W.Frag) (neg : Bool) : R2 := fun x y H Q => ∃ t t', TrIs K H x t ∧ TrIs K H y t' ∧ (∃ p, x = .ref p) ∧ (∃ p, y = .ref p) ∧ simT t t' = true ∧ depT t ≤ 60 ∧ Q (.bl (if neg then !eqT t t' else eqT t t')) H
theorem eqX_aux {neg : Bool} (hu : X.A.units + 64 < cLine) : OpR X (compareOp (if neg then .NotEq else .Eq)) (rEqX X.K neg) := by
  intro pins s σ H x y v u Q I rx ry h
  obtain ⟨t, t', hx, hy, ⟨p, rfl⟩, ⟨q, rfl⟩, hs, hd, q'⟩ := h
  cases rx; cases ry
  have done : ∀ l m, SeqAt.RcAt X.A s (.ref p) (.ref q) (eqTs l m) ∧ SeqAt.RcNeAt X.A s (.ref p) (.ref q) (!eqTs l m) → Q (.bl (if neg then !eqTs l m else eqTs l m)) H →
      wpAny (model X.prog X.w) X.A (compareOp (if neg then .NotEq else .Eq) (.ref p) (.ref q)) (EP X pins σ Q) X.xe s := fun l m hb hq => by
    cases neg with
    | false => exact hb.1 X.prog X.w X.xe _ ⟨.bl _, H, I, rfl, hq⟩
    | true => exact hb.2 X.prog X.w X.xe _ ⟨.bl _, H, I, rfl, hq⟩
  cases hx with
  | flat fx => cases fx
  | @lst _ xs l hq hr =>
    cases hy with
    | flat fy => cases fy
    | tup _ _ => simp [simT] at hs
    | @lst _ ys m hq' hr' =>
      rw [depT] at hd
      rw [simT] at hs
      rw [eqT] at q'
      refine done l m (RcAt_lists I (by omega) hq hr hq' hr' fun j t t' x y u v h1 h2 h3 h4 h5 h6 => ?_) q'
      exact eqAt_T I 60 X.A.in1 t t' x y u v (by have := depTs_at h1; omega) (by show X.A.units + 1 + 60 < cLine; omega) (simTs_at hs h1 h2) h3 h4 h5 h6
  | @tup _ xs l hq hr =>
    cases hy with
    | flat fy => cases fy
    | lst _ _ => simp [simT] at hs
    | @tup _ ys m hq' hr' =>
      rw [depT] at hd
      rw [simT] at hs
      rw [eqT] at q'
      refine done l m (RcAt_tuples I (by omega) hq hr hq' hr' fun j t t' x y u v h1 h2 h3 h4 h5 h6 => ?_) q'
      exact eqAt_T I 60 X.A.in1 t t' x y u v (by have := depTs_at h1; omega) (by show X.A.units + 1 + 60 < cLine; omega) (simTs_at hs h1 h2) h3 h4 h5 h6
theorem op_neS (hu : X.A.units + 64 < cLine) : OpR X (compareOp .NotEq) (rEqX X.K true) := eqX_aux (neg := true) hu
theorem hu64 {A : Around} {k : Nat} (hr : Room k A) : A.units + 64 < cLine := by have := hr.un; omega
end
end L2

set_option Elab.async false
set_option linter.all false
set_option maxRecDepth 100000
set_option maxHeartbeats 4000000
namespace L2
open PySem PySem.Spec PyProof.Rows

section
variable {X : Cx}
def flatD (k : List (Key × V)) : Prop := ∀ p ∈ k, flatV p.2 = true
end

theorem nd_put {k : Key} {v : V} {kvs : List (Key × V)} (nd : (kvs.map (·.1)).Nodup) : ((putK kvs k v).map (·.1)).Nodup := by
  cases e : valV kvs k with
  | none => exact nd_putK v nd e
  | some y =>
    unfold putK
    have h : (kvs.any fun kv => decide (kv.1 = k)) = true := by rw [valV_any, e]; rfl
    rw [if_pos h, List.map_map]
    have : ((fun x : Key × V => x.1) ∘ fun kv : Key × V => if kv.1 = k then (kv.1, v) else kv) = fun x => x.1 := by
      funext x
      show (if x.1 = k then (x.1, v) else x).1 = x.1
      split <;> rfl
    rw [this]
    exact nd
theorem flat_put {k : Key} {v : V} {kvs : List (Key × V)} (f : flatD kvs) (hv : flatV v = true) : flatD (putK kvs k v) := fun p hp => by
  unfold putK at hp
  split at hp
  · obtain ⟨q, hq, e⟩ := List.mem_map.mp hp
    subst e
    show flatV (if q.1 = k then (q.1, v) else q).2 = true
    split
    · exact hv
    · exact f q hq
  · rcases List.mem_append.mp hp with h | h
    · exact f p h
    · have : p = (k, v) := by simpa using h
      rw [this]; exact hv
theorem len_put {k : Key} {v : V} {kvs : List (Key × V)} : (putK kvs k v).length ≤ kvs.length + 1 := by
  unfold putK
  split
  · rw [List.length_map]; omega
  · rw [List.length_append]; simp
end L2

set_option Elab.async false
set_option linter.all false
set_option maxRecDepth 100000
set_option maxHeartbeats 4000000
namespace L2
open PySem PySem.Spec PyProof.Rows

abbrev abc : Str := "abcdefghijklmnopqrstuvwxyz"
theorem cds_abc : cds abc = (List.range 26).map (97 + ·) := by decide +kernel
def letC (x : Int) : Nat := 97 + (x % 26).toNat
theorem abc_at (x : Int) : atI (cds abc) (x % 26) = some (letC x) := by
  have h0 := Int.emod_nonneg x (show (26 : Int) ≠ 0 by decide)
  have h1 := Int.emod_lt_of_pos x (show (0 : Int) < 26 by decide)
  have e : x % 26 = (((x % 26).toNat : Nat) : Int) := by omega
  rw [e]
  refine atI_nat ?_
  rw [cds_abc, List.getElem?_map, List.getElem?_range (by omega)]
  rfl
theorem abc_len : abc.length ≤ sizeLine := szl (by decide +kernel)
def resv : List (List Nat) := [cds "for", cds "end", cds "size"]
theorem in_resv (z : List Nat) : inV (.str (sOf z)) [.str "for", .str "end", .str "size"] = decide (z ∈ resv) := by
  have key : ∀ y : Str, eqV (.str y) (.str (sOf z)) = decide (z = cds y) := fun y => by
    show (y == sOf z) = _
    rw [Bool.eq_iff_iff]
    simp only [beq_iff_eq, decide_eq_true_eq]
    exact ⟨fun e => by rw [e, cds_sOf], fun e => by rw [e, sOf_cds]⟩
  unfold inV resv
  simp only [List.any_cons, List.any_nil, key, Bool.or_false]
  rw [Bool.eq_iff_iff]
  simp
theorem cut_to {α : Type} (l : List α) {k : Int} (h : 0 ≤ k) : cutC l none (some k) = l.take k.toNat := by
  unfold cutC
  have e : k = ((k.toNat : Nat) : Int) := by omega
  rw [HT.sIx_none, e, HT.sIx_nat, List.drop_zero, Nat.sub_zero]
  rw [show (((k.toNat : Nat) : Int)).toNat = k.toNat by omega]
  by_cases h : k.toNat ≤ l.length
  · rw [Nat.min_eq_left h]
  · rw [Nat.min_eq_right (by omega), List.take_of_length_le (by omega), List.take_of_length_le (by omega)]
theorem cut_from {α : Type} (l : List α) {i : Int} (hi : 0 ≤ i) : cutC l (some i) none = l.drop i.toNat := by
  unfold cutC
  have e1 : i = ((i.toNat : Nat) : Int) := by omega
  rw [e1, HT.sIx_nat, HT.sIx_none, show (((i.toNat : Nat) : Int)).toNat = i.toNat by omega]
  by_cases h : i.toNat ≤ l.length
  · rw [Nat.min_eq_left h, List.take_of_length_le (by rw [List.length_drop]; omega)]
  · rw [Nat.min_eq_right (by omega), Nat.sub_self, List.take_zero, List.drop_eq_nil_of_le (by omega)]
end L2
namespace L2
open PySem
def SpotAt (K : PySem.W.Frag) (H : Hp) (p : Addr) (nm : Str) (n : Int) : Prop := SqT K H p [.str nm, .int n]
end L2
namespace L2
open PySem
abbrev SpotsAt (K : PySem.W.Frag) (H : Hp) : List V → List (Str × Int) → Prop := Paired fun v s => ∃ p, v = V.ref p ∧ SpotAt K H p s.1 s.2
theorem SpotsAt.get {K : PySem.W.Frag} {H : Hp} : ∀ {vs : List V} {sps : List (Str × Int)} {i : Nat} {v : V}, SpotsAt K H vs sps → vs[i]? = some v → ∃ p s, v = .ref p ∧ sps[i]? = some s ∧ SpotAt K H p s.1 s.2
  | _, _, _, _, .nil, e => by simp at e
  | _, _, 0, _, .cons ⟨p, h1, h2⟩ _, e => by simp at e; subst e; exact ⟨p, _, h1, rfl, h2⟩
  | _, _, i + 1, _, .cons _ t, e => by
    obtain ⟨p, s, h1, h2, h3⟩ := SpotsAt.get (i := i) t (by simpa using e)
    exact ⟨p, s, h1, by simpa using h2, h3⟩
theorem SpotsAt.same {K : PySem.W.Frag} {H H' : Hp} (e : Same H H') : ∀ {vs : List V} {sps : List (Str × Int)}, SpotsAt K H vs sps → SpotsAt K H' vs sps
  | _, _, .nil => .nil
  | _, _, .cons ⟨p, h1, h2⟩ t => .cons ⟨p, h1, e.seqT h2⟩ (SpotsAt.same e t)
theorem SpotsAt.length {K : PySem.W.Frag} {H : Hp} {vs : List V} {sps : List (Str × Int)} (h : SpotsAt K H vs sps) : vs.length = sps.length := Paired.length h
theorem SpotsAt.snoc {K : PySem.W.Frag} {H : Hp} {vs : List V} {sps : List (Str × Int)} {p : Addr} {s : Str × Int} (h : SpotsAt K H vs sps) (hp : SpotAt K H p s.1 s.2) : SpotsAt K H (vs ++ [.ref p]) (sps ++ [s]) := Paired.snoc h ⟨p, rfl, hp⟩
structure GoodD (kvs : List (Key × V)) (n : Nat) (zs : List Str) : Prop where
  nd : (kvs.map (·.1)).Nodup
  fl : flatD kvs
  len : kvs.length ≤ n
  has : ∀ z ∈ zs, ∃ i, valV kvs (Sum.inr z) = some (.int i)
theorem GoodD.put {kvs : List (Key × V)} {n : Nat} {zs : List Str} (h : GoodD kvs n zs) (z : Str) (i : Int) : GoodD (putK kvs (Sum.inr z) (.int i)) (n + 1) (z :: zs) where
  nd := nd_put h.nd
  fl := flat_put h.fl rfl
  len := Nat.le_trans len_put (by have := h.len; omega)
  has := fun y hy => by
    rw [valV_put]
    by_cases e : (Sum.inr y : Key) = Sum.inr z
    · rw [if_pos e]; exact ⟨_, rfl⟩
    · rw [if_neg e]
      rcases List.mem_cons.mp hy with rfl | hy
      · exact absurd rfl e
      · exact h.has y hy
theorem GoodD.mono {kvs : List (Key × V)} {n m : Nat} {zs ys : List Str} (h : GoodD kvs n zs) (hn : n ≤ m) (hs : ∀ y ∈ ys, y ∈ zs) : GoodD kvs m ys := ⟨h.nd, h.fl, Nat.le_trans h.len hn, fun y hy => h.has y (hs y hy)⟩
end L2
namespace L2
open PySem
theorem SqT.upd {K : PySem.W.Frag} {H : Hp} {a l : Addr} {xs ys : List V} {o : HO} (h : SqT K H a xs) (hl : H l = some (.lst ys)) : SqT K (L2.upd H l o) a xs := by
  rcases h with (h | ⟨ob, h⟩) | h
  · exact .inl (.inl (by rw [upd_ne (ne_of h hl (by intro z; cases z))]; exact h))
  · exact .inl (.inr ⟨ob, by rw [upd_ne (ne_of h hl (by intro z; cases z))]; exact h⟩)
  · exact .inr h
theorem SpotsAt.upd {K : PySem.W.Frag} {H : Hp} {l : Addr} {ys : List V} {o : HO} (hl : H l = some (.lst ys)) : ∀ {vs : List V} {sps : List (Str × Int)}, SpotsAt K H vs sps → SpotsAt K (L2.upd H l o) vs sps
  | _, _, .nil => .nil
  | _, _, .cons ⟨p, h1, h2⟩ t => .cons ⟨p, h1, SqT.upd h2 hl⟩ (SpotsAt.upd hl t)
end L2

set_option Elab.async false
set_option linter.all false
set_option maxRecDepth 100000
set_option maxHeartbeats 4000000
namespace L2
open PySem PySem.Spec PyProof.Rows

def NameOk (l : List Nat) : Prop := 1 ≤ l.length ∧ l.length ≤ 8 ∧ (∀ c ∈ l, c ∈ cds abc) ∧ l ∉ resv
instance (l : List Nat) : Decidable (NameOk l) := by unfold NameOk; infer_instance
def SpotQ (o : Option (List Nat × Int)) (H : Hp) (Q : VK) : Prop := match o with
  | none => ∀ H', Same H H' → Q .non H'
  | some s => ∀ r H', Same H H' → H' r = some (.tup [.str (sOf s.1), .int s.2]) → Q (.ref r) H'
theorem SpotQ.over {o : Option (List Nat × Int)} {H H1 : Hp} {Q : VK} (q : SpotQ o H Q) (e : Same H H1) : SpotQ o H1 Q := by
  cases o with
  | none => exact fun H' e' => q H' (e.trans e')
  | some s => exact fun r H' e' h => q r H' (e.trans e') h
end L2

set_option Elab.async false
set_option linter.all false
set_option maxRecDepth 100000
set_option maxHeartbeats 4000000
namespace L2
open PySem PySem.Spec PyProof.Rows
def spNInit (C : Addr) : Sp := fun vs H Q _ => ∃ (x dx : Addr) (n : V), vs = [.ref x, n] ∧ H x = some (.ins C dx []) ∧ ∀ H', (∀ b o, H b = some o → b ≠ x → H' b = some o) → (∃ dx, H' x = some (.ins C dx [("n", n)])) → Q .non H'
def spDInit (C : Addr) : Sp := fun vs H Q _ => ∃ (x dx : Addr) (v1 v2 v3 v4 v5 v6 v7 : V), vs = [.ref x, v1, v2, v3, v4, v5, v6, v7] ∧ H x = some (.ins C dx []) ∧ ∀ H', (∀ b o, H b = some o → b ≠ x → H' b = some o) → (∃ dx, H' x = some (.ins C dx [("names", v1), ("lows", v2), ("highs", v3), ("table", v4), ("spots", v5), ("term", v6), ("path", v7)])) → Q .non H'
structure Rw where
  ids : List Int
  path : List Int
def Rel (R S : Rw) (k : Nat) : Prop := k ≤ R.ids.length ∧ k ≤ S.ids.length ∧ R.ids.take k = S.ids.take k ∧ (∀ x ∈ R.ids.drop k, x ∉ S.ids) ∧ (∀ x ∈ S.ids.drop k, x ∉ R.ids) ∧ (∀ e < k, R.path.getD e 0 = S.path.getD e 0) ∧ (k < R.ids.length → k < S.ids.length → R.path.getD k 0 ≠ S.path.getD k 0)
def DeedAt (C : Addr) (H : Hp) (v : V) (R : Rw) : Prop := ∃ (d dx nm pt : Addr) (xs : List V) (v2 v3 v4 v5 v6 : V), v = .ref d ∧ H d = some (.ins C dx [("names", .ref nm), ("lows", v2), ("highs", v3), ("table", v4), ("spots", v5), ("term", v6), ("path", .ref pt)]) ∧ H nm = some (.tup xs) ∧ xs.length = R.ids.length ∧ H pt = some (.tup (R.path.map V.int)) ∧ R.path.length = R.ids.length + 1 ∧ R.ids.length ≤ 100
def wo (H : Hp) (l : Addr) : Hp := fun b => if b = l then none else H b
theorem wo_same {H : Hp} {l : Addr} : Same (wo H l) H := fun b o h => by
  unfold wo at h
  split at h
  · cases h
  · exact h
theorem wo_mono {H H' : Hp} {l : Addr} (e : Same H H') : Same (wo H l) (wo H' l) := fun b o h => by
  unfold wo at h ⊢
  split at h
  · cases h
  · rename_i c; rw [if_neg c]; exact e b o h
theorem wo_ne {H : Hp} {l b : Addr} (h : b ≠ l) : wo H l b = H b := by unfold wo; rw [if_neg h]
def LoopAt (H : Hp) (v : V) (id : Int) : Prop := ∃ (p p1 p2 : Addr) (nm b1 : Str) (n1 : Int) (b2 : Str) (n2 : Int), v = .ref p ∧ H p = some (.tup [.str nm, .ref p1, .ref p2, .int id]) ∧ H p1 = some (.tup [.str b1, .int n1]) ∧ H p2 = some (.tup [.str b2, .int n2])
def OpenAt (H : Hp) (v : V) (ids : List Int) : Prop := ∃ (o : Addr) (vs : List V), v = .ref o ∧ H o = some (.lst vs) ∧ vs.length = ids.length ∧ ∀ (i : Nat) (x : V) (id : Int), vs[i]? = some x → ids[i]? = some id → LoopAt H x id
def RowAt (H : Hp) (v : V) (R : Rw) : Prop := ∃ t o pt : Addr, v = .ref t ∧ H t = some (.tup [.ref o, .ref pt]) ∧ OpenAt H (.ref o) R.ids ∧ H pt = some (.tup (R.path.map V.int)) ∧ R.path.length = R.ids.length + 1 ∧ R.ids.length ≤ 3
theorem LoopAt.over {H H' : Hp} {v : V} {id : Int} (h : LoopAt H v id) (e : Same H H') : LoopAt H' v id := by
  obtain ⟨p, p1, p2, nm, b1, n1, b2, n2, rfl, h0, h1, h2⟩ := h
  exact ⟨p, p1, p2, nm, b1, n1, b2, n2, rfl, e _ _ h0, e _ _ h1, e _ _ h2⟩
theorem OpenAt.over {H H' : Hp} {v : V} {ids : List Int} (h : OpenAt H v ids) (e : Same H H') : OpenAt H' v ids := by
  obtain ⟨o, vs, rfl, h0, h1, h2⟩ := h
  exact ⟨o, vs, rfl, e _ _ h0, h1, fun i x id a b => (h2 i x id a b).over e⟩
theorem RowAt.over {H H' : Hp} {v : V} {R : Rw} (h : RowAt H v R) (e : Same H H') : RowAt H' v R := by
  obtain ⟨t, o, pt, rfl, h0, h1, h2, h3⟩ := h
  exact ⟨t, o, pt, rfl, e _ _ h0, h1.over e, e _ _ h2, h3⟩
theorem DeedAt.over {C : Addr} {H H' : Hp} {v : V} {R : Rw} (h : DeedAt C H v R) (e : Same H H') : DeedAt C H' v R := by
  obtain ⟨d, dx, nm, pt, xs, v2, v3, v4, v5, v6, rfl, h0, h1, h2, h3, h4⟩ := h
  exact ⟨d, dx, nm, pt, xs, v2, v3, v4, v5, v6, rfl, e _ _ h0, e _ _ h1, h2, e _ _ h3, h4⟩
theorem nodup_le {α : Type} [DecidableEq α] : ∀ {l k : List α}, l.Nodup → (∀ x ∈ l, x ∈ k) → l.length ≤ k.length
  | [], _, _, _ => Nat.zero_le _
  | a :: l, k, hn, hs => by
    have ha := hs a List.mem_cons_self
    have h2 := List.nodup_cons.mp hn
    have := nodup_le (l := l) (k := k.erase a) h2.2 fun x hx => (List.mem_erase_of_ne (show x ≠ a from fun e => h2.1 (by rw [← e]; exact hx))).mpr (hs x (List.mem_cons_of_mem _ hx))
    rw [List.length_erase_of_mem ha] at this
    have : 0 < k.length := List.length_pos_of_mem ha
    simp only [List.length_cons]
    omega
def RowsAt (H : Hp) (l : Addr) (Rs : List Rw) : Prop := ∃ vs : List V, H l = some (.lst vs) ∧ vs.length = Rs.length ∧ ∀ (i : Nat) (x : V) (R : Rw), vs[i]? = some x → Rs[i]? = some R → RowAt H x R
theorem RowsAt.over {H H' : Hp} {l : Addr} {Rs : List Rw} (h : RowsAt H l Rs) (e : Same H H') : RowsAt H' l Rs := by
  obtain ⟨vs, h0, h1, h2⟩ := h
  exact ⟨vs, e _ _ h0, h1, fun i x R a b => (h2 i x R a b).over e⟩
def AllRel (Rs : List Rw) : Prop := ∀ R ∈ Rs, ∀ S ∈ Rs, ∃ k, Rel R S k
def RelC (R : Rw) (ids path : List Int) : Prop := ∃ k, k ≤ R.ids.length ∧ k ≤ ids.length ∧ R.ids.take k = ids.take k ∧ (∀ x ∈ R.ids.drop k, x ∉ ids) ∧ (∀ x ∈ ids.drop k, x ∉ R.ids) ∧ (∀ e < k, R.path.getD e 0 = path.getD e 0) ∧ R.path.getD k 0 < path.getD k 0
structure Cur (Rs : List Rw) (ids path : List Int) (many : Int) : Prop where
  pl : path.length = ids.length + 1
  il : ids.length ≤ 3
  nd : ids.Nodup
  le : ∀ x ∈ ids, x ≤ many
  rl : ∀ R ∈ Rs, ∀ x ∈ R.ids, x ≤ many
  rc : ∀ R ∈ Rs, RelC R ids path
  ar : AllRel Rs
theorem Rel.symm {R S : Rw} {k : Nat} (h : Rel R S k) : Rel S R k := by
  obtain ⟨k1, k2, k3, k4, k5, k6, k7⟩ := h
  exact ⟨k2, k1, k3.symm, k5, k4, fun e he => (k6 e he).symm, fun a b z => k7 b a z.symm⟩
structure NestAt (H : Hp) (l o pt la : Addr) (ids path : List Int) (Rs : List Rw) : Prop where
  rows : ∃ vs : List V, H l = some (.lst vs) ∧ vs.length = Rs.length ∧ ∀ (i : Nat) (x : V) (R : Rw), vs[i]? = some x → Rs[i]? = some R → RowAt (wo H l) x R
  op : OpenAt (wo H l) (.ref o) ids
  pa : wo H l pt = some (.lst (path.map V.int))
  la : ∃ id, LoopAt (wo H l) (.ref la) id
theorem NestAt.over {H H' : Hp} {l o pt la : Addr} {ids path : List Int} {Rs : List Rw} (h : NestAt H l o pt la ids path Rs) (e : Same H H') : NestAt H' l o pt la ids path Rs := by
  obtain ⟨vs, h0, h1, h2⟩ := h.rows
  obtain ⟨id, hl⟩ := h.la
  exact ⟨⟨vs, e _ _ h0, h1, fun i x R a b => (h2 i x R a b).over (wo_mono e)⟩, h.op.over (wo_mono e), wo_mono e _ _ h.pa, ⟨id, hl.over (wo_mono e)⟩⟩
theorem NestAt.all {H : Hp} {l o pt la : Addr} {ids path : List Int} {Rs : List Rw} (h : NestAt H l o pt la ids path Rs) : RowsAt H l Rs := by
  obtain ⟨vs, h0, h1, h2⟩ := h.rows
  exact ⟨vs, h0, h1, fun i x R a b => (h2 i x R a b).over wo_same⟩
theorem NestAt.start {H : Hp} {o pt l q1 q2 la : Addr} (h1 : H o = none) (h2 : (upd H o (.lst [])) pt = none) (h3 : (upd (upd H o (.lst [])) pt (.lst [.int 0])) l = none)
    (h4 : (upd (upd (upd H o (.lst [])) pt (.lst [.int 0])) l (.lst [])) q1 = none) (h5 : (upd (upd (upd (upd H o (.lst [])) pt (.lst [.int 0])) l (.lst [])) q1 (.tup [.str (Str.ofString ""), .int 0])) q2 = none)
    (h6 : (upd (upd (upd (upd (upd H o (.lst [])) pt (.lst [.int 0])) l (.lst [])) q1 (.tup [.str (Str.ofString ""), .int 0])) q2 (.tup [.str (Str.ofString ""), .int 0])) la = none) :
    NestAt (upd (upd (upd (upd (upd (upd H o (.lst [])) pt (.lst [.int 0])) l (.lst [])) q1 (.tup [.str (Str.ofString ""), .int 0])) q2 (.tup [.str (Str.ofString ""), .int 0])) la (.tup [.str (Str.ofString ""), .ref q1, .ref q2, .int 0])) l o pt la [] [0] [] := by
  have a1 : (upd H o (.lst [])) o = some (.lst []) := upd_same
  have b1 := same_new h2 (.lst [.int 0]) _ _ a1
  have b2 : (upd (upd H o (.lst [])) pt (.lst [.int 0])) pt = some (.lst [.int 0]) := upd_same
  have c1 := same_new h3 (.lst []) _ _ b1
  have c2 := same_new h3 (.lst []) _ _ b2
  have c3 : (upd (upd (upd H o (.lst [])) pt (.lst [.int 0])) l (.lst [])) l = some (.lst []) := upd_same
  have nO : o ≠ l := ne_of_none b1 h3
  have nP : pt ≠ l := ne_of_none b2 h3
  have s4 := same_new h4 (.tup [.str (Str.ofString ""), .int 0])
  have s5 := same_new h5 (.tup [.str (Str.ofString ""), .int 0])
  have s6 := same_new h6 (.tup [.str (Str.ofString ""), .ref q1, .ref q2, .int 0])
  have t := (s4.trans s5).trans s6
  have n1 : q1 ≠ l := (ne_of_none c3 h4).symm
  have n2 : q2 ≠ l := (ne_of_none (s4 _ _ c3) h5).symm
  have n3 : la ≠ l := (ne_of_none (s5 _ _ (s4 _ _ c3)) h6).symm
  refine ⟨⟨[], t _ _ c3, rfl, fun i x R a => by simp at a⟩, ⟨o, [], rfl, by rw [wo_ne nO]; exact t _ _ c1, rfl, fun i x id a => by simp at a⟩, by rw [wo_ne nP]; exact t _ _ c2, ⟨0, la, q1, q2, Str.ofString "", Str.ofString "", 0, Str.ofString "", 0, rfl, ?_, ?_, ?_⟩⟩
  · rw [wo_ne n3]; exact upd_same
  · rw [wo_ne n1]; exact s6 _ _ (s5 _ _ upd_same)
  · rw [wo_ne n2]; exact s6 _ _ upd_same
theorem tup_ne {H : Hp} {p l : Addr} {xs ys : List V} (h1 : H p = some (.tup xs)) (h2 : H l = some (.lst ys)) : p ≠ l := fun e => by
  rw [e, h2] at h1
  cases h1
theorem LoopAt.wo {H : Hp} {v : V} {id : Int} {l : Addr} {ys : List V} (h : LoopAt H v id) (hl : H l = some (.lst ys)) : LoopAt (L2.wo H l) v id := by
  obtain ⟨p, p1, p2, nm, b1, n1, b2, n2, rfl, h0, h1, h2⟩ := h
  exact ⟨p, p1, p2, nm, b1, n1, b2, n2, rfl, by rw [wo_ne (tup_ne h0 hl)]; exact h0, by rw [wo_ne (tup_ne h1 hl)]; exact h1, by rw [wo_ne (tup_ne h2 hl)]; exact h2⟩
theorem made_same {H H2 : Hp} {x dx C : Addr} (hx : H x = none) (hdx : H dx = none) (k : ∀ b o, (upd (upd H dx (.own x)) x (.ins C dx [])) b = some o → b ≠ x → H2 b = some o) : Same H H2 := fun b o e => by
  have n1 := ne_of_none e hx
  have n2 := ne_of_none e hdx
  exact k b o (by rw [upd_ne n1, upd_ne n2]; exact e) n1
end L2

set_option Elab.async false
set_option linter.all false
set_option maxRecDepth 100000
set_option maxHeartbeats 4000000
namespace L2
open PySem PySem.Spec PyProof.Rows
section
variable {X : Cx} {pins : List (Addr × Obj)} {σ : St} {H : Hp} {s : Shared} {h' : Heap}
theorem Inv.turnedL {t' : Nat} {ch : List Addr} (I : Inv X pins σ H s) (k : ∀ b o, b ∉ ch → s.heap.get? b = some o → h'.get? b = some o) (hf : ∀ b ∈ ch, FpOk X pins H b) : Inv X pins σ H { s with heap := h', toks := t' } := by
  have nit : ∀ b u, H b = some u → b ∉ ch := fun b u e z => by rw [(hf b z).1] at e; cases e
  have hL : X.env.locals ∉ ch := fun z => (hf _ z).2.1 rfl
  refine I.step (g' := s.gens) (d' := s.drawn) (ch := ch) (fun b hb => ?_) (fun b o _ _ hc e _ => k b o hc e) (fun b o _ _ hc e _ => ⟨o.slots, k b o hc e⟩) (fun _ _ _ _ n => n)
    (fun b o hc e => ⟨o, k b o hc e⟩) (fun _ _ e => e) (fun _ _ _ e => e) (fun b ps e => ⟨#[], by rw [e]; simp⟩) (fun m hm => ?_) (fun b u e => ?_) I.bare
  · obtain ⟨f0, f1, f2, f3, f4, f5⟩ := hf b hb
    exact ⟨f3, f1, f4, f5⟩
  · obtain ⟨o, es, ep, ho, r⟩ := hm
    exact ⟨o, es, ep, k _ o hL ho, r⟩
  · refine (I.hok b u e).stay (fun c v hc q => k c v ?_ q) (fun _ q => q) fun _ _ q => q
    rcases hc with z | z
    · rw [z]; exact nit b u e
    · exact nit c _ z
end
end L2

set_option Elab.async false
set_option linter.all false
set_option maxRecDepth 100000
set_option maxHeartbeats 4000000
namespace L2
open PySem PySem.Spec PyProof.Rows
mutual
theorem TrIs.over {K : PySem.W.Frag} {H H' : Hp} (e : Same H H') : ∀ {t : Tr} {x : V}, TrIs K H x t → TrIs K H' x t
  | .v _, _, .flat h => .flat h
  | .lst _, _, .lst h r => .lst (e.seq h) (TrsIs.over e r)
  | .tup _, _, .tup h r => .tup (e.seqT h) (TrsIs.over e r)
theorem TrsIs.over {K : PySem.W.Frag} {H H' : Hp} (e : Same H H') : ∀ {l : List Tr} {xs : List V}, TrsIs K H xs l → TrsIs K H' xs l
  | [], _, .nil => .nil
  | _ :: _, _, .cons h r => .cons (TrIs.over e h) (TrsIs.over e r)
end
theorem TrsIs.app {K : PySem.W.Frag} {H : Hp} : ∀ {l m : List Tr} {xs ys : List V}, TrsIs K H xs l → TrsIs K H ys m → TrsIs K H (xs ++ ys) (l ++ m)
  | [], _, _, _, .nil, h => h
  | _ :: _, _, _, _, .cons a r, h => .cons a (TrsIs.app r h)
theorem depTs_app : ∀ (l m : List Tr), depTs (l ++ m) = max (depTs l) (depTs m)
  | [], m => by rw [depTs]; simp
  | x :: l, m => by rw [List.cons_append, depTs, depTs, depTs_app l m, Nat.max_assoc]
mutual
def noL : Tr → Bool
  | .v _ => true
  | .lst _ => false
  | .tup l => noLs l
def noLs : List Tr → Bool
  | [] => true
  | x :: l => noL x && noLs l
end
theorem SqT.wo {K : PySem.W.Frag} {H : Hp} {p l : Addr} {xs ys : List V} (h : SqT K H p xs) (hl : H l = some (.lst ys)) : SqT K (L2.wo H l) p xs := by
  rcases h with (h | ⟨o, h⟩) | h
  · refine .inl (.inl ?_)
    rw [wo_ne (fun e => by rw [e, hl] at h; cases h)]
    exact h
  · refine .inl (.inr ⟨o, ?_⟩)
    rw [wo_ne (fun e => by rw [e, hl] at h; cases h)]
    exact h
  · exact .inr h
mutual
theorem TrIs.wo {K : PySem.W.Frag} {H : Hp} {l : Addr} {ys : List V} (hl : H l = some (.lst ys)) : ∀ {t : Tr} {x : V}, TrIs K H x t → noL t = true → TrIs K (L2.wo H l) x t
  | .v _, _, .flat h, _ => .flat h
  | .lst _, _, .lst _ _, n => by simp [noL] at n
  | .tup _, _, .tup h r, n => .tup (SqT.wo h hl) (TrsIs.wo hl r (by rw [noL] at n; exact n))
theorem TrsIs.wo {K : PySem.W.Frag} {H : Hp} {l : Addr} {ys : List V} (hl : H l = some (.lst ys)) : ∀ {m : List Tr} {xs : List V}, TrsIs K H xs m → noLs m = true → TrsIs K (L2.wo H l) xs m
  | [], _, .nil, _ => .nil
  | _ :: _, _, .cons h r, n => by
    rw [noLs, Bool.and_eq_true] at n
    exact .cons (TrIs.wo hl h n.1) (TrsIs.wo hl r n.2)
end
structure Cs where
  n : Addr
  v : Addr
  c : Addr
  j : Addr
inductive Trm (K : PySem.W.Frag) (c : Cs) (H : Hp) : Nat → V → List Tr → Prop
  | num {x dx : Addr} (i : Int) : H x = some (.ins c.n dx [("n", .int i)]) → Trm K c H 1 (.ref x) []
  | val {x dx : Addr} (z : Str) : H x = some (.ins c.v dx [("name", .str z)]) → Trm K c H 1 (.ref x) []
  | cel {x dx p : Addr} (z : Str) (t : Tr) : H x = some (.ins c.c dx [("table", .str z), ("spots", .ref p)]) → TrIs K H (.ref p) t → depT t ≤ 5 → noL t = true → Trm K c H 1 (.ref x) [.tup [.v (.str z), t]]
  | joi {x dx : Addr} {l r : V} {m n : Nat} {ts us : List Tr} (z : Str) : H x = some (.ins c.j dx [("sign", .str z), ("left", l), ("right", r)]) → Trm K c H m l ts → Trm K c H n r us → Trm K c H (m + n) (.ref x) (ts ++ us)
theorem Trm.over {K : PySem.W.Frag} {c : Cs} {H H' : Hp} (e : Same H H') {n : Nat} {x : V} {ts : List Tr} (h : Trm K c H n x ts) : Trm K c H' n x ts := by
  induction h with
  | num i h => exact .num i (e _ _ h)
  | val z h => exact .val z (e _ _ h)
  | cel z t h ht hd hn => exact .cel z t (e _ _ h) (ht.over e) hd hn
  | joi z h _ _ a b => exact .joi z (e _ _ h) a b
theorem Trm.pos {K : PySem.W.Frag} {c : Cs} {H : Hp} {n : Nat} {x : V} {ts : List Tr} (h : Trm K c H n x ts) : 1 ≤ n ∧ ts.length ≤ n ∧ depTs ts ≤ 6 := by
  induction h with
  | num i h => exact ⟨Nat.le_refl _, Nat.zero_le _, Nat.zero_le _⟩
  | val z h => exact ⟨Nat.le_refl _, Nat.zero_le _, Nat.zero_le _⟩
  | cel z t h ht hd hn =>
    refine ⟨Nat.le_refl _, Nat.le_refl _, ?_⟩
    rw [depTs, depT, depTs, depTs, depTs, depT, depTs]
    omega
  | joi z h _ _ a b =>
    refine ⟨by omega, by rw [List.length_append]; omega, ?_⟩
    rw [depTs_app]
    omega
theorem ins_ne {H : Hp} {p l C dx : Addr} {fs : List (Str × V)} {ys : List V} (h1 : H p = some (.ins C dx fs)) (h2 : H l = some (.lst ys)) : p ≠ l := fun e => by
  rw [e, h2] at h1
  cases h1
theorem Trm.wo {K : PySem.W.Frag} {c : Cs} {H : Hp} {n : Nat} {x : V} {ts : List Tr} {l : Addr} {ys : List V} (hl : H l = some (.lst ys)) (h : Trm K c H n x ts) : Trm K c (L2.wo H l) n x ts := by
  induction h with
  | num i h => exact .num i (by rw [wo_ne (ins_ne h hl)]; exact h)
  | val z h => exact .val z (by rw [wo_ne (ins_ne h hl)]; exact h)
  | cel z t h ht hd hn => exact .cel z t (by rw [wo_ne (ins_ne h hl)]; exact h) (ht.wo hl hn) hd hn
  | joi z h _ _ a b => exact .joi z (by rw [wo_ne (ins_ne h hl)]; exact h) a b
def KindAt (c : Cs) (H : Hp) (v : V) (w : Nat) : Prop := ∃ (x dx C : Addr) (fs : List (Str × V)), v = .ref x ∧ [c.n, c.v, c.c, c.j][w]? = some C ∧ H x = some (.ins C dx fs)
theorem Trm.kind {K : PySem.W.Frag} {c : Cs} {H : Hp} {n : Nat} {x : V} {ts : List Tr} (h : Trm K c H n x ts) : ∃ w < 4, KindAt c H x w := by
  cases h with
  | num i h => exact ⟨0, by decide, _, _, _, _, rfl, rfl, h⟩
  | val z h => exact ⟨1, by decide, _, _, _, _, rfl, rfl, h⟩
  | cel z t h ht hd hn => exact ⟨2, by decide, _, _, _, _, rfl, rfl, h⟩
  | joi z h _ _ => exact ⟨3, by decide, _, _, _, _, rfl, rfl, h⟩
def PairAt (K : PySem.W.Frag) (c : Cs) (H : Hp) (v : V) (n : Nat) : Prop := ∃ (t : Addr) (x : V) (ts : List Tr), v = .ref t ∧ H t = some (.tup [x, .bl true]) ∧ Trm K c H n x ts
theorem PairAt.over {K : PySem.W.Frag} {c : Cs} {H H' : Hp} {v : V} {n : Nat} (e : Same H H') (h : PairAt K c H v n) : PairAt K c H' v n := by
  obtain ⟨t, x, ts, rfl, h1, h2⟩ := h
  exact ⟨t, x, ts, rfl, e _ _ h1, h2.over e⟩
theorem PairAt.wo {K : PySem.W.Frag} {c : Cs} {H : Hp} {v : V} {n : Nat} {l : Addr} {ys : List V} (hl : H l = some (.lst ys)) (h : PairAt K c H v n) : PairAt K c (L2.wo H l) v n := by
  obtain ⟨t, x, ts, rfl, h1, h2⟩ := h
  exact ⟨t, x, ts, rfl, by rw [wo_ne (tup_ne h1 hl)]; exact h1, h2.wo hl⟩
inductive StackAt (K : PySem.W.Frag) (c : Cs) (H : Hp) : List V → Nat → Prop
  | nil : StackAt K c H [] 0
  | snoc {xs : List V} {x : V} {N n : Nat} : StackAt K c H xs N → PairAt K c H x n → StackAt K c H (xs ++ [x]) (N + n)
theorem StackAt.over {K : PySem.W.Frag} {c : Cs} {H H' : Hp} (e : Same H H') {xs : List V} {N : Nat} (h : StackAt K c H xs N) : StackAt K c H' xs N := by
  induction h with
  | nil => exact .nil
  | snoc _ p a => exact .snoc a (p.over e)
theorem StackAt.last {K : PySem.W.Frag} {c : Cs} {H : Hp} {xs : List V} {N : Nat} (h : StackAt K c H xs N) (hl : 0 < xs.length) : ∃ ys x M n, xs = ys ++ [x] ∧ StackAt K c H ys M ∧ PairAt K c H x n ∧ N = M + n := by
  cases h with
  | nil => cases hl
  | snoc a p => exact ⟨_, _, _, _, rfl, a, p, rfl⟩
theorem StackAt.all {K : PySem.W.Frag} {c : Cs} {H : Hp} {xs : List V} {N : Nat} (h : StackAt K c H xs N) : ∀ x ∈ xs, ∃ n, PairAt K c H x n := by
  induction h with
  | nil => intro x hx; cases hx
  | snoc _ p a =>
    intro x hx
    rcases List.mem_append.mp hx with h | h
    · exact a x h
    · rw [List.mem_singleton.mp h]; exact ⟨_, p⟩
theorem StackAt.len {K : PySem.W.Frag} {c : Cs} {H : Hp} {xs : List V} {N : Nat} (h : StackAt K c H xs N) : xs.length ≤ N := by
  induction h with
  | nil => exact Nat.le_refl _
  | snoc _ p a =>
    obtain ⟨_, _, _, _, _, h⟩ := p
    have := h.pos
    rw [List.length_append, List.length_singleton]
    omega
def TreeAt (K : PySem.W.Frag) (H : Hp) (v : V) : Prop := ∃ (p : Addr) (t : Tr), v = .ref p ∧ TrIs K H (.ref p) t ∧ depT t ≤ 5 ∧ noL t = true
theorem TreeAt.wo {K : PySem.W.Frag} {H : Hp} {v : V} {l : Addr} {ys : List V} (hl : H l = some (.lst ys)) (h : TreeAt K H v) : TreeAt K (L2.wo H l) v := by
  obtain ⟨p, t, rfl, h1, h2, h3⟩ := h
  exact ⟨p, t, rfl, h1.wo hl h3, h2, h3⟩
theorem TreeAt.over {K : PySem.W.Frag} {H H' : Hp} {v : V} (e : Same H H') (h : TreeAt K H v) : TreeAt K H' v := by
  obtain ⟨p, t, rfl, h1, h2⟩ := h
  exact ⟨p, t, rfl, h1.over e, h2⟩
structure RowV (K : PySem.W.Frag) (c : Cs) (H : Hp) (v0 v1 v2 v4 v5 v6 : V) : Prop where
  t0 : TreeAt K H v0
  t1 : TreeAt K H v1
  t2 : TreeAt K H v2
  t4 : TreeAt K H v4
  t6 : TreeAt K H v6
  t5 : ∃ n ts, Trm K c H n v5 ts ∧ n ≤ 61
theorem RowV.over {K : PySem.W.Frag} {c : Cs} {H H' : Hp} {v0 v1 v2 v4 v5 v6 : V} (e : Same H H') (h : RowV K c H v0 v1 v2 v4 v5 v6) : RowV K c H' v0 v1 v2 v4 v5 v6 := by
  obtain ⟨n, ts, h5, hn⟩ := h.t5
  exact ⟨h.t0.over e, h.t1.over e, h.t2.over e, h.t4.over e, h.t6.over e, n, ts, h5.over e, hn⟩
def DRow (K : PySem.W.Frag) (c : Cs) (H : Hp) (v : V) : Prop := ∃ (t : Addr) (v0 v1 v2 v4 v5 v6 : V) (z : Str), v = .ref t ∧ H t = some (.tup [v0, v1, v2, .str z, v4, v5, v6]) ∧ RowV K c H v0 v1 v2 v4 v5 v6
theorem DRow.over {K : PySem.W.Frag} {c : Cs} {H H' : Hp} {v : V} (e : Same H H') (h : DRow K c H v) : DRow K c H' v := by
  obtain ⟨t, v0, v1, v2, v4, v5, v6, z, rfl, h1, h2⟩ := h
  exact ⟨t, v0, v1, v2, v4, v5, v6, z, rfl, e _ _ h1, h2.over e⟩
theorem DRow.wo {K : PySem.W.Frag} {c : Cs} {H : Hp} {v : V} {l : Addr} {ys : List V} (hl : H l = some (.lst ys)) (h : DRow K c H v) : DRow K c (L2.wo H l) v := by
  obtain ⟨t, v0, v1, v2, v4, v5, v6, z, rfl, h1, h2⟩ := h
  obtain ⟨n, ts, h5, hn⟩ := h2.t5
  exact ⟨t, v0, v1, v2, v4, v5, v6, z, rfl, by rw [wo_ne (tup_ne h1 hl)]; exact h1, h2.t0.wo hl, h2.t1.wo hl, h2.t2.wo hl, h2.t4.wo hl, h2.t6.wo hl, n, ts, h5.wo hl, hn⟩
def DD (K : PySem.W.Frag) (c : Cs) (C : Addr) (H : Hp) (d v : V) : Prop := ∃ (x dx t : Addr) (v0 v1 v2 v4 v5 v6 : V) (z : Str), d = .ref x ∧ v = .ref t ∧ H x = some (.ins C dx [("names", v0), ("lows", v1), ("highs", v2), ("table", .str z), ("spots", v4), ("term", v5), ("path", v6)]) ∧ H t = some (.tup [v0, v1, v2, .str z, v4, v5, v6]) ∧ RowV K c H v0 v1 v2 v4 v5 v6
theorem DD.over {K : PySem.W.Frag} {c : Cs} {C : Addr} {H H' : Hp} {d v : V} (e : Same H H') (h : DD K c C H d v) : DD K c C H' d v := by
  obtain ⟨x, dx, t, v0, v1, v2, v4, v5, v6, z, rfl, rfl, h0, h1, h2⟩ := h
  exact ⟨x, dx, t, v0, v1, v2, v4, v5, v6, z, rfl, rfl, e _ _ h0, e _ _ h1, h2.over e⟩
theorem DD.wo {K : PySem.W.Frag} {c : Cs} {C : Addr} {H : Hp} {d v : V} {l : Addr} {ys : List V} (h : DD K c C H d v) (hl : H l = some (.lst ys)) : DD K c C (L2.wo H l) d v := by
  obtain ⟨x, dx, t, v0, v1, v2, v4, v5, v6, z, rfl, rfl, h0, h1, h2⟩ := h
  obtain ⟨n, ts, h5, hn⟩ := h2.t5
  exact ⟨x, dx, t, v0, v1, v2, v4, v5, v6, z, rfl, rfl, by rw [wo_ne (ins_ne h0 hl)]; exact h0, by rw [wo_ne (tup_ne h1 hl)]; exact h1, h2.t0.wo hl, h2.t1.wo hl, h2.t2.wo hl, h2.t4.wo hl, h2.t6.wo hl, n, ts, h5.wo hl, hn⟩
end L2

set_option Elab.async false
set_option linter.all false
set_option maxRecDepth 100000
set_option maxHeartbeats 4000000
namespace PySem
open Builtin
theorem noFill_tuple_mulF : fillsNumberSlot (.type "tuple") "mul" = pure false :=
  fillsNumberSlot_seq (id := "tuple.__mul__") (r := some (.builtin "tuple.__rmul__")) F.slot_tuple_mul.lookup (by decide +kernel) F.slot_tuple_rmul.lookup (by decide +kernel)
theorem repeat_tupleF : seqRepeat? (.type "tuple") = pure (some (.builtin "tuple.__mul__")) := by
  unfold seqRepeat?
  rw [seqSlot_of (T := "tuple") (name := "__mul__") (id := "tuple.__mul__") F.slot_tuple_mul.lookup (by decide +kernel), seqSlot_of (T := "tuple") (name := "__rmul__") (id := "tuple.__rmul__") F.slot_tuple_rmul.lookup (by decide +kernel)]
  rfl
theorem rmul_int_tuple (a : Int) (t : Tok) (l : Addr) (items : Array Value) (n : Nat) (dd : Option Addr) (sl : Array (Option Value)) :
    Meets (Builtin.«int.__rmul__» ⟨[.int a t, .ref l], []⟩) (fun _ R s => s.heap.get? l = some { cls := .type "tuple", dict := dd, data := .seq items n, slots := sl } ∧ R (.ok (.ret Value.notImplemented)) s) :=
  .of_wp fun prog w A R s h => by obtain ⟨hp, g, d, tk, os⟩ := s; obtain ⟨hl, h⟩ := h; wp_walk; exact ⟨_, rfl, h⟩
open AutoSeq1 (wpAny_loadPart')
theorem tuple_mul1 (l : Addr) (k : Tok) (items : Array Value) (n : Nat) (dd : Option Addr) (sl : Array (Option Value)) :
    Meets (Builtin.«tuple.__mul__» ⟨[.ref l, .int 1 k], []⟩) (fun _ R s => s.heap.get? l = some { cls := .type "tuple", dict := dd, data := .seq items n, slots := sl } ∧ R (.ok (.ret (Value.ref l))) { s with heap := s.heap, toks := s.toks }) :=
  .of_wp fun prog w A R s h => by obtain ⟨hp, g, d, tk, os⟩ := s; obtain ⟨hl, h⟩ := h; have f1 := AutoSeq1.idx_int; have f2 := AutoSeq1.sub_tuple_tuple; wp_walk using wpAny_loadPart' hl; exact ⟨_, rfl, h⟩
end PySem
namespace L2
open PySem PySem.Spec PyProof.Rows
section
variable {X : Cx}
end
end L2

set_option Elab.async false
set_option linter.all false
set_option maxRecDepth 100000
set_option maxHeartbeats 4000000
namespace Bd
structure Bond where
  x : Nat
  y : Nat
  c : Int
structure Sv where
  v : Nat → Int
  p : Nat → Option Nat
  low : Option Nat
def upF {α : Type} (f : Nat → α) (i : Nat) (a : α) : Nat → α := fun j => if j = i then a else f j
theorem upF_same {α : Type} {f : Nat → α} {i : Nat} {a : α} : upF f i a i = a := if_pos rfl
theorem upF_ne {α : Type} {f : Nat → α} {i j : Nat} {a : α} (h : j ≠ i) : upF f i a j = f j := if_neg h
def relax (i : Nat) (b : Bond) (s : Sv) : Sv := if s.v b.x > s.v b.y + b.c then ⟨upF s.v b.x (s.v b.y + b.c), upF s.p b.x (some i), some b.x⟩ else s
def rnd (B : List Bond) : Nat → Sv → Sv
  | 0, s => s
  | k + 1, s => match B[k]? with
    | some b => relax k b (rnd B k s)
    | none => rnd B k s
def round (B : List Bond) (s : Sv) : Sv := rnd B B.length { s with low := none }
def go (B : List Bond) : Nat → Sv → Sv ⊕ Sv
  | 0, s => .inr s
  | k + 1, s => match (round B s).low with
    | none => .inl (round B s)
    | some _ => go B k (round B s)
def st0 : Sv := ⟨fun _ => 0, fun _ => none, none⟩
def pb (B : List Bond) (p : Nat → Option Nat) (x : Nat) : Bond := match p x with
  | some i => B.getD i ⟨0, 0, 0⟩
  | none => ⟨0, 0, 0⟩
def it (B : List Bond) (p : Nat → Option Nat) : Nat → Nat → Nat
  | 0, x => x
  | k + 1, x => it B p k (pb B p x).y
def sm (B : List Bond) (p : Nat → Option Nat) : Nat → Nat → Int
  | 0, _ => 0
  | k + 1, x => (pb B p x).c + sm B p k (pb B p x).y
theorem it_succ (B : List Bond) (p : Nat → Option Nat) (k x : Nat) : it B p (k + 1) x = (pb B p (it B p k x)).y := by
  induction k generalizing x with
  | zero => rfl
  | succ k ih => exact ih _
theorem it_add (B : List Bond) (p : Nat → Option Nat) (j k x : Nat) : it B p (j + k) x = it B p k (it B p j x) := by
  induction j generalizing x with
  | zero => rw [Nat.zero_add]; rfl
  | succ j ih => rw [Nat.succ_add]; exact ih _
theorem sm_succ (B : List Bond) (p : Nat → Option Nat) (k x : Nat) : sm B p (k + 1) x = sm B p k x + (pb B p (it B p k x)).c := by
  induction k generalizing x with
  | zero => simp [sm, it]
  | succ k ih => rw [sm, ih, sm, it]; omega
def Alive (B : List Bond) (p : Nat → Option Nat) (k x : Nat) : Prop := ∀ j < k, ∃ i, p (it B p j x) = some i
theorem Alive.tail {B : List Bond} {p : Nat → Option Nat} {k x : Nat} (h : Alive B p (k + 1) x) : Alive B p k (pb B p x).y := fun j hj => h (j + 1) (by omega)
structure Inv (B : List Bond) (r j : Nat) (s : Sv) (last : Nat → Nat) : Prop where
  le : ∀ x, last x ≤ r
  par : ∀ x i, s.p x = some i → ∃ b, B[i]? = some b ∧ b.x = x ∧ s.v b.y + b.c ≤ s.v x ∧ last x ≤ last b.y + 1
  has : ∀ x, 1 ≤ last x → ∃ i, s.p x = some i
  ok1 : ∀ k < j, ∀ b, B[k]? = some b → s.v b.x ≤ s.v b.y + b.c ∨ r ≤ last b.y
  ok2 : ∀ k, j ≤ k → ∀ b, B[k]? = some b → s.v b.x ≤ s.v b.y + b.c ∨ r ≤ last b.y + 1
  neg : ∀ k x, Alive B s.p (k + 1) x → it B s.p (k + 1) x = x → sm B s.p (k + 1) x < 0
  lowN : s.low = none → ∀ x, last x + 1 ≤ r
  lowS : ∀ x, s.low = some x → last x = r
theorem pb_of {B : List Bond} {p : Nat → Option Nat} {x i : Nat} {b : Bond} (h : p x = some i) (e : B[i]? = some b) : pb B p x = b := by
  unfold pb; rw [h]; simp only []; rw [List.getD_eq_getElem?_getD, e]; rfl
theorem step_walk {B : List Bond} {v : Nat → Int} {p : Nat → Option Nat} {i : Nat} {b : Bond} (hb : B[i]? = some b) (hlt : v b.x > v b.y + b.c)
    (par : ∀ x i, p x = some i → ∃ b, B[i]? = some b ∧ b.x = x ∧ v b.y + b.c ≤ v x) :
    ∀ k x, Alive B (upF p b.x (some i)) k x → v (it B (upF p b.x (some i)) k x) + sm B (upF p b.x (some i)) k x ≤ v x ∧
      ((it B (upF p b.x (some i)) k x = it B p k x ∧ sm B (upF p b.x (some i)) k x = sm B p k x ∧ Alive B p k x) ∨ v (it B (upF p b.x (some i)) k x) + sm B (upF p b.x (some i)) k x < v x) := by
  intro k
  induction k with
  | zero => intro x _; exact ⟨by simp [it, sm], .inl ⟨rfl, rfl, fun j hj => by omega⟩⟩
  | succ k ih =>
    intro x ha
    obtain ⟨l, hl⟩ := ha 0 (by omega)
    change upF p b.x (some i) x = some l at hl
    have ha' := ha.tail
    by_cases hx : x = b.x
    · have e : pb B (upF p b.x (some i)) x = b := pb_of (by rw [hx]; exact upF_same) hb
      simp only [it, sm]
      rw [e] at ha' ⊢
      obtain ⟨h1, _⟩ := ih _ ha'
      subst hx
      exact ⟨by omega, .inr (by omega)⟩
    · have hp : upF p b.x (some i) x = p x := upF_ne hx
      rw [hp] at hl
      obtain ⟨b', hb', hx', hv⟩ := par _ _ hl
      have e : pb B (upF p b.x (some i)) x = b' := pb_of (by rw [hp]; exact hl) hb'
      have e2 : pb B p x = b' := pb_of hl hb'
      simp only [it, sm]
      rw [e] at ha' ⊢
      rw [e2]
      obtain ⟨h1, h2⟩ := ih _ ha'
      refine ⟨by omega, ?_⟩
      rcases h2 with ⟨h2, h3, h4⟩ | h2
      · refine .inl ⟨h2, by rw [h3], fun j hj => ?_⟩
        cases j with
        | zero => exact ⟨_, hl⟩
        | succ j =>
          show ∃ i, p (it B p j (pb B p x).y) = some i
          rw [e2]
          exact h4 j (by omega)
      · exact .inr (by omega)
theorem Inv.step {B : List Bond} {r j : Nat} {s : Sv} {last : Nat → Nat} (h : Inv B r j s last) {b : Bond} (hb : B[j]? = some b) : ∃ last', Inv B r (j + 1) (relax j b s) last' := by
  unfold relax
  by_cases c : s.v b.x > s.v b.y + b.c
  · rw [if_pos c]
    have hy : r ≤ last b.y + 1 := by
      rcases h.ok2 j (Nat.le_refl _) b hb with g | g
      · omega
      · exact g
    have hv : ∀ x, upF s.v b.x (s.v b.y + b.c) x ≤ s.v x := fun x => by
      by_cases e : x = b.x
      · rw [e, upF_same]; omega
      · rw [upF_ne e]; exact Int.le_refl _
    have hl : ∀ x, last x ≤ upF last b.x r x := fun x => by
      by_cases e : x = b.x
      · rw [e, upF_same]; exact h.le _
      · rw [upF_ne e]; exact Nat.le_refl _
    refine ⟨upF last b.x r, ⟨fun x => ?_, fun x i e => ?_, fun x e => ?_, fun k hk b' hb' => ?_, fun k hk b' hb' => ?_, fun k x ha e => ?_, fun e => ?_, fun x e => ?_⟩⟩
    · by_cases e : x = b.x
      · rw [e, upF_same]; exact Nat.le_refl _
      · rw [upF_ne e]; exact h.le _
    · by_cases ex : x = b.x
      · subst ex
        simp only [] at e ⊢
        rw [upF_same] at e
        cases e
        refine ⟨b, hb, rfl, ?_, ?_⟩
        · rw [upF_same]
          by_cases ey : b.y = b.x
          · rw [ey, upF_same]; rw [ey] at c; omega
          · rw [upF_ne ey]; exact Int.le_refl _
        · rw [upF_same]
          have := hl b.y
          omega
      · simp only [] at e ⊢
        rw [upF_ne ex] at e
        obtain ⟨b', g1, g2, g3, g4⟩ := h.par x i e
        refine ⟨b', g1, g2, ?_, ?_⟩
        · rw [upF_ne ex]
          have := hv b'.y
          omega
        · rw [upF_ne ex]
          have := hl b'.y
          omega
    · simp only []
      by_cases ex : x = b.x
      · rw [ex, upF_same]; exact ⟨_, rfl⟩
      · rw [upF_ne ex] at e ⊢
        exact h.has x e
    · simp only []
      by_cases ey : b'.y = b.x
      · right; rw [ey, upF_same]; exact Nat.le_refl _
      · by_cases ek : k = j
        · subst ek
          rw [hb] at hb'; cases hb'
          left; rw [upF_same, upF_ne ey]; exact Int.le_refl _
        · rcases h.ok1 k (by omega) b' hb' with g | g
          · left; rw [upF_ne ey]; have := hv b'.x; omega
          · right; have := hl b'.y; omega
    · simp only []
      by_cases ey : b'.y = b.x
      · right; rw [ey, upF_same]; omega
      · rcases h.ok2 k (by omega) b' hb' with g | g
        · left; rw [upF_ne ey]; have := hv b'.x; omega
        · right; have := hl b'.y; omega
    · have := step_walk hb c (fun x i e => by obtain ⟨b', g1, g2, g3, _⟩ := h.par x i e; exact ⟨b', g1, g2, g3⟩) (k + 1) x ha
      simp only [] at e ⊢
      rw [e] at this
      obtain ⟨_, ⟨g1, g2, g3⟩ | g⟩ := this
      · rw [g2]; exact h.neg k x g3 g1.symm
      · omega
    · cases e
    · cases e; exact upF_same
  · rw [if_neg c]
    refine ⟨last, h.le, h.par, h.has, fun k hk b' hb' => ?_, fun k hk => h.ok2 k (by omega), h.neg, h.lowN, h.lowS⟩
    by_cases ek : k = j
    · subst ek
      rw [hb] at hb'; cases hb'
      left; omega
    · exact h.ok1 k (by omega) b' hb'
theorem Inv.rnd {B : List Bond} {r : Nat} {s : Sv} {last : Nat → Nat} (h : Inv B r 0 s last) : ∀ k, k ≤ B.length → ∃ last', Inv B r k (Bd.rnd B k s) last'
  | 0, _ => ⟨last, h⟩
  | k + 1, hk => by
    obtain ⟨l1, h1⟩ := Inv.rnd h k (by omega)
    have e : B[k]? = some B[k] := List.getElem?_eq_getElem (by omega)
    unfold Bd.rnd
    rw [e]
    exact h1.step e
theorem Inv.next {B : List Bond} {r : Nat} {s : Sv} {last : Nat → Nat} (h : Inv B r B.length s last) : Inv B (r + 1) 0 { s with low := none } last :=
  ⟨fun x => by have := h.le x; omega, h.par, h.has, fun k hk => by omega, fun k _ b hb => by
    have := h.ok1 k (List.getElem?_eq_some_iff.mp hb).1 b hb
    rcases this with g | g
    · exact .inl g
    · right; omega, h.neg, fun _ x => by have := h.le x; omega, fun x e => by cases e⟩
theorem Inv.start (B : List Bond) : Inv B 1 0 { st0 with low := none } (fun _ => 0) :=
  ⟨fun _ => Nat.zero_le _, fun x i e => (by cases e), fun x e => (by omega), fun k hk b hb => (by omega), fun k hk b hb => .inr (Nat.le_refl _), fun k x ha => (by obtain ⟨i, hi⟩ := ha 0 (by omega); cases hi), fun _ x => Nat.le_refl _, fun x e => (by cases e)⟩
theorem Inv.holds {B : List Bond} {r : Nat} {s : Sv} {last : Nat → Nat} (h : Inv B r B.length s last) (e : s.low = none) : ∀ b ∈ B, s.v b.x ≤ s.v b.y + b.c := fun b hb => by
  obtain ⟨k, hk, rfl⟩ := List.mem_iff_getElem.mp hb
  rcases h.ok1 k hk _ (List.getElem?_eq_getElem hk) with g | g
  · exact g
  · have := h.lowN e B[k].y
    omega
theorem nodup_le {α : Type} [DecidableEq α] : ∀ {l k : List α}, l.Nodup → (∀ x ∈ l, x ∈ k) → l.length ≤ k.length
  | [], _, _, _ => Nat.zero_le _
  | a :: l, k, hn, hs => by
    have ha := hs a List.mem_cons_self
    have h2 := List.nodup_cons.mp hn
    have := nodup_le (l := l) (k := k.erase a) h2.2 fun x hx => (List.mem_erase_of_ne (show x ≠ a from fun e => h2.1 (by rw [← e]; exact hx))).mpr (hs x (List.mem_cons_of_mem _ hx))
    rw [List.length_erase_of_mem ha] at this
    have : 0 < k.length := List.length_pos_of_mem ha
    simp only [List.length_cons]
    omega
theorem pigeon {n : Nat} {u : Nat → Nat} (h : ∀ i, i ≤ n → u i < n) : ∃ i j, i < j ∧ j ≤ n ∧ u i = u j := by
  apply Classical.byContradiction
  intro c
  have hn : ((List.range (n + 1)).map u).Nodup := by
    rw [List.nodup_iff_pairwise_ne, List.pairwise_map]
    refine (List.pairwise_lt_range (n := n + 1)).imp_of_mem fun {i j} hi hj hij e => c ⟨i, j, hij, ?_, e⟩
    have := List.mem_range.mp hj
    omega
  have := nodup_le hn (k := List.range n) fun x hx => by
    obtain ⟨i, hi, rfl⟩ := List.mem_map.mp hx
    have := List.mem_range.mp hi
    exact List.mem_range.mpr (h i (by omega))
  simp at this
  omega
theorem least {P : Nat → Prop} : ∀ n, P n → ∃ m, m ≤ n ∧ P m ∧ ∀ k < m, ¬ P k := by
  intro n
  induction n using Nat.strongRecOn with
  | ind n ih =>
    intro h
    by_cases c : ∃ k, k < n ∧ P k
    · obtain ⟨k, hk, pk⟩ := c
      obtain ⟨m, h1, h2, h3⟩ := ih k hk pk
      exact ⟨m, by omega, h2, h3⟩
    · exact ⟨n, Nat.le_refl _, h, fun k hk pk => c ⟨k, hk, pk⟩⟩
structure Ring (n : Nat) (B : List Bond) (p : Nat → Option Nat) (x0 m : Nat) : Prop where
  walk : ∀ j < n, ∃ i b, p (it B p j x0) = some i ∧ B[i]? = some b ∧ b.x = it B p j x0
  lt : ∀ k, k ≤ n → it B p k x0 < n
  pos : 0 < m
  le : m ≤ n
  back : it B p m (it B p n x0) = it B p n x0
  least : ∀ k, 0 < k → k < m → it B p k (it B p n x0) ≠ it B p n x0
  alive : ∀ k, ∃ i b, p (it B p k (it B p n x0)) = some i ∧ B[i]? = some b ∧ b.x = it B p k (it B p n x0)
  neg : sm B p m (it B p n x0) < 0
theorem Inv.ring {B : List Bond} {n : Nat} {s : Sv} {last : Nat → Nat} {x0 : Nat} (hn : 0 < n) (h : Inv B n B.length s last) (e : s.low = some x0) (hB : ∀ b ∈ B, b.x < n ∧ b.y < n) : ∃ m, Ring n B s.p x0 m := by
  have hl : ∀ k, k ≤ n → n ≤ last (it B s.p k x0) + k := by
    intro k
    induction k with
    | zero => intro _; have := h.lowS _ e; show n ≤ last x0 + 0; omega
    | succ k ih =>
      intro hk
      have := ih (by omega)
      obtain ⟨i, hi⟩ := h.has (it B s.p k x0) (by omega)
      obtain ⟨b, g1, g2, g3, g4⟩ := h.par _ _ hi
      rw [it_succ, pb_of hi g1]
      omega
  have hw : Alive B s.p n x0 := fun j hj => h.has _ (by have := hl j (by omega); omega)
  have hstep : ∀ x i, s.p x = some i → x < n ∧ it B s.p 1 x < n := fun x i hi => by
    obtain ⟨b, g1, g2, _⟩ := h.par x i hi
    have := hB b (List.mem_of_getElem? g1)
    show x < n ∧ (pb B s.p x).y < n
    rw [pb_of hi g1]
    exact ⟨g2 ▸ this.1, this.2⟩
  have hlt : ∀ k, k ≤ n → it B s.p k x0 < n := fun k hk => by
    by_cases c : k < n
    · obtain ⟨i, hi⟩ := hw k c
      exact (hstep _ _ hi).1
    · obtain ⟨i, hi⟩ := hw (n - 1) (by omega)
      have := (hstep _ _ hi).2
      rw [show k = (n - 1) + 1 by omega, it_add]
      exact this
  obtain ⟨i, j, hij, hj, eij⟩ := pigeon (u := fun k => it B s.p k x0) hlt
  change it B s.p i x0 = it B s.p j x0 at eij
  have hper : it B s.p (j - i) (it B s.p n x0) = it B s.p n x0 := by
    have e1 : it B s.p n x0 = it B s.p (n - i) (it B s.p i x0) := by rw [← it_add]; congr 1; omega
    rw [e1, ← it_add, Nat.add_comm, it_add]
    congr 1
    rw [← it_add, show i + (j - i) = j by omega, eij]
  obtain ⟨m, hm1, ⟨hm2, hm3⟩, hm4⟩ := least (P := fun m => 0 < m ∧ it B s.p m (it B s.p n x0) = it B s.p n x0) (j - i) ⟨by omega, hper⟩
  have hP : ∀ q, it B s.p (q * (j - i)) (it B s.p n x0) = it B s.p n x0 := fun q => by
    induction q with
    | zero => rw [Nat.zero_mul]; rfl
    | succ q ih => rw [Nat.succ_mul, it_add, ih]; exact hper
  have hback : it B s.p n x0 = it B s.p (n - (j - i)) x0 := by
    have e1 : it B s.p n x0 = it B s.p (n - j) (it B s.p j x0) := by rw [← it_add]; congr 1; omega
    rw [e1, ← eij, ← it_add]
    congr 1
    omega
  have hat : ∀ k, ∃ l, l < n ∧ it B s.p k (it B s.p n x0) = it B s.p l x0 := fun k => by
    have hp : 0 < j - i := by omega
    have hm := Nat.mod_lt k hp
    refine ⟨n - (j - i) + k % (j - i), by omega, ?_⟩
    have e1 : it B s.p k (it B s.p n x0) = it B s.p (k % (j - i)) (it B s.p n x0) := by
      have := Nat.div_add_mod k (j - i)
      conv => lhs; rw [← this, Nat.mul_comm, it_add, hP]
    rw [e1, hback, ← it_add]
  have hal : ∀ k, ∃ i b, s.p (it B s.p k (it B s.p n x0)) = some i ∧ B[i]? = some b ∧ b.x = it B s.p k (it B s.p n x0) := fun k => by
    obtain ⟨l, hl1, hl2⟩ := hat k
    obtain ⟨i, hi⟩ := hw l hl1
    rw [hl2]
    obtain ⟨b, g1, g2, _⟩ := h.par _ _ hi
    exact ⟨i, b, hi, g1, g2⟩
  refine ⟨m, fun j hj => (by obtain ⟨i, hi⟩ := hw j hj; obtain ⟨b, g1, g2, _⟩ := h.par _ _ hi; exact ⟨i, b, hi, g1, g2⟩), hlt, hm2, by omega, hm3, fun k k1 k2 e => hm4 k k2 ⟨k1, e⟩, hal, ?_⟩
  obtain ⟨m', rfl⟩ : ∃ m', m = m' + 1 := ⟨m - 1, by omega⟩
  exact h.neg m' _ (fun j _ => by obtain ⟨i, b, g, _⟩ := hal j; exact ⟨i, g⟩) hm3
def ringL (B : List Bond) (p : Nat → Option Nat) (s m : Nat) : List Nat := (List.range m).map fun k => (p (it B p k s)).getD 0
def ringGo (B : List Bond) (p : Nat → Option Nat) (s : Nat) : Nat → Nat → List Nat
  | 0, _ => []
  | f + 1, x => if x = s then [] else (p x).getD 0 :: ringGo B p s f (pb B p x).y
theorem ringGo_eq {B : List Bond} {p : Nat → Option Nat} {s m : Nat} (hb : it B p m s = s) (hl : ∀ k, 0 < k → k < m → it B p k s ≠ s) : ∀ (f j : Nat), 0 < j → j ≤ m → m - j ≤ f → ringGo B p s f (it B p j s) = (List.range (m - j)).map fun k => (p (it B p (j + k) s)).getD 0
  | 0, j, h0, h1, h2 => by rw [show m - j = 0 by omega]; rfl
  | f + 1, j, h0, h1, h2 => by
    unfold ringGo
    by_cases c : j = m
    · subst c
      rw [if_pos hb, Nat.sub_self]; rfl
    · rw [if_neg (hl j h0 (by omega)), ← it_succ, ringGo_eq hb hl f (j + 1) (by omega) (by omega) (by omega)]
      rw [show m - j = (m - (j + 1)) + 1 by omega, List.range_succ_eq_map, List.map_cons, List.map_map, Nat.add_zero]
      congr 1
      refine List.map_congr_left fun k _ => ?_
      show (p (it B p (j + 1 + k) s)).getD 0 = (p (it B p (j + (k + 1)) s)).getD 0
      rw [show j + 1 + k = j + (k + 1) by omega]
def bd0 : Bond := ⟨0, 0, 0⟩
def sumC (B : List Bond) : List Nat → Int
  | [] => 0
  | i :: R => (B.getD i bd0).c + sumC B R
theorem sumC_app (B : List Bond) (R S : List Nat) : sumC B (R ++ S) = sumC B R + sumC B S := by
  induction R with
  | nil => simp [sumC]
  | cons i R ih => rw [List.cons_append, sumC, sumC, ih]; omega
def WF (n : Nat) (B : List Bond) : Prop := ∀ b ∈ B, b.x < n ∧ b.y < n
def Holds (f : Nat → Int) (B : List Bond) : Prop := ∀ b ∈ B, f b.x - f b.y ≤ b.c
structure RingOk (B : List Bond) (R : List Nat) (u : Nat → Nat) : Prop where
  pos : 0 < R.length
  nd : R.Nodup
  bond : ∀ k i, R[k]? = some i → ∃ b, B[i]? = some b ∧ b.x = u k ∧ b.y = u (k + 1)
  back : u R.length = u 0
  neg : sumC B R < 0
theorem RingOk.sum {B : List Bond} {R : List Nat} {u : Nat → Nat} {f : Nat → Int} (h : Holds f B) (hb : ∀ k i, R[k]? = some i → ∃ b, B[i]? = some b ∧ b.x = u k ∧ b.y = u (k + 1)) : ∀ k, k ≤ R.length → f (u 0) - f (u k) ≤ sumC B (R.take k)
  | 0, _ => by simp [sumC]
  | k + 1, hk => by
    have ih := RingOk.sum h hb k (by omega)
    have e : R[k]? = some R[k] := List.getElem?_eq_getElem (by omega)
    obtain ⟨b, g1, g2, g3⟩ := hb k _ e
    have hh := h b (List.mem_of_getElem? g1)
    rw [List.take_add_one, e, sumC_app]
    have : sumC B (some R[k]).toList = b.c := by
      show (B.getD R[k] bd0).c + 0 = b.c
      rw [List.getD_eq_getElem?_getD, g1]
      simp
    rw [this]
    rw [g2, g3] at hh
    omega
theorem RingOk.none {B : List Bond} {R : List Nat} {u : Nat → Nat} (r : RingOk B R u) {f : Nat → Int} (h : Holds f B) : False := by
  have := RingOk.sum h r.bond R.length (Nat.le_refl _)
  rw [List.take_length, r.back] at this
  have := r.neg
  omega
theorem RingOk.le {B : List Bond} {R : List Nat} {u : Nat → Nat} (r : RingOk B R u) : R.length ≤ B.length := by
  have := nodup_le r.nd (k := List.range B.length) fun i hi => by
    obtain ⟨k, hk, rfl⟩ := List.mem_iff_getElem.mp hi
    obtain ⟨b, g, _⟩ := r.bond k _ (List.getElem?_eq_getElem hk)
    exact List.mem_range.mpr (List.getElem?_eq_some_iff.mp g).1
  rwa [List.length_range] at this
def ringOf (n : Nat) (B : List Bond) (s : Sv) : List Nat :=
  (s.p (it B s.p n (s.low.getD 0))).getD 0 :: ringGo B s.p (it B s.p n (s.low.getD 0)) n (pb B s.p (it B s.p n (s.low.getD 0))).y
theorem ringL_sum {B : List Bond} {p : Nat → Option Nat} {e : Nat} (h : ∀ k, ∃ i b, p (it B p k e) = some i ∧ B[i]? = some b ∧ b.x = it B p k e) : ∀ m, sumC B (ringL B p e m) = sm B p m e
  | 0 => rfl
  | m + 1 => by
    have ih := ringL_sum h m
    obtain ⟨i, b, h1, h2, h3⟩ := h m
    unfold ringL at ih ⊢
    rw [List.range_succ, List.map_append, sumC_app, ih, sm_succ, pb_of h1 h2]
    show _ + (sumC B [(p (it B p m e)).getD 0]) = _
    rw [h1]
    show _ + ((B.getD i bd0).c + 0) = _
    rw [List.getD_eq_getElem?_getD, h2]
    simp
theorem Ring.eq {n : Nat} {B : List Bond} {s : Sv} {x0 m : Nat} (r : Ring n B s.p x0 m) (e : s.low = some x0) : ringOf n B s = ringL B s.p (it B s.p n x0) m := by
  unfold ringOf
  rw [e]
  simp only [Option.getD_some]
  have := ringGo_eq r.back r.least n 1 (by omega) r.pos (by have := r.le; omega)
  rw [it_succ] at this
  change ringGo B s.p (it B s.p n x0) n (pb B s.p (it B s.p n x0)).y = _ at this
  rw [this]
  unfold ringL
  obtain ⟨m', hm⟩ : ∃ m', m = m' + 1 := ⟨m - 1, by have := r.pos; omega⟩
  subst hm
  rw [List.range_succ_eq_map, List.map_cons, List.map_map]
  congr 1
  refine List.map_congr_left fun k _ => ?_
  show _ = (s.p (it B s.p (k + 1) (it B s.p n x0))).getD 0
  rw [Nat.add_comm 1 k]
theorem Ring.ok {n : Nat} {B : List Bond} {s : Sv} {x0 m : Nat} (r : Ring n B s.p x0 m) (e : s.low = some x0) : RingOk B (ringOf n B s) (fun k => it B s.p k (it B s.p n x0)) := by
  rw [r.eq e]
  have hlen : (ringL B s.p (it B s.p n x0) m).length = m := by unfold ringL; rw [List.length_map, List.length_range]
  refine ⟨by rw [hlen]; exact r.pos, ?_, fun k i hk => ?_, ?_, ?_⟩
  · unfold ringL
    rw [List.nodup_iff_pairwise_ne, List.pairwise_map]
    refine (List.pairwise_lt_range (n := m)).imp_of_mem fun {i j} hi hj hij ee => ?_
    have hi := List.mem_range.mp hi
    have hj := List.mem_range.mp hj
    obtain ⟨i1, b1, g1, g2, g3⟩ := r.alive i
    obtain ⟨i2, b2, k1, k2, k3⟩ := r.alive j
    rw [g1, k1] at ee
    simp only [Option.getD_some] at ee
    subst ee
    rw [g2] at k2
    cases k2
    -- the walk would be back too soon
    have hij2 : it B s.p i (it B s.p n x0) = it B s.p j (it B s.p n x0) := g3.symm.trans k3
    have : it B s.p (m - j + i) (it B s.p n x0) = it B s.p n x0 := by
      rw [Nat.add_comm, it_add, hij2, ← it_add, show j + (m - j) = m by omega]
      exact r.back
    exact r.least (m - j + i) (by omega) (by omega) this
  · unfold ringL at hk
    rw [List.getElem?_map] at hk
    have hlt : k < m := by
      cases c : (List.range m)[k]? with
      | none => rw [c] at hk; cases hk
      | some z => have := (List.getElem?_eq_some_iff.mp c).1; simpa using this
    rw [List.getElem?_range hlt] at hk
    obtain ⟨i1, b1, g1, g2, g3⟩ := r.alive k
    simp only [Option.map_some, g1, Option.getD_some, Option.some.injEq] at hk
    subst hk
    refine ⟨b1, g2, g3, ?_⟩
    show b1.y = it B s.p (k + 1) (it B s.p n x0)
    rw [it_succ, pb_of g1 g2]
  · rw [hlen]; exact r.back
  · rw [ringL_sum r.alive]; exact r.neg
end Bd
namespace L2
open PySem PySem.Spec PyProof.Rows Bd
section
variable {es : List Expr} {env : Env} {p : Pos}
theorem star_C {c : Const} {n : Nat} : starEach (.Constant c n p :: es) env = (false, eval (.Constant c n p) env) :: starEach es env := rfl
theorem star_N {x : Str} : starEach (.Name x p :: es) env = (false, eval (.Name x p) env) :: starEach es env := rfl
theorem star_B {a b : Expr} {o : Operator} : starEach (.BinOp a o b p :: es) env = (false, eval (.BinOp a o b p) env) :: starEach es env := rfl
theorem star_K {f : Expr} {as : List Expr} {ks : List Keyword} : starEach (.Call f as ks p :: es) env = (false, eval (.Call f as ks p) env) :: starEach es env := rfl
theorem star_S {a b : Expr} : starEach (.Subscript a b p :: es) env = (false, eval (.Subscript a b p) env) :: starEach es env := rfl
theorem star_T {as : List Expr} {n : Nat} : starEach (.Tuple as n p :: es) env = (false, eval (.Tuple as n p) env) :: starEach es env := rfl
theorem star_U {o : UnaryOp} {a : Expr} : starEach (.UnaryOp o a p :: es) env = (false, eval (.UnaryOp o a p) env) :: starEach es env := rfl
end
@[irreducible] def PAq (X : Cx) (es : List Expr) (t : TA) : Prop := PA X es t
section
variable {X : Cx} {e : Expr} {es : List Expr} {te : TE} {t : TA} {pos : Pos}
theorem paq_nil : PAq X [] tNil := by unfold PAq; exact pa_nil
theorem paq_cons (ha : PE X e te) (hr : PAq X es t) (hs : starEach (e :: es) X.env = (false, eval e X.env) :: starEach es X.env) : PAq X (e :: es) (tCons te t) := by unfold PAq at *; exact pa_cons ha hr hs
theorem pe_lstq (h : PAq X es t) : PE X (.List es pos) (tLst t) := by unfold PAq at h; exact pe_lst h
theorem pe_tupq {x1 : Nat} (h : PAq X es t) : PE X (.Tuple es x1 pos) (tTup t) := by unfold PAq at h; exact pe_tup h
end
def optV : Option Nat → V
  | none => .non
  | some i => .int (i : Int)
def rl (n : Nat) (f : Nat → V) : List V := (List.range n).map f
def vl (n : Nat) (f : Nat → Int) : List V := rl n fun i => .int (f i)
def pl (n : Nat) (p : Nat → Option Nat) : List V := rl n fun i => optV (p i)
theorem pickI {L : List Int} {i : Int} (h0 : 0 ≤ i) (h1 : i < (L.length : Int)) : ∃ z ∈ L, atI (L.map V.int) i = some (.int z) := by
  have e : L[i.toNat]? = some L[i.toNat] := List.getElem?_eq_getElem (by omega)
  refine ⟨L[i.toNat], List.getElem_mem _, ?_⟩
  have h : atI (L.map V.int) ((i.toNat : Nat) : Int) = some (.int L[i.toNat]) := atI_nat (by rw [List.getElem?_map, e]; rfl)
  rwa [Int.toNat_of_nonneg h0] at h
theorem pickN {L : List Int} {i : Int} (n : Nat) (hn : L.length = n) (h0 : 0 ≤ i) (h1 : i < (n : Int)) : ∃ z ∈ L, atI (L.map V.int) i = some (.int z) := pickI h0 (by rw [hn]; exact h1)
def intsV (R : List Nat) : List V := (R.map fun i => ((i : Nat) : Int)).map V.int
def BondAt (H : Hp) (v : V) (b : Bond) : Prop := ∃ t, v = .ref t ∧ H t = some (.tup [.int (b.x : Int), .int (b.y : Int), .int b.c])
def BsIs (H : Hp) (vs : List V) (B : List Bond) : Prop := vs.length = B.length ∧ ∀ (i : Nat) (v : V) (b : Bond), vs[i]? = some v → B[i]? = some b → BondAt H v b
def BondsAt (H : Hp) (l : Addr) (B : List Bond) : Prop := ∃ vs, H l = some (.lst vs) ∧ BsIs H vs B
theorem BondAt.over {H H' : Hp} {v : V} {b : Bond} (h : BondAt H v b) (e : Same H H') : BondAt H' v b := by
  obtain ⟨t, h1, h2⟩ := h
  exact ⟨t, h1, e _ _ h2⟩
theorem BsIs.over {H H' : Hp} {vs : List V} {B : List Bond} (h : BsIs H vs B) (e : Same H H') : BsIs H' vs B := ⟨h.1, fun i v b x y => (h.2 i v b x y).over e⟩
theorem BondsAt.over {H H' : Hp} {l : Addr} {B : List Bond} (h : BondsAt H l B) (e : Same H H') : BondsAt H' l B := by
  obtain ⟨vs, h1, h2⟩ := h
  exact ⟨vs, e _ _ h1, h2.over e⟩
theorem BsIs.snoc {H : Hp} {vs : List V} {B : List Bond} {v : V} {b : Bond} (h : BsIs H vs B) (hv : BondAt H v b) : BsIs H (vs ++ [v]) (B ++ [b]) := by
  refine ⟨by rw [List.length_append, List.length_append, h.1]; rfl, fun i x c hx hc => ?_⟩
  by_cases hi : i < vs.length
  · rw [List.getElem?_append_left hi] at hx
    rw [List.getElem?_append_left (by rw [← h.1]; exact hi)] at hc
    exact h.2 i x c hx hc
  · have hlt := (List.getElem?_eq_some_iff.mp hx).1
    rw [List.length_append, List.length_singleton] at hlt
    have e : i = vs.length := by omega
    subst e
    rw [List.getElem?_append_right (Nat.le_refl _), Nat.sub_self] at hx
    rw [h.1, List.getElem?_append_right (Nat.le_refl _), Nat.sub_self] at hc
    cases hx; cases hc
    exact hv
def setR (n : Nat) (B : List Bond) : V × List V := match go B n st0 with
  | .inl s => (.str "values", vl n fun i => s.v i - s.v 0)
  | .inr s => (.str "ring", intsV (ringOf n B s))
theorem BsIs.get {H : Hp} {vs : List V} {B : List Bond} (h : BsIs H vs B) {i : Nat} {b : Bond} (hb : B[i]? = some b) : ∃ t, atI vs (i : Int) = some (.ref t) ∧ H t = some (.tup [.int (b.x : Int), .int (b.y : Int), .int b.c]) := by
  have hi : i < vs.length := by rw [h.1]; exact (List.getElem?_eq_some_iff.mp hb).1
  obtain ⟨t, e, ht⟩ := h.2 i vs[i] b (List.getElem?_eq_getElem hi) hb
  exact ⟨t, (atI_nat (List.getElem?_eq_getElem hi)).trans (by rw [e]), ht⟩
def bondT (b : Bond) : Tr := .tup [.v (.int (b.x : Int)), .v (.int (b.y : Int)), .v (.int b.c)]
theorem BsIs.tr {K : PySem.W.Frag} {H : Hp} : ∀ {vs : List V} {B : List Bond}, BsIs H vs B → TrsIs K H vs (B.map bondT)
  | [], [], _ => .nil
  | [], _ :: _, h => by have := h.1; cases this
  | _ :: _, [], h => by have := h.1; cases this
  | v :: vs, b :: B, h => by
    obtain ⟨t, rfl, ht⟩ := h.2 0 v b rfl rfl
    exact .cons (.tup (SqT.of ht) (.cons (.flat rfl) (.cons (.flat rfl) (.cons (.flat rfl) .nil)))) (BsIs.tr (vs := vs) (B := B) ⟨by have := h.1; simpa using this, fun i v' b' x y => h.2 (i + 1) v' b' (by simpa using x) (by simpa using y)⟩)
theorem BsIs.app {H : Hp} {vs ws : List V} {B C : List Bond} (h : BsIs H vs B) (g : BsIs H ws C) : BsIs H (vs ++ ws) (B ++ C) := by
  refine ⟨by rw [List.length_append, List.length_append, h.1, g.1], fun i x c hx hc => ?_⟩
  by_cases hi : i < vs.length
  · rw [List.getElem?_append_left hi] at hx
    rw [List.getElem?_append_left (by rw [← h.1]; exact hi)] at hc
    exact h.2 i x c hx hc
  · rw [List.getElem?_append_right (by omega)] at hx
    rw [List.getElem?_append_right (by rw [← h.1]; omega), ← h.1] at hc
    exact g.2 _ x c hx hc
theorem BsIs.cut {H : Hp} {vs : List V} {B : List Bond} (h : BsIs H vs B) (lo hi : Option Int) : BsIs H (cutV vs lo hi) (cutC B lo hi) := by
  unfold cutV cutC
  rw [h.1]
  refine ⟨by rw [List.length_take, List.length_take, List.length_drop, List.length_drop, h.1], fun i x c hx hc => ?_⟩
  rw [List.getElem?_take] at hx hc
  split at hx
  · rename_i hi'
    rw [if_pos hi', List.getElem?_drop] at hc
    rw [List.getElem?_drop] at hx
    exact h.2 _ x c hx hc
  · cases hx
theorem WF.cut {n : Nat} {B : List Bond} (h : WF n B) (lo hi : Option Int) : WF n (cutC B lo hi) := fun b hb => h b (List.mem_of_mem_drop (List.mem_of_mem_take hb))
theorem WF.app {n : Nat} {B C : List Bond} (h : WF n B) (g : WF n C) : WF n (B ++ C) := fun b hb => by
  rcases List.mem_append.mp hb with hb | hb
  · exact h b hb
  · exact g b hb
theorem WF.one {n : Nat} {b : Bond} (hx : b.x < n) (hy : b.y < n) : WF n [b] := fun c hc => by rw [List.mem_singleton] at hc; subst hc; exact ⟨hx, hy⟩
theorem BsIs.one {H : Hp} {v : V} {b : Bond} (h : BondAt H v b) : BsIs H [v] [b] := BsIs.snoc (vs := []) (B := []) ⟨rfl, fun i v b z => by simp at z⟩ h
end L2

set_option Elab.async false
set_option linter.all false
set_option maxRecDepth 100000
set_option maxHeartbeats 4000000
namespace Bd
structure Lt where
  L : Nat → Option Int
  q : Nat → Option Nat
  ch : Bool
def lower (o : Option Int) (l : Int) : Bool := match o with
  | none => true
  | some k => decide (l < k)
def short1 (i : Nat) (b : Bond) (s : Lt) : Lt := match s.L b.y with
  | none => s
  | some l => if lower (s.L b.x) (l + b.c) = true then ⟨upF s.L b.x (some (l + b.c)), upF s.q b.x (some i), true⟩ else s
def srnd (B : List Bond) : Nat → Lt → Lt
  | 0, s => s
  | k + 1, s => match B[k]? with
    | some b => short1 k b (srnd B k s)
    | none => srnd B k s
def sround (B : List Bond) (s : Lt) : Lt := srnd B B.length { s with ch := false }
def lt0 (y : Nat) : Lt := ⟨upF (fun _ => none) y (some 0), fun _ => none, true⟩
def Sx (B : List Bond) (y : Nat) : Nat → Lt
  | 0 => lt0 y
  | k + 1 => sround B (Sx B y k)
structure Ji (n : Nat) (B : List Bond) (y : Nat) (f : Nat → Int) (s : Lt) : Prop where
  lo : ∀ v l, s.L v = some l → f v - f y ≤ l
  at0 : s.L y = some 0
  no : s.q y = none
  par : ∀ x i, s.q x = some i → ∃ b lx ly, B[i]? = some b ∧ b.x = x ∧ s.L x = some lx ∧ s.L b.y = some ly ∧ ly + b.c ≤ lx
  has : ∀ x l, s.L x = some l → x = y ∨ ∃ i, s.q x = some i
  lt : ∀ x l, s.L x = some l → x < n
  free : ∀ k x, Alive B s.q (k + 1) x → it B s.q (k + 1) x ≠ x
theorem walk_sum {B : List Bond} {q : Nat → Option Nat} {f : Nat → Int} (h : Holds f B) (par : ∀ x i, q x = some i → ∃ b, B[i]? = some b ∧ b.x = x) : ∀ k x, Alive B q k x → f x - f (it B q k x) ≤ sm B q k x
  | 0, x, _ => by simp [it, sm]
  | k + 1, x, ha => by
    obtain ⟨i, hi⟩ := ha 0 (by omega)
    change q x = some i at hi
    obtain ⟨b, g1, g2⟩ := par x i hi
    have := walk_sum h par k _ ha.tail
    have hb := h b (List.mem_of_getElem? g1)
    simp only [it, sm]
    rw [pb_of hi g1] at this ⊢
    rw [g2] at hb
    omega
theorem Ji.step {n : Nat} {B : List Bond} {y : Nat} {f : Nat → Int} {s : Lt} (h : Ji n B y f s) (hf : Holds f B) (hw : WF n B) {i : Nat} {b : Bond} (hb : B[i]? = some b) : Ji n B y f (short1 i b s) := by
  unfold short1
  cases hy : s.L b.y with
  | none => exact h
  | some l =>
    simp only []
    by_cases c : lower (s.L b.x) (l + b.c) = true
    · rw [if_pos c]
      have hfb := hf b (List.mem_of_getElem? hb)
      have hl := h.lo _ _ hy
      have nx : b.x ≠ y := fun e => by
        rw [e, h.at0] at c
        have := of_decide_eq_true c
        rw [e] at hfb
        omega
      have hle : ∀ v lv, s.L v = some lv → ∃ lv', upF s.L b.x (some (l + b.c)) v = some lv' ∧ lv' ≤ lv := fun v lv e => by
        by_cases ev : v = b.x
        · subst ev
          rw [upF_same]
          rw [e] at c
          exact ⟨_, rfl, by have := of_decide_eq_true c; omega⟩
        · rw [upF_ne ev]
          exact ⟨lv, e, Int.le_refl _⟩
      have nxy : s.L b.x = none → b.x ≠ b.y := fun e1 e2 => by rw [e2, hy] at e1; cases e1
      refine ⟨fun v lv e => ?_, ?_, ?_, fun x j e => ?_, fun x lx e => ?_, fun x lx e => ?_, fun k x ha e => ?_⟩
      · by_cases ev : v = b.x
        · subst ev
          simp only [] at e
          rw [upF_same] at e
          cases e
          omega
        · simp only [] at e
          rw [upF_ne ev] at e
          exact h.lo v lv e
      · simp only []; rw [upF_ne (Ne.symm nx)]; exact h.at0
      · simp only []; rw [upF_ne (Ne.symm nx)]; exact h.no
      · simp only [] at e ⊢
        by_cases ex : x = b.x
        · subst ex
          rw [upF_same] at e
          cases e
          obtain ⟨ly', g1, g2⟩ := hle _ _ hy
          exact ⟨b, _, ly', hb, rfl, upF_same, g1, by omega⟩
        · rw [upF_ne ex] at e
          obtain ⟨b', lx, ly, g1, g2, g3, g4, g5⟩ := h.par x j e
          obtain ⟨ly', k1, k2⟩ := hle _ _ g4
          exact ⟨b', lx, ly', g1, g2, by rw [upF_ne ex]; exact g3, k1, by omega⟩
      · simp only [] at e ⊢
        by_cases ex : x = b.x
        · exact .inr ⟨i, by rw [ex]; exact upF_same⟩
        · rw [upF_ne ex] at e ⊢
          exact h.has x lx e
      · simp only [] at e
        by_cases ex : x = b.x
        · rw [ex]; exact (hw b (List.mem_of_getElem? hb)).1
        · rw [upF_ne ex] at e
          exact h.lt x lx e
      · simp only [] at ha e
        -- values to compare with
        have key : ∃ v : Nat → Int, v b.x > v b.y + b.c ∧ ∀ x i, s.q x = some i → ∃ b, B[i]? = some b ∧ b.x = x ∧ v b.y + b.c ≤ v x := by
          cases hx : s.L b.x with
          | none =>
            refine ⟨upF (fun v => (s.L v).getD 0) b.x (l + b.c + 1), ?_, fun x j e => ?_⟩
            · rw [upF_same, upF_ne (Ne.symm (nxy hx)), hy]
              show l + b.c + 1 > l + b.c
              omega
            · obtain ⟨b', lx, ly, g1, g2, g3, g4, g5⟩ := h.par x j e
              have n1 : x ≠ b.x := fun z => by rw [z, hx] at g3; cases g3
              have n2 : b'.y ≠ b.x := fun z => by rw [z, hx] at g4; cases g4
              refine ⟨b', g1, g2, ?_⟩
              rw [upF_ne n1, upF_ne n2, g3, g4]
              exact g5
          | some lx =>
            refine ⟨fun v => (s.L v).getD 0, ?_, fun x j e => ?_⟩
            · simp only [hx, hy, Option.getD_some]
              rw [hx] at c
              have := of_decide_eq_true c
              omega
            · obtain ⟨b', lx, ly, g1, g2, g3, g4, g5⟩ := h.par x j e
              refine ⟨b', g1, g2, ?_⟩
              simp only [g3, g4, Option.getD_some]
              exact g5
        obtain ⟨v, hlt, hpar⟩ := key
        have := step_walk hb hlt hpar (k + 1) x ha
        rw [e] at this
        obtain ⟨_, ⟨g1, g2, g3⟩ | g⟩ := this
        · exact h.free k x g3 g1.symm
        · have hs := walk_sum hf (q := upF s.q b.x (some i)) (fun x j e => by
            by_cases ex : x = b.x
            · subst ex
              rw [upF_same] at e
              cases e
              exact ⟨b, hb, rfl⟩
            · rw [upF_ne ex] at e
              obtain ⟨b', lx, ly, g1, g2, _⟩ := h.par x j e
              exact ⟨b', g1, g2⟩) (k + 1) x ha
          rw [e] at hs
          omega
    · rw [if_neg c]; exact h
theorem Ji.ch {n : Nat} {B : List Bond} {y : Nat} {f : Nat → Int} {s : Lt} (h : Ji n B y f s) (c : Bool) : Ji n B y f { s with ch := c } := ⟨h.lo, h.at0, h.no, h.par, h.has, h.lt, h.free⟩
theorem Ji.srnd {n : Nat} {B : List Bond} {y : Nat} {f : Nat → Int} {s : Lt} (h : Ji n B y f s) (hf : Holds f B) (hw : WF n B) : ∀ k, Ji n B y f (Bd.srnd B k s)
  | 0 => h
  | k + 1 => by
    unfold Bd.srnd
    cases e : B[k]? with
    | none => exact Ji.srnd h hf hw k
    | some b => exact (Ji.srnd h hf hw k).step hf hw e
theorem lt0_L {y v : Nat} {l : Int} (e : (lt0 y).L v = some l) : v = y ∧ l = 0 := by
  unfold lt0 at e
  by_cases ev : v = y
  · subst ev
    simp only [] at e
    rw [upF_same] at e
    cases e
    exact ⟨rfl, rfl⟩
  · simp only [] at e
    rw [upF_ne ev] at e
    cases e
theorem Ji.start {n : Nat} {B : List Bond} {y : Nat} {f : Nat → Int} (hy : y < n) : Ji n B y f (lt0 y) := by
  refine ⟨fun v l e => ?_, (by unfold lt0; simp only []; exact upF_same), rfl, fun x i e => ?_, fun x l e => ?_, fun x l e => ?_, fun k x ha => ?_⟩
  · obtain ⟨rfl, rfl⟩ := lt0_L e; omega
  · cases e
  · exact .inl (lt0_L e).1
  · rw [(lt0_L e).1]; exact hy
  · obtain ⟨i, hi⟩ := ha 0 (by omega); cases hi
theorem Ji.all {n : Nat} {B : List Bond} {y : Nat} {f : Nat → Int} (hy : y < n) (hf : Holds f B) (hw : WF n B) : ∀ k, Ji n B y f (Sx B y k)
  | 0 => Ji.start hy
  | k + 1 => ((Ji.all hy hf hw k).ch false).srnd hf hw _
def sumN (g : Nat → Nat) : Nat → Nat
  | 0 => 0
  | n + 1 => sumN g n + g n
def g1 (s : Lt) (v : Nat) : Nat := match s.L v with
  | none => 1
  | some _ => 0
def g2 (f : Nat → Int) (y : Nat) (s : Lt) (v : Nat) : Nat := match s.L v with
  | none => 0
  | some l => (l - (f v - f y)).toNat
def Dn (n : Nat) (f : Nat → Int) (y : Nat) (s' s : Lt) : Prop := sumN (g1 s') n < sumN (g1 s) n ∨ (sumN (g1 s') n = sumN (g1 s) n ∧ sumN (g2 f y s') n < sumN (g2 f y s) n)
theorem Dn.trans {n : Nat} {f : Nat → Int} {y : Nat} {a b c : Lt} (h : Dn n f y a b) (g : Dn n f y b c) : Dn n f y a c := by
  unfold Dn at *
  omega
def Stable (B : List Bond) (s : Lt) : Prop := ∀ b ∈ B, ∀ l, s.L b.y = some l → ∃ lx, s.L b.x = some lx ∧ lx ≤ l + b.c
structure Chain (n : Nat) (B : List Bond) (y : Nat) (s : Lt) (x m : Nat) : Prop where
  alive : ∀ k < m, it B s.q k x ≠ y ∧ ∃ i b, s.q (it B s.q k x) = some i ∧ B[i]? = some b ∧ b.x = it B s.q k x
  at' : it B s.q m x = y
  le : m ≤ n
  lt : ∀ k ≤ m, it B s.q k x < n
  sum : s.L x = some (sm B s.q m x)
end Bd
namespace L2
open PySem PySem.Spec PyProof.Rows Bd
def oiV : Option Int → V
  | none => .non
  | some l => .int l
def ol (n : Nat) (f : Nat → Option Int) : List V := rl n fun i => oiV (f i)
open Classical in
noncomputable def finK (B : List Bond) (y : Nat) : Nat := if h : ∃ K, (Sx B y K).ch = false ∧ ∀ k < K, (Sx B y k).ch = true then choose h else 0
noncomputable def fin (B : List Bond) (y : Nat) : Lt := Sx B y (finK B y)
open Classical in
noncomputable def chm (n : Nat) (B : List Bond) (y x : Nat) : Nat := if h : ∃ m, 0 < m ∧ Chain n B y (fin B y) x m then choose h else 0
noncomputable def chainOf (n : Nat) (B : List Bond) (y x : Nat) : List Nat := ringL B (fin B y).q x (chm n B y x)
open Classical in
noncomputable def mostR (n : Nat) (B : List Bond) (x y : Nat) : Option (Int × List Nat × List V) :=
  if x = y then some (0, [], (setR n B).2) else if (fin B y).q x = none then none else
    some (sumC B (chainOf n B y x), chainOf n B y x, (setR n (B ++ [⟨y, x, -(sumC B (chainOf n B y x))⟩])).2)
def MostAt (n : Nat) (B : List Bond) (x y : Nat) (H : Hp) (v : V) : Prop := match mostR n B x y with
  | none => v = .non
  | some (c, ch, vs) => ∃ t l1 l2, v = .ref t ∧ H t = some (.tup [.int c, .ref l1, .ref l2]) ∧ H l1 = some (.lst (intsV ch)) ∧ H l2 = some (.lst vs)
structure ChainOk (B : List Bond) (R : List Nat) (x y : Nat) (u : Nat → Nat) : Prop where
  bond : ∀ k i, R[k]? = some i → ∃ b, B[i]? = some b ∧ b.x = u k ∧ b.y = u (k + 1)
  fst : u 0 = x
  lst : u R.length = y
theorem ChainOk.sum {B : List Bond} {R : List Nat} {x y : Nat} {u : Nat → Nat} (h : ChainOk B R x y u) {f : Nat → Int} (hf : Holds f B) : f x - f y ≤ sumC B R := by
  have := RingOk.sum hf h.bond R.length (Nat.le_refl _)
  rw [List.take_length, h.fst, h.lst] at this
  exact this
theorem MostAt.over {n : Nat} {B : List Bond} {x y : Nat} {H H' : Hp} {v : V} (h : MostAt n B x y H v) (e : Same H H') : MostAt n B x y H' v := by
  unfold MostAt at *
  cases c : mostR n B x y with
  | none => rw [c] at h; exact h
  | some z =>
    rw [c] at h
    obtain ⟨t, l1, l2, h0, h1, h2, h3⟩ := h
    exact ⟨t, l1, l2, h0, e _ _ h1, e _ _ h2, e _ _ h3⟩
end L2

set_option Elab.async false
set_option linter.all false
set_option maxRecDepth 100000
set_option maxHeartbeats 4000000
namespace L2
open PySem PySem.Spec PyProof.Rows
def tDict1 (tk tv : TE) : TE := fun σ H Q => ∀ p, H p = none → tk σ (upd H p (.dK [])) fun y H1 => tv σ H1 fun v H2 => ∃ k : Key, y = kV k ∧ H2 p = some (.dK []) ∧ Q (.ref p) (upd H2 p (.dK [(k, v)]))
theorem pe_dict1 {X : Cx} {a b : Expr} {ta tb : TE} {pos : Pos} (ha : PE X a ta) (hb : PE X b tb) : PE X (.Dict [some a] [b] pos) (tDict1 ta tb) := by
  intro pins s σ H Q I h
  have hf : H s.heap.objs.size = none := I.hok.fresh (Nat.le_refl _)
  have I0 := I.laid (a := s.heap.objs.size) (o := .dK []) (t' := s.toks) (fun _ _ q => Heap.get?_push_of_some _ q) (Nat.le_refl _) (dk_empty s.heap I.big)
  refine wpAny_Dict_walk (knd := mixKind X.prog X.w) rfl rfl (by simp) (by show 1 ≤ 15; decide) (pairTrees_cons_walk (thn (ha pins _ σ _ _ I0 (h _ hf)) fun kv s1 ⟨y, H1, I1, ry, q1⟩ => thn (hb pins s1 σ H1 _ I1 q1) fun vv s2 ⟨v, H2, I2, rv, k, ey, e, q2⟩ => pairTrees_nil_walk ?_))
  subst ey
  obtain ⟨z, hd, vs, rel, dd⟩ := dk_of I2.hok e
  have hv : vs = [] := by cases rel; rfl
  subst hv
  refine ⟨[(k, vv)], ⟨kV_is ry, rfl, True.intro⟩, dd, fun h' dd' hs => ?_⟩
  have he : ∃ q, h'.get? s.heap.objs.size = some q := let ⟨q, _, _, hq, _⟩ := dd'; ⟨q, hq⟩
  refine ⟨.ref s.heap.objs.size, upd H2 s.heap.objs.size (.dK [(k, v)]), d_write I2 (by rw [e]; exact True.intro) hs he (dk_new (szl (by show 1 ≤ 1000000; decide)) hd (KV.put (κ := Key) (kvs := []) (vs := []) .nil k rv) dd'), rfl, q2⟩
open Bd
def hasK (kvs : List (Key × V)) (v : Nat) : Bool := (valV kvs (Sum.inl (v : Int) : Key)).isSome
theorem any_val {kvs : List (Key × V)} {k : Key} : (kvs.any fun kv => decide (kv.1 = k)) = (valV kvs k).isSome := by
  unfold valV
  rw [Option.isSome_map, Bool.eq_iff_iff, List.find?_isSome, List.any_eq_true]
theorem put_keys {kvs : List (Key × V)} {k j : Key} {y : V} (h : j ∈ (putK kvs k y).map (·.1)) : j = k ∨ j ∈ kvs.map (·.1) := by
  obtain ⟨p, hp, rfl⟩ := List.mem_map.mp h
  unfold putK at hp
  split at hp
  · obtain ⟨q, hq, rfl⟩ := List.mem_map.mp hp
    right
    refine List.mem_map.mpr ⟨q, hq, ?_⟩
    split <;> rfl
  · rcases List.mem_append.mp hp with hp | hp
    · exact .inr (List.mem_map.mpr ⟨p, hp, rfl⟩)
    · rw [List.mem_singleton] at hp; subst hp; exact .inl rfl
theorem hasK_put {kvs : List (Key × V)} {o v : Nat} {y : V} : hasK (putK kvs (Sum.inl (o : Int)) y) v = (decide (v = o) || hasK kvs v) := by
  unfold hasK
  rw [valV_put]
  by_cases c : v = o
  · subst c; rw [if_pos rfl]; simp
  · rw [if_neg (fun z => c (by have := Sum.inl.inj z; omega))]; simp [c]
structure Known (n : Nat) (B : List Bond) (y x : Nat) (kvs : List (Key × V)) : Prop where
  nd : (kvs.map (·.1)).Nodup
  key : ∀ k ∈ kvs.map (·.1), ∃ v, v < n ∧ k = Sum.inl ((v : Nat) : Int) ∧ (((fin B y).L v).isSome = true → ((fin B y).L x).isSome = true)
  fst : hasK kvs x = true
theorem Known.le {n : Nat} {B : List Bond} {y x : Nat} {kvs : List (Key × V)} (h : Known n B y x kvs) : kvs.length ≤ n := by
  have := nodup_le h.nd (k := (List.range n).map fun v => (Sum.inl ((v : Nat) : Int) : Key)) fun k hk => by
    obtain ⟨v, hv, e, _⟩ := h.key k hk
    exact List.mem_map.mpr ⟨v, List.mem_range.mpr hv, e.symm⟩
  rwa [List.length_map, List.length_map, List.length_range] at this
theorem has_key {kvs : List (Key × V)} {v : Nat} (h : hasK kvs v = true) : (Sum.inl (v : Int) : Key) ∈ kvs.map (·.1) := by
  unfold hasK at h
  rw [← any_val, List.any_eq_true] at h
  obtain ⟨p, hp, e⟩ := h
  exact List.mem_map.mpr ⟨p, hp, of_decide_eq_true e⟩
theorem Known.reach {n : Nat} {B : List Bond} {y x : Nat} {kvs : List (Key × V)} (h : Known n B y x kvs) {v : Nat} (hv : hasK kvs v = true) (hL : ((fin B y).L v).isSome = true) : ((fin B y).L x).isSome = true := by
  obtain ⟨w, _, e, hr⟩ := h.key _ (has_key hv)
  have : v = w := by have := Sum.inl.inj e; omega
  subst this
  exact hr hL
theorem Known.put {n : Nat} {B : List Bond} {y x : Nat} {kvs : List (Key × V)} (h : Known n B y x kvs) (hst : Stable B (fin B y)) (hw : WF n B) {b : Bond} (hb : b ∈ B) (hx : hasK kvs b.x = true) (v : V) : Known n B y x (putK kvs (Sum.inl (b.y : Int)) v) := by
  refine ⟨nd_put h.nd, fun k hk => ?_, by rw [hasK_put, h.fst]; simp⟩
  rcases put_keys hk with rfl | hk
  · refine ⟨b.y, (hw b hb).2, rfl, fun hL => h.reach hx ?_⟩
    obtain ⟨l, hl⟩ := Option.isSome_iff_exists.mp hL
    obtain ⟨lx, e, _⟩ := hst b hb l hl
    rw [e]; rfl
  · exact h.key k hk
def mixF (c k : Int) : Int := ((c + 7919 * k + 1) * 48271 % 2147483647) * ((c + 7919 * k + 1) * 48271 % 2147483647) % 2147483629
theorem mix_b (c k : Int) : 0 ≤ mixF c k ∧ mixF c k < 2147483629 := ⟨Int.emod_nonneg _ (by decide), Int.emod_lt_of_pos _ (by decide)⟩
def spMix2 : Sp := fun vs H Q _ => ∃ (c k : Int), vs = [.int c, .int k] ∧ Q (.int (mixF c k)) H
def nmW (m : Int) (n : Nat) : List Nat := (List.range n).map fun k : Nat => letC (m / ((k : Int) + 9))
theorem nmW_len (m : Int) (n : Nat) : (nmW m n).length = n := by unfold nmW; rw [List.length_map, List.length_range]
def nmL (m : Int) : Nat := (m % 8).toNat
theorem nmL_b (m : Int) : nmL m ≤ 7 := by
  have := Int.emod_nonneg m (show (8 : Int) ≠ 0 by decide)
  have := Int.emod_lt_of_pos m (show (0 : Int) < 8 by decide)
  unfold nmL; omega
def nmAt (m : Int) : Nat := (m / 8 % ((nmL m : Int) + 1)).toNat
theorem nmAt_b (m : Int) : nmAt m ≤ nmL m ∧ ((nmAt m : Nat) : Int) = m / 8 % ((nmL m : Int) + 1) := by
  have := Int.emod_nonneg (m / 8) (show ((nmL m : Int) + 1) ≠ 0 by omega)
  have := Int.emod_lt_of_pos (m / 8) (show (0 : Int) < (nmL m : Int) + 1 by omega)
  unfold nmAt; omega
def nmA (m e : Int) : List Nat := (nmW m (nmL m)).take (nmAt m) ++ [letC (m / 72 + 5 * e)] ++ (nmW m (nmL m)).drop (nmAt m)
def nmB (m e : Int) : List Nat := (nmW m (nmL m) ++ cds "qrstuvwx").take (5 + e).toNat
def nmR (m e : Int) : List Nat := if m / 5003 % 4 = 1 then nmB m e else nmA m e
def nmC (m e : Int) : List Nat := if nmR m e ∈ resv then nmR m e ++ [115] else nmR m e
theorem nmA_len (m e : Int) : (nmA m e).length = nmL m + 1 := by
  unfold nmA
  have := (nmAt_b m).1
  rw [List.length_append, List.length_append, List.length_take, List.length_drop, nmW_len, List.length_singleton]
  omega
theorem q8 : (cds "qrstuvwx").length = 8 := by decide +kernel
theorem nmB_len {m e : Int} (h0 : 0 ≤ e) (h1 : e ≤ 2) : (nmB m e).length = (5 + e).toNat := by
  unfold nmB
  have := nmL_b m
  rw [List.length_take, List.length_append, nmW_len, q8]
  omega
theorem nmA_at (m e : Int) : (nmA m e)[nmAt m]? = some (letC (m / 72 + 5 * e)) := by
  unfold nmA
  have := (nmAt_b m).1
  rw [List.append_assoc, List.getElem?_append_right (by rw [List.length_take, nmW_len]; omega), List.length_take, nmW_len, show nmAt m - min (nmAt m) (nmL m) = 0 by omega]
  rfl
theorem nmR_ne {m i j : Int} (i0 : 0 ≤ i) (i1 : i ≤ 2) (j0 : 0 ≤ j) (j1 : j ≤ 2) (h : i ≠ j) : nmR m i ≠ nmR m j := fun e => by
  unfold nmR at e
  by_cases c : m / 5003 % 4 = 1
  · rw [if_pos c, if_pos c] at e
    have := congrArg List.length e
    rw [nmB_len i0 i1, nmB_len j0 j1] at this
    omega
  · rw [if_neg c, if_neg c] at e
    have := congrArg (fun l : List Nat => l[nmAt m]?) e
    simp only [nmA_at] at this
    have := Option.some.inj this
    unfold letC at this
    omega
theorem nmR_len {m i j : Int} (i0 : 0 ≤ i) (i1 : i ≤ 2) (hi : nmR m i ∈ resv) : (nmR m i).length = (nmR m j).length := by
  have h4 : ∀ l ∈ resv, l.length ≤ 4 := by decide +kernel
  unfold nmR at hi ⊢
  by_cases c : m / 5003 % 4 = 1
  · rw [if_pos c] at hi
    have := h4 _ hi
    rw [nmB_len i0 i1] at this
    omega
  · rw [if_neg c, if_neg c, nmA_len, nmA_len]
theorem nmC_ne {m i j : Int} (i0 : 0 ≤ i) (i1 : i ≤ 2) (j0 : 0 ≤ j) (j1 : j ≤ 2) (h : i ≠ j) : nmC m i ≠ nmC m j := fun e => by
  unfold nmC at e
  by_cases c1 : nmR m i ∈ resv <;> by_cases c2 : nmR m j ∈ resv
  · rw [if_pos c1, if_pos c2] at e
    exact nmR_ne i0 i1 j0 j1 h (List.append_cancel_right e)
  · rw [if_pos c1, if_neg c2] at e
    have := congrArg List.length e
    rw [List.length_append, nmR_len (j := j) i0 i1 c1] at this
    simp at this
  · rw [if_neg c1, if_pos c2] at e
    have := congrArg List.length e
    rw [List.length_append, nmR_len (j := i) j0 j1 c2] at this
    simp at this
  · rw [if_neg c1, if_neg c2] at e
    exact nmR_ne i0 i1 j0 j1 h e
theorem nmR_b {m e : Int} (h0 : 0 ≤ e) (h1 : e ≤ 2) : 1 ≤ (nmR m e).length ∧ (nmR m e).length ≤ 8 := by
  unfold nmR
  have := nmL_b m
  split
  · rw [nmB_len h0 h1]; omega
  · rw [nmA_len]; omega
theorem nmC_b {m e : Int} (h0 : 0 ≤ e) (h1 : e ≤ 2) : 1 ≤ (nmC m e).length ∧ (nmC m e).length ≤ 9 := by
  have := nmR_b (m := m) h0 h1
  unfold nmC
  split
  · rw [List.length_append]; simp; omega
  · omega
def spName : Sp := fun vs H Q _ => ∃ (c e : Int), vs = [.int c, .int e] ∧ 0 ≤ e ∧ e ≤ 2 ∧ ∀ H', Same H H' → Q (.str (sOf (nmC (mixF c 11) e))) H'
end L2

set_option Elab.async false
set_option linter.all false
set_option maxRecDepth 100000
set_option maxHeartbeats 4000000
namespace L2
open PySem PySem.Spec PyProof.Rows Bd
def PairsAt (H : Hp) (vs : List V) : Prop := ∀ v ∈ vs, ∃ (t : Addr) (z : Str) (n : Int), v = .ref t ∧ H t = some (.tup [.str z, .int n])
theorem PairsAt.over {H H' : Hp} {vs : List V} (h : PairsAt H vs) (e : Same H H') : PairsAt H' vs := fun v hv => by
  obtain ⟨t, z, n, h1, h2⟩ := h v hv
  exact ⟨t, z, n, h1, e _ _ h2⟩
def BasesAt (H : Hp) (l : Addr) : Prop := ∃ vs, H l = some (.lst vs) ∧ 0 < vs.length ∧ vs.length ≤ 100 ∧ PairsAt H vs
theorem BasesAt.over {H H' : Hp} {l : Addr} (h : BasesAt H l) (e : Same H H') : BasesAt H' l := by
  obtain ⟨vs, h1, h2, h3, h4⟩ := h
  exact ⟨vs, e _ _ h1, h2, h3, h4.over e⟩
def HeadsAt (H : Hp) (l : Addr) : Prop := ∃ vs, H l = some (.lst vs) ∧ vs.length = 3 ∧ ∀ v ∈ vs, ∃ (t : Addr) (z : Str) (m n : Int), v = .ref t ∧ H t = some (.tup [.str z, .int m, .int n]) ∧ 1 ≤ m ∧ m ≤ 3
theorem HeadsAt.over {H H' : Hp} {l : Addr} (h : HeadsAt H l) (e : Same H H') : HeadsAt H' l := by
  obtain ⟨vs, h1, h2, h3⟩ := h
  exact ⟨vs, e _ _ h1, h2, fun v hv => by obtain ⟨t, z, m, n, a, b, c⟩ := h3 v hv; exact ⟨t, z, m, n, a, e _ _ b, c⟩⟩
theorem at_mem {vs : List V} {i : Int} (h0 : 0 ≤ i) (h1 : i < (vs.length : Int)) : ∃ v ∈ vs, atI vs i = some v := by
  have e : vs[i.toNat]? = some vs[i.toNat] := List.getElem?_eq_getElem (by omega)
  refine ⟨vs[i.toNat], List.getElem_mem _, ?_⟩
  have h : atI vs ((i.toNat : Nat) : Int) = some vs[i.toNat] := atI_nat e
  rwa [Int.toNat_of_nonneg h0] at h
def SpAt (H : Hp) (p : Addr) : Prop := ∃ xs, H p = some (.tup xs) ∧ xs.length ≤ 3 ∧ PairsAt H xs
theorem SpAt.over {H H' : Hp} {p : Addr} (h : SpAt H p) (e : Same H H') : SpAt H' p := by
  obtain ⟨xs, h1, h2, h3⟩ := h
  exact ⟨xs, e _ _ h1, h2, h3.over e⟩
abbrev Reads := List (Str × Addr)
inductive TmT (H : Hp) : Nat → V → Reads → Prop
  | n {t : Addr} (i : Int) : H t = some (.tup [.str "n", .int i]) → TmT H 1 (.ref t) []
  | v {t : Addr} (z : Str) : H t = some (.tup [.str "v", .str z]) → TmT H 1 (.ref t) []
  | c {t p : Addr} (z : Str) : H t = some (.tup [.str "c", .str z, .ref p]) → SpAt H p → TmT H 1 (.ref t) [(z, p)]
  | j {t : Addr} {l r : V} {m n : Nat} {rs us : Reads} (z : Str) : z ∈ [Str.ofString "+", Str.ofString "-", Str.ofString "*"] → H t = some (.tup [.str z, l, r]) → TmT H m l rs → TmT H n r us → TmT H (m + n) (.ref t) (rs ++ us)
theorem TmT.over {H H' : Hp} (e : Same H H') {n : Nat} {x : V} {rs : Reads} (h : TmT H n x rs) : TmT H' n x rs := by
  induction h with
  | n i h => exact .n i (e _ _ h)
  | v z h => exact .v z (e _ _ h)
  | c z h hp => exact .c z (e _ _ h) (hp.over e)
  | j z hz h _ _ a b => exact .j z hz (e _ _ h) a b
theorem TmT.pos {H : Hp} {n : Nat} {x : V} {rs : Reads} (h : TmT H n x rs) : 1 ≤ n ∧ rs.length ≤ n ∧ ∀ r ∈ rs, SpAt H r.2 := by
  induction h with
  | n i h => exact ⟨Nat.le_refl _, Nat.zero_le _, fun r hr => by cases hr⟩
  | v z h => exact ⟨Nat.le_refl _, Nat.zero_le _, fun r hr => by cases hr⟩
  | c z h hp => exact ⟨Nat.le_refl _, Nat.le_refl _, fun r hr => by rw [List.mem_singleton] at hr; subst hr; exact hp⟩
  | j z hz h _ _ a b =>
    refine ⟨by omega, by rw [List.length_append]; omega, fun r hr => ?_⟩
    rcases List.mem_append.mp hr with hr | hr
    · exact a.2.2 r hr
    · exact b.2.2 r hr
inductive TmO (c : Cs) (H : Hp) : Nat → V → Reads → Prop
  | num {x dx : Addr} (i : Int) : H x = some (.ins c.n dx [("n", .int i)]) → TmO c H 1 (.ref x) []
  | val {x dx : Addr} (z : Str) : H x = some (.ins c.v dx [("name", .str z)]) → TmO c H 1 (.ref x) []
  | cel {x dx p : Addr} (z : Str) : H x = some (.ins c.c dx [("table", .str z), ("spots", .ref p)]) → TmO c H 1 (.ref x) [(z, p)]
  | joi {x dx : Addr} {l r : V} {m n : Nat} {rs us : Reads} (z : Str) : H x = some (.ins c.j dx [("sign", .str z), ("left", l), ("right", r)]) → TmO c H m l rs → TmO c H n r us → TmO c H (m + n) (.ref x) (rs ++ us)
theorem TmO.over {c : Cs} {H H' : Hp} (e : Same H H') {n : Nat} {x : V} {rs : Reads} (h : TmO c H n x rs) : TmO c H' n x rs := by
  induction h with
  | num i h => exact .num i (e _ _ h)
  | val z h => exact .val z (e _ _ h)
  | cel z h => exact .cel z (e _ _ h)
  | joi z h _ _ a b => exact .joi z (e _ _ h) a b
theorem TmO.pos {c : Cs} {H : Hp} {n : Nat} {x : V} {rs : Reads} (h : TmO c H n x rs) : 1 ≤ n ∧ rs.length ≤ n := by
  induction h with
  | num i h => exact ⟨Nat.le_refl _, Nat.zero_le _⟩
  | val z h => exact ⟨Nat.le_refl _, Nat.zero_le _⟩
  | cel z h => exact ⟨Nat.le_refl _, Nat.le_refl _⟩
  | joi z h _ _ a b => exact ⟨by omega, by rw [List.length_append]; omega⟩
def RdsAt (H : Hp) (f : Str × Addr → List V) (ys : List V) (rs : Reads) : Prop := ys.length = rs.length ∧ ∀ (i : Nat) (y : V) (r : Str × Addr), ys[i]? = some y → rs[i]? = some r → ∃ t, y = .ref t ∧ H t = some (.tup (f r))
theorem RdsAt.over {H H' : Hp} {f : Str × Addr → List V} {ys : List V} {rs : Reads} (h : RdsAt H f ys rs) (e : Same H H') : RdsAt H' f ys rs := ⟨h.1, fun i y r a b => by obtain ⟨t, x, z⟩ := h.2 i y r a b; exact ⟨t, x, e _ _ z⟩⟩
theorem RdsAt.nil {H : Hp} {f : Str × Addr → List V} : RdsAt H f [] [] := ⟨rfl, fun i y r a => by simp at a⟩
theorem RdsAt.one {H : Hp} {f : Str × Addr → List V} {t : Addr} {r : Str × Addr} (h : H t = some (.tup (f r))) : RdsAt H f [.ref t] [r] := ⟨rfl, fun i y r' a b => by
  cases i with
  | zero => cases a; cases b; exact ⟨t, rfl, h⟩
  | succ i => simp at a⟩
theorem RdsAt.app {H : Hp} {f : Str × Addr → List V} {ys zs : List V} {rs us : Reads} (h : RdsAt H f ys rs) (g : RdsAt H f zs us) : RdsAt H f (ys ++ zs) (rs ++ us) := by
  refine ⟨by rw [List.length_append, List.length_append, h.1, g.1], fun i x c hx hc => ?_⟩
  by_cases hi : i < ys.length
  · rw [List.getElem?_append_left hi] at hx
    rw [List.getElem?_append_left (by rw [← h.1]; exact hi)] at hc
    exact h.2 i x c hx hc
  · rw [List.getElem?_append_right (by omega)] at hx
    rw [List.getElem?_append_right (by rw [← h.1]; omega), ← h.1] at hc
    exact g.2 _ x c hx hc
def LpAt (H : Hp) (v : V) : Prop := ∃ (p p1 p2 : Addr) (nm b1 b2 : Str) (n1 n2 ab tn : Int), v = .ref p ∧ H p = some (.tup [.str nm, .ref p1, .ref p2, .int ab, .int tn]) ∧ H p1 = some (.tup [.str b1, .int n1]) ∧ H p2 = some (.tup [.str b2, .int n2]) ∧ 0 ≤ tn ∧ tn ≤ 2
theorem LpAt.over {H H' : Hp} {v : V} (h : LpAt H v) (e : Same H H') : LpAt H' v := by
  obtain ⟨p, p1, p2, nm, b1, b2, n1, n2, ab, tn, rfl, h0, h1, h2, h3⟩ := h
  exact ⟨p, p1, p2, nm, b1, b2, n1, n2, ab, tn, rfl, e _ _ h0, e _ _ h1, e _ _ h2, h3⟩
def StackOf (H : Hp) (l : Addr) (n : Nat) : Prop := ∃ vs, H l = some (.lst vs) ∧ vs.length = n ∧ ∀ v ∈ vs, LpAt H v
theorem StackOf.over {H H' : Hp} {l : Addr} {n : Nat} (h : StackOf H l n) (e : Same H H') : StackOf H' l n := by
  obtain ⟨vs, h1, h2, h3⟩ := h
  exact ⟨vs, e _ _ h1, h2, fun v hv => (h3 v hv).over e⟩
theorem lp_tr {K : PySem.W.Frag} {H : Hp} : ∀ {vs : List V}, (∀ v ∈ vs, LpAt H v) → ∃ ts, TrsIs K H vs ts ∧ depTs ts ≤ 2 ∧ ts.length = vs.length
  | [], _ => ⟨[], .nil, Nat.zero_le _, rfl⟩
  | v :: vs, h => by
    obtain ⟨ts, h1, h2, h3⟩ := lp_tr (K := K) (vs := vs) fun x hx => h x (List.mem_cons_of_mem _ hx)
    obtain ⟨p, p1, p2, nm, b1, b2, n1, n2, ab, tn, rfl, g0, g1, g2, _⟩ := h v List.mem_cons_self
    refine ⟨.tup [.v (.str nm), .tup [.v (.str b1), .v (.int n1)], .tup [.v (.str b2), .v (.int n2)], .v (.int ab), .v (.int tn)] :: ts, .cons (.tup (SqT.of g0) (.cons (.flat rfl) (.cons (.tup (SqT.of g1) (.cons (.flat rfl) (.cons (.flat rfl) .nil))) (.cons (.tup (SqT.of g2) (.cons (.flat rfl) (.cons (.flat rfl) .nil))) (.cons (.flat rfl) (.cons (.flat rfl) .nil)))))) h1, ?_, by rw [List.length_cons, List.length_cons, h3]⟩
    simp only [depT, depTs]
    omega
theorem dS {x y : Str} (h : x ≠ y) : decide (V.str x = V.str y) = false := decide_eq_false fun e => h (V.str.inj e)
def tchF (fl : Bool) (r : Str × Addr) : List V := [.bl fl, .str r.1, .ref r.2]
def DeedTm (c : Cs) (C : Addr) (H : Hp) (v : V) (z : Str) (p : Addr) (m : Nat) (rs : Reads) : Prop := ∃ (d dx : Addr) (v1 v2 v3 x v7 : V), v = .ref d ∧ H d = some (.ins C dx [("names", v1), ("lows", v2), ("highs", v3), ("table", .str z), ("spots", .ref p), ("term", x), ("path", v7)]) ∧ TmO c H m x rs
theorem DeedTm.over {c : Cs} {C : Addr} {H H' : Hp} {v : V} {z : Str} {p : Addr} {m : Nat} {rs : Reads} (h : DeedTm c C H v z p m rs) (e : Same H H') : DeedTm c C H' v z p m rs := by
  obtain ⟨d, dx, v1, v2, v3, x, v7, rfl, h1, h2⟩ := h
  exact ⟨d, dx, v1, v2, v3, x, v7, rfl, e _ _ h1, h2.over e⟩
def TchAt (H : Hp) (l : Addr) (z : Str) (p : Addr) (rs : Reads) : Prop := ∃ (t : Addr) (ys : List V), H l = some (.lst (.ref t :: ys)) ∧ H t = some (.tup (tchF true (z, p))) ∧ RdsAt H (tchF false) ys rs
theorem TchAt.over {H H' : Hp} {l : Addr} {z : Str} {p : Addr} {rs : Reads} (h : TchAt H l z p rs) (e : Same H H') : TchAt H' l z p rs := by
  obtain ⟨t, ys, h1, h2, h3⟩ := h
  exact ⟨t, ys, e _ _ h1, e _ _ h2, h3.over e⟩
theorem SpAt.tr {K : PySem.W.Frag} {H : Hp} {p : Addr} (h : SpAt H p) : ∃ t, TrIs K H (.ref p) t ∧ depT t ≤ 2 := by
  obtain ⟨xs, hx, _, hp⟩ := h
  have : ∀ xs : List V, PairsAt H xs → ∃ ts, TrsIs K H xs ts ∧ depTs ts ≤ 1 := by
    intro xs
    induction xs with
    | nil => intro _; exact ⟨[], .nil, Nat.zero_le _⟩
    | cons v xs ih =>
      intro hp
      obtain ⟨ts, h1, h2⟩ := ih fun x hx => hp x (List.mem_cons_of_mem _ hx)
      obtain ⟨t, z, n, rfl, ht⟩ := hp v List.mem_cons_self
      refine ⟨.tup [.v (.str z), .v (.int n)] :: ts, .cons (.tup (SqT.of ht) (.cons (.flat rfl) (.cons (.flat rfl) .nil))) h1, ?_⟩
      simp only [depT, depTs]
      omega
  obtain ⟨ts, h1, h2⟩ := this xs hp
  exact ⟨.tup ts, .tup (SqT.of hx) h1, by rw [depT]; omega⟩
structure Like2 (H : Hp) (ys zs : List V) : Prop where
  len : ys.length = zs.length
  at' : ∀ (i : Nat) (y z : V), ys[i]? = some y → zs[i]? = some z → ∃ (t u : Addr) (fl : Bool) (r : Str × Addr), y = .ref t ∧ z = .ref u ∧ H t = some (.tup (tchF fl r)) ∧ H u = some (.tup (tchF fl r)) ∧ SpAt H r.2
theorem Like2.tr {K : PySem.W.Frag} {H : Hp} : ∀ {ys zs : List V}, Like2 H ys zs → ∃ ts, TrsIs K H ys ts ∧ TrsIs K H zs ts ∧ depTs ts ≤ 3
  | [], [], _ => ⟨[], .nil, .nil, Nat.zero_le _⟩
  | [], _ :: _, h => by have := h.len; cases this
  | _ :: _, [], h => by have := h.len; cases this
  | y :: ys, z :: zs, h => by
    obtain ⟨ts, h1, h2, h3⟩ := Like2.tr (K := K) (ys := ys) (zs := zs) ⟨by have := h.len; simpa using this, fun i a b x w => h.at' (i + 1) a b (by simpa using x) (by simpa using w)⟩
    obtain ⟨t, u, fl, r, rfl, rfl, g1, g2, g3⟩ := h.at' 0 y z rfl rfl
    obtain ⟨s, s1, s2⟩ := SpAt.tr (K := K) g3
    refine ⟨.tup [.v (.bl fl), .v (.str r.1), s] :: ts, .cons (.tup (SqT.of g1) (.cons (.flat rfl) (.cons (.flat rfl) (.cons s1 .nil)))) h1, .cons (.tup (SqT.of g2) (.cons (.flat rfl) (.cons (.flat rfl) (.cons s1 .nil)))) h2, ?_⟩
    simp only [depT, depTs]
    omega
theorem Like2.over {H H' : Hp} {ys zs : List V} (h : Like2 H ys zs) (e : Same H H') : Like2 H' ys zs := ⟨h.len, fun i y z a b => by obtain ⟨t, u, fl, r, x1, x2, x3, x4, x5⟩ := h.at' i y z a b; exact ⟨t, u, fl, r, x1, x2, e _ _ x3, e _ _ x4, x5.over e⟩⟩
end L2

set_option Elab.async false
set_option linter.all false
set_option maxRecDepth 100000
set_option maxHeartbeats 4000000
namespace L2
open PySem PySem.Spec PyProof.Rows
theorem wp_below {M : Model} {A : Around} {E : Value → Shared → Prop} {s : Shared} {β : Type} {f : Nat → β → Sem (ForInStep β)} {n : Nat} {b : β} {Q : β → Shared → Prop} (I : Nat → β → Shared → Prop) (h : I 0 b s)
    (turn : ∀ i b s, i < n → I i b s → wpAny M A (f i b) (fun r s' => match r with | .yield b' => I (i + 1) b' s' | .done b' => Q b' s') E s) (fin : ∀ b s, I n b s → Q b s) : wpAny M A (forIn [:n] b f) Q E s := by
  rw [Std.Legacy.Range.forIn_eq_forIn_range']
  have key : ∀ (k i : Nat) (b : β) (s : Shared), i + k = n → I i b s → wpAny M A (forIn (List.range' i k) b f) Q E s := by
    intro k
    induction k with
    | zero => intro i b s e hi; rw [List.range'_zero, List.forIn_nil]; exact wpAny_pure (fin _ _ (by rw [← e]; exact hi))
    | succ k ih =>
      intro i b s e hi
      rw [List.range'_succ, List.forIn_cons]
      refine wpAny_bind (wpAny_mono (turn i b s (by omega) hi) (fun r s' hr => ?_) fun _ _ x => x)
      cases r with
      | done b' => exact wpAny_pure hr
      | yield b' => exact ih (i + 1) b' s' (by omega) hr
  have e : (Std.Legacy.Range.size [:n]) = n := by simp [Std.Legacy.Range.size]
  rw [e]
  exact key n 0 b s (by omega) h
section
open PySem.SeqAt
open PySem.AutoSeq1 (wpAny_loadPart')
open PySem.MeetsSeq PySem.MeetsSeq2 PySem.MeetsSeq3
theorem tuple_indexAt (l : Addr) (items : Array Value) (n : Nat) (dd : Option Addr) (sl : Array (Option Value)) (x : Value) (e : Value → Bool) (j : Nat) (hj : j < items.size) (hit : e items[j] = true) (hno : ∀ m (hm : m < items.size), m < j → e items[m] = false) :
    Meets (Builtin.«tuple.index» ⟨[.ref l, x], []⟩)
      (fun A R s => s.heap.get? l = some { cls := .type "tuple", dict := dd, data := .seq items n, slots := sl } ∧ (∀ y, y ∈ items → EqAt A.in1 s y x (e y)) ∧ R (.ok (.ret (.int j s.toks))) { s with toks := s.toks + 1 }) :=
  .of_wp fun prog w A R s h => by
    obtain ⟨hp, g, d, tk, os⟩ := s; obtain ⟨hl, he, h⟩ := h
    wp_walk using wpAny_loadPart' hl
    refine wp_below (n := min items.size items.size) (b := (none, ())) (f := fun i _ => match items[i]? with
      | some y => do
        let q ← eqBool y x
        if q = true then do
          let r ← retInt i
          pure (ForInStep.done (some r, ()))
        else pure (ForInStep.yield (none, ()))
      | _ => pure (ForInStep.yield (none, ()))) (fun i b s' => i ≤ j ∧ b.1 = none ∧ s' = ⟨hp, g, d, tk, os⟩) ⟨Nat.zero_le _, rfl, rfl⟩ (fun i b s' hi hI => ?_) (fun b s' hI => ?_)
    · obtain ⟨hij, hb, rfl⟩ := hI
      have hlt : i < items.size := by omega
      have ei : items[i]? = some items[i] := Array.getElem?_eq_getElem hlt
      simp only [ei]
      refine wpAny_bind (he _ (Array.getElem_mem hlt) prog w _ _ ?_)
      by_cases c : i = j
      · subst c
        rw [hit]
        wp_walk
        exact ⟨_, rfl, h⟩
      · rw [hno i hlt (by omega)]
        wp_walk
        exact ⟨by omega, rfl, rfl⟩
    · obtain ⟨hij, _, _⟩ := hI
      omega
end
def strE (z : Str) : Value → Bool
  | .str y _ => y == z
  | _ => false
theorem strs_get {zs : List Str} {its : List Value} (r : Vals (zs.map V.str) its) {i : Nat} {u : Value} (h : its[i]? = some u) : ∃ z t, zs[i]? = some z ∧ u = .str z t := by
  cases e : (zs.map V.str)[i]? with
  | none => rw [r.none_of e] at h; cases h
  | some v =>
    obtain ⟨u', h', ru⟩ := r.get e
    rw [h] at h'
    cases h'
    rw [List.getElem?_map] at e
    cases ez : zs[i]? with
    | none => rw [ez] at e; cases e
    | some z =>
      rw [ez] at e
      cases e
      obtain ⟨t, ht⟩ := (show ∃ t, u = Value.str z t from ru)
      exact ⟨z, t, rfl, ht⟩
def rTIndex (K : PySem.W.Frag) : V → List V → Hp → VK → Prop := fun x vs H Q => ∃ (p : Addr) (zs : List Str) (z : Str) (j : Nat), x = .ref p ∧ vs = [.str z] ∧ SqT K H p (zs.map V.str) ∧ zs[j]? = some z ∧ (∀ m < j, zs[m]? ≠ some z) ∧ Q (.int (j : Int)) H
theorem mt_tindex {X : Cx} : MtM X "tuple.index" (rTIndex X.K) := by
  intro pins s σ H x vs v us Q I rx rv h
  obtain ⟨p, zs, z, j, rfl, rfl, hq, hj, hno, q⟩ := h
  cases rx
  obtain ⟨u, rfl, ru⟩ := vals1 rv
  obtain ⟨tk, rfl⟩ := (show ∃ t, u = Value.str z t from ru)
  obtain ⟨its, r, ⟨o, e, hc, n, hd⟩, hz⟩ := I.tuple hq
  have hl := r.length
  rw [List.length_map] at hl
  have hjl : j < its.length := by have := (List.getElem?_eq_some_iff.mp hj).1; omega
  obtain ⟨cls, dd, data, sl⟩ := o
  simp only at hc hd
  subst hc hd
  have at' : ∀ m (hm : m < its.toArray.size), ∃ y t, zs[m]? = some y ∧ its.toArray[m] = .str y t := fun m hm => by
    have hm' : m < its.length := by simpa using hm
    obtain ⟨y, t, h1, h2⟩ := strs_get r (i := m) (u := its[m]) (List.getElem?_eq_getElem hm')
    exact ⟨y, t, h1, by simpa using h2⟩
  refine call_meets PySem.F.slot_tuple_index ⟨_, e, rfl⟩ PySem.F.entry_tuple_index (PySem.F.args_tuple_index_2 _ _) (tuple_indexAt p its.toArray n dd sl (.str z tk) (strE z) j (by simpa using hjl) ?_ ?_) ⟨e, fun y hy => ?_, ?_⟩
  · obtain ⟨y, t, h1, h2⟩ := at' j (by simpa using hjl)
    rw [hj] at h1
    cases h1
    rw [h2]
    exact beq_self_eq_true z
  · intro m hm hmj
    obtain ⟨y, t, h1, h2⟩ := at' m hm
    rw [h2]
    have : y ≠ z := fun e => hno m hmj (by rw [h1, e])
    exact beq_eq_false_iff_ne.mpr this
  · obtain ⟨m, hm, rfl⟩ := Array.mem_iff_getElem.mp hy
    obtain ⟨y, t, h1, h2⟩ := at' m hm
    rw [h2]
    exact PySem.SeqAt.EqAt.str_str y t z tk
  · exact ⟨.int (j : Int), H, I.tok _, ⟨_, rfl⟩, q⟩
def tBMT (r : V → List V → Hp → VK → Prop) (to : TE) (t : TA) : TE := fun σ H Q => to σ H fun x H1 => (∃ p xs, x = .ref p ∧ H1 p = some (.tup xs)) ∧ t σ H1 fun xs H2 => r x xs H2 Q
theorem tup_is {X : Cx} {pins : List (Addr × Obj)} {σ : St} {H : Hp} {s : Shared} {p : Addr} {xs : List V} (I : Inv X pins σ H s) (h : H p = some (.tup xs)) : s.TypeIs (.ref p) "tuple" ∧ ∀ a, Value.ref p = .ref a → ∃ ob, s.heap.get? a = some ob ∧ ob.dict = none := by
  obtain ⟨_, its, _, o, e, c, _, d⟩ := (show ObjOk X.prog X.w H s.heap p (.tup xs) from I.hok p _ h)
  exact ⟨⟨o, e, c⟩, fun a z => by cases z; exact ⟨o, e, d⟩⟩
theorem pe_bmT {X : Cx} {o e : Expr} {es : List Expr} {to : TE} {t : TA} {name : Str} {apos cpos : Pos} {id : String} {r : V → List V → Hp → VK → Prop} (slot : Slot "tuple" name id) (hty : typeOf (.builtin id) = pure (.type "method_descriptor")) (hm : MtM X id r) (ho : PE X o to) (ha : PA X (e :: es) t)
    (hbase : attributeBase o name X.env (eval o X.env) = eval o X.env := by rfl)
    (hfew : ((backTo cpos (starEach (e :: es) X.env)).all (fun x => !x.1) && (backToKw cpos (keywordEach [] X.env)).all (fun x => x.1.isSome) && decide ((e :: es).length + ([] : List Keyword).length + (if ([] : List Keyword).isEmpty then 0 else 1) < 30)) = true := by rfl)
    (hline : (apos.endLine == cpos.line) = true := by rfl) (hs : starEach (e :: es) X.env = (false, eval e X.env) :: starEach es X.env := by rfl) (hplain : (backTo cpos (starEach es X.env)).any (·.1) = false := by rfl) :
    PE X (.Call (.Attribute o name apos) (e :: es) [] cpos) (tBMT r to t) := by
  intro pins s σ H Q I h
  refine wpAny_Call_method_late hbase hfew hline rfl (thn (ho pins s σ H _ I h) fun v s1 hx => ?_)
  obtain ⟨x, H1, I1, r1, ⟨p, xs, rfl, hp⟩, q1⟩ := hx
  cases r1
  obtain ⟨h1, h2⟩ := tup_is I1 hp
  refine ⟨"tuple", id, PySem.F.plainAttrs_tuple, slot, hty, h1, h2, ?_⟩
  have hA := ha cpos pins s1 σ H1 _ I1 q1
  rw [hs] at hA ⊢
  refine Calls.callWith_builtin (by show (false || (backTo cpos (starEach es X.env)).any (·.1)) = false; rw [hplain] <;> rfl) (Calls.evalArgs_plain ?_)
  exact thn hA fun us s2 hy => by
    obtain ⟨vs, H2, I2, r2, q2⟩ := hy
    exact hm pins s2 σ H2 (.ref p) vs (.ref p) us Q I2 rfl r2 q2
def Whose (zs : List Str) (z : Str) (first u : Int) : Prop := (z = "" ∧ u = 0) ∨ (z ≠ "" ∧ ∃ j : Nat, zs[j]? = some z ∧ (∀ m < j, zs[m]? ≠ some z) ∧ u = first + (j : Int))
def spUnknown : Sp := fun vs H Q _ => ∃ (t nm : Addr) (z : Str) (n first : Int) (zs : List Str) (u : Int), vs = [.ref t, .ref nm, .int first] ∧ H t = some (.tup [.str z, .int n]) ∧ H nm = some (.tup (zs.map V.str)) ∧ Whose zs z first u ∧ Q (.int u) H
def spWhose : Sp := fun vs H Q _ => ∃ (nm : Addr) (z : Str) (first : Int) (zs : List Str) (u : Int), vs = [.str z, .ref nm, .int first] ∧ H nm = some (.tup (zs.map V.str)) ∧ Whose zs z first u ∧ Q (.int u) H
end L2

set_option Elab.async false
set_option linter.all false
set_option maxRecDepth 100000
set_option maxHeartbeats 4000000
namespace L2
open PySem PySem.Spec PyProof.Rows
section
variable {prog : Program} {w : World} {A : Around} {E : Value → Shared → Prop} {s : Shared}
theorem tu_ask {it t : Addr} {k : Nat} {its : Array Value} {Q : Value → Shared → Prop} (a : s.heap.IsTupleIter it t k) (b : s.heap.IsTuple t its)
    (q : wpAny (model prog w) A.in1 (match its[k]? with
        | some x => do setField (.ref it) 1 (rawInt (k + 1)); ret x
        | none => do rule (toString "tuple_iterator.__next__" ++ toString ".end"); setField (.ref it) 0 .none; Builtin.SmallTypes.stopIteration) (fun fin s' => ∃ v, fin = .done (.ret v) ∧ Q v s') E s) :
    wpAny (model prog w) A (Builtin.SmallTypes.nextOf (.ref it)) Q E s := by
  have ty := a.typeIs
  obtain ⟨o, g, c, d⟩ := a
  obtain ⟨o2, g2, -, n2, d2⟩ := b
  unfold Builtin.SmallTypes.nextOf
  apply wpAny_bind
  apply wpAny_callSpecial?_slot (name := Str.ofString "__next__") ty F.slot_tuple_iterator_next
  refine wpAny_call_entry F.slot_tuple_iterator_next ty F.entry_tuple_iterator_next ?_ (F.args_tuple_iterator_next_1 _)
  unfold Builtin.«tuple_iterator.__next__»
  wp_walk using wpAny_field g d (x := .ref t) rfl
  rw [d]
  apply wpAny_pure
  apply wpAny_pure
  apply wpAny_bind
  apply wpAny_seqItems g2 d2
  rw [show Int.toNat (k : Int) = k from rfl]
  exact wpAny_mono q (fun fin s' ⟨v, e, z⟩ => ⟨v, e, wpAny_pure z⟩) fun _ _ z => z
theorem tu_item {it t : Addr} {k : Nat} {its : Array Value} {x : Value} {Q : Value → Shared → Prop} (a : s.heap.IsTupleIter it t k) (b : s.heap.IsTuple t its) (hx : its[k]? = some x)
    (q : ∀ h', h'.IsTupleIter it t (k + 1) → Heap.SameBut it s.heap h' → Q x { s with heap := h' }) : wpAny (model prog w) A (Builtin.SmallTypes.nextOf (.ref it)) Q E s := by
  apply tu_ask a b
  obtain ⟨o, g, c, d⟩ := a
  rw [hx]
  apply wpAny_bind
  apply wpAny_setField g d (by simp)
  apply wpAny_pure
  refine ⟨x, rfl, q _ ⟨_, Heap.get?_update_self _ g ?_, ?_, ?_⟩ (Heap.SameBut.update ..)⟩
  · exact Obj.isFreed_of_fields (Obj.data_mapFields d _)
  · exact (Obj.cls_mapFields ..).trans c
  · rw [Obj.data_mapFields d]; rfl
theorem tu_end {it t : Addr} {k : Nat} {its : Array Value} {Q : Value → Shared → Prop} (hh : A.handled = none) (a : s.heap.IsTupleIter it t k) (b : s.heap.IsTuple t its) (hx : its[k]? = none)
    (q : ∀ h' e, Heap.ExtBut it s.heap h' → (∃ o, h'.get? e = some o ∧ o.cls = .type "StopIteration") → E (.ref e) { s with heap := h' }) : wpAny (model prog w) A (Builtin.SmallTypes.nextOf (.ref it)) Q E s := by
  apply tu_ask a b
  obtain ⟨o, g, c, d⟩ := a
  rw [hx]
  apply wpAny_bind
  apply wpAny_rule
  apply wpAny_bind
  apply wpAny_setField g d (by simp)
  have h1 : A.in1.handled = none := hh
  wp_walk
  unfold raiseNew
  apply wpAny_bind
  apply wpAny_handled
  rw [h1]
  show wpAny _ _ (throw _) _ _ _
  apply wpAny_throw
  exact q _ _ (((Heap.SameBut.update ..).extBut.push _).push _) ⟨_, Heap.get?_push_size _ rfl, rfl⟩
theorem drawsT (hh : A.handled = none) (it t : Addr) (ne : t ≠ it) (its : Array Value) : Draws prog w A it [it, t] its.size (fun i v => its[i]? = some v) (fun i h => h.IsTupleIter it t i ∧ h.IsTuple t its) where
  live := fun _ _ ⟨⟨o, g, _⟩, _⟩ => ⟨o, g⟩
  frame := fun _ _ _ ⟨⟨o, g, r⟩, ⟨o2, g2, r2⟩⟩ k => ⟨⟨o, k it (by simp) o g, r⟩, ⟨o2, k t (by simp) o2 g2, r2⟩⟩
  item := fun i s Q E lt ⟨a, b⟩ q => tu_item a b (Array.getElem?_eq_getElem lt) fun h' a' sb => q _ h' s.toks (Array.getElem?_eq_getElem lt) ⟨a', b.extBut sb.extBut ne⟩ sb
  done := fun s Q E ⟨a, b⟩ q => tu_end hh a b (by simp) q
end
structure ZA (z TI TO i1 i2 : Addr) (f g : List Addr) : Prop where
  zf : z ∉ f
  zg : z ∉ g
  of : TO ∉ f
  og : TO ∉ g
  nf : i2 ∉ f
  ng : i1 ∉ g
  Iz : TI ≠ z
  Oz : TO ≠ z
  az : i1 ≠ z
  bz : i2 ≠ z
  IO : TI ≠ TO
  Ia : TI ≠ i1
  Ib : TI ≠ i2
  Oa : TO ≠ i1
  Ob : TO ≠ i2
theorem mv {prog : Program} {w : World} {A : Around} {it : Addr} {f : List Addr} {n : Nat} {P : Nat → Value → Prop} {S : Nat → Heap → Prop} (D : Draws prog w A it f n P S) {k : Nat} {h h' : Heap} {a : Addr} (st : S k h) (b : Heap.ExtBut a h h') (na : a ∉ f) : S k h' :=
  D.frame k h h' st fun c hc o e => b c o (fun q => na (q ▸ hc)) e
section
variable {prog : Program} {w : World} {A : Around} {E : Value → Shared → Prop} {s : Shared}
theorem zip_draw {z TI TO i1 i2 : Addr} {f g : List Addr} {m n k : Nat} {P R : Nat → Value → Prop} {S T : Nat → Heap → Prop} (Z : ZA z TI TO i1 i2 f g) (D1 : Draws prog w A i1 f m P S) (D2 : Draws prog w A i2 g n R T) {a b : Value} {Q : Value → Shared → Prop}
    (hz : IsZip s.heap z TI TO .none) (hI : IsPair s.heap TI (.ref i1) (.ref i2)) (hO : IsPair s.heap TO a b) (s1 : S k s.heap) (s2 : T k s.heap) (le1 : k ≤ m) (le2 : k ≤ n)
    (q : k < m → k < n → ∀ x y h' tk, P k x → R k y → IsZip h' z TI TO (rawInt s.heap.objs.size) → IsPair h' TO x y → S (k + 1) h' → T (k + 1) h' → IsPair h' s.heap.objs.size x y → 
      (∀ c o, c ≠ z → c ≠ TO → c ≠ i1 → c ≠ i2 → s.heap.get? c = some o → h'.get? c = some o) → Q (.ref s.heap.objs.size) { s with heap := h', toks := tk })
    (qe : (k = m ∨ k = n) → ∀ h' e tk, (∀ c o, c ≠ z → c ≠ TO → c ≠ i1 → c ≠ i2 → s.heap.get? c = some o → h'.get? c = some o) → (∃ o, h'.get? e = some o ∧ o.cls = .type "StopIteration") → E (.ref e) { s with heap := h', toks := tk }) :
    wpAny (model prog w) A (Builtin.«zip.__next__» ⟨[.ref z], []⟩) (fun fin s' => ∃ v, fin = .done (.ret v) ∧ Q v s') E s := by
  change wpAny _ _ (field (.ref z) 2 >>= _) _ _ _
  apply wpAny_bind
  apply wpAny_field hz rfl (x := .bool false) rfl
  change wpAny _ _ (field (.ref z) 3 >>= _) _ _ _
  apply wpAny_bind
  apply wpAny_field hz rfl (x := .ref TI) rfl
  apply wpAny_bind
  apply wpAny_seqItems hI rfl
  change wpAny _ _ (Builtin.SmallTypes.ownedTupleIsFree (.ref z) >>= _) _ _ _
  apply wpAny_bind
  unfold Builtin.SmallTypes.ownedTupleIsFree
  apply wpAny_bind
  apply wpAny_field hz rfl (x := .none) rfl
  apply wpAny_pure
  simp only [if_true]
  apply wpAny_bind
  apply wpAny_rule
  apply wpAny_bind
  apply wpAny_field hz rfl (x := .ref TO) rfl
  apply wpAny_bind
  apply wpAny_setField_rec hz (by simp)
  intro hA zA bA
  have zA' : IsZip hA z TI TO .ellipsis := zA
  clear zA
  have oA : IsPair hA TO a b := bA.extBut _ _ Z.Oz hO
  have sA := mv D1 s1 bA.extBut Z.zf
  have tA := mv D2 s2 bA.extBut Z.zg
  apply wpAny_bind
  simp only [List.zipIdx_cons, List.zipIdx_nil, List.forIn_cons, List.forIn_nil]
  apply wpAny_bind
  apply wpAny_bind
  apply wpAny_onRaise
  change wpAny _ _ (Builtin.SmallTypes.nextOf (.ref i1) >>= _) _ _ _
  apply wpAny_bind
  rcases Nat.lt_or_eq_of_le le1 with l1 | rfl
  rotate_left
  · apply D1.done _ _ _ sA
    rintro h' e kp ⟨o, ge, ce⟩
    have z' : IsZip h' z TI TO .ellipsis := kp _ _ Z.az.symm zA'
    have ne : e ≠ z := fun q => by subst q; rw [z'] at ge; cases ge; simp at ce
    apply wpAny_setField_rec z' (by simp)
    intro h2 _ b2
    exact qe (.inl rfl) h2 e s.toks (fun c o c1 _ c3 _ x => b2.extBut _ _ c1 (kp _ _ c3 (bA.extBut _ _ c1 x))) ⟨o, b2.extBut _ _ ne ge, ce⟩
  apply D1.item k _ _ _ l1 sA
  intro x hB t1 px sB bB
  apply wpAny_pure
  have oB : IsPair hB TO a b := bB.extBut _ _ Z.Oa oA
  have zB : IsZip hB z TI TO .ellipsis := bB.extBut _ _ Z.az.symm zA'
  have tB := mv D2 tA bB.extBut Z.ng
  apply wpAny_bind
  apply wpAny_seqItems oB rfl
  apply wpAny_bind
  apply wpAny_updateSeq_pair oB
  intro hC oC bC
  have oC' : IsPair hC TO x b := oC
  clear oC
  have zC : IsZip hC z TI TO .ellipsis := bC.extBut _ _ Z.Oz.symm zB
  have sC := mv D1 sB bC.extBut Z.of
  have tC := mv D2 tB bC.extBut Z.og
  apply wpAny_bind
  apply wpAny_letGo
  apply wpAny_pure
  apply wpAny_bind
  apply wpAny_bind
  apply wpAny_onRaise
  change wpAny _ _ (Builtin.SmallTypes.nextOf (.ref i2) >>= _) _ _ _
  apply wpAny_bind
  have upC : ∀ c o, c ≠ z → c ≠ TO → c ≠ i1 → s.heap.get? c = some o → hC.get? c = some o := fun c o c1 c2 c3 e => bC.extBut _ _ c2 (bB.extBut _ _ c3 (bA.extBut _ _ c1 e))
  rcases Nat.lt_or_eq_of_le le2 with l2 | rfl
  rotate_left
  · apply D2.done _ _ _ tC
    rintro h' e kp ⟨o, ge, ce⟩
    have z' : IsZip h' z TI TO .ellipsis := kp _ _ Z.bz.symm zC
    have ne : e ≠ z := fun q => by subst q; rw [z'] at ge; cases ge; simp at ce
    apply wpAny_setField_rec z' (by simp)
    intro h2 _ b2
    exact qe (.inr rfl) h2 e t1 (fun c o c1 c2 c3 c4 x => b2.extBut _ _ c1 (kp _ _ c4 (upC c o c1 c2 c3 x))) ⟨o, b2.extBut _ _ ne ge, ce⟩
  apply D2.item k _ _ _ l2 tC
  intro y hD t2 py tD bD
  apply wpAny_pure
  have oD : IsPair hD TO x b := bD.extBut _ _ Z.Ob oC'
  have zD : IsZip hD z TI TO .ellipsis := bD.extBut _ _ Z.bz.symm zC
  have sD := mv D1 sC bD.extBut Z.nf
  apply wpAny_bind
  apply wpAny_seqItems oD rfl
  apply wpAny_bind
  apply wpAny_updateSeq_pair oD
  intro hE oE bE
  have oE' : IsPair hE TO x y := oE
  clear oE
  have zE : IsZip hE z TI TO .ellipsis := bE.extBut _ _ Z.Oz.symm zD
  have sE := mv D1 sD bE.extBut Z.of
  have tE := mv D2 tD bE.extBut Z.og
  have upE : ∀ c o, c ≠ z → c ≠ TO → c ≠ i1 → c ≠ i2 → s.heap.get? c = some o → hE.get? c = some o := fun c o c1 c2 c3 c4 e => bE.extBut _ _ c2 (bD.extBut _ _ c4 (upC c o c1 c2 c3 e))
  have sz : hE.objs.size = s.heap.objs.size := by rw [bE.1, bD.1, bC.1, bB.1, bA.1]
  apply wpAny_bind
  apply wpAny_letGo
  apply wpAny_pure
  apply wpAny_pure
  apply wpAny_bind
  apply wpAny_seqItems oE' rfl
  apply wpAny_bind
  refine wpAny_newTuple ?_
  change wpAny _ _ (Builtin.SmallTypes.ownedTupleHandOut (.ref z) (.ref hE.objs.size) >>= _) _ _ _
  apply wpAny_bind
  unfold Builtin.SmallTypes.ownedTupleHandOut
  have zF : IsZip (hE.push { cls := .type "tuple", data := .seq #[x, y] }) z TI TO .ellipsis := Heap.get?_push_of_some _ zE
  have pF : IsPair (hE.push { cls := .type "tuple", data := .seq #[x, y] }) hE.objs.size x y := Heap.get?_push_size _ rfl
  apply wpAny_bind
  apply wpAny_setField_rec zF (by simp)
  intro hG zG bG
  have zG' : IsZip hG z TI TO (rawInt hE.objs.size) := zG
  clear zG
  apply wpAny_setField_rec zG' (by simp)
  intro hH zH bH
  have zH' : IsZip hH z TI TO (rawInt hE.objs.size) := zH
  clear zH
  have far : hE.objs.size ≠ z := Nat.ne_of_gt (Heap.lt_size zE)
  have up : Heap.ExtBut z hE hH := fun c o c1 e => bH.extBut _ _ c1 (bG.extBut _ _ c1 (Heap.get?_push_of_some _ e))
  have pH : IsPair hH hE.objs.size x y := bH.extBut _ _ far (bG.extBut _ _ far pF)
  apply wpAny_pure
  refine ⟨_, rfl, ?_⟩
  have := q l1 l2 x y hH t2 px py (by rw [← sz]; exact zH') (up _ _ Z.Oz oE') (mv D1 sE up Z.zf) (mv D2 tE up Z.zg) (by rw [← sz]; exact pH) fun c o c1 c2 c3 c4 e => up c o c1 (upE c o c1 c2 c3 c4 e)
  rw [← sz] at this
  exact this
theorem zip_on {z TI TO i1 i2 : Addr} {f g : List Addr} {m n k : Nat} {P R : Nat → Value → Prop} {S T : Nat → Heap → Prop} (Z : ZA z TI TO i1 i2 f g) (D1 : Draws prog w A.in1 i1 f m P S) (D2 : Draws prog w A.in1 i2 g n R T) {a b : Value} {Q : Option Value → Shared → Prop}
    (hz : IsZip s.heap z TI TO .none) (hI : IsPair s.heap TI (.ref i1) (.ref i2)) (hO : IsPair s.heap TO a b) (s1 : S k s.heap) (s2 : T k s.heap) (le1 : k ≤ m) (le2 : k ≤ n)
    (q : k < m → k < n → ∀ x y h' tk, P k x → R k y → IsZip h' z TI TO (rawInt s.heap.objs.size) → IsPair h' TO x y → S (k + 1) h' → T (k + 1) h' → IsPair h' s.heap.objs.size x y → 
      (∀ c o, c ≠ z → c ≠ TO → c ≠ i1 → c ≠ i2 → s.heap.get? c = some o → h'.get? c = some o) → Q (some (.ref s.heap.objs.size)) { s with heap := h', toks := tk })
    (qe : (k = m ∨ k = n) → ∀ h' tk, (∀ c o, c ≠ z → c ≠ TO → c ≠ i1 → c ≠ i2 → s.heap.get? c = some o → h'.get? c = some o) → Q none { s with heap := h', toks := tk }) :
    wpAny (model prog w) A (pyNext (.ref z)) Q E s := by
  have ty : s.TypeIs (.ref z) "zip" := ⟨_, hz, rfl⟩
  unfold pyNext
  apply wpAny_bind
  apply wpAny_attempt
  apply wpAny_callSpecial?_slot (name := Str.ofString "__next__") ty F.slot_zip_next
  refine wpAny_call_entry F.slot_zip_next ty F.entry_zip_next (zip_draw Z D1 D2 hz hI hO s1 s2 le1 le2 ?_ ?_) (F.args_zip_next_1 _)
  · intro l1 l2 x y h' tk a1 a2 a3 a4 a5 a6 a7 a8
    exact wpAny_pure (q l1 l2 x y h' tk a1 a2 a3 a4 a5 a6 a7 a8)
  · rintro l h' e tk kp ⟨o, ge, ce⟩
    exact wpAny_bind (wpAny_isInstance (T := "StopIteration") (b := true) ⟨o, ge, ce⟩ isSubtype_stop (wpAny_pure (qe l h' tk kp)))
end
def Ity (K : PySem.W.Frag) (a b : Addr) : It :=
  ⟨fun i H => ∃ xs ys x y, SqT K H a xs ∧ SqT K H b ys ∧ xs[i]? = some x ∧ ys[i]? = some y, fun i H v H' => ∃ x y T, (∀ xs, SqT K H a xs → xs[i]? = some x) ∧ (∀ ys, SqT K H b ys → ys[i]? = some y) ∧ H T = none ∧ v = .ref T ∧ H' = upd H T (.tup [x, y]),
    fun i H => ∃ xs ys, SqT K H a xs ∧ SqT K H b ys ∧ i ≤ xs.length ∧ i ≤ ys.length ∧ (i = xs.length ∨ i = ys.length)⟩
theorem turn_zipT {P : Program} {w : World} {K : PySem.W.Frag} {elts : List Expr} {x1 : Nat} {pos : Pos} (a b z TI TO i1 i2 : Addr) (D : ZA z TI TO i1 i2 [i1, a] [i2, b]) (na : a ≠ i1) (nb : b ≠ i2) :
    Turn P w K (.Tuple elts x1 pos) (Ity K a b) [z, TI, TO, i1, i2] z (fun i h => IsZip h z TI TO .none ∧ IsPair h TI (.ref i1) (.ref i2) ∧ (∃ p q, IsPair h TO p q) ∧ h.IsTupleIter i1 a i ∧ h.IsTupleIter i2 b i) where
  mem := by simp
  obj := fun i h st c hc => by
    obtain ⟨hz, hTI, ⟨p, q, hTO⟩, h1, h2⟩ := st
    simp only [List.mem_cons, List.not_mem_nil, or_false] at hc
    rcases hc with rfl | rfl | rfl | rfl | rfl
    · exact ⟨_, hz, fun v z => by cases z⟩
    · exact ⟨_, hTI, fun v z => by cases z⟩
    · exact ⟨_, hTO, fun v z => by cases z⟩
    · obtain ⟨o, e, c, d⟩ := h1
      exact ⟨o, e, fun v z => by rw [d] at z; cases z⟩
    · obtain ⟨o, e, c, d⟩ := h2
      exact ⟨o, e, fun v z => by rw [d] at z; cases z⟩
  keep := fun i h h' st k => by
    obtain ⟨hz, hTI, ⟨p, q, hTO⟩, h1, h2⟩ := st
    exact ⟨k z (by simp) _ hz, k TI (by simp) _ hTI, ⟨p, q, k TO (by simp) _ hTO⟩, h1.at fun o e => k i1 (by simp) o e, h2.at fun o e => k i2 (by simp) o e⟩
  item := by
    intro X hP hw hK hc i pins s σ H E I hf st hg
    subst hP hw hK
    obtain ⟨xs, ys, x, y, hq1, hq2, hx, hy⟩ := hg
    obtain ⟨its1, rv1, p1, _⟩ := I.tuple hq1
    obtain ⟨its2, rv2, p2, _⟩ := I.tuple hq2
    obtain ⟨hz, hTI, ⟨pa, qa, hTO⟩, h1, h2⟩ := st
    have p1' : s.heap.IsTuple a its1.toArray := p1
    have p2' : s.heap.IsTuple b its2.toArray := p2
    have l1 := rv1.length
    have l2 := rv2.length
    obtain ⟨b1, _⟩ := List.getElem?_eq_some_iff.1 hx
    obtain ⟨b2, _⟩ := List.getElem?_eq_some_iff.1 hy
    have hn : X.A.in1.handled = none := I.ok.hd hc
    have d1 := drawsT (prog := X.prog) (w := X.w) hn i1 a na its1.toArray
    have d2 := drawsT (prog := X.prog) (w := X.w) hn i2 b nb its2.toArray
    refine zip_on (k := i) D d1 d2 hz hTI hTO ⟨h1, p1'⟩ ⟨h2, p2'⟩ (by simp; omega) (by simp; omega) (fun _ _ u v hh tk hu hv hz' hTO' h1' h2' hT hk => ⟨_, rfl, ?_⟩) fun q => absurd q (by simp; omega)
    obtain ⟨u', hu', ru⟩ := rv1.get hx
    obtain ⟨v', hv', rv⟩ := rv2.get hy
    have eu : u' = u := by simpa [hu'] using hu
    have ev : v' = v := by simpa [hv'] using hv
    subst eu ev
    refine wpAny_letOwnedTupleGo_zip hz' fun h3 hz3 hs3 => ?_
    have hTn : H s.heap.objs.size = none := I.hok.fresh (Nat.le_refl _)
    have lts : ∀ c ∈ [z, TI, TO, i1, i2], c < s.heap.objs.size := fun c hc => by
      simp only [List.mem_cons, List.not_mem_nil, or_false] at hc
      rcases hc with rfl | rfl | rfl | rfl | rfl
      · exact Heap.lt_size hz
      · exact Heap.lt_size hTI
      · exact Heap.lt_size hTO
      · obtain ⟨_, e, _⟩ := h1; exact Heap.lt_size e
      · obtain ⟨_, e, _⟩ := h2; exact Heap.lt_size e
    have I1 : Inv X pins σ (upd H s.heap.objs.size (.tup [x, y])) { s with heap := s.heap.push { cls := .type "tuple", data := .seq #[u', v'] } } := I.laid (t' := s.toks) (o := .tup [x, y]) (fun b o e => Heap.get?_push_of_some _ e) (Nat.le_refl _) ⟨szl (by show 2 ≤ 1000000; decide), [u', v'], .cons ru (.cons rv .nil), IsTupN.new _ _⟩
    have I2 : Inv X pins σ (upd H s.heap.objs.size (.tup [x, y])) { s with heap := h3, toks := tk } := by
      refine Inv.turnedL (s := { s with heap := s.heap.push { cls := .type "tuple", data := .seq #[u', v'] } }) (h' := h3) (ch := [z, TI, TO, i1, i2]) (t' := tk) I1 (fun b o hb q => ?_) (fun b hb => ?_)
      · simp only [List.mem_cons, List.not_mem_nil, or_false, not_or] at hb
        obtain ⟨n1, n2, n3, n4, n5⟩ := hb
        show h3.get? b = some o
        rw [hs3.2 b n1]
        rcases Heap.get?_push_cases q with ⟨rfl, rfl⟩ | q
        · exact hT
        · exact hk b o n1 n3 n4 n5 q
      · obtain ⟨f0, f1, f2, f3, f4, f5⟩ := hf b hb
        exact ⟨by rw [upd_ne (Nat.ne_of_lt (lts b hb))]; exact f0, f1, f2, f3, f4, f5⟩
    have k3 : ∀ c, c ≠ z → ∀ o, hh.get? c = some o → h3.get? c = some o := fun c hc o e => (hs3.2 c hc).trans e
    refine ⟨.ref s.heap.objs.size, _, I2, rfl, ⟨x, y, _, fun zs hy => by rw [I.tuple_inj hy hq1]; exact hx, fun zs hy' => by rw [I.tuple_inj hy' hq2]; exact hy, hTn, rfl, rfl⟩, ⟨hz3, k3 TI D.Iz _ (hk TI _ D.Iz D.IO D.Ia D.Ib hTI), ⟨u', v', k3 TO D.Oz _ hTO'⟩, h1'.1.at (k3 i1 D.az), h2'.1.at (k3 i2 D.bz)⟩, fun b hb => ?_⟩
    rw [upd_ne (Nat.ne_of_lt (lts b hb))]
    exact (hf b hb).1
  done := by
    intro X hP hw hK hc i pins s σ H E I hf st hg
    subst hP hw hK
    obtain ⟨xs, ys, hq1, hq2, b1, b2, hl⟩ := hg
    obtain ⟨its1, rv1, p1, _⟩ := I.tuple hq1
    obtain ⟨its2, rv2, p2, _⟩ := I.tuple hq2
    obtain ⟨hz, hTI, ⟨pa, qa, hTO⟩, h1, h2⟩ := st
    have p1' : s.heap.IsTuple a its1.toArray := p1
    have p2' : s.heap.IsTuple b its2.toArray := p2
    have l1 := rv1.length
    have l2 := rv2.length
    have hn : X.A.in1.handled = none := I.ok.hd hc
    have d1 := drawsT (prog := X.prog) (w := X.w) hn i1 a na its1.toArray
    have d2 := drawsT (prog := X.prog) (w := X.w) hn i2 b nb its2.toArray
    refine zip_on (k := i) D d1 d2 hz hTI hTO ⟨h1, p1'⟩ ⟨h2, p2'⟩ (by simp; omega) (by simp; omega) (fun e1 e2 => absurd e2 (by simp at e1 ⊢; omega)) fun _ h' tk hk => ⟨rfl, ?_⟩
    refine I.turnedL (ch := [z, TI, TO, i1, i2]) (t' := tk) (fun b o hb q => ?_) hf
    simp only [List.mem_cons, List.not_mem_nil, or_false, not_or] at hb
    obtain ⟨n1, n2, n3, n4, n5⟩ := hb
    exact hk b o n1 n3 n4 n5 q
  self := fun _ _ _ _ _ st h => by
    obtain ⟨hz, _⟩ := st
    exact wpAny_pyIter_zip hz h
theorem zip_newT (a b : Addr) (xs ys : Array Value) :
    Meets (Builtin.«zip.__new__» ⟨[.type "zip", .ref a, .ref b], []⟩) (fun _ R s => s.heap.IsTuple a xs ∧ s.heap.IsTuple b ys ∧
      ∀ h', IsZip h' (s.heap.objs.size + 4) (s.heap.objs.size + 2) (s.heap.objs.size + 3) .none → IsPair h' (s.heap.objs.size + 2) (.ref s.heap.objs.size) (.ref (s.heap.objs.size + 1)) → IsPair h' (s.heap.objs.size + 3) .none .none →
        h'.IsTupleIter s.heap.objs.size a 0 → h'.IsTupleIter (s.heap.objs.size + 1) b 0 → (∀ c o, s.heap.get? c = some o → h'.get? c = some o) → R (.ok (.ret (.ref (s.heap.objs.size + 4)))) { s with heap := h' }) :=
  .of_wp fun prog w A R s h => by
    obtain ⟨hp, g, d, tk, os⟩ := s
    obtain ⟨t1, t2, h⟩ := h
    have hs := sub_zip
    have u1 : Heap.IsTuple (Shared.heap ⟨hp, g, d, tk, os⟩) a xs := t1
    have u2 : Heap.IsTuple (Shared.heap ⟨hp.push { cls := .type "tuple_iterator", data := .fields #[.ref a, .int 0 0] }, g, d, tk, os⟩) b ys := Heap.IsTuple.push t2 _
    wp_walk using wpAny_pyIter_tuple u1, wpAny_pyIter_tuple u2
    refine ⟨_, rfl, ?_⟩
    have key : ∀ (n1 n2 n3 n4 : Nat) (h' : Heap), n1 = hp.objs.size + 1 → n2 = hp.objs.size + 2 → n3 = hp.objs.size + 3 → n4 = hp.objs.size + 4 → IsZip h' n4 n2 n3 .none → IsPair h' n2 (.ref hp.objs.size) (.ref n1) → IsPair h' n3 .none .none →
        h'.IsTupleIter hp.objs.size a 0 → h'.IsTupleIter n1 b 0 → (∀ c o, hp.get? c = some o → h'.get? c = some o) → R (.ok (.ret (.ref n4))) ⟨h', g, d, tk, os⟩ := by
      rintro _ _ _ _ h' rfl rfl rfl rfl
      exact h h'
    refine key (hp.push { cls := .type "tuple_iterator", data := .fields #[.ref a, .int 0 0] }).objs.size _ _ _ _ ?e1 ?e2 ?e3 ?e4 (Heap.get?_push_size _ rfl) ?g5 ?g6 ?g7 ?g8 ?g9
    case g5 => exact Heap.get?_push_of_some _ (Heap.get?_push_of_some _ (Heap.get?_push_size _ rfl))
    case g6 => exact Heap.get?_push_of_some _ (Heap.get?_push_size _ rfl)
    case g7 => exact ⟨_, Heap.get?_push_of_some _ (Heap.get?_push_of_some _ (Heap.get?_push_of_some _ (Heap.get?_push_of_some _ (Heap.get?_push_size _ rfl)))), rfl, rfl⟩
    case g8 => exact ⟨_, Heap.get?_push_of_some _ (Heap.get?_push_of_some _ (Heap.get?_push_of_some _ (Heap.get?_push_size _ rfl))), rfl, rfl⟩
    case g9 => exact fun c o e => Heap.get?_push_of_some _ (Heap.get?_push_of_some _ (Heap.get?_push_of_some _ (Heap.get?_push_of_some _ (Heap.get?_push_of_some _ e))))
    all_goals simp only [Heap.size_push]
def iZipT (K : PySem.W.Frag) (ta : TA) : TI := fun σ H R => ta σ H fun vs H1 => ∃ a b : Addr, vs = [.ref a, .ref b] ∧ (∃ xs, SqT K H1 a xs) ∧ (∃ ys, SqT K H1 b ys) ∧ R (Ity K a b) H1
theorem pi_zipT {X : Cx} {a b : Expr} {ta : TA} {p pos : Pos} {elts : List Expr} {x1 : Nat} {pos2 : Pos} (hg : Gl X "zip") (hm : X.mg "zip" = none) (ha : PA X [a, b] ta) (hs : starEach [a, b] X.env = [(false, eval a X.env), (false, eval b X.env)] := by rfl) (hs2 : starEach [b] X.env = [(false, eval b X.env)] := by rfl) :
    PI X (.Tuple elts x1 pos2) (.Call (.Name "zip" p) [a, b] [] pos) (iZipT X.K ta) := by
  intro pins s σ H R I h
  refine Call_ (ld_blt I hg hm boot_zip (PyProof.Rows.callWith_type1 (thn (ha pos pins s σ H _ I h) fun us s1 ⟨vs, H1, I1, r1, q1⟩ => ?_) (by rw [hs, hs2]) (by rw [hs2]; rfl)))
  obtain ⟨l1, l2, rfl, ⟨xs, hq1⟩, ⟨ys, hq2⟩, q⟩ := q1
  cases r1 with
  | cons r rr =>
    cases rr with
    | cons r' rr =>
      cases rr
      cases r
      cases r'
      obtain ⟨its1, rv1, p1, _⟩ := I1.tuple hq1
      obtain ⟨its2, rv2, p2, _⟩ := I1.tuple hq2
      have lt1 : l1 < s1.heap.objs.size := p1.lt
      have lt2 : l2 < s1.heap.objs.size := p2.lt
      refine callType_new F.called_zip (by decide) (F.typeCall_zip_2 _ _) (F.newCall_zip_2 _ _) (fun obj => F.args_object_init_3 obj _ _) F.entry_zip_new (zip_newT l1 l2 its1.toArray its2.toArray) ⟨p1, p2, fun h' hz hTI hTO h1 h2 hk => ⟨⟨_, hz, rfl⟩, ?_⟩⟩
      refine wpAny_pyIter_zip hz ?_
      refine ⟨_, [s1.heap.objs.size + 4, s1.heap.objs.size + 2, s1.heap.objs.size + 3, s1.heap.objs.size, s1.heap.objs.size + 1], _, _, H1, rfl, I1.kept (t' := s1.toks) hk, turn_zipT l1 l2 _ _ _ _ _ ⟨?_, ?_, ?_, ?_, ?_, ?_, ?_, ?_, ?_, ?_, ?_, ?_, ?_, ?_, ?_⟩ ?_ ?_, ⟨hz, hTI, ⟨_, _, hTO⟩, h1, h2⟩, fun b hb => ?_, q⟩
      case refine_18 =>
        simp only [List.mem_cons, List.not_mem_nil, or_false] at hb
        have hb' : s1.heap.objs.size ≤ b := by
          rcases hb with rfl | rfl | rfl | rfl | rfl
          · exact Nat.le_add_right _ 4
          · exact Nat.le_add_right _ 2
          · exact Nat.le_add_right _ 3
          · exact Nat.le_refl _
          · exact Nat.le_add_right _ 1
        exact I1.fpOk hb' (I1.hok.fresh hb')
      all_goals first
        | exact Nat.ne_of_lt lt1
        | exact Nat.ne_of_lt (Nat.lt_of_lt_of_le lt2 (Nat.le_add_right _ _))
        | (show (_ : Nat) ≠ _; omega)
        | (simp only [List.mem_cons, List.not_mem_nil, or_false, not_or]
           exact ⟨by show (_ : Nat) ≠ _; omega, by first
             | exact Nat.ne_of_gt lt1
             | exact Nat.ne_of_gt lt2
             | exact Nat.ne_of_gt (Nat.lt_of_lt_of_le lt1 (Nat.le_add_right _ _))
             | exact Nat.ne_of_gt (Nat.lt_of_lt_of_le lt2 (Nat.le_add_right _ _))⟩)
end L2

set_option Elab.async false
set_option linter.all false
set_option maxRecDepth 100000
set_option maxHeartbeats 4000000
namespace L2
open PySem PySem.Spec PyProof.Rows
abbrev Tri := Int × Int × Int
def TrisAt (H : Hp) (ys : List V) (B : List Tri) : Prop := ys.length = B.length ∧ ∀ (i : Nat) (y : V) (b : Tri), ys[i]? = some y → B[i]? = some b → ∃ t, y = .ref t ∧ H t = some (.tup [.int b.1, .int b.2.1, .int b.2.2])
theorem TrisAt.over {H H' : Hp} {ys : List V} {B : List Tri} (h : TrisAt H ys B) (e : Same H H') : TrisAt H' ys B := ⟨h.1, fun i y b p q => by obtain ⟨t, x, z⟩ := h.2 i y b p q; exact ⟨t, x, e _ _ z⟩⟩
theorem TrisAt.nil {H : Hp} : TrisAt H [] [] := ⟨rfl, fun i y b p => by simp at p⟩
theorem TrisAt.snoc {H : Hp} {ys : List V} {B : List Tri} {t : Addr} {b : Tri} (h : TrisAt H ys B) (ht : H t = some (.tup [.int b.1, .int b.2.1, .int b.2.2])) : TrisAt H (ys ++ [.ref t]) (B ++ [b]) := by
  refine ⟨by rw [List.length_append, List.length_append, h.1]; rfl, fun i y c p q => ?_⟩
  by_cases l : i < ys.length
  · rw [List.getElem?_append_left l] at p
    rw [List.getElem?_append_left (by rw [← h.1]; exact l)] at q
    exact h.2 i y c p q
  · have hi : i = ys.length := by
      have := (List.getElem?_eq_some_iff.mp p).1
      rw [List.length_append, List.length_singleton] at this
      omega
    subst hi
    rw [List.getElem?_append_right (Nat.le_refl _), Nat.sub_self] at p
    rw [h.1, List.getElem?_append_right (Nat.le_refl _), Nat.sub_self] at q
    cases p; cases q
    exact ⟨t, rfl, ht⟩
theorem TrisAt.get {H : Hp} {ys : List V} {B : List Tri} {i : Nat} {b : Tri} (h : TrisAt H ys B) (hb : B[i]? = some b) : ∃ t, ys[i]? = some (.ref t) ∧ H t = some (.tup [.int b.1, .int b.2.1, .int b.2.2]) := by
  have hi : i < ys.length := by rw [h.1]; exact (List.getElem?_eq_some_iff.mp hb).1
  obtain ⟨t, e, ht⟩ := h.2 i _ b (List.getElem?_eq_getElem hi) hb
  exact ⟨t, by rw [List.getElem?_eq_getElem hi, e], ht⟩
theorem TrisAt.upd {H : Hp} {ys zs xs : List V} {B : List Tri} {l : Addr} (h : TrisAt H ys B) (hl : H l = some (.lst zs)) : TrisAt (upd H l (.lst xs)) ys B := ⟨h.1, fun i y b p q => by
  obtain ⟨t, x, z⟩ := h.2 i y b p q
  exact ⟨t, x, by rw [upd_ne (ne_of z hl (by intro z; cases z))]; exact z⟩⟩
def spAreBonds : Sp := fun vs H Q _ => ∃ (l : Addr) (ys : List V) (B : List Tri), vs = [.ref l] ∧ H l = some (.lst ys) ∧ TrisAt H ys B ∧ ys.length ≤ 1000 ∧ ∀ H', Same H H' → Q (.bl true) H'
def SptAt (H : Hp) (p : Addr) (m : Nat) (z : Nat → Str) (n : Nat → Int) : Prop := ∃ xs : List V, H p = some (.tup xs) ∧ xs.length = m ∧ ∀ (i : Nat) (x : V), xs[i]? = some x → ∃ t, x = .ref t ∧ H t = some (.tup [.str (z i), .int (n i)])
theorem SptAt.over {H H' : Hp} {p : Addr} {m : Nat} {z : Nat → Str} {n : Nat → Int} (h : SptAt H p m z n) (e : Same H H') : SptAt H' p m z n := by
  obtain ⟨xs, h1, h2, h3⟩ := h
  exact ⟨xs, e _ _ h1, h2, fun i x hx => by obtain ⟨t, a, b⟩ := h3 i x hx; exact ⟨t, a, e _ _ b⟩⟩
theorem spt_snoc {H : Hp} {xs : List V} {m : Nat} {z : Nat → Str} {n : Nat → Int} {t : Addr} (hl : xs.length = m) (h : ∀ (i : Nat) (x : V), xs[i]? = some x → ∃ t, x = .ref t ∧ H t = some (.tup [.str (z i), .int (n i)])) (ht : H t = some (.tup [.str (z m), .int (n m)])) (i : Nat) (x : V) (hx : (xs ++ [V.ref t])[i]? = some x) : ∃ t, x = .ref t ∧ H t = some (.tup [.str (z i), .int (n i)]) := by
  by_cases l : i < xs.length
  · rw [List.getElem?_append_left l] at hx
    exact h i x hx
  · have hi : i = xs.length := by
      have := (List.getElem?_eq_some_iff.mp hx).1
      rw [List.length_append, List.length_singleton] at this
      omega
    subst hi
    rw [List.getElem?_append_right (Nat.le_refl _), Nat.sub_self] at hx
    cases hx
    subst hl
    exact ⟨t, rfl, ht⟩
def likeB (F G : Nat → Tri) : Nat → List Tri
  | 0 => []
  | n + 1 => likeB F G n ++ [F n] ++ [G n]
theorem likeB_len (F G : Nat → Tri) (n : Nat) : (likeB F G n).length = 2 * n := by
  induction n with
  | zero => rfl
  | succ n ih => rw [likeB, List.length_append, List.length_append, ih]; simp only [List.length_singleton]; omega
def KnAt (kvs : List (Key × V)) (f : Int) (vs : List Int) (m : Nat) : Prop := ∀ i < m, valV kvs (Sum.inl (f + (i : Int)) : Key) = some (.int (vs.getD i 0))
theorem KnAt.put {kvs : List (Key × V)} {f : Int} {vs : List Int} {m : Nat} (h : KnAt kvs f vs m) {k : Int} {y : V} (hk : ∀ i : Nat, i < m → f + (i : Int) ≠ k) : KnAt (putK kvs (Sum.inl k : Key) y) f vs m := fun i hi => by
  rw [valV_put, if_neg (fun z => hk i hi (Sum.inl.inj z))]
  exact h i hi
theorem KnAt.next {kvs : List (Key × V)} {f : Int} {vs : List Int} {m : Nat} (h : KnAt kvs f vs m) : KnAt (putK kvs (Sum.inl (f + (m : Int)) : Key) (.int (vs.getD m 0))) f vs (m + 1) := fun i hi => by
  by_cases c : i = m
  · subst c
    rw [valV_put, if_pos rfl]
  · rw [valV_put, if_neg (fun z => c (by have := Sum.inl.inj z; omega))]
    exact h i (by omega)
theorem Whose.inj {zs : List Str} {z : Str} {f u v : Int} (a : Whose zs z f u) (b : Whose zs z f v) : u = v := by
  rcases a with ⟨h, rfl⟩ | ⟨h, i, h1, h2, rfl⟩ <;> rcases b with ⟨g, rfl⟩ | ⟨g, j, g1, g2, rfl⟩
  · rfl
  · exact absurd h g
  · exact absurd g h
  · have : ¬ i < j := fun c => g2 i c h1
    have : ¬ j < i := fun c => h2 j c g1
    have : i = j := by omega
    rw [this]
end L2
namespace L2
open PySem PySem.Spec PyProof.Rows
theorem SptAt.congr {H : Hp} {p : Addr} {m : Nat} {z z' : Nat → Str} {n n' : Nat → Int} (h : SptAt H p m z n) (e : ∀ j < m, z j = z' j ∧ n j = n' j) : SptAt H p m z' n' := by
  obtain ⟨xs, h1, h2, h3⟩ := h
  refine ⟨xs, h1, h2, fun i x hx => ?_⟩
  have hi := (List.getElem?_eq_some_iff.mp hx).1
  obtain ⟨a, b⟩ := e i (by omega)
  rw [← a, ← b]
  exact h3 i x hx
end L2
namespace L2
open PySem PySem.Spec PyProof.Rows
def rCatH : R2 := fun x y H Q => ∃ (a b : Addr) (xs ys : List V), x = .ref a ∧ y = .ref b ∧ H a = some (.tup xs) ∧ H b = some (.tup ys) ∧ xs.length + ys.length ≤ sizeLine ∧ ∀ (p : Addr) (H' : Hp), Same H H' → H' p = some (.tup (xs ++ ys)) → Q (.ref p) H'
theorem op_catH {X : Cx} : OpR X (binaryOp .Add) rCatH := by
  intro pins s σ H x y v u Q I rx ry h
  obtain ⟨a, b, xs, ys, rfl, rfl, ha, hb, hz, q⟩ := h
  by_cases c : xs = []
  · subst c
    cases rx
    cases ry
    obtain ⟨its, r1, p1, _⟩ := I.tuple (SqT.of ha)
    obtain ⟨its2, r2, p2, _⟩ := I.tuple (SqT.of hb)
    obtain ⟨⟨cls, dd, data, sl⟩, ho, hc, n, hd⟩ := id p1
    obtain ⟨⟨cls2, dd2, data2, sl2⟩, ho2, hc2, n2, hd2⟩ := id p2
    simp only at hc hd hc2 hd2
    subst hc hd hc2 hd2
    have e : its = [] := r1.nil_iff.mpr rfl
    exact concat_meets ⟨_, ho, rfl⟩ ⟨_, ho2, rfl⟩ noFill_tuple_add seq_tuple_add PySem.F.slot_tuple_add PySem.F.entry_tuple_add (PySem.F.args_tuple_add_2 _ _)
      (tuple_addW0 a b its.toArray its2.toArray n n2 dd dd2 sl sl2 (by simp [e])) ⟨ho, ho2, .ref b, H, I, rfl, q b H (Same.refl _) hb⟩
  · refine op_catT pins s σ H (.ref a) (.ref b) v u Q I rx ry ⟨a, b, xs, ys, rfl, rfl, SqT.of ha, SqT.of hb, c, hz, fun z => ?_, fun z p hp => ?_⟩
    · subst z
      exact q a H (Same.refl _) (by rw [List.append_nil]; exact ha)
    · exact q p _ (same_new hp _) upd_same
end L2

set_option linter.all false
namespace Fo
inductive F (W : Type) where
  | nil : F W
  | leaf (k : Int) (pl : List (Int × Int)) (rest : F W) : F W
  | node (cut : Bool) (way : W) (sub rest : F W) : F W
structure Bo (W : Type) where
  k : Int
  sh : Nat
  ways : List (Bool × W)
  pl : List (Int × Int)
variable {W L : Type}
def HeadSh (B : List (Bo W)) (d : Nat) : Prop := ∀ c, B.head? = some c → c.sh = d
def Is : F W → List (Bo W) → Nat → Prop
  | .nil, B, _ => B = []
  | .leaf k pl rest, B, d => ∃ b B', B = b :: B' ∧ b.k = k ∧ b.pl = pl ∧ b.ways.length = d ∧ HeadSh B' d ∧ Is rest B' d
  | .node cut way sub rest, B, d => ∃ b G B', B = (b :: G) ++ B' ∧ b.ways[d]? = some (cut, way) ∧ (∀ c ∈ G, d < c.sh) ∧ HeadSh B' d ∧ Is sub (b :: G) (d + 1) ∧ Is rest B' d
section
variable (hdr : Nat → Bool → W → L) (dl : Nat → Int → List (Int × Int) → L)
end
structure Ok (B : List (Bo W)) : Prop where
  sh : ∀ b ∈ B, b.sh ≤ b.ways.length
  ln : ∀ (i : Nat) (b c : Bo W), B[i]? = some b → B[i + 1]? = some c → c.sh ≤ b.ways.length ∧ c.ways.take c.sh = b.ways.take c.sh
structure En where
  k : Int
  pl : List (Int × Int)
  path : List Int
inductive Item (W : Type) where
  | deed (k : Int) (pl : List (Int × Int)) : Item W
  | sweep (cut : Bool) (way : W) (sub : F W) : Item W
end Fo
namespace Fo
variable {W L : Type}
def app : F W → F W → F W
  | .nil, g => g
  | .leaf k pl r, g => .leaf k pl (app r g)
  | .node c w s r, g => .node c w s (app r g)
theorem HeadSh.app {B C : List (Bo W)} {d : Nat} (h : HeadSh B d) (g : HeadSh C d) : HeadSh (B ++ C) d := by
  cases B with
  | nil => exact g
  | cons b B => exact h
theorem Is.app : ∀ (f g : F W) (B C : List (Bo W)) (d : Nat), Is f B d → Is g C d → HeadSh C d → Is (app f g) (B ++ C) d
  | .nil, g, B, C, d, hf, hg, hh => by cases (show B = [] from hf); exact hg
  | .leaf k pl r, g, B, C, d, hf, hg, hh => by
    obtain ⟨b, B', rfl, h1, h2, h3, h4, h5⟩ := hf
    exact ⟨b, B' ++ C, rfl, h1, h2, h3, h4.app hh, Is.app r g B' C d h5 hg hh⟩
  | .node c w s r, g, B, C, d, hf, hg, hh => by
    obtain ⟨b, G, B', rfl, h1, h2, h3, h4, h5⟩ := hf
    exact ⟨b, G, B' ++ C, by simp, h1, h2, h3.app hh, h4, Is.app r g B' C d h5 hg hh⟩
end Fo

set_option Elab.async false
set_option linter.all false
set_option maxRecDepth 100000
set_option maxHeartbeats 4000000
namespace L2
open PySem PySem.Spec PyProof.Rows
def All2 {α : Type} (R : V → α → Prop) (xs : List V) (as : List α) : Prop := xs.length = as.length ∧ ∀ (i : Nat) (x : V) (a : α), xs[i]? = some x → as[i]? = some a → R x a
theorem All2.nil {α : Type} {R : V → α → Prop} : All2 R [] [] := ⟨rfl, fun i x a h => by simp at h⟩
theorem All2.mono {α : Type} {R S : V → α → Prop} {xs : List V} {as : List α} (h : All2 R xs as) (m : ∀ x a, R x a → S x a) : All2 S xs as := ⟨h.1, fun i x a p q => m _ _ (h.2 i x a p q)⟩
theorem All2.get {α : Type} {R : V → α → Prop} {xs : List V} {as : List α} {i : Nat} {a : α} (h : All2 R xs as) (ha : as[i]? = some a) : ∃ x, xs[i]? = some x ∧ R x a := by
  have hi : i < xs.length := by rw [h.1]; exact (List.getElem?_eq_some_iff.mp ha).1
  exact ⟨_, List.getElem?_eq_getElem hi, h.2 i _ a (List.getElem?_eq_getElem hi) ha⟩
theorem All2.get' {α : Type} {R : V → α → Prop} {xs : List V} {as : List α} {i : Nat} {x : V} (h : All2 R xs as) (hx : xs[i]? = some x) : ∃ a, as[i]? = some a ∧ R x a := by
  have hi : i < as.length := by rw [← h.1]; exact (List.getElem?_eq_some_iff.mp hx).1
  exact ⟨_, List.getElem?_eq_getElem hi, h.2 i x _ hx (List.getElem?_eq_getElem hi)⟩
theorem All2.app {α : Type} {R : V → α → Prop} {xs ys : List V} {as bs : List α} (h : All2 R xs as) (g : All2 R ys bs) : All2 R (xs ++ ys) (as ++ bs) := by
  refine ⟨by rw [List.length_append, List.length_append, h.1, g.1], fun i x a p q => ?_⟩
  by_cases l : i < xs.length
  · rw [List.getElem?_append_left l] at p
    rw [List.getElem?_append_left (by rw [← h.1]; exact l)] at q
    exact h.2 i x a p q
  · rw [List.getElem?_append_right (by omega)] at p
    rw [List.getElem?_append_right (by have := h.1; omega)] at q
    rw [h.1] at p
    exact g.2 _ x a p q
theorem All2.one {α : Type} {R : V → α → Prop} {x : V} {a : α} (h : R x a) : All2 R [x] [a] := ⟨rfl, fun i y b p q => by
  cases i with
  | zero => cases p; cases q; exact h
  | succ i => simp at p⟩
theorem All2.snoc {α : Type} {R : V → α → Prop} {xs : List V} {as : List α} {x : V} {a : α} (h : All2 R xs as) (g : R x a) : All2 R (xs ++ [x]) (as ++ [a]) := h.app (.one g)
theorem All2.cons {α : Type} {R : V → α → Prop} {xs : List V} {as : List α} {x : V} {a : α} (g : R x a) (h : All2 R xs as) : All2 R (x :: xs) (a :: as) := All2.app (.one g) h
theorem All2.drop {α : Type} {R : V → α → Prop} {xs : List V} {as : List α} (h : All2 R xs as) (n : Nat) : All2 R (xs.drop n) (as.drop n) := ⟨by rw [List.length_drop, List.length_drop, h.1], fun i x a p q => by
  rw [List.getElem?_drop] at p q
  exact h.2 _ x a p q⟩
theorem All2.take {α : Type} {R : V → α → Prop} {xs : List V} {as : List α} (h : All2 R xs as) (n : Nat) : All2 R (xs.take n) (as.take n) := ⟨by rw [List.length_take, List.length_take, h.1], fun i x a p q => by
  by_cases l : i < n
  · rw [List.getElem?_take_of_lt l] at p q
    exact h.2 _ x a p q
  · rw [List.getElem?_take_eq_none (by omega)] at p
    cases p⟩
abbrev Way := Bool × Str
abbrev Bgh := Fo.Bo Str
abbrev Frs := Fo.F Str
def WayAt (H : Hp) (x : V) (w : Way) : Prop := ∃ t, x = .ref t ∧ H t = some (.tup [.bl w.1, .str w.2])
def PrAt (H : Hp) (x : V) (p : Int × Int) : Prop := ∃ t, x = .ref t ∧ H t = some (.tup [.int p.1, .int p.2])
theorem WayAt.over {H H' : Hp} {x : V} {w : Way} (h : WayAt H x w) (e : Same H H') : WayAt H' x w := by obtain ⟨t, a, b⟩ := h; exact ⟨t, a, e _ _ b⟩
theorem PrAt.over {H H' : Hp} {x : V} {p : Int × Int} (h : PrAt H x p) (e : Same H H') : PrAt H' x p := by obtain ⟨t, a, b⟩ := h; exact ⟨t, a, e _ _ b⟩
def WaysAt (H : Hp) (l : Addr) (ws : List Way) : Prop := ∃ xs, H l = some (.lst xs) ∧ All2 (WayAt H) xs ws
def PrsAt (H : Hp) (l : Addr) (ps : List (Int × Int)) : Prop := ∃ xs, H l = some (.lst xs) ∧ All2 (PrAt H) xs ps
def PrsT (H : Hp) (l : Addr) (ps : List (Int × Int)) : Prop := ∃ xs, H l = some (.tup xs) ∧ All2 (PrAt H) xs ps
theorem WaysAt.over {H H' : Hp} {l : Addr} {ws : List Way} (h : WaysAt H l ws) (e : Same H H') : WaysAt H' l ws := by obtain ⟨xs, a, b⟩ := h; exact ⟨xs, e _ _ a, b.mono fun x w p => p.over e⟩
theorem PrsAt.over {H H' : Hp} {l : Addr} {ps : List (Int × Int)} (h : PrsAt H l ps) (e : Same H H') : PrsAt H' l ps := by obtain ⟨xs, a, b⟩ := h; exact ⟨xs, e _ _ a, b.mono fun x w p => p.over e⟩
theorem PrsT.over {H H' : Hp} {l : Addr} {ps : List (Int × Int)} (h : PrsT H l ps) (e : Same H H') : PrsT H' l ps := by obtain ⟨xs, a, b⟩ := h; exact ⟨xs, e _ _ a, b.mono fun x w p => p.over e⟩
def BoAt (H : Hp) (x : V) (b : Bgh) : Prop := ∃ t w p, x = .ref t ∧ H t = some (.tup [.int b.k, .int (b.sh : Int), .ref w, .ref p]) ∧ WaysAt H w b.ways ∧ PrsAt H p b.pl
theorem BoAt.over {H H' : Hp} {x : V} {b : Bgh} (h : BoAt H x b) (e : Same H H') : BoAt H' x b := by obtain ⟨t, w, p, a, b, c, d⟩ := h; exact ⟨t, w, p, a, e _ _ b, c.over e, d.over e⟩
def BosAt (H : Hp) (l : Addr) (B : List Bgh) : Prop := ∃ xs, H l = some (.lst xs) ∧ All2 (BoAt H) xs B
theorem BosAt.over {H H' : Hp} {l : Addr} {B : List Bgh} (h : BosAt H l B) (e : Same H H') : BosAt H' l B := by obtain ⟨xs, a, b⟩ := h; exact ⟨xs, e _ _ a, b.mono fun x w p => p.over e⟩
def FoAt (H : Hp) : List V → Frs → Prop
  | xs, .nil => xs = []
  | xs, .leaf k pl rest => ∃ t p ys, xs = .ref t :: ys ∧ H t = some (.tup [.str "deed", .int k, .ref p]) ∧ PrsT H p pl ∧ FoAt H ys rest
  | xs, .node c w sub rest => ∃ t p zs ys, xs = .ref t :: ys ∧ H t = some (.tup [.str "sweep", .bl c, .str w, .ref p]) ∧ H p = some (.tup zs) ∧ FoAt H zs sub ∧ FoAt H ys rest
theorem FoAt.over {H H' : Hp} (e : Same H H') : ∀ {f : Frs} {xs : List V}, FoAt H xs f → FoAt H' xs f
  | .nil, xs, h => h
  | .leaf k pl rest, xs, h => by
    obtain ⟨t, p, ys, a, b, c, d⟩ := h
    exact ⟨t, p, ys, a, e _ _ b, c.over e, FoAt.over e d⟩
  | .node c w sub rest, xs, h => by
    obtain ⟨t, p, zs, ys, a, b, c, d, g⟩ := h
    exact ⟨t, p, zs, ys, a, e _ _ b, e _ _ c, FoAt.over e d, FoAt.over e g⟩
def FoT (H : Hp) (p : Addr) (f : Frs) : Prop := ∃ xs, H p = some (.tup xs) ∧ FoAt H xs f
theorem FoT.over {H H' : Hp} {p : Addr} {f : Frs} (h : FoT H p f) (e : Same H H') : FoT H' p f := by obtain ⟨xs, a, b⟩ := h; exact ⟨xs, e _ _ a, FoAt.over e b⟩
end L2

set_option Elab.async false
set_option linter.all false
set_option maxRecDepth 100000
set_option maxHeartbeats 4000000
namespace L2
open PySem PySem.Spec PyProof.Rows
def TK (H H' : Hp) : Prop := ∀ (b : Addr) (xs : List V), H b = some (.tup xs) → H' b = some (.tup xs)
theorem TK.refl (H : Hp) : TK H H := fun _ _ h => h
theorem TK.trans {H H' H'' : Hp} (a : TK H H') (b : TK H' H'') : TK H H'' := fun x xs h => b x xs (a x xs h)
theorem Same.tk {H H' : Hp} (e : Same H H') : TK H H' := fun b xs h => e b _ h
theorem TK.upd {H : Hp} {l : Addr} {xs : List V} {o : HO} (hl : H l = some (.lst xs)) : TK H (upd H l o) := fun b ys hb => by
  rw [upd_ne (ne_of hb hl (by intro z; cases z))]
  exact hb
theorem WayAt.tk {H H' : Hp} {x : V} {w : Way} (h : WayAt H x w) (e : TK H H') : WayAt H' x w := by obtain ⟨t, a, b⟩ := h; exact ⟨t, a, e _ _ b⟩
theorem PrAt.tk {H H' : Hp} {x : V} {w : Int × Int} (h : PrAt H x w) (e : TK H H') : PrAt H' x w := by obtain ⟨t, a, b⟩ := h; exact ⟨t, a, e _ _ b⟩
theorem PrsT.tk {H H' : Hp} {l : Addr} {ps : List (Int × Int)} (h : PrsT H l ps) (e : TK H H') : PrsT H' l ps := by obtain ⟨xs, a, b⟩ := h; exact ⟨xs, e _ _ a, b.mono fun x w p => p.tk e⟩
theorem FoAt.tk {H H' : Hp} (e : TK H H') : ∀ {f : Frs} {xs : List V}, FoAt H xs f → FoAt H' xs f
  | .nil, xs, h => h
  | .leaf k pl rest, xs, h => by
    obtain ⟨t, p, ys, a, b, c, d⟩ := h
    exact ⟨t, p, ys, a, e _ _ b, c.tk e, FoAt.tk e d⟩
  | .node c w sub rest, xs, h => by
    obtain ⟨t, p, zs, ys, a, b, c, d, g⟩ := h
    exact ⟨t, p, zs, ys, a, e _ _ b, e _ _ c, FoAt.tk e d, FoAt.tk e g⟩
theorem FoT.tk {H H' : Hp} {p : Addr} {f : Frs} (h : FoT H p f) (e : TK H H') : FoT H' p f := by obtain ⟨xs, a, b⟩ := h; exact ⟨xs, e _ _ a, FoAt.tk e b⟩
theorem FoAt.app {H : Hp} : ∀ {f g : Frs} {xs ys : List V}, FoAt H xs f → FoAt H ys g → FoAt H (xs ++ ys) (Fo.app f g)
  | .nil, g, xs, ys, h, k => by cases (show xs = [] from h); exact k
  | .leaf k pl rest, g, xs, ys, h, hg => by
    obtain ⟨t, p, zs, rfl, b, c, d⟩ := h
    exact ⟨t, p, zs ++ ys, rfl, b, c, FoAt.app d hg⟩
  | .node c w sub rest, g, xs, ys, h, hg => by
    obtain ⟨t, p, zs, us, rfl, b, c, d, k⟩ := h
    exact ⟨t, p, zs, us ++ ys, rfl, b, c, d, FoAt.app k hg⟩
def ways3 : List Str := ["up", "down", "any"]
structure GoodB (b : Bgh) : Prop where
  len : b.ways.length ≤ 6
  pll : b.pl.length = b.ways.length
  shl : b.sh ≤ b.ways.length
  wy : ∀ w ∈ b.ways, w.2 ∈ ways3
  k0 : 0 ≤ b.k
  k5 : b.k ≤ 5
  pr : ∀ p ∈ b.pl, 0 ≤ p.1 ∧ p.1 ≤ 2 ∧ -200000000000000000 ≤ p.2 ∧ p.2 ≤ 200000000000000000
structure GoodBs (B : List Bgh) : Prop where
  ok : Fo.Ok B
  fst : ∀ b, B.head? = some b → b.sh = 0
  all : ∀ b ∈ B, GoodB b
  len : B.length ≤ 6
structure From (B : List Bgh) (d n : Nat) : Prop where
  ok : Fo.Ok B
  sh : ∀ i c, B[i + 1]? = some c → d ≤ c.sh
  lo : ∀ b ∈ B, d ≤ b.ways.length
  hi : ∀ b ∈ B, b.ways.length ≤ d + n
  pl : ∀ b ∈ B, b.pl.length ≤ 6
  len : B.length ≤ 6
theorem From.of {B : List Bgh} (h : GoodBs B) : From B 0 6 := ⟨h.ok, fun _ _ _ => Nat.zero_le _, fun _ _ => Nat.zero_le _, fun b hb => by have := (h.all b hb).len; omega, fun b hb => by have := h.all b hb; have := this.pll; have := (h.all b hb).len; omega, h.len⟩
def ME (t : TE) : Prop := ∀ (σ : St) (H : Hp) (Q Q' : VK), (∀ v H1, Q v H1 → Q' v H1) → t σ H Q → t σ H Q'
def MT (t : TT) : Prop := ∀ σ H Q Q', (∀ b H1, Q b H1 → Q' b H1) → t σ H Q → t σ H Q'
def MA (t : TA) : Prop := ∀ σ H Q Q', (∀ b H1, Q b H1 → Q' b H1) → t σ H Q → t σ H Q'
def MR (r : R2) : Prop := ∀ (x y : V) (H : Hp) (Q Q' : VK), (∀ v H1, Q v H1 → Q' v H1) → r x y H Q → r x y H Q'
def MS (sp : Sp) : Prop := ∀ vs H Q Q' E, (∀ v H1, Q v H1 → Q' v H1) → sp vs H Q E → sp vs H Q' E
def MB (r : List V → Hp → VK → Prop) : Prop := ∀ (vs : List V) (H : Hp) (Q Q' : VK), (∀ v H1, Q v H1 → Q' v H1) → r vs H Q → r vs H Q'
theorem ME.c (v : V) : ME (tC v) := fun σ H Q Q' hq h => hq _ _ h
theorem ME.op {r : R2} {a b : TE} (hr : MR r) (ha : ME a) (hb : ME b) : ME (tOp r a b) := fun σ H Q Q' hq h => ha _ _ _ _ (fun x H1 k => hb _ _ _ _ (fun y H2 k => hr _ _ _ _ _ hq k) k) h
theorem ME.lst {t : TA} (h : MA t) : ME (tLst t) := fun σ H Q Q' hq k => h _ _ _ _ (fun xs H1 m => ⟨m.1, fun p hp => hq _ _ (m.2 p hp)⟩) k
theorem ME.call {sp : Sp} {dvs : List V} {E : XK} {t : TA} (hs : MS sp) (h : MA t) : ME (tCall sp dvs E t) := fun σ H Q Q' hq k => h _ _ _ _ (fun xs H1 m => hs _ _ _ _ _ hq m) k
theorem MA.nil : MA tNil := fun σ H Q Q' hq h => hq _ _ h
theorem MA.cons {t : TE} {u : TA} (ht : ME t) (hu : MA u) : MA (tCons t u) := fun σ H Q Q' hq h => ht _ _ _ _ (fun x H1 k => hu _ _ _ _ (fun xs H2 m => hq _ _ m) k) h
theorem MT.b {t : TE} (h : ME t) : MT (tB t) := fun σ H Q Q' hq k => h _ _ _ _ (fun x H1 ⟨b, e, m⟩ => ⟨b, e, hq _ _ m⟩) k
theorem MT.not {t : TT} (h : MT t) : MT (tNot t) := fun σ H Q Q' hq k => h _ _ _ _ (fun x H1 m => hq _ _ m) k
theorem MT.and {t u : TT} (h : MT t) (g : MT u) : MT (tAnd t u) := fun σ H Q Q' hq k => h _ _ _ _ (fun c H1 m => by
  cases c with
  | true => exact g _ _ _ _ hq m
  | false => exact hq _ _ m) k
theorem MR.i (C : Int → Int → Prop) (g : Int → Int → V) : MR (rI C g) := fun x y H Q Q' hq ⟨i, j, a, b, c, d⟩ => ⟨i, j, a, b, c, hq _ _ d⟩
theorem MR.i0 (g : Int → Int → V) : MR (rI0 g) := fun x y H Q Q' hq ⟨i, j, a, b, d⟩ => ⟨i, j, a, b, hq _ _ d⟩
theorem MR.eq : MR rEq := fun x y H Q Q' hq ⟨a, b⟩ => ⟨a, hq _ _ b⟩
theorem MR.ne : MR rNe := fun x y H Q Q' hq ⟨a, b⟩ => ⟨a, hq _ _ b⟩
theorem MB.len {P R : Hp → Addr → List V → Prop} : MB (fun xs H Q => ∃ p ys, xs = [V.ref p] ∧ (P H p ys ∨ R H p ys) ∧ Q (V.int (ys.length : Int)) H) := fun vs H Q Q' hq ⟨p, ys, a, b, c⟩ => ⟨p, ys, a, b, hq _ _ c⟩
def PrN (n : Int) (p : Int × Int) : Prop := 0 ≤ p.1 ∧ p.1 < n ∧ -200000000000000000 ≤ p.2 ∧ p.2 ≤ 200000000000000000
structure BgSt (H0 H' : Hp) (le wy pl : Addr) (n : Int) (L : List Int) (xs : List V) (ws : List Way) (ys : List V) (ps : List (Int × Int)) : Prop where
  same : Same H0 H'
  fl : H0 le = none
  fw : H0 wy = none
  fp : H0 pl = none
  lw : le ≠ wy
  lp : le ≠ pl
  wp : wy ≠ pl
  hl : H' le = some (.lst (L.map V.int))
  hw : H' wy = some (.lst xs)
  hp : H' pl = some (.lst ys)
  aw : All2 (WayAt H') xs ws
  ap : All2 (PrAt H') ys ps
  rl : ∀ x ∈ L, 0 ≤ x ∧ x < n
  rp : ∀ p ∈ ps, PrN n p
  le : ws.length = ps.length
  six : L.length + ws.length ≤ 6
theorem BgSt.mono {H0 H' H2 : Hp} {le wy pl : Addr} {n : Int} {L : List Int} {xs : List V} {ws : List Way} {ys : List V} {ps : List (Int × Int)} (h : BgSt H0 H' le wy pl n L xs ws ys ps) (e : Same H' H2) : BgSt H0 H2 le wy pl n L xs ws ys ps :=
  ⟨h.same.trans e, h.fl, h.fw, h.fp, h.lw, h.lp, h.wp, e _ _ h.hl, e _ _ h.hw, e _ _ h.hp, h.aw.mono fun x w p => p.over e, h.ap.mono fun x w p => p.over e, h.rl, h.rp, h.le, h.six⟩
theorem BgSt.step {H0 H' H2 : Hp} {le wy pl r : Addr} {n : Int} {L L' : List Int} {xs : List V} {ws : List Way} {ys : List V} {ps : List (Int × Int)} {x : V} {w : Way} {p : Int × Int} (h : BgSt H0 H' le wy pl n L xs ws ys ps) (hx : WayAt H' x w)
    (k2 : ∀ b o, b ≠ le → (upd H' wy (.lst (xs ++ [x]))) b = some o → H2 b = some o) (hle : H2 le = some (.lst (L'.map V.int))) (hr : H2 r = some (.tup [.int p.1, .int p.2])) (hp : PrN n p) (hL : ∀ x ∈ L', x ∈ L) (h6 : L'.length + (ws.length + 1) ≤ 6) :
    BgSt H0 (upd H2 pl (.lst (ys ++ [.ref r]))) le wy pl n L' (xs ++ [x]) (ws ++ [w]) (ys ++ [.ref r]) (ps ++ [p]) := by
  have hpl : H2 pl = some (.lst ys) := k2 pl _ h.lp.symm (by rw [upd_ne h.wp.symm]; exact h.hp)
  have tk : TK H' H2 := fun b zs hb => by
    have nw : b ≠ wy := ne_of hb h.hw (by intro z; cases z)
    have nl : b ≠ le := ne_of hb h.hl (by intro z; cases z)
    exact k2 b _ nl (by rw [upd_ne nw]; exact hb)
  have tk2 := tk.trans (TK.upd (o := .lst (ys ++ [V.ref r])) hpl)
  have nr : r ≠ pl := ne_of hr hpl (by intro z; cases z)
  refine ⟨fun b o hb => ?_, h.fl, h.fw, h.fp, h.lw, h.lp, h.wp, by rw [upd_ne h.lp]; exact hle, ?_, upd_same, ?_, ?_, fun x hx => h.rl x (hL x hx), fun q hq => ?_, by rw [List.length_append, List.length_append, h.le]; rfl, by rw [List.length_append]; exact h6⟩
  · rw [upd_ne (ne_of_none hb h.fp)]
    exact k2 b o (ne_of_none hb h.fl) (by rw [upd_ne (ne_of_none hb h.fw)]; exact h.same _ _ hb)
  · rw [upd_ne h.wp]
    exact k2 wy _ h.lw.symm upd_same
  · exact (h.aw.mono fun y v q => q.tk tk2).snoc (hx.tk tk2)
  · exact (h.ap.mono fun y v q => q.tk tk2).snoc ⟨r, rfl, by rw [upd_ne nr]; exact hr⟩
  · rcases List.mem_append.mp hq with hq | hq
    · exact h.rp q hq
    · rw [List.mem_singleton] at hq; subst hq; exact hp

theorem Fo.Ok.snoc {B : List Bgh} {b : Bgh} (h : Fo.Ok B) (h1 : b.sh ≤ b.ways.length) (h2 : ∀ c, B.getLast? = some c → b.sh ≤ c.ways.length ∧ b.ways.take b.sh = c.ways.take b.sh) : Fo.Ok (B ++ [b]) := by
  refine ⟨fun c hc => ?_, fun i c e hc he => ?_⟩
  · rcases List.mem_append.mp hc with hc | hc
    · exact h.sh c hc
    · rw [List.mem_singleton] at hc; subst hc; exact h1
  · have le := (List.getElem?_eq_some_iff.mp he).1
    rw [List.length_append, List.length_singleton] at le
    rw [List.getElem?_append_left (by omega)] at hc
    by_cases z : i + 1 < B.length
    · rw [List.getElem?_append_left z] at he
      exact h.ln i c e hc he
    · have hi : i + 1 = B.length := by omega
      rw [hi, List.getElem?_append_right (Nat.le_refl _), Nat.sub_self] at he
      cases he
      refine h2 c ?_
      rw [List.getLast?_eq_getElem?, show B.length - 1 = i by omega]
      exact hc
def lastW (B : List Bgh) : List Way := (B.getLast?.map (·.ways)).getD []
theorem GoodBs.snoc {B : List Bgh} {b : Bgh} (h : Fo.Ok B ∧ (∀ b, B.head? = some b → b.sh = 0) ∧ ∀ b ∈ B, GoodB b) (g : GoodB b) (h1 : b.sh ≤ (lastW B).length) (h2 : b.ways.take b.sh = (lastW B).take b.sh) : Fo.Ok (B ++ [b]) ∧ (∀ c, (B ++ [b]).head? = some c → c.sh = 0) ∧ ∀ c ∈ B ++ [b], GoodB c := by
  obtain ⟨a1, a2, a3⟩ := h
  refine ⟨Fo.Ok.snoc a1 g.shl fun c hc => ?_, fun c hc => ?_, fun c hc => ?_⟩
  · unfold lastW at h1 h2
    rw [hc] at h1 h2
    exact ⟨h1, h2⟩
  · cases B with
    | nil => cases hc; exact Nat.le_zero.mp h1
    | cons x B => exact a2 c hc
  · rcases List.mem_append.mp hc with hc | hc
    · exact a3 c hc
    · rw [List.mem_singleton] at hc; subst hc; exact g
theorem seq_asgC {v : V} {i : Nat} {b : TS} {D : Ends} {σ : St} {H : Hp} (h : b D (σ.set i (some v)) H) : tSeq (tAsg (tC v) (gName i)) b D σ H := h
end L2

set_option Elab.async false
set_option linter.all false
set_option maxRecDepth 100000
set_option maxHeartbeats 4000000
namespace L2
open PySem PySem.Spec PyProof.Rows
structure Lp where
  nm : Str
  lz : Str
  ln : Int
  hz : Str
  hn : Int
  ab : Int
  tn : Int
def LpIs (H : Hp) (v : V) (q : Lp) : Prop := ∃ p p1 p2, v = .ref p ∧ H p = some (.tup [.str q.nm, .ref p1, .ref p2, .int q.ab, .int q.tn]) ∧ H p1 = some (.tup [.str q.lz, .int q.ln]) ∧ H p2 = some (.tup [.str q.hz, .int q.hn])
theorem LpIs.over {H H' : Hp} {v : V} {q : Lp} (h : LpIs H v q) (e : Same H H') : LpIs H' v q := by obtain ⟨p, p1, p2, a, b, c, d⟩ := h; exact ⟨p, p1, p2, a, e _ _ b, e _ _ c, e _ _ d⟩
theorem LpIs.tk {H H' : Hp} {v : V} {q : Lp} (h : LpIs H v q) (e : TK H H') : LpIs H' v q := by obtain ⟨p, p1, p2, a, b, c, d⟩ := h; exact ⟨p, p1, p2, a, e _ _ b, e _ _ c, e _ _ d⟩
def Bs (S : List Lp) (z : Str) : Prop := z = "" ∨ ∃ r ∈ S, z = r.nm
def StIs (H : Hp) (st : Addr) (S : List Lp) : Prop := ∃ vs, H st = some (.lst vs) ∧ All2 (LpIs H) vs S
theorem StIs.over {H H' : Hp} {st : Addr} {S : List Lp} (h : StIs H st S) (e : Same H H') : StIs H' st S := by obtain ⟨vs, a, b⟩ := h; exact ⟨vs, e _ _ a, b.mono fun x q z => z.over e⟩
def nmF (c e : Int) : Str := sOf (nmC (mixF c 11) e)
def NewLp (S : List Lp) (c : Int) (q : Lp) : Prop := q.nm = nmF c (((S.length : Int) + q.tn) % 3) ∧ 0 ≤ q.tn ∧ q.tn ≤ 2 ∧ (∀ r, S.head? = some r → q.tn = r.tn) ∧ Bs S q.lz ∧ Bs S q.hz
def spLoop52 : Sp := fun vs H Q _ => ∃ (n far c : Int) (st : Addr) (S : List Lp), vs = [.int n, .int far, .ref st, .int c] ∧ 0 ≤ n ∧ StIs H st S ∧ S.length ≤ 10 ∧ (∀ r ∈ S, 0 ≤ r.tn ∧ r.tn ≤ 2) ∧ ∀ (x : V) (H' : Hp) (q : Lp), Same H H' → LpIs H' x q → NewLp S c q → Q x H'
def BsAt (H : Hp) (S : List Lp) (vs : List V) : Prop := ∀ v ∈ vs, ∃ (t : Addr) (z : Str) (n : Int), v = .ref t ∧ H t = some (.tup [.str z, .int n]) ∧ Bs S z
theorem BsAt.over {H H' : Hp} {S : List Lp} {vs : List V} (h : BsAt H S vs) (e : Same H H') : BsAt H' S vs := fun v hv => by
  obtain ⟨t, z, n, a, b, c⟩ := h v hv
  exact ⟨t, z, n, a, e _ _ b, c⟩
structure SOk (S : List Lp) (c : Int) : Prop where
  len : S.length ≤ 3
  tn : ∃ t : Int, 0 ≤ t ∧ t ≤ 2 ∧ ∀ (i : Nat) (q : Lp), S[i]? = some q → q.tn = t ∧ q.nm = nmF c (((i : Int) + t) % 3)
  bs : ∀ (i : Nat) (q : Lp), S[i]? = some q → Bs (S.take i) q.lz ∧ Bs (S.take i) q.hz
theorem SOk.nil (c : Int) : SOk [] c := ⟨Nat.zero_le _, ⟨0, by decide, by decide, fun i q h => by simp at h⟩, fun i q h => by simp at h⟩
theorem SOk.snoc {S : List Lp} {c : Int} {q : Lp} (h : SOk S c) (l : S.length < 3) (g : NewLp S c q) : SOk (S ++ [q]) c := by
  obtain ⟨g1, g2, g3, g4, g5, g6⟩ := g
  obtain ⟨t, t0, t1, ht⟩ := h.tn
  have tq : S = [] ∨ q.tn = t := by
    cases S with
    | nil => exact .inl rfl
    | cons r S => exact .inr ((g4 r rfl).trans (ht 0 r rfl).1)
  have get : ∀ (i : Nat) (r : Lp), (S ++ [q])[i]? = some r → (i < S.length ∧ S[i]? = some r) ∨ (i = S.length ∧ r = q) := fun i r hr => by
    by_cases c : i < S.length
    · rw [List.getElem?_append_left c] at hr
      exact .inl ⟨c, hr⟩
    · have : i = S.length := by
        have := (List.getElem?_eq_some_iff.mp hr).1
        rw [List.length_append, List.length_singleton] at this
        omega
      subst this
      rw [List.getElem?_append_right (Nat.le_refl _), Nat.sub_self] at hr
      cases hr
      exact .inr ⟨rfl, rfl⟩
  refine ⟨by rw [List.length_append, List.length_singleton]; omega, ⟨q.tn, g2, g3, fun i r hr => ?_⟩, fun i r hr => ?_⟩
  · rcases get i r hr with ⟨hi, hr⟩ | ⟨rfl, rfl⟩
    · rcases tq with rfl | e
      · simp at hr
      · rw [e]; exact ht i r hr
    · exact ⟨rfl, g1⟩
  · rcases get i r hr with ⟨hi, hr⟩ | ⟨rfl, rfl⟩
    · rw [List.take_append_of_le_length (by omega)]
      exact h.bs i r hr
    · rw [List.take_append_of_le_length (Nat.le_refl _), List.take_length]
      exact ⟨g5, g6⟩
def nmsOf (S : List Lp) : List Str := S.map (·.nm)
theorem nms_nd {S : List Lp} {c : Int} (h : SOk S c) : (nmsOf S).Nodup := by
  obtain ⟨t, t0, t1, ht⟩ := h.tn
  have hl := h.len
  unfold nmsOf
  rw [List.nodup_iff_pairwise_ne, List.pairwise_iff_getElem]
  intro i j hi hj hij e
  rw [List.length_map] at hi hj
  rw [List.getElem_map, List.getElem_map, (ht i _ (List.getElem?_eq_getElem hi)).2, (ht j _ (List.getElem?_eq_getElem hj)).2] at e
  have e := congrArg cds e
  unfold nmF at e
  rw [cds_sOf, cds_sOf] at e
  have a0 := Int.emod_nonneg ((i : Int) + t) (show (3 : Int) ≠ 0 by decide)
  have a1 := Int.emod_lt_of_pos ((i : Int) + t) (show (0 : Int) < 3 by decide)
  have b0 := Int.emod_nonneg ((j : Int) + t) (show (3 : Int) ≠ 0 by decide)
  have b1 := Int.emod_lt_of_pos ((j : Int) + t) (show (0 : Int) < 3 by decide)
  exact nmC_ne (by omega) (by omega) (by omega) (by omega) (fun z => by omega) e
theorem nms_ne {S : List Lp} {c : Int} (h : SOk S c) : ∀ z ∈ nmsOf S, z ≠ "" := fun z hz e => by
  obtain ⟨t, t0, t1, ht⟩ := h.tn
  unfold nmsOf at hz
  obtain ⟨q, hq, rfl⟩ := List.mem_map.mp hz
  obtain ⟨i, hi⟩ := List.mem_iff_getElem?.mp hq
  rw [(ht i q hi).2] at e
  have := congrArg (fun z => (cds z).length) e
  unfold nmF at this
  rw [cds_sOf] at this
  have a0 := Int.emod_nonneg ((i : Int) + t) (show (3 : Int) ≠ 0 by decide)
  have a1 := Int.emod_lt_of_pos ((i : Int) + t) (show (0 : Int) < 3 by decide)
  have b := (nmC_b (m := mixF c 11) (e := ((i : Int) + t) % 3) (by omega) (by omega)).1
  have : (nmC (mixF c 11) (((i : Int) + t) % 3)).length = 0 := this
  omega
theorem bs_at {S : List Lp} {i : Nat} {z : Str} (h : Bs (S.take i) z) : z = "" ∨ ∃ j : Nat, j < i ∧ (nmsOf S)[j]? = some z := by
  rcases h with h | ⟨r, hr, rfl⟩
  · exact .inl h
  · obtain ⟨j, hj⟩ := List.mem_iff_getElem?.mp hr
    have l := (List.getElem?_eq_some_iff.mp hj).1
    rw [List.length_take] at l
    rw [List.getElem?_take_of_lt (by omega)] at hj
    exact .inr ⟨j, by omega, by unfold nmsOf; rw [List.getElem?_map, hj]; rfl⟩
theorem whose_at {zs : List Str} {j : Nat} {z : Str} (nd : zs.Nodup) (ne : ∀ z ∈ zs, z ≠ "") (h : zs[j]? = some z) (first : Int) : Whose zs z first (first + (j : Int)) := by
  refine .inr ⟨ne z (List.mem_of_getElem? h), j, h, fun m hm e => ?_, rfl⟩
  obtain ⟨l1, e1⟩ := List.getElem?_eq_some_iff.mp h
  obtain ⟨l2, e2⟩ := List.getElem?_eq_some_iff.mp e
  exact List.pairwise_iff_getElem.mp nd m j l2 l1 hm (by rw [e1, e2])

def ArIs (kvs : List (Key × V)) (zs : List Str) (W : List Int) : Prop := ∀ (j : Nat) (z : Str), j < W.length → zs[j]? = some z → valV kvs (Sum.inr z : Key) = some (.int (W.getD j 0))
def spAround : Sp := fun vs H Q _ => ∃ (nm vt : Addr) (zs : List Str) (W : List Int), vs = [.ref nm, .ref vt] ∧ H nm = some (.tup (zs.map V.str)) ∧ H vt = some (.tup (W.map V.int)) ∧ W.length ≤ zs.length ∧ zs.length ≤ 100 ∧ zs.Nodup ∧ ∀ (r : Addr) (kvs : List (Key × V)) (H' : Hp), Same H H' → H' r = some (.dK kvs) → ArIs kvs zs W → Q (.ref r) H'
def StB (kvs : List (Key × V)) (z : Str) (b : Int) : Prop := (z = "" ∧ b = 0) ∨ (z ≠ "" ∧ valV kvs (Sum.inr z : Key) = some (.int b))
def spStand52 : Sp := fun vs H Q _ => ∃ (sp d t1 t2 : Addr) (z1 z2 : Str) (n1 n2 b1 b2 : Int) (kvs : List (Key × V)), vs = [.ref sp, .ref d] ∧ H sp = some (.tup [.ref t1, .ref t2]) ∧ H t1 = some (.tup [.str z1, .int n1]) ∧ H t2 = some (.tup [.str z2, .int n2]) ∧ H d = some (.dK kvs) ∧ StB kvs z1 b1 ∧ StB kvs z2 b2 ∧ ∀ (r : Addr) (H' : Hp), Same H H' → H' r = some (.tup [.int (b1 + n1), .int (b2 + n2)]) → Q (.ref r) H'
def BV (zs : List Str) (W : List Int) (i : Nat) (z : Str) (b : Int) : Prop := (z = "" ∧ b = 0) ∨ (z ≠ "" ∧ ∃ j : Nat, j < i ∧ zs[j]? = some z ∧ b = W.getD j 0)
def InAt (zs : List Str) (lz hz : Nat → Str) (ln hn : Nat → Int) (W : List Int) (i : Nat) : Prop := ∃ b b' : Int, BV zs W i (lz i) b ∧ BV zs W i (hz i) b' ∧ b + ln i ≤ W.getD i 0 ∧ W.getD i 0 ≤ b' + hn i
def Bnds (zs : List Str) (lz : Nat → Str) (m : Nat) : Prop := ∀ i < m, lz i = "" ∨ (lz i ≠ "" ∧ ∃ j : Nat, j < i ∧ zs[j]? = some (lz i))
def RowIs (H : Hp) (row : Addr) (zs : List Str) (lz hz : Nat → Str) (ln hn : Nat → Int) (m : Nat) : Prop := ∃ nm lo hi, H row = some (.tup [.ref nm, .ref lo, .ref hi]) ∧ H nm = some (.tup (zs.map V.str)) ∧ SptAt H lo m lz ln ∧ SptAt H hi m hz hn
theorem RowIs.over {H H' : Hp} {row : Addr} {zs : List Str} {lz hz : Nat → Str} {ln hn : Nat → Int} {m : Nat} (h : RowIs H row zs lz hz ln hn m) (e : Same H H') : RowIs H' row zs lz hz ln hn m := by obtain ⟨a, b, c, d, f, g, i⟩ := h; exact ⟨a, b, c, e _ _ d, e _ _ f, g.over e, i.over e⟩
def spNear : Sp := fun vs H Q _ => ∃ (row : Addr) (n : Int) (zs : List Str) (lz hz : Nat → Str) (ln hn : Nat → Int), vs = [.ref row, .int n] ∧ RowIs H row zs lz hz ln hn zs.length ∧ zs.length ≤ 3 ∧ zs.Nodup ∧ Bnds zs lz zs.length ∧ Bnds zs hz zs.length ∧ ∀ (r vt : Addr) (H' : Hp) (W : List Int) (ins : Bool), Same H H' → H' r = some (.tup [.ref vt, .bl ins]) → H' vt = some (.tup (W.map V.int)) → W.length = zs.length → (ins = true ↔ ∀ i < zs.length, InAt zs lz hz ln hn W i) → Q (.ref r) H'
def kval (first : Int) (W : List Int) (x : Int) : Int := if x = 0 then 0 else W.getD (x - first).toNat 0
def KeyOk (first : Int) (W : List Int) (x : Int) : Prop := x = 0 ∨ ∃ j : Nat, j < W.length ∧ x = first + (j : Int)
def holdB (first : Int) (W : List Int) (b : Tri) : Bool := decide (kval first W b.1 - kval first W b.2.1 ≤ b.2.2)
def spHolds52 : Sp := fun vs H Q _ => ∃ (bl vt : Addr) (first : Int) (W : List Int) (ys : List V) (B : List Tri), vs = [.ref bl, .int first, .ref vt] ∧ H bl = some (.lst ys) ∧ TrisAt H ys B ∧ H vt = some (.tup (W.map V.int)) ∧ W.length ≤ 100 ∧ 1 ≤ first ∧ (∀ b ∈ B, KeyOk first W b.1 ∧ KeyOk first W b.2.1) ∧ ∀ H', Same H H' → Q (.bl (B.all (holdB first W))) H'
def F52 (first : Int) (u ln : Nat → Int) (i : Nat) : Tri := (u i, first + (i : Int), -(ln i))
def G52 (first : Int) (w hn : Nat → Int) (i : Nat) : Tri := (first + (i : Int), w i, hn i)
def spPairs52 : Sp := fun vs H Q _ => ∃ (row : Addr) (first : Int) (zs : List Str) (lz hz : Nat → Str) (ln hn u w : Nat → Int), vs = [.ref row, .int first] ∧ RowIs H row zs lz hz ln hn zs.length ∧ zs.length ≤ 100 ∧ (∀ i < zs.length, Whose zs (lz i) first (u i)) ∧ (∀ i < zs.length, Whose zs (hz i) first (w i)) ∧ ∀ (r : Addr) (ys : List V) (H' : Hp), Same H H' → H' r = some (.lst ys) → All2 (PrAt H') ys ((likeB (F52 first u ln) (G52 first w hn) zs.length).map fun b => (b.1, b.2.1)) → Q (.ref r) H'
def spLoopBonds (C : Addr) : Sp := fun vs H Q _ => ∃ (d dx nm lo hi : Addr) (v4 v5 v6 v7 : V) (first : Int) (zs : List Str) (lz hz : Nat → Str) (ln hn u w : Nat → Int), vs = [.ref d, .int first] ∧ H d = some (.ins C dx [("names", .ref nm), ("lows", .ref lo), ("highs", .ref hi), ("table", v4), ("spots", v5), ("term", v6), ("path", v7)]) ∧ H nm = some (.tup (zs.map V.str)) ∧ SptAt H lo zs.length lz ln ∧ SptAt H hi zs.length hz hn ∧ zs.length ≤ 100 ∧ (∀ i < zs.length, Whose zs (lz i) first (u i)) ∧ (∀ i < zs.length, Whose zs (hz i) first (w i)) ∧ ∀ (r : Addr) (ys : List V) (H' : Hp), Same H H' → H' r = some (.lst ys) → TrisAt H' ys (likeB (F52 first u ln) (G52 first w hn) zs.length) → Q (.ref r) H'
theorem for_zipU {K : PySem.W.Frag} {a b : Addr} {xs ys : List V} {g : TG} {tb : TS} {D : Ends} {σ : St} {H : Hp} (hlen : ys.length ≤ xs.length) (Pv : Nat → St → Hp → Prop) (h0 : Pv 0 σ H) (hl : ∀ i σ H, i ≤ ys.length → Pv i σ H → SqT K H a xs ∧ SqT K H b ys)
    (hs : ∀ i x y T σ H, xs[i]? = some x → ys[i]? = some y → Pv i σ H → H T = none → g (.ref T) σ (upd H T (.tup [x, y])) fun σ2 H2 => tb { D with nx := Pv (i + 1), ct := Pv (i + 1), bk := D.nx } σ2 H2) (hd : ∀ σ H, Pv ys.length σ H → D.nx σ H) :
    ∃ W : Nat → Nat → St → Hp → Prop, (∃ m, W 0 m σ H) ∧ ∀ i m σ H, W i m σ H →
      ((Ity K a b).stop i H ∧ D.nx σ H) ∨ ((Ity K a b).go i H ∧ ∃ N : St → Hp → Prop, (∀ σ' H', N σ' H' → ∃ m', m' < m ∧ W (i + 1) m' σ' H') ∧ ∀ x H', (Ity K a b).yld i H x H' → g x σ H' fun σ2 H2 => tb { D with nx := N, ct := N, bk := D.nx } σ2 H2) := by
  refine ⟨fun i m σ H => m = ys.length - i ∧ i ≤ ys.length ∧ Pv i σ H, ⟨ys.length, by simp, Nat.zero_le _, h0⟩, ?_⟩
  rintro i m σ H ⟨rfl, hi, p⟩
  obtain ⟨q1, q2⟩ := hl i σ H hi p
  by_cases hlt : i < ys.length
  · refine .inr ⟨⟨xs, ys, xs[i], ys[i], q1, q2, List.getElem?_eq_getElem (by omega), List.getElem?_eq_getElem hlt⟩, Pv (i + 1), fun σ' H' p' => ⟨ys.length - (i + 1), by omega, rfl, hlt, p'⟩, fun v H' yy => ?_⟩
    obtain ⟨x, y, T, hx, hy, hT, rfl, rfl⟩ := yy
    exact hs i x y T σ H (hx xs q1) (hy ys q2) p hT
  · have e : i = ys.length := by omega
    subst e
    exact .inl ⟨⟨xs, ys, q1, q2, by omega, Nat.le_refl _, .inr rfl⟩, hd σ H p⟩
theorem prs_tr {K : PySem.W.Frag} {H : Hp} : ∀ {ys : List V} {P : List (Int × Int)}, All2 (PrAt H) ys P → TrsIs K H ys (P.map fun p => Tr.tup [.v (.int p.1), .v (.int p.2)])
  | [], [], _ => .nil
  | [], p :: P, h => by have := h.1; cases this
  | y :: ys, [], h => by have := h.1; cases this
  | y :: ys, p :: P, h => by
    obtain ⟨t, rfl, ht⟩ := h.2 0 y p rfl rfl
    exact .cons (.tup (SqT.of ht) (.cons (.flat rfl) (.cons (.flat rfl) .nil))) (prs_tr ⟨Nat.succ.inj h.1, fun i x a p q => h.2 (i + 1) x a (by simpa using p) (by simpa using q)⟩)
theorem prs_dep : ∀ P : List (Int × Int), depTs (P.map fun p => Tr.tup [.v (.int p.1), .v (.int p.2)]) ≤ 1
  | [] => Nat.zero_le _
  | p :: P => by
    rw [List.map_cons, depTs]
    have := prs_dep P
    have : depT (Tr.tup [.v (.int p.1), .v (.int p.2)]) = 1 := by simp [depT, depTs]
    omega

theorem getD_app {W : List Int} {v : Int} {j : Nat} (h : j < W.length) : (W ++ [v]).getD j 0 = W.getD j 0 := by
  rw [List.getD_eq_getElem?_getD, List.getD_eq_getElem?_getD, List.getElem?_append_left h]
theorem getD_last (W : List Int) (v : Int) : (W ++ [v]).getD W.length 0 = v := by
  rw [List.getD_eq_getElem?_getD, List.getElem?_append_right (Nat.le_refl _), Nat.sub_self]
  rfl
theorem BV.ext {zs : List Str} {W : List Int} {v b : Int} {i : Nat} {z : Str} (h : i ≤ W.length) : BV zs (W ++ [v]) i z b ↔ BV zs W i z b := by
  unfold BV
  refine or_congr Iff.rfl (and_congr Iff.rfl ⟨fun ⟨j, a, c, d⟩ => ⟨j, a, c, ?_⟩, fun ⟨j, a, c, d⟩ => ⟨j, a, c, ?_⟩⟩)
  · rw [d, getD_app (by omega)]
  · rw [d, getD_app (by omega)]
theorem BV.inj {zs : List Str} {W : List Int} {b b' : Int} {i : Nat} {z : Str} (nd : zs.Nodup) (h : BV zs W i z b) (g : BV zs W i z b') : b = b' := by
  rcases h with ⟨h, rfl⟩ | ⟨h, j, h1, h2, rfl⟩ <;> rcases g with ⟨g, rfl⟩ | ⟨g, k, g1, g2, rfl⟩
  · rfl
  · exact absurd h g
  · exact absurd g h
  · obtain ⟨l1, e1⟩ := List.getElem?_eq_some_iff.mp h2
    obtain ⟨l2, e2⟩ := List.getElem?_eq_some_iff.mp g2
    have : j = k := by
      rcases Nat.lt_trichotomy j k with c | c | c
      · exact absurd (by rw [e1, e2]) (List.pairwise_iff_getElem.mp nd j k l1 l2 c)
      · exact c
      · exact absurd (by rw [e1, e2]) (List.pairwise_iff_getElem.mp nd k j l2 l1 c)
    rw [this]
theorem InAt.ext {zs : List Str} {lz hz : Nat → Str} {ln hn : Nat → Int} {W : List Int} {v : Int} {j : Nat} (h : j < W.length) : InAt zs lz hz ln hn (W ++ [v]) j ↔ InAt zs lz hz ln hn W j := by
  unfold InAt
  rw [getD_app h]
  constructor
  · rintro ⟨b, b', h1, h2, h3, h4⟩
    exact ⟨b, b', (BV.ext (by omega)).mp h1, (BV.ext (by omega)).mp h2, h3, h4⟩
  · rintro ⟨b, b', h1, h2, h3, h4⟩
    exact ⟨b, b', (BV.ext (by omega)).mpr h1, (BV.ext (by omega)).mpr h2, h3, h4⟩
theorem st_of {zs : List Str} {kvs : List (Key × V)} {W : List Int} {lz : Nat → Str} {i m : Nat} (hb : Bnds zs lz m) (hi : i < m) (hw : W.length = i) (ha : ArIs kvs zs W) : ∃ b, StB kvs (lz i) b ∧ BV zs W i (lz i) b := by
  rcases hb i hi with h | ⟨h, j, h1, h2⟩
  · exact ⟨0, .inl ⟨h, rfl⟩, .inl ⟨h, rfl⟩⟩
  · exact ⟨W.getD j 0, .inr ⟨h, ha j _ (by omega) h2⟩, .inr ⟨h, j, h1, h2, rfl⟩⟩
theorem in_step {zs : List Str} {lz hz : Nat → Str} {ln hn : Nat → Int} {W : List Int} {v b1 b2 : Int} {i : Nat} {ins : Bool} (nd : zs.Nodup) (hw : W.length = i) (h1 : BV zs W i (lz i) b1) (h2 : BV zs W i (hz i) b2) (hi : ins = true ↔ ∀ j < i, InAt zs lz hz ln hn W j) :
    ((ins && (decide (b1 + ln i ≤ v) && decide (v ≤ b2 + hn i))) = true ↔ ∀ j < i + 1, InAt zs lz hz ln hn (W ++ [v]) j) := by
  rw [Bool.and_eq_true, Bool.and_eq_true, decide_eq_true_iff, decide_eq_true_iff, hi]
  constructor
  · rintro ⟨h, g1, g2⟩ j hj
    by_cases c : j < i
    · exact (InAt.ext (by omega)).mpr (h j c)
    · have : j = i := by omega
      subst this
      refine ⟨b1, b2, (BV.ext (by omega)).mpr h1, (BV.ext (by omega)).mpr h2, ?_⟩
      have := getD_last W v
      rw [hw] at this
      rw [this]
      exact ⟨g1, g2⟩
  · intro h
    refine ⟨fun j hj => (InAt.ext (by omega)).mp (h j (by omega)), ?_⟩
    obtain ⟨c1, c2, k1, k2, k3, k4⟩ := h i (Nat.lt_succ_self _)
    have e1 := BV.inj nd ((BV.ext (by omega)).mp k1) h1
    have e2 := BV.inj nd ((BV.ext (by omega)).mp k2) h2
    have := getD_last W v
    rw [hw] at this
    rw [this] at k3 k4
    subst e1 e2
    exact ⟨k3, k4⟩
end L2
namespace PySem
open Builtin
open AutoSeq1 (wpAny_loadPart')
theorem tuple_mul2x (l : Addr) (k : Tok) (x : Value) (n : Nat) (dd : Option Addr) (sl : Array (Option Value)) :
    Meets (Builtin.«tuple.__mul__» ⟨[.ref l, .int 2 k], []⟩) (fun _ R s => s.heap.get? l = some { cls := .type "tuple", dict := dd, data := .seq #[x] n, slots := sl } ∧ R (.ok (.ret (Value.ref s.heap.objs.size))) { s with heap := s.heap.push { cls := Value.type "tuple", data := Data.seq #[x, x] }, toks := s.toks }) :=
  .of_wp fun prog w A R s h => by obtain ⟨hp, g, d, tk, os⟩ := s; obtain ⟨hl, h⟩ := h; have f1 := AutoSeq1.idx_int; have f2 := AutoSeq1.sub_tuple_tuple; wp_walk using wpAny_loadPart' hl; exact ⟨_, rfl, h⟩
theorem tuple_mul3x (l : Addr) (k : Tok) (x : Value) (n : Nat) (dd : Option Addr) (sl : Array (Option Value)) :
    Meets (Builtin.«tuple.__mul__» ⟨[.ref l, .int 3 k], []⟩) (fun _ R s => s.heap.get? l = some { cls := .type "tuple", dict := dd, data := .seq #[x] n, slots := sl } ∧ R (.ok (.ret (Value.ref s.heap.objs.size))) { s with heap := s.heap.push { cls := Value.type "tuple", data := Data.seq #[x, x, x] }, toks := s.toks }) :=
  .of_wp fun prog w A R s h => by obtain ⟨hp, g, d, tk, os⟩ := s; obtain ⟨hl, h⟩ := h; have f1 := AutoSeq1.idx_int; have f2 := AutoSeq1.sub_tuple_tuple; wp_walk using wpAny_loadPart' hl; exact ⟨_, rfl, h⟩
theorem tuple_mul4x (l : Addr) (k : Tok) (x : Value) (n : Nat) (dd : Option Addr) (sl : Array (Option Value)) :
    Meets (Builtin.«tuple.__mul__» ⟨[.ref l, .int 4 k], []⟩) (fun _ R s => s.heap.get? l = some { cls := .type "tuple", dict := dd, data := .seq #[x] n, slots := sl } ∧ R (.ok (.ret (Value.ref s.heap.objs.size))) { s with heap := s.heap.push { cls := Value.type "tuple", data := Data.seq #[x, x, x, x] }, toks := s.toks }) :=
  .of_wp fun prog w A R s h => by obtain ⟨hp, g, d, tk, os⟩ := s; obtain ⟨hl, h⟩ := h; have f1 := AutoSeq1.idx_int; have f2 := AutoSeq1.sub_tuple_tuple; wp_walk using wpAny_loadPart' hl; exact ⟨_, rfl, h⟩
end PySem
namespace L2
open PySem PySem.Spec PyProof.Rows
def rRep4 : R2 := fun x y H Q => ∃ (a : Addr) (k : Int) (v : V), x = .ref a ∧ y = .int k ∧ H a = some (.tup [v]) ∧ 1 ≤ k ∧ k ≤ 4 ∧ ∀ (p : Addr) (H' : Hp), Same H H' → (∃ ys, H' p = some (.tup ys)) → Q (.ref p) H'
theorem op_rep4 {X : Cx} : OpR X (binaryOp .Mult) rRep4 := by
  intro pins s σ H x y v u Q I rx ry h
  obtain ⟨a, k, vv, rfl, rfl, ha, h1, h4, q⟩ := h
  cases rx
  obtain ⟨t, rfl⟩ := ry
  obtain ⟨its, r1, p1, _⟩ := I.tuple (SqT.of ha)
  obtain ⟨uu, rfl, ru⟩ := vals1 r1
  obtain ⟨⟨cls, dd, data, sl⟩, ho, hc, n, hd⟩ := id p1
  simp only at hc hd
  subst hc hd
  refine wpAny_binaryOp_repeat_ref (T := "tuple") (U := "int") (by decide) ⟨_, ho, rfl⟩ (fun s' => typeIs_int s' k t) noFill_tuple_mulF F.fills_int_mul F.slot_int_rmul repeat_tupleF F.slot_int_index.lookup ?_
  refine call_meets F.slot_int_rmul (typeIs_int _ _ _) F.entry_int_rmul (F.args_int_rmul_2 _ _) (rmul_int_tuple k t a _ n dd sl) ⟨ho, rfl, ⟨_, ho, rfl⟩, ?_⟩
  have new : ∀ (its : List Value) (vs : List V), Vals vs its → vs.length ≤ sizeLine → EP X pins σ Q (Value.ref s.heap.objs.size) { s with heap := s.heap.push { cls := Value.type "tuple", data := Data.seq its.toArray }, toks := s.toks } := fun its vs r hz =>
    ⟨.ref s.heap.objs.size, _, I.laid (t' := s.toks) (o := .tup vs) (fun b o e => Heap.get?_push_of_some _ e) (Nat.le_refl _) ⟨hz, its, r, IsTupN.new _ _⟩, rfl, q _ _ (same_new (I.hok.fresh (Nat.le_refl _)) _) ⟨vs, upd_same⟩⟩
  have : k = 1 ∨ k = 2 ∨ k = 3 ∨ k = 4 := by omega
  rcases this with rfl | rfl | rfl | rfl
  · exact call_meets F.slot_tuple_mul ⟨_, ho, rfl⟩ F.entry_tuple_mul (F.args_tuple_mul_2 _ _) (tuple_mul1 a t _ n dd sl) ⟨ho, ⟨.ref a, H, I, rfl, q a H (Same.refl _) ⟨_, ha⟩⟩⟩
  · exact call_meets F.slot_tuple_mul ⟨_, ho, rfl⟩ F.entry_tuple_mul (F.args_tuple_mul_2 _ _) (tuple_mul2x a t uu n dd sl) ⟨ho, new [uu, uu] [vv, vv] (.cons ru (.cons ru .nil)) (szl (by show 2 ≤ 1000000; decide))⟩
  · exact call_meets F.slot_tuple_mul ⟨_, ho, rfl⟩ F.entry_tuple_mul (F.args_tuple_mul_2 _ _) (tuple_mul3x a t uu n dd sl) ⟨ho, new [uu, uu, uu] [vv, vv, vv] (.cons ru (.cons ru (.cons ru .nil))) (szl (by show 3 ≤ 1000000; decide))⟩
  · exact call_meets F.slot_tuple_mul ⟨_, ho, rfl⟩ F.entry_tuple_mul (F.args_tuple_mul_2 _ _) (tuple_mul4x a t uu n dd sl) ⟨ho, new [uu, uu, uu, uu] [vv, vv, vv, vv] (.cons ru (.cons ru (.cons ru (.cons ru .nil)))) (szl (by show 4 ≤ 1000000; decide))⟩
def cellD (ns : List Int) (k : Int) : Int := if k < (ns.length : Int) then ns.getD k.toNat 0 else
  if 0 < ns.length then ((ns.getD (k * 7 % (ns.length : Int)).toNat 0 * 48271 + k * 7919) % 2147483647) * ((ns.getD (k * 7 % (ns.length : Int)).toNat 0 * 48271 + k * 7919) % 2147483647) % 2147483629 else (k * 7919 + 5) * (k * 7919 + 5) % 2147483629
def spCellD (K : PySem.W.Frag) : Sp := fun vs H Q _ => ∃ (p : Addr) (ns : List Int) (k : Int), vs = [.ref p, .int k] ∧ SqL K H p (ns.map V.int) ∧ 0 ≤ k ∧ k ≤ 1000000 ∧ Q (.int (cellD ns k)) H

def UB (zs : List Str) (lz : Nat → Str) (first : Int) (u : Nat → Int) (i : Nat) : Prop := (lz i = "" ∧ u i = 0) ∨ (lz i ≠ "" ∧ ∃ j : Nat, j < i ∧ zs[j]? = some (lz i) ∧ u i = first + (j : Int))
theorem likeB_mem {F G : Nat → Tri} {m : Nat} {b : Tri} (h : b ∈ likeB F G m) : ∃ i, i < m ∧ (b = F i ∨ b = G i) := by
  induction m with
  | zero => cases h
  | succ m ih =>
    rw [likeB] at h
    rcases List.mem_append.mp h with h | h
    · rcases List.mem_append.mp h with h | h
      · obtain ⟨i, hi, e⟩ := ih h
        exact ⟨i, by omega, e⟩
      · rw [List.mem_singleton] at h; exact ⟨m, by omega, .inl h⟩
    · rw [List.mem_singleton] at h; exact ⟨m, by omega, .inr h⟩
theorem likeB_all {F G : Nat → Tri} {p : Tri → Bool} {m : Nat} : (likeB F G m).all p = true ↔ ∀ i < m, p (F i) = true ∧ p (G i) = true := by
  induction m with
  | zero => exact ⟨fun _ i hi => by omega, fun _ => rfl⟩
  | succ m ih =>
    rw [likeB, List.all_append, List.all_append, Bool.and_eq_true, Bool.and_eq_true, ih]
    simp only [List.all_cons, List.all_nil, Bool.and_true]
    constructor
    · rintro ⟨⟨h, h1⟩, h2⟩ i hi
      by_cases c : i < m
      · exact h i c
      · have : i = m := by omega
        subst this
        exact ⟨h1, h2⟩
    · intro h
      exact ⟨⟨fun i hi => h i (by omega), (h m (by omega)).1⟩, (h m (by omega)).2⟩
theorem ub_key {zs : List Str} {lz : Nat → Str} {first : Int} {u : Nat → Int} {i : Nat} {W : List Int} (h : UB zs lz first u i) (hi : i < W.length) : KeyOk first W (u i) := by
  rcases h with ⟨_, e⟩ | ⟨_, j, h1, _, e⟩
  · exact .inl e
  · exact .inr ⟨j, by omega, e⟩
theorem ub_bv {zs : List Str} {lz : Nat → Str} {first : Int} {u : Nat → Int} {i : Nat} {W : List Int} (f1 : 1 ≤ first) (h : UB zs lz first u i) : BV zs W i (lz i) (kval first W (u i)) := by
  unfold kval
  rcases h with ⟨a, e⟩ | ⟨a, j, h1, h2, e⟩
  · rw [e, if_pos rfl]; exact .inl ⟨a, rfl⟩
  · rw [e, if_neg (by omega), show (first + (j : Int) - first).toNat = j by omega]
    exact .inr ⟨a, j, h1, h2, rfl⟩
theorem ub_whose {zs : List Str} {lz : Nat → Str} {first : Int} {u : Nat → Int} {i : Nat} (nd : zs.Nodup) (ne : ∀ z ∈ zs, z ≠ "") (h : UB zs lz first u i) : Whose zs (lz i) first (u i) := by
  rcases h with ⟨a, e⟩ | ⟨a, j, h1, h2, e⟩
  · exact .inl ⟨a, e⟩
  · rw [e]; exact whose_at nd ne h2 first
theorem ub_of {zs : List Str} {lz : Nat → Str} {m : Nat} (h : Bnds zs lz m) (first : Int) : ∃ u : Nat → Int, ∀ i < m, UB zs lz first u i := by
  have ex : ∀ i, i < m → ∃ v : Int, (lz i = "" ∧ v = 0) ∨ (lz i ≠ "" ∧ ∃ j : Nat, j < i ∧ zs[j]? = some (lz i) ∧ v = first + (j : Int)) := fun i hi => by
    rcases h i hi with a | ⟨a, j, h1, h2⟩
    · exact ⟨0, .inl ⟨a, rfl⟩⟩
    · exact ⟨first + (j : Int), .inr ⟨a, j, h1, h2, rfl⟩⟩
  refine ⟨fun i => if h : i < m then (ex i h).choose else 0, fun i hi => ?_⟩
  unfold UB
  simp only [dif_pos hi]
  exact (ex i hi).choose_spec
theorem all_in {zs : List Str} {lz hz : Nat → Str} {ln hn u w : Nat → Int} {W : List Int} {first : Int} {m : Nat} (nd : zs.Nodup) (f1 : 1 ≤ first) (hu : ∀ i < m, UB zs lz first u i) (hw : ∀ i < m, UB zs hz first w i) : (likeB (F52 first u ln) (G52 first w hn) m).all (holdB first W) = true ↔ ∀ i < m, InAt zs lz hz ln hn W i := by
  rw [likeB_all]
  have own : ∀ i : Nat, kval first W (first + (i : Int)) = W.getD i 0 := fun i => by
    unfold kval
    rw [if_neg (by omega), show (first + (i : Int) - first).toNat = i by omega]
  constructor
  · intro h i hi
    obtain ⟨h1, h2⟩ := h i hi
    have h1 := of_decide_eq_true h1
    have h2 := of_decide_eq_true h2
    simp only [F52, G52, own] at h1 h2
    exact ⟨_, _, ub_bv f1 (hu i hi), ub_bv f1 (hw i hi), by omega, by omega⟩
  · intro h i hi
    obtain ⟨b, b', h1, h2, h3, h4⟩ := h i hi
    have e1 := BV.inj nd h1 (ub_bv f1 (hu i hi))
    have e2 := BV.inj nd h2 (ub_bv f1 (hw i hi))
    subst e1 e2
    constructor
    · refine decide_eq_true ?_
      simp only [F52, own]
      omega
    · refine decide_eq_true ?_
      simp only [G52, own]
      omega
def lzF (S : List Lp) (i : Nat) : Str := ((S[i]?).map (·.lz)).getD ""
def hzF (S : List Lp) (i : Nat) : Str := ((S[i]?).map (·.hz)).getD ""
def lnF (S : List Lp) (i : Nat) : Int := ((S[i]?).map (·.ln)).getD 0
def hnF (S : List Lp) (i : Nat) : Int := ((S[i]?).map (·.hn)).getD 0
theorem bnds_of {S : List Lp} {c : Int} (h : SOk S c) : Bnds (nmsOf S) (lzF S) S.length ∧ Bnds (nmsOf S) (hzF S) S.length := by
  have key : ∀ (i : Nat) (z : Str), Bs (S.take i) z → z = "" ∨ (z ≠ "" ∧ ∃ j : Nat, j < i ∧ (nmsOf S)[j]? = some z) := fun i z hz => by
    by_cases e : z = ""
    · exact .inl e
    · rcases bs_at hz with e' | ⟨j, h1, h2⟩
      · exact absurd e' e
      · exact .inr ⟨e, j, h1, h2⟩
  constructor
  · intro i hi
    have hs := List.getElem?_eq_getElem hi
    have := (h.bs i _ hs).1
    unfold lzF
    rw [hs]
    exact key i _ this
  · intro i hi
    have hs := List.getElem?_eq_getElem hi
    have := (h.bs i _ hs).2
    unfold hzF
    rw [hs]
    exact key i _ this
end L2

set_option Elab.async false
set_option linter.all false
set_option maxRecDepth 100000
set_option maxHeartbeats 4000000

namespace Fw
open PySem L2 Bd

def top (i : Nat) : Stmt := PySem.Challenge.pw_furrow_k52_loop_bonds.main.body.getD i (.Pass ⟨0, 0, 0, 0⟩)
abbrev s_loop_bonds : Stmt := top 2
abbrev s_unknown_of : Stmt := top 3
abbrev s_Number_init : Stmt := inClass (top 6) 0
abbrev s_Deed_init : Stmt := inClass (top 8) 0
abbrev s_l_cell : Stmt := top 10
abbrev s_l_whole : Stmt := top 11
abbrev s_l_mixed : Stmt := top 12
abbrev s_l_name : Stmt := top 13
abbrev s_l_loop : Stmt := top 14
abbrev s_l_around : Stmt := top 15
abbrev s_l_stand : Stmt := top 16
abbrev s_l_are_bonds : Stmt := top 17
abbrev s_l_near : Stmt := top 18
abbrev s_l_holds : Stmt := top 19
abbrev s_l_whose : Stmt := top 20
abbrev s_l_pairs : Stmt := top 21
abbrev s_law : Stmt := top 22
theorem sc_loop_bonds : FnScope ["deed", "first", "bonds", "e", "low", "high"] ["deed", "first"] (defScope s_loop_bonds) := ⟨rfl, rfl, rfl, by decide +kernel, rfl, by decide +kernel, by decide +kernel⟩
theorem sc_unknown_of : FnScope ["spot", "names", "first"] ["spot", "names", "first"] (defScope s_unknown_of) := ⟨rfl, rfl, rfl, by decide +kernel, rfl, by decide +kernel, by decide +kernel⟩
theorem sc_Number_init : FnScope ["self", "n"] ["self", "n"] (defScope s_Number_init) := ⟨rfl, rfl, rfl, by decide +kernel, rfl, by decide +kernel, by decide +kernel⟩
theorem sc_Deed_init : FnScope ["self", "names", "lows", "highs", "table", "spots", "term", "path"] ["self", "names", "lows", "highs", "table", "spots", "term", "path"] (defScope s_Deed_init) := ⟨rfl, rfl, rfl, by decide +kernel, rfl, by decide +kernel, by decide +kernel⟩
theorem sc_l_cell : FnScope ["_law_script", "_law_k", "_law_number"] ["_law_script", "_law_k"] (defScope s_l_cell) := ⟨rfl, rfl, rfl, by decide +kernel, rfl, by decide +kernel, by decide +kernel⟩
theorem sc_l_whole : FnScope ["_law_found"] ["_law_found"] (defScope s_l_whole) := ⟨rfl, rfl, rfl, by decide +kernel, rfl, by decide +kernel, by decide +kernel⟩
theorem sc_l_mixed : FnScope ["_law_cell_here", "_law_k", "_law_number"] ["_law_cell_here", "_law_k"] (defScope s_l_mixed) := ⟨rfl, rfl, rfl, by decide +kernel, rfl, by decide +kernel, by decide +kernel⟩
theorem sc_l_name : FnScope ["_law_cell_here", "_law_e", "_law_some", "_law_number", "_law_word", "_law_k", "_law_at", "_law_name_here"] ["_law_cell_here", "_law_e"] (defScope s_l_name) := ⟨rfl, rfl, rfl, by decide +kernel, rfl, by decide +kernel, by decide +kernel⟩
theorem sc_l_loop : FnScope ["_law_number", "_law_far", "_law_stack", "_law_cell_here", "_law_about", "_law_bases", "_law_low", "_law_high", "_law_more", "_law_low_spot", "_law_turn", "_law_name_here"] ["_law_number", "_law_far", "_law_stack", "_law_cell_here"] (defScope s_l_loop) := ⟨rfl, rfl, rfl, by decide +kernel, rfl, by decide +kernel, by decide +kernel⟩
theorem sc_l_around : FnScope ["_law_names", "_law_values", "_law_around_here", "_law_name_here", "_law_value"] ["_law_names", "_law_values"] (defScope s_l_around) := ⟨rfl, rfl, rfl, by decide +kernel, rfl, by decide +kernel, by decide +kernel⟩
theorem sc_l_stand : FnScope ["_law_spots", "_law_around_here", "_law_place", "_law_name_here", "_law_n"] ["_law_spots", "_law_around_here"] (defScope s_l_stand) := ⟨rfl, rfl, rfl, by decide +kernel, rfl, by decide +kernel, by decide +kernel⟩
theorem sc_l_are_bonds : FnScope ["_law_found", "_law_bond"] ["_law_found"] (defScope s_l_are_bonds) := ⟨rfl, rfl, rfl, by decide +kernel, rfl, by decide +kernel, by decide +kernel⟩
theorem sc_l_near : FnScope ["_law_row", "_law_number", "_law_values", "_law_inside", "_law_e", "_law_low", "_law_high", "_law_part", "_law_value"] ["_law_row", "_law_number"] (defScope s_l_near) := ⟨rfl, rfl, rfl, by decide +kernel, rfl, by decide +kernel, by decide +kernel⟩
theorem sc_l_holds : FnScope ["_law_bonds", "_law_first", "_law_values", "_law_known", "_law_e", "_law_x", "_law_y", "_law_c"] ["_law_bonds", "_law_first", "_law_values"] (defScope s_l_holds) := ⟨rfl, rfl, rfl, by decide +kernel, rfl, by decide +kernel, by decide +kernel⟩
theorem sc_l_whose : FnScope ["_law_name_here", "_law_names", "_law_first"] ["_law_name_here", "_law_names", "_law_first"] (defScope s_l_whose) := ⟨rfl, rfl, rfl, by decide +kernel, rfl, by decide +kernel, by decide +kernel⟩
theorem sc_l_pairs : FnScope ["_law_row", "_law_first", "_law_due", "_law_e"] ["_law_row", "_law_first"] (defScope s_l_pairs) := ⟨rfl, rfl, rfl, by decide +kernel, rfl, by decide +kernel, by decide +kernel⟩
theorem sc_law : FnScope ["_law_script", "_law_cell_here", "_law_far", "_law_stack", "_law_e", "_law_row", "_law_first", "_law_deed", "_law_found", "_law_k", "_law_values", "_law_inside"] ["_law_script"] (defScope s_law) := ⟨rfl, rfl, rfl, by decide +kernel, rfl, by decide +kernel, by decide +kernel⟩
theorem c_l_are_bonds_0 : compB (mkSc [(".0", .local), ("_law_n", .local), ("_law_whole", .globalImplicit)]) (defScope s_l_are_bonds) ["_law_found", "_law_bond"] ["_law_n"] [none] = true := by decide +kernel
theorem c_l_are_bonds_0n : (["_law_n"] : List Str).Nodup := by decide +kernel
theorem c_l_loop_0 : compB (mkSc [(".0", .local), ("_law_one", .local)]) (defScope s_l_loop) ["_law_number", "_law_far", "_law_stack", "_law_cell_here", "_law_about", "_law_bases", "_law_low", "_law_high", "_law_more", "_law_low_spot", "_law_turn", "_law_name_here"] ["_law_one"] [none] = true := by decide +kernel
theorem c_l_loop_0n : (["_law_one"] : List Str).Nodup := by decide +kernel
theorem c_law_0 : compB (mkSc [(".0", .local), ("_law_one", .local)]) (defScope s_law) ["_law_script", "_law_cell_here", "_law_far", "_law_stack", "_law_e", "_law_row", "_law_first", "_law_deed", "_law_found", "_law_k", "_law_values", "_law_inside"] ["_law_one"] [none] = true := by decide +kernel
theorem c_law_0n : (["_law_one"] : List Str).Nodup := by decide +kernel
theorem c_law_1 : compB (mkSc [(".0", .local), ("_law_one", .local)]) (defScope s_law) ["_law_script", "_law_cell_here", "_law_far", "_law_stack", "_law_e", "_law_row", "_law_first", "_law_deed", "_law_found", "_law_k", "_law_values", "_law_inside"] ["_law_one"] [none] = true := by decide +kernel
theorem c_law_1n : (["_law_one"] : List Str).Nodup := by decide +kernel
theorem c_law_2 : compB (mkSc [(".0", .local), ("_law_one", .local)]) (defScope s_law) ["_law_script", "_law_cell_here", "_law_far", "_law_stack", "_law_e", "_law_row", "_law_first", "_law_deed", "_law_found", "_law_k", "_law_values", "_law_inside"] ["_law_one"] [none] = true := by decide +kernel
theorem c_law_2n : (["_law_one"] : List Str).Nodup := by decide +kernel
theorem c_law_3 : compB (mkSc [(".0", .local), ("_law_bond", .local)]) (defScope s_law) ["_law_script", "_law_cell_here", "_law_far", "_law_stack", "_law_e", "_law_row", "_law_first", "_law_deed", "_law_found", "_law_k", "_law_values", "_law_inside"] ["_law_bond"] [none] = true := by decide +kernel
theorem c_law_3n : (["_law_bond"] : List Str).Nodup := by decide +kernel
structure Ad where
  f_loop_bonds : Addr
  d_loop_bonds : FuncData
  f_unknown_of : Addr
  d_unknown_of : FuncData
  f_Number_init : Addr
  d_Number_init : FuncData
  f_Deed_init : Addr
  d_Deed_init : FuncData
  f_l_cell : Addr
  d_l_cell : FuncData
  f_l_whole : Addr
  d_l_whole : FuncData
  f_l_mixed : Addr
  d_l_mixed : FuncData
  f_l_name : Addr
  d_l_name : FuncData
  f_l_loop : Addr
  d_l_loop : FuncData
  f_l_around : Addr
  d_l_around : FuncData
  f_l_stand : Addr
  d_l_stand : FuncData
  f_l_are_bonds : Addr
  d_l_are_bonds : FuncData
  f_l_near : Addr
  d_l_near : FuncData
  f_l_holds : Addr
  d_l_holds : FuncData
  f_l_whose : Addr
  d_l_whose : FuncData
  f_l_pairs : Addr
  d_l_pairs : FuncData
  f_law : Addr
  d_law : FuncData
  c_Number : Addr
  c_Deed : Addr
structure Tx (K : PySem.W.Frag) (mg : Str → Option Value) (a : Ad) : Prop where
  F_loop_bonds : Fun K "loop_bonds" "loop_bonds" s_loop_bonds a.f_loop_bonds a.d_loop_bonds
  b_loop_bonds : Binds K a.d_loop_bonds ["deed", "first"] []
  m_loop_bonds : mg "loop_bonds" = some (.ref a.f_loop_bonds)
  F_unknown_of : Fun K "unknown_of" "unknown_of" s_unknown_of a.f_unknown_of a.d_unknown_of
  b_unknown_of : Binds K a.d_unknown_of ["spot", "names", "first"] []
  m_unknown_of : mg "unknown_of" = some (.ref a.f_unknown_of)
  F_Number_init : Fun K "__init__" "Number.__init__" s_Number_init a.f_Number_init a.d_Number_init
  b_Number_init : Binds K a.d_Number_init ["self", "n"] []
  F_Deed_init : Fun K "__init__" "Deed.__init__" s_Deed_init a.f_Deed_init a.d_Deed_init
  b_Deed_init : Binds K a.d_Deed_init ["self", "names", "lows", "highs", "table", "spots", "term", "path"] []
  F_l_cell : Fun K "_law_cell" "_law_cell" s_l_cell a.f_l_cell a.d_l_cell
  b_l_cell : Binds K a.d_l_cell ["_law_script", "_law_k"] []
  m_l_cell : mg "_law_cell" = some (.ref a.f_l_cell)
  F_l_whole : Fun K "_law_whole" "_law_whole" s_l_whole a.f_l_whole a.d_l_whole
  b_l_whole : Binds K a.d_l_whole ["_law_found"] []
  m_l_whole : mg "_law_whole" = some (.ref a.f_l_whole)
  F_l_mixed : Fun K "_law_mixed" "_law_mixed" s_l_mixed a.f_l_mixed a.d_l_mixed
  b_l_mixed : Binds K a.d_l_mixed ["_law_cell_here", "_law_k"] []
  m_l_mixed : mg "_law_mixed" = some (.ref a.f_l_mixed)
  F_l_name : Fun K "_law_name" "_law_name" s_l_name a.f_l_name a.d_l_name
  b_l_name : Binds K a.d_l_name ["_law_cell_here", "_law_e"] []
  m_l_name : mg "_law_name" = some (.ref a.f_l_name)
  F_l_loop : Fun K "_law_loop" "_law_loop" s_l_loop a.f_l_loop a.d_l_loop
  b_l_loop : Binds K a.d_l_loop ["_law_number", "_law_far", "_law_stack", "_law_cell_here"] []
  m_l_loop : mg "_law_loop" = some (.ref a.f_l_loop)
  F_l_around : Fun K "_law_around" "_law_around" s_l_around a.f_l_around a.d_l_around
  b_l_around : Binds K a.d_l_around ["_law_names", "_law_values"] []
  m_l_around : mg "_law_around" = some (.ref a.f_l_around)
  F_l_stand : Fun K "_law_stand" "_law_stand" s_l_stand a.f_l_stand a.d_l_stand
  b_l_stand : Binds K a.d_l_stand ["_law_spots", "_law_around_here"] []
  m_l_stand : mg "_law_stand" = some (.ref a.f_l_stand)
  F_l_are_bonds : Fun K "_law_are_bonds" "_law_are_bonds" s_l_are_bonds a.f_l_are_bonds a.d_l_are_bonds
  b_l_are_bonds : Binds K a.d_l_are_bonds ["_law_found"] []
  m_l_are_bonds : mg "_law_are_bonds" = some (.ref a.f_l_are_bonds)
  F_l_near : Fun K "_law_near" "_law_near" s_l_near a.f_l_near a.d_l_near
  b_l_near : Binds K a.d_l_near ["_law_row", "_law_number"] []
  m_l_near : mg "_law_near" = some (.ref a.f_l_near)
  F_l_holds : Fun K "_law_holds" "_law_holds" s_l_holds a.f_l_holds a.d_l_holds
  b_l_holds : Binds K a.d_l_holds ["_law_bonds", "_law_first", "_law_values"] []
  m_l_holds : mg "_law_holds" = some (.ref a.f_l_holds)
  F_l_whose : Fun K "_law_whose" "_law_whose" s_l_whose a.f_l_whose a.d_l_whose
  b_l_whose : Binds K a.d_l_whose ["_law_name_here", "_law_names", "_law_first"] []
  m_l_whose : mg "_law_whose" = some (.ref a.f_l_whose)
  F_l_pairs : Fun K "_law_pairs" "_law_pairs" s_l_pairs a.f_l_pairs a.d_l_pairs
  b_l_pairs : Binds K a.d_l_pairs ["_law_row", "_law_first"] []
  m_l_pairs : mg "_law_pairs" = some (.ref a.f_l_pairs)
  F_law : Fun K "law" "law" s_law a.f_law a.d_law
  b_law : Binds K a.d_law ["_law_script"] []
  m_law : mg "law" = some (.ref a.f_law)
  cl_Number : Cls K a.c_Number
  mc_Number : mg "Number" = some (.ref a.c_Number)
  mk_Number : Mk K a.c_Number a.f_Number_init
  n_Number_n : NoAttr K a.c_Number "n"
  cl_Deed : Cls K a.c_Deed
  mc_Deed : mg "Deed" = some (.ref a.c_Deed)
  mk_Deed : Mk K a.c_Deed a.f_Deed_init
  n_Deed_names : NoAttr K a.c_Deed "names"
  n_Deed_lows : NoAttr K a.c_Deed "lows"
  n_Deed_highs : NoAttr K a.c_Deed "highs"
  n_Deed_table : NoAttr K a.c_Deed "table"
  n_Deed_spots : NoAttr K a.c_Deed "spots"
  n_Deed_term : NoAttr K a.c_Deed "term"
  n_Deed_path : NoAttr K a.c_Deed "path"
  z_bool : mg "bool" = none
  z_int : mg "int" = none
  z_isinstance : mg "isinstance" = none
  z_len : mg "len" = none
  z_list : mg "list" = none
  z_range : mg "range" = none
  z_tuple : mg "tuple" = none
  z_zip : mg "zip" = none
section
variable {P : Program} {w : World} {K : PySem.W.Frag} {mg : Str → Option Value} {base : Heap} {a : Ad}
theorem ok_whole (T : Tx K mg a) : FnOk P w K mg base CX0 1 a.f_l_whole a.d_l_whole ["_law_found"] spWhole := by
  refine T.F_l_whole.ok sc_l_whole (fun vs H Q E h => ?_) (fun cdv A outer s H vs Q E hr h => ?_)
  · obtain ⟨_, rfl, _⟩ := h; rfl
  obtain ⟨x, rfl, hx, q⟩ := h
  refine ⟨_, (@pss_one _ _ _ (@ps_ret _ _ _ _ (@pe_and _ _ _ _ _ _ _ (@pe_callB _ _ _ _ _ _ _ _ _ call_isi (by rfl) T.z_isinstance bt_isinstance (@pa_cons _ _ _ _ _ (pv 0) (@pa_cons _ _ _ _ _ (@pe_bltn _ _ (.ty "int") _ _ (by rfl) T.z_int bt_int rfl (by decide) (by decide)) pa_nil (by rfl)) (by rfl)) (by decide) (by decide) (by rfl) (by rfl)) (@pe_one _ _ _ _ _ (@pe_not _ _ _ _ (@pe_callB _ _ _ _ _ _ _ _ _ call_isi (by rfl) T.z_isinstance bt_isinstance (@pa_cons _ _ _ _ _ (pv 0) (@pa_cons _ _ _ _ _ (@pe_bltn _ _ (.ty "bool") _ _ (by rfl) T.z_bool bt_bool rfl (by decide) (by decide)) pa_nil (by rfl)) (by rfl)) (by decide) (by decide) (by rfl) (by rfl))))))), ?_⟩
  cases x with
  | int i => exact ⟨_, rfl, _, _, _, _, _, rfl, rfl, .int i, rfl, _, rfl, _, rfl, _, _, _, _, _, rfl, rfl, .int i, rfl, _, rfl, q⟩
  | bl b => exact ⟨_, rfl, _, _, _, _, _, rfl, rfl, .bl b, rfl, _, rfl, _, rfl, _, _, _, _, _, rfl, rfl, .bl b, rfl, _, rfl, q⟩
  | non => exact ⟨_, rfl, _, _, _, _, _, rfl, rfl, .non, rfl, _, rfl, q⟩
  | str z => exact ⟨_, rfl, _, _, _, _, _, rfl, rfl, .str z, rfl, _, rfl, q⟩
  | _ => cases hx

theorem ok_cell (T : Tx K mg a) : FnOk P w K mg base CX0 1 a.f_l_cell a.d_l_cell ["_law_script", "_law_k"] (spCellD K) := by
  refine T.F_l_cell.ok sc_l_cell (fun vs H Q E h => ?_) (fun cdv A outer s H vs Q E hr h => ?_)
  · obtain ⟨_, _, _, rfl, _⟩ := h; rfl
  obtain ⟨p, ns, k, rfl, hS, h0, h1, q⟩ := h
  refine ⟨_, (@pss_cons _ _ _ _ _ (@ps_if _ _ _ _ _ _ _ _ (@pt_cmpR _ _ _ _ _ _ _ _ op_lt (pv 1) (@pe_callB _ _ _ _ _ _ _ _ _ call_len_seq (by rfl) T.z_len bt_len (@pa_cons _ _ _ _ _ (pv 0) pa_nil (by rfl)) (by decide) (by decide) (by rfl) (by rfl)) (@nomark _ _ (by decide) (by decide))) (@pss_one _ _ _ (@ps_ret _ _ _ _ (@pe_ix _ _ _ _ _ _ _ ix_list (pv 0) (pv 1) (fun _ _ => rfl)))) pss_nil) (@pss_cons _ _ _ _ _ (@ps_set _ _ (2) _ _ _ _ sc_l_cell.nd rfl (Or.inl rfl) (@pe_op _ _ _ _ _ _ _ _ op_add (@pe_op _ _ _ _ _ _ _ _ op_mul (pv 1) pe_int) pe_int) (by rfl) (by first | exact .inl rfl | exact .inr rfl | assumption)) (@pss_cons _ _ _ _ _ (@ps_if _ _ _ _ _ _ _ _ (@pt_cmpR _ _ _ _ _ _ _ _ op_gt (@pe_callB _ _ _ _ _ _ _ _ _ call_len_seq (by rfl) T.z_len bt_len (@pa_cons _ _ _ _ _ (pv 0) pa_nil (by rfl)) (by decide) (by decide) (by rfl) (by rfl)) pe_int (@nomark _ _ (by decide) (by decide))) (@pss_one _ _ _ (@ps_set _ _ (2) _ _ _ _ sc_l_cell.nd rfl (Or.inl rfl) (@pe_op _ _ _ _ _ _ _ _ op_mod (@pe_op _ _ _ _ _ _ _ _ op_add (@pe_op _ _ _ _ _ _ _ _ op_mul (@pe_ix _ _ _ _ _ _ _ ix_list (pv 0) (@pe_op _ _ _ _ _ _ _ _ op_mod (@pe_op _ _ _ _ _ _ _ _ op_mul (pv 1) pe_int) (@pe_callB _ _ _ _ _ _ _ _ _ call_len_seq (by rfl) T.z_len bt_len (@pa_cons _ _ _ _ _ (pv 0) pa_nil (by rfl)) (by decide) (by decide) (by rfl) (by rfl))) (fun _ _ => rfl)) pe_int) (@pe_op _ _ _ _ _ _ _ _ op_mul (pv 1) pe_int)) pe_int) (by rfl) (by first | exact .inl rfl | exact .inr rfl | assumption))) pss_nil) (@pss_one _ _ _ (@ps_ret _ _ _ _ (@pe_op _ _ _ _ _ _ _ _ op_mod (@pe_op _ _ _ _ _ _ _ _ op_mul (pv 2) (pv 2)) pe_int)))))), ?_⟩
  have hl : (ns.map V.int).length = ns.length := List.length_map _
  have p64 : (2 : Int) ^ 64 = 18446744073709551616 := by decide
  refine ⟨_, rfl, _, rfl, p, _, rfl, .inl hS, _, _, rfl, rfl, _, rfl, ?_⟩
  unfold cellD at q
  refine ite2 (fun c => ?_) (fun c => ?_)
  · have c' := dT c
    rw [hl] at c'
    rw [if_pos c'] at q
    exact ⟨_, rfl, _, rfl, p, _, _, _, rfl, rfl, hS, cell_in h0 c', q⟩
  have c' := dF c
  rw [hl] at c'
  rw [if_neg c'] at q
  refine ⟨_, rfl, _, _, rfl, rfl, .inr ⟨by decide, by decide⟩, _, _, rfl, rfl, ?_⟩
  refine ⟨_, rfl, p, _, rfl, .inl hS, _, _, rfl, rfl, _, rfl, ?_⟩
  refine ite2 (fun c2 => ?_) (fun c2 => ?_)
  · have c2 := dT c2
    rw [if_pos (by rw [hl] at c2; omega)] at q
    have m0 := Int.emod_nonneg (k * 7) (show ((ns.map V.int).length : Int) ≠ 0 by omega)
    have m1 := Int.emod_lt_of_pos (k * 7) c2
    refine ⟨_, rfl, _, rfl, _, _, rfl, rfl, .inr ⟨by decide, by decide⟩, _, rfl, p, _, rfl, .inl hS, _, _, rfl, rfl, c2, ?_⟩
    refine ⟨p, _, _, _, rfl, rfl, hS, cell_in m0 (by rw [hl] at m1 ⊢; exact m1), _, _, rfl, rfl, .inr ⟨by decide, by decide⟩, _, rfl, _, _, rfl, rfl, .inr ⟨by decide, by decide⟩, _, _, rfl, rfl, _, _, rfl, rfl, (by show (0 : Int) < 2147483647; decide), ?_⟩
    have b0 := Int.emod_nonneg (ns.getD (k * 7 % ((ns.map V.int).length : Int)).toNat 0 * 48271 + k * 7919) (show (2147483647 : Int) ≠ 0 by decide)
    have b1 := Int.emod_lt_of_pos (ns.getD (k * 7 % ((ns.map V.int).length : Int)).toNat 0 * 48271 + k * 7919) (show (0 : Int) < 2147483647 by decide)
    exact ⟨_, rfl, _, rfl, _, _, rfl, rfl, .inl ⟨by omega, by omega⟩, _, _, rfl, rfl, (by show (0 : Int) < 2147483629; decide), by rw [hl]; exact q⟩
  · have c2 := dF c2
    rw [if_neg (by rw [hl] at c2; omega)] at q
    exact ⟨_, rfl, _, rfl, _, _, rfl, rfl, .inl ⟨by omega, by omega⟩, _, _, rfl, rfl, (by show (0 : Int) < 2147483629; decide), q⟩

theorem ok_mixed (T : Tx K mg a) : FnOk P w K mg base CX0 1 a.f_l_mixed a.d_l_mixed ["_law_cell_here", "_law_k"] spMix2 := by
  refine T.F_l_mixed.ok sc_l_mixed (fun vs H Q E h => ?_) (fun cdv A outer s H vs Q E hr h => ?_)
  · obtain ⟨_, _, rfl, _⟩ := h; rfl
  obtain ⟨c, k, rfl, q⟩ := h
  refine ⟨_, (@pss_cons _ _ _ _ _ (@ps_set _ _ (2) _ _ _ _ sc_l_mixed.nd rfl (Or.inl rfl) (@pe_op _ _ _ _ _ _ _ _ op_mod (@pe_op _ _ _ _ _ _ _ _ op_mul (@pe_op _ _ _ _ _ _ _ _ op_add (@pe_op _ _ _ _ _ _ _ _ op_add (pv 0) (@pe_op _ _ _ _ _ _ _ _ op_mul pe_int (pv 1))) pe_int) pe_int) pe_int) (by rfl) (by first | exact .inl rfl | exact .inr rfl | assumption)) (@pss_one _ _ _ (@ps_ret _ _ _ _ (@pe_op _ _ _ _ _ _ _ _ op_mod (@pe_op _ _ _ _ _ _ _ _ op_mul (pv 2) (pv 2)) pe_int)))), ?_⟩
  have p64 : (2 : Int) ^ 64 = 18446744073709551616 := by decide
  have b0 := Int.emod_nonneg ((c + 7919 * k + 1) * 48271) (show (2147483647 : Int) ≠ 0 by decide)
  have b1 := Int.emod_lt_of_pos ((c + 7919 * k + 1) * 48271) (show (0 : Int) < 2147483647 by decide)
  refine ⟨_, rfl, _, rfl, _, _, rfl, rfl, .inl ⟨by decide, by decide⟩, _, _, rfl, rfl, _, _, rfl, rfl, _, _, rfl, rfl, .inr ⟨by decide, by decide⟩, _, _, rfl, rfl, (by show (0 : Int) < 2147483647; decide), ?_⟩
  exact ⟨_, rfl, _, rfl, _, _, rfl, rfl, .inl ⟨by omega, by omega⟩, _, _, rfl, rfl, (by show (0 : Int) < 2147483629; decide), q⟩

theorem ok_name (T : Tx K mg a) : FnOk P w K mg base CX0 2 a.f_l_name a.d_l_name ["_law_cell_here", "_law_e"] spName := by
  have G_l_mixed := ok_mixed (P := P) (w := w) (base := base) T
  refine T.F_l_name.ok sc_l_name (fun vs H Q E h => ?_) (fun cdv A outer s H vs Q E hr h => ?_)
  · obtain ⟨_, _, rfl, _⟩ := h; rfl
  obtain ⟨c, e, rfl, e0, e1, q⟩ := h
  refine ⟨_, (@pss_cons _ _ _ _ _ (@ps_set _ _ (2) _ _ _ _ sc_l_name.nd rfl (Or.inl rfl) pe_str (by rfl) (by first | exact .inl rfl | exact .inr rfl | assumption)) (@pss_cons _ _ _ _ _ (@ps_set _ _ (3) _ _ _ _ sc_l_name.nd rfl (Or.inl rfl) (@pe_call _ _ _ _ _ _ _ _ _ _ _ _ _ _ _ _ G_l_mixed (hr.mono (by decide)) (by rfl) T.m_l_mixed T.F_l_mixed.kp T.b_l_mixed .nil pass0 (@pa_cons _ _ _ _ _ (pv 0) (@pa_cons _ _ _ _ _ pe_int pa_nil (by rfl)) (by rfl)) (by decide) (by rfl) (by rfl)) (by rfl) (by first | exact .inl rfl | exact .inr rfl | assumption)) (@pss_cons _ _ _ _ _ (@ps_set _ _ (4) _ _ _ _ sc_l_name.nd rfl (Or.inl rfl) pe_str (by rfl) (by first | exact .inl rfl | exact .inr rfl | assumption)) (@pss_cons _ _ _ _ _ (@ps_for _ _ _ _ _ _ _ _ PassesOwn.never rfl (@pi_range1 _ _ _ _ _ _ (by rfl) T.z_range (@pa_cons _ _ _ _ _ (@pe_op _ _ _ _ _ _ _ _ op_mod (pv 3) pe_int) pa_nil (by rfl)) (by rfl)) (pg_name (i := 5) sc_l_name.nd rfl (Or.inl rfl)) (@pss_one _ _ _ (@ps_set _ _ (4) _ _ _ _ sc_l_name.nd rfl (Or.inl rfl) (@pe_op _ _ _ _ _ _ _ _ op_add_str (pv 4) (@pe_ix _ _ _ _ _ _ _ ix_str (pv 2) (@pe_op _ _ _ _ _ _ _ _ op_mod (@pe_op _ _ _ _ _ _ _ _ op_fdiv (pv 3) (@pe_op _ _ _ _ _ _ _ _ op_add (pv 5) pe_int)) pe_int) (fun _ _ => rfl))) (by rfl) (by first | exact .inl rfl | exact .inr rfl | assumption))) (by intro _ ; rfl)) (@pss_cons _ _ _ _ _ (@ps_set _ _ (6) _ _ _ _ sc_l_name.nd rfl (Or.inl rfl) (@pe_op _ _ _ _ _ _ _ _ op_mod (@pe_op _ _ _ _ _ _ _ _ op_fdiv (pv 3) pe_int) (@pe_op _ _ _ _ _ _ _ _ op_add (@pe_callB _ _ _ _ _ _ _ _ _ call_len_str (by rfl) T.z_len bt_len (@pa_cons _ _ _ _ _ (pv 4) pa_nil (by rfl)) (by decide) (by decide) (by rfl) (by rfl)) pe_int)) (by rfl) (by first | exact .inl rfl | exact .inr rfl | assumption)) (@pss_cons _ _ _ _ _ (@ps_set _ _ (7) _ _ _ _ sc_l_name.nd rfl (Or.inl rfl) (@pe_op _ _ _ _ _ _ _ _ op_add_str (@pe_op _ _ _ _ _ _ _ _ op_add_str (@pe_slice _ _ _ _ _ _ _ _ _ _ sl_str (pv 4) po_none (@po_some _ _ _ (pv 6))) (@pe_ix _ _ _ _ _ _ _ ix_str (pv 2) (@pe_op _ _ _ _ _ _ _ _ op_mod (@pe_op _ _ _ _ _ _ _ _ op_add (@pe_op _ _ _ _ _ _ _ _ op_fdiv (pv 3) pe_int) (@pe_op _ _ _ _ _ _ _ _ op_mul pe_int (pv 1))) pe_int) (fun _ _ => rfl))) (@pe_slice _ _ _ _ _ _ _ _ _ _ sl_str (pv 4) (@po_some _ _ _ (pv 6)) po_none)) (by rfl) (by first | exact .inl rfl | exact .inr rfl | assumption)) (@pss_cons _ _ _ _ _ (@ps_if _ _ _ _ _ _ _ _ (@pt_cmpR _ _ _ _ _ _ _ _ op_eq (@pe_op _ _ _ _ _ _ _ _ op_mod (@pe_op _ _ _ _ _ _ _ _ op_fdiv (pv 3) pe_int) pe_int) pe_int (@nomark _ _ (by decide) (by decide))) (@pss_one _ _ _ (@ps_set _ _ (7) _ _ _ _ sc_l_name.nd rfl (Or.inl rfl) (@pe_slice _ _ _ _ _ _ _ _ _ _ sl_str (@pe_op _ _ _ _ _ _ _ _ op_add_str (pv 4) pe_str) po_none (@po_some _ _ _ (@pe_op _ _ _ _ _ _ _ _ op_add pe_int (pv 1)))) (by rfl) (by first | exact .inl rfl | exact .inr rfl | assumption))) pss_nil) (@pss_cons _ _ _ _ _ (@ps_if _ _ _ _ _ _ _ _ (@pt_cmpR _ _ _ _ _ _ _ _ op_in_seq (pv 7) (@pe_tupq _ _ _ _ _ (@paq_cons _ _ _ _ _ pe_str (@paq_cons _ _ _ _ _ pe_str (@paq_cons _ _ _ _ _ pe_str paq_nil star_C) star_C) star_C)) (by with_unfolding_all rfl)) (@pss_one _ _ _ (@ps_set _ _ (7) _ _ _ _ sc_l_name.nd rfl (Or.inl rfl) (@pe_op _ _ _ _ _ _ _ _ op_add_str (pv 7) pe_str) (by rfl) (by first | exact .inl rfl | exact .inr rfl | assumption))) pss_nil) (@pss_one _ _ _ (@ps_ret _ _ _ _ (pv 7))))))))))), ?_⟩
  refine ⟨_, rfl, c, 11, rfl, ?_⟩
  obtain ⟨m0, m1⟩ := mix_b c 11
  generalize mixF c 11 = m at q m0 m1 ⊢
  have l0 := Int.emod_nonneg m (show (8 : Int) ≠ 0 by decide)
  have l1 := Int.emod_lt_of_pos m (show (0 : Int) < 8 by decide)
  dsimp only [gName]
  refine ⟨_, rfl, _, _, rfl, rfl, (by show (0 : Int) < 8; decide), m % 8, rfl, by omega, by omega, ?_⟩
  have hL := nmL_b m
  refine for_range (lo := 0) (n := nmL m) (fun i σ' H' => H' = H ∧ ∃ o5 o6 o7, σ' = [some (.int c), some (.int e), some (.str abc), some (.int m), some (.str (sOf (nmW m i))), o5, o6, o7]) ⟨rfl, _, _, _, rfl⟩ (fun i σ' H' hi p => ?_) (fun σ' H' p => ?_)
  · obtain ⟨rfl, o5, o6, o7, rfl⟩ := p
    have e0' : (0 : Int) + (i : Int) = (i : Int) := by omega
    rw [e0']
    refine ⟨_, rfl, _, rfl, _, rfl, _, rfl, _, _, rfl, rfl, _, _, rfl, rfl, ⟨(by show (0 : Int) < (i : Int) + 9; omega), (by show (i : Int) + 9 < 1073741824; omega)⟩, _, _, rfl, rfl, (by show (0 : Int) < 26; decide), _, _, _, rfl, rfl, abc_len, abc_at _, _, _, rfl, rfl, ?_, ?_⟩
    · rw [len_sOf, nmW_len]; exact szl (by show i + 1 ≤ 1000000; omega)
    have eW : sOf (nmW m i) ++ (⟨#[letC (m / ((i : Int) + 9))]⟩ : Str) = sOf (nmW m (i + 1)) := cds_ext (by
      rw [cds_app, cds_sOf, cds_sOf]
      unfold nmW
      rw [List.range_succ, List.map_append]
      rfl)
    exact ⟨rfl, _, _, _, congrArg (fun z => [some (V.int c), some (.int e), some (.str abc), some (.int m), some (.str z), some (.int (i : Int)), o6, o7]) eW⟩
  obtain ⟨rfl, o5, o6, o7, rfl⟩ := p
  have wl : (sOf (nmW m (nmL m))).length = nmL m := by rw [len_sOf, nmW_len]
  obtain ⟨a0, a1⟩ := nmAt_b m
  refine ⟨_, rfl, _, _, rfl, rfl, ⟨by decide, by decide⟩, _, rfl, _, rfl, ?_⟩
  rw [wl]
  refine ⟨szl (by omega), _, _, rfl, rfl, _, _, rfl, rfl, (by show (0 : Int) < (nmL m : Int) + 1; omega), ?_⟩
  dsimp only [gName]
  rw [← a1]
  have hc := nmW_len m (nmL m)
  -- the name
  refine ⟨_, rfl, _, rfl, _, rfl, _, rfl, szl (by omega), _, rfl, _, rfl, _, _, rfl, rfl, ⟨by decide, by decide⟩, _, rfl, _, _, rfl, rfl, .inl ⟨by decide, by decide⟩, _, _, rfl, rfl, _, _, rfl, rfl, (by show (0 : Int) < 26; decide), _, _, _, rfl, rfl, abc_len, abc_at _, _, _, rfl, rfl, ?_, ?_⟩
  · rw [len_sOf, cds_sOf, cut_to _ (by omega)]
    exact szl (by rw [List.length_take]; show _ + 1 ≤ 1000000; omega)
  refine ⟨_, rfl, _, rfl, _, rfl, _, rfl, szl (by omega), ?_⟩
  rw [cds_sOf, cut_to _ (by omega), cut_from _ (by omega)]
  have eA : sOf ((nmW m (nmL m)).take ((nmAt m : Nat) : Int).toNat) ++ (⟨#[letC (m / 72 + 5 * e)]⟩ : Str) ++ sOf ((nmW m (nmL m)).drop ((nmAt m : Nat) : Int).toNat) = sOf (nmA m e) := cds_ext (by rw [cds_app, cds_app, cds_sOf, cds_sOf, cds_sOf]; rfl)
  refine ⟨_, _, rfl, rfl, ?_, ?_⟩
  · rw [len_app, len_sOf, len_sOf, List.length_take, List.length_drop]
    exact szl (by show _ + 1 + _ ≤ 1000000; omega)
  rw [eA]
  dsimp only [gName]
  refine seq_any (fun σ2 H2 => H2 = H' ∧ ∃ o5 o6, σ2 = [some (.int c), some (.int e), some (.str abc), some (.int m), some (.str (sOf (nmW m (nmL m)))), o5, o6, some (.str (sOf (nmR m e)))]) (fun σ2 H2 mm => ?_) (fun rest => ?_)
  · obtain ⟨rfl, o5, o6, rfl⟩ := mm
    have rb := nmR_b (m := m) e0 e1
    refine seq_any (fun σ3 H3 => Same H2 H3 ∧ ∃ o5 o6, σ3 = [some (.int c), some (.int e), some (.str abc), some (.int m), some (.str (sOf (nmW m (nmL m)))), o5, o6, some (.str (sOf (nmC m e)))]) (fun σ3 H3 mm => ?_) (fun rest => ?_)
    · obtain ⟨e3, o5, o6, rfl⟩ := mm
      exact ⟨_, rfl, q _ e3⟩
    · refine ⟨_, rfl, szl (by show 3 ≤ 1000000; decide), fun tp htp => ?_⟩
      refine ⟨tp, [.str "for", .str "end", .str "size"], rfl, .inr (SqT.of upd_same), rfl, rfl, _, rfl, ?_⟩
      show if inV (V.str (sOf (nmR m e))) [.str "for", .str "end", .str "size"] = true then _ else _
      rw [in_resv]
      refine ite2 (fun cc => ?_) (fun cc => ?_)
      · refine ⟨_, rfl, _, _, rfl, rfl, ?_, ?_⟩
        · have hz2 : (Str.ofString "s").length = 1 := by decide +kernel
          rw [len_sOf, hz2]
          exact szl (by omega)
        · have ee : sOf (nmR m e) ++ Str.ofString "s" = sOf (nmC m e) := cds_ext (by
            rw [cds_app, cds_sOf, cds_sOf]
            unfold nmC
            rw [if_pos (dT cc)]
            congr 1)
          exact rest _ _ ⟨same_new htp _, o5, o6, congrArg (fun z => [some (V.int c), some (.int e), some (.str abc), some (.int m), some (.str (sOf (nmW m (nmL m)))), o5, o6, some (.str z)]) ee⟩
      · have ee : sOf (nmR m e) = sOf (nmC m e) := by
          unfold nmC
          rw [if_neg (dF cc)]
        exact rest _ _ ⟨same_new htp _, o5, o6, congrArg (fun z => [some (V.int c), some (.int e), some (.str abc), some (.int m), some (.str (sOf (nmW m (nmL m)))), o5, o6, some (.str z)]) ee⟩
  · refine ⟨_, rfl, _, _, rfl, rfl, ⟨by decide, by decide⟩, _, _, rfl, rfl, (by show (0 : Int) < 4; decide), rfl, _, rfl, ?_⟩
    have key : (V.int (m / 5003 % 4) = V.int 1) ↔ m / 5003 % 4 = 1 := ⟨fun e => V.int.inj e, fun e => by rw [e]⟩
    refine ite2 (fun cc => ?_) (fun cc => ?_)
    · have c2 := key.mp (dT cc)
      refine ⟨_, rfl, _, _, rfl, rfl, ?_, ?_⟩
      · have hz : (Str.ofString "qrstuvwx").length = 8 := by decide +kernel
        rw [wl, hz]
        exact szl (by omega)
      refine ⟨_, rfl, _, _, rfl, rfl, _, rfl, _, rfl, ?_, ?_⟩
      · rw [len_app, wl]
        have hz : (Str.ofString "qrstuvwx").length = 8 := by decide +kernel
        rw [hz]
        exact szl (by omega)
      have ee : sOf (cutC (cds (sOf (nmW m (nmL m)) ++ Str.ofString "qrstuvwx")) none (some (5 + e))) = sOf (nmR m e) := by
        rw [cds_app, cds_sOf, cut_to _ (by omega)]
        unfold nmR
        rw [if_pos c2]
        rfl
      exact rest _ _ ⟨rfl, _, _, congrArg (fun z => [some (V.int c), some (.int e), some (.str abc), some (.int m), some (.str (sOf (nmW m (nmL m)))), o5, some (V.int (nmAt m : Int)), some (.str z)]) ee⟩
    · have c2 := fun z => dF cc (key.mpr z)
      have ee : sOf (nmA m e) = sOf (nmR m e) := by
        unfold nmR
        rw [if_neg c2]
      exact rest _ _ ⟨rfl, _, _, congrArg (fun z => [some (V.int c), some (.int e), some (.str abc), some (.int m), some (.str (sOf (nmW m (nmL m)))), o5, some (V.int (nmAt m : Int)), some (.str z)]) ee⟩

theorem ok_unknown (T : Tx K mg a) : FnOk P w K mg base CX0 1 a.f_unknown_of a.d_unknown_of ["spot", "names", "first"] spUnknown := by
  refine T.F_unknown_of.ok sc_unknown_of (fun vs H Q E h => ?_) (fun cdv A outer s H vs Q E hr h => ?_)
  · obtain ⟨_, _, _, _, _, _, _, rfl, _⟩ := h; rfl
  obtain ⟨t, nm, z, n, first, zs, u, rfl, ht, hn, hw, q⟩ := h
  refine ⟨_, (@pss_cons _ _ _ _ _ (@ps_if _ _ _ _ _ _ _ _ (@pt_cmpR _ _ _ _ _ _ _ _ op_eq (@pe_ix _ _ _ _ _ _ _ ix_tup (pv 0) pe_int (fun _ _ => rfl)) pe_str (@nomark _ _ (by decide) (by decide))) (@pss_one _ _ _ (@ps_ret _ _ _ _ pe_int)) pss_nil) (@pss_one _ _ _ (@ps_ret _ _ _ _ (@pe_op _ _ _ _ _ _ _ _ op_add (pv 2) (@pe_bmT _ _ _ _ _ _ _ _ _ _ _ PySem.F.slot_tuple_index PySem.F.type_tuple_index mt_tindex (pv 1) (@pa_cons _ _ _ _ _ (@pe_ix _ _ _ _ _ _ _ ix_tup (pv 0) pe_int (fun _ _ => rfl)) pa_nil (by rfl)) (by rfl) (by rfl) (by rfl) (by rfl) (by rfl)))))), ?_⟩
  refine ⟨_, rfl, t, _, 0, _, rfl, rfl, SqT.of ht, rfl, rfl, _, rfl, ?_⟩
  rcases hw with ⟨rfl, rfl⟩ | ⟨hz, j, hj, hno, rfl⟩
  · exact iteE (v := true) (decide_eq_true rfl) (iteT q)
  · refine iteE (v := false) (dS hz) (iteF ?_)
    exact ⟨_, rfl, _, rfl, ⟨nm, _, rfl, hn⟩, _, rfl, t, _, 0, _, rfl, rfl, SqT.of ht, rfl, nm, zs, z, j, rfl, rfl, SqT.of hn, hj, hno, _, _, rfl, rfl, q⟩

theorem ok_whose (T : Tx K mg a) : FnOk P w K mg base CX0 1 a.f_l_whose a.d_l_whose ["_law_name_here", "_law_names", "_law_first"] spWhose := by
  refine T.F_l_whose.ok sc_l_whose (fun vs H Q E h => ?_) (fun cdv A outer s H vs Q E hr h => ?_)
  · obtain ⟨_, _, _, _, _, rfl, _⟩ := h; rfl
  obtain ⟨nm, z, first, zs, u, rfl, hn, hw, q⟩ := h
  refine ⟨_, (@pss_cons _ _ _ _ _ (@ps_if _ _ _ _ _ _ _ _ (@pt_cmpR _ _ _ _ _ _ _ _ op_eq (pv 0) pe_str (@nomark _ _ (by decide) (by decide))) (@pss_one _ _ _ (@ps_ret _ _ _ _ pe_int)) pss_nil) (@pss_one _ _ _ (@ps_ret _ _ _ _ (@pe_op _ _ _ _ _ _ _ _ op_add (pv 2) (@pe_bmT _ _ _ _ _ _ _ _ _ _ _ PySem.F.slot_tuple_index PySem.F.type_tuple_index mt_tindex (pv 1) (@pa_cons _ _ _ _ _ (pv 0) pa_nil (by rfl)) (by rfl) (by rfl) (by rfl) (by rfl) (by rfl)))))), ?_⟩
  refine ⟨_, rfl, rfl, _, rfl, ?_⟩
  rcases hw with ⟨rfl, rfl⟩ | ⟨hz, j, hj, hno, rfl⟩
  · exact iteE (v := true) (decide_eq_true rfl) (iteT q)
  · refine iteE (v := false) (dS hz) (iteF ?_)
    exact ⟨_, rfl, _, rfl, ⟨nm, _, rfl, hn⟩, _, rfl, nm, zs, z, j, rfl, rfl, SqT.of hn, hj, hno, _, _, rfl, rfl, q⟩

theorem ok_ninit (T : Tx K mg a) : FnOk P w K mg base CX0 1 a.f_Number_init a.d_Number_init ["self", "n"] (spNInit a.c_Number) := by
  refine T.F_Number_init.ok sc_Number_init (fun vs H Q E h => ?_) (fun cdv A outer s H vs Q E hr h => ?_)
  · obtain ⟨_, _, _, rfl, _⟩ := h; rfl
  obtain ⟨x, dx, n, rfl, hx, q⟩ := h
  refine ⟨_, (@pss_one _ _ _ (@ps_fld _ _ _ _ _ _ _ _ (pv 0) (pv 1) rfl)), ?_⟩
  exact ⟨_, rfl, _, rfl, x, _, dx, _, rfl, hx, T.cl_Number, T.n_Number_n, (by show 0 < 1000; decide), q _ (fun b o e hb => by rw [upd_ne hb]; exact e) ⟨dx, upd_same⟩⟩

theorem ok_dinit (T : Tx K mg a) : FnOk P w K mg base CX0 1 a.f_Deed_init a.d_Deed_init ["self", "names", "lows", "highs", "table", "spots", "term", "path"] (spDInit a.c_Deed) := by
  refine T.F_Deed_init.ok sc_Deed_init (fun vs H Q E h => ?_) (fun cdv A outer s H vs Q E hr h => ?_)
  · obtain ⟨_, _, _, _, _, _, _, _, _, rfl, _⟩ := h; rfl
  obtain ⟨x, dx, v1, v2, v3, v4, v5, v6, v7, rfl, hx, q⟩ := h
  refine ⟨_, (@pss_cons _ _ _ _ _ (@ps_fld _ _ _ _ _ _ _ _ (pv 0) (pv 1) rfl) (@pss_cons _ _ _ _ _ (@ps_fld _ _ _ _ _ _ _ _ (pv 0) (pv 2) rfl) (@pss_cons _ _ _ _ _ (@ps_fld _ _ _ _ _ _ _ _ (pv 0) (pv 3) rfl) (@pss_cons _ _ _ _ _ (@ps_fld _ _ _ _ _ _ _ _ (pv 0) (pv 4) rfl) (@pss_cons _ _ _ _ _ (@ps_fld _ _ _ _ _ _ _ _ (pv 0) (pv 5) rfl) (@pss_cons _ _ _ _ _ (@ps_fld _ _ _ _ _ _ _ _ (pv 0) (pv 6) rfl) (@pss_one _ _ _ (@ps_fld _ _ _ _ _ _ _ _ (pv 0) (pv 7) rfl)))))))), ?_⟩
  refine ⟨_, rfl, _, rfl, x, _, dx, _, rfl, hx, T.cl_Deed, T.n_Deed_names, (by show 0 < 1000; decide), ?_⟩
  refine ⟨_, rfl, _, rfl, x, _, dx, _, rfl, upd_same, T.cl_Deed, T.n_Deed_lows, (by show 1 < 1000; decide), ?_⟩
  refine ⟨_, rfl, _, rfl, x, _, dx, _, rfl, upd_same, T.cl_Deed, T.n_Deed_highs, (by show 2 < 1000; decide), ?_⟩
  refine ⟨_, rfl, _, rfl, x, _, dx, _, rfl, upd_same, T.cl_Deed, T.n_Deed_table, (by show 3 < 1000; decide), ?_⟩
  refine ⟨_, rfl, _, rfl, x, _, dx, _, rfl, upd_same, T.cl_Deed, T.n_Deed_spots, (by show 4 < 1000; decide), ?_⟩
  refine ⟨_, rfl, _, rfl, x, _, dx, _, rfl, upd_same, T.cl_Deed, T.n_Deed_term, (by show 5 < 1000; decide), ?_⟩
  refine ⟨_, rfl, _, rfl, x, _, dx, _, rfl, upd_same, T.cl_Deed, T.n_Deed_path, (by show 6 < 1000; decide), ?_⟩
  exact q _ (fun b o e hb => by repeat rw [upd_ne hb]
                                exact e) ⟨dx, upd_same⟩

theorem ok_are_bonds (T : Tx K mg a) : FnOk P w K mg base CX0 2 a.f_l_are_bonds a.d_l_are_bonds ["_law_found"] spAreBonds := by
  have G_l_whole := ok_whole (P := P) (w := w) (base := base) T
  refine T.F_l_are_bonds.ok sc_l_are_bonds (fun vs H Q E h => ?_) (fun cdv A outer s H vs Q E hr h => ?_)
  · obtain ⟨_, _, _, rfl, _⟩ := h; rfl
  obtain ⟨l, ys, B, rfl, hl, hB, yl, q⟩ := h
  refine ⟨_, (@pss_cons _ _ _ _ _ (@ps_if _ _ _ _ _ _ _ _ (@pt_not _ _ _ _ (@pt_val _ _ _ (@pe_callB _ _ _ _ _ _ _ _ _ call_isi (by rfl) T.z_isinstance bt_isinstance (@pa_cons _ _ _ _ _ (pv 0) (@pa_cons _ _ _ _ _ (@pe_bltn _ _ (.ty "list") _ _ (by rfl) T.z_list bt_list rfl (by decide) (by decide)) pa_nil (by rfl)) (by rfl)) (by decide) (by decide) (by rfl) (by rfl)) (by intro _ ; rfl))) (@pss_one _ _ _ (@ps_ret _ _ _ _ pe_bl)) pss_nil) (@pss_cons _ _ _ _ _ (@ps_for _ _ _ _ _ _ _ _ PassesOwn.never rfl (@pi_list _ _ _ _ (pv 0)) (pg_name (i := 1) sc_l_are_bonds.nd rfl (Or.inl rfl)) (@pss_one _ _ _ (@ps_if _ _ _ _ _ _ _ _ ((@pw_or _ _ _ _ _ _ _ (@pt_not _ _ _ _ (@pt_val _ _ _ (@pe_callB _ _ _ _ _ _ _ _ _ call_isi (by rfl) T.z_isinstance bt_isinstance (@pa_cons _ _ _ _ _ (pv 1) (@pa_cons _ _ _ _ _ (@pe_bltn _ _ (.ty "tuple") _ _ (by rfl) T.z_tuple bt_tuple rfl (by decide) (by decide)) pa_nil (by rfl)) (by rfl)) (by decide) (by decide) (by rfl) (by rfl)) (by intro _ ; rfl))) (@pw_or _ _ _ _ _ _ _ (@pt_cmpR _ _ _ _ _ _ _ _ op_ne (@pe_callB _ _ _ _ _ _ _ _ _ call_len_seq (by rfl) T.z_len bt_len (@pa_cons _ _ _ _ _ (pv 1) pa_nil (by rfl)) (by decide) (by decide) (by rfl) (by rfl)) pe_int (@nomark _ _ (by decide) (by decide))) (@pw_or1 _ _ _ _ (@pt_cmpR _ _ _ _ _ _ _ _ op_ne (@pe_callB _ _ _ _ _ _ _ _ _ call_len_seq (by rfl) T.z_len bt_len (@pa_cons _ _ _ _ _ (@pe_compB _ _ _ _ _ _ _ ["_law_n"] [none] _ _ _ _ (by rfl) (@pi_tup _ _ _ _ (pv 1)) c_l_are_bonds_0 (fun _ _ _ _ _ _ => ⟨(pg_name (i := 0) c_l_are_bonds_0n rfl (Or.inl rfl)), (by exact (pts_one (pt_val (pe_call G_l_whole (hr.mono (by decide)) (by rfl) T.m_l_whole T.F_l_whole.kp T.b_l_whole .nil pass0 (pa_cons (pv 0) pa_nil))))), (pv 0)⟩) (by intro _ ; rfl)) pa_nil (by rfl)) (by decide) (by decide) (by rfl) (by rfl)) pe_int (@nomark _ _ (by decide) (by decide))))))).pt (@pss_one _ _ _ (@ps_ret _ _ _ _ pe_bl)) pss_nil)) (by intro _ ; rfl)) (@pss_one _ _ _ (@ps_ret _ _ _ _ pe_bl)))), ?_⟩
  refine ⟨_, rfl, _, _, _, _, _, rfl, rfl, .lst hl, rfl, _, rfl, iteF ?_⟩
  refine ⟨_, rfl, l, rfl, ⟨_, SqL.of hl⟩, ?_⟩
  refine for_list (xs := ys) (fun i σ' H' => Same H H' ∧ ∃ o1, σ' = [some (.ref l), o1]) ⟨Same.refl _, _, rfl⟩ (fun i σ' H' _ pp => SqL.of (pp.1 _ _ hl)) (fun i x σ' H' hx pp => ?_) (fun σ' H' pp => ?_)
  · obtain ⟨e, o1, rfl⟩ := pp
    have hi : i < B.length := by have := (List.getElem?_eq_some_iff.mp hx).1; have := hB.1; omega
    obtain ⟨t, rfl, ht⟩ := (hB.over e).2 i x _ hx (List.getElem?_eq_getElem hi)
    refine ⟨_, rfl, _, _, _, _, _, rfl, rfl, .tup ht, rfl, _, rfl, iteF ?_⟩
    refine ⟨_, rfl, t, _, rfl, .inr (SqT.of ht), rfl, _, rfl, iteE (ndF rfl) (iteF ?_)⟩
    refine ⟨_, rfl, t, rfl, ⟨_, SqT.of ht⟩, ?_⟩
    refine comp_tup (xs := [V.int B[i].1, V.int B[i].2.1, V.int B[i].2.2]) (fun j zs H2 => H2 = H' ∧ zs.length = j) ⟨rfl, rfl⟩ (szl (by show 3 ≤ 1000000; decide)) (fun j zs H2 hj p => ⟨by rw [p.1]; exact SqT.of ht, by omega⟩) (fun j x zs H2 hx p => ?_) (fun zs H2 p r hr' => ?_)
    · obtain ⟨rfl, zl⟩ := p
      obtain ⟨n, rfl⟩ : ∃ n, x = V.int n := by
        match j, hx with
        | 0, hx => exact ⟨_, (Option.some.inj hx).symm⟩
        | 1, hx => exact ⟨_, (Option.some.inj hx).symm⟩
        | 2, hx => exact ⟨_, (Option.some.inj hx).symm⟩
        | j + 3, hx => simp at hx
      refine ⟨_, rfl, _, rfl, rfl, _, rfl, iteT ?_⟩
      exact ⟨_, rfl, rfl, by rw [List.length_append, zl]; rfl⟩
    · obtain ⟨rfl, zl⟩ := p
      refine ⟨r, _, rfl, .inl (SqL.of upd_same), rfl, _, rfl, iteE (ndF (congrArg (fun n : Nat => V.int (n : Int)) zl)) (iteF ?_)⟩
      exact ⟨e.trans (same_new hr' _), _, rfl⟩
  · obtain ⟨e, o1, rfl⟩ := pp
    exact q _ e

theorem ok_loop (T : Tx K mg a) : FnOk P w K mg base CX0 3 a.f_l_loop a.d_l_loop ["_law_number", "_law_far", "_law_stack", "_law_cell_here"] spLoop52 := by
  have G_l_name := ok_name (P := P) (w := w) (base := base) T
  refine T.F_l_loop.ok sc_l_loop (fun vs H Q E h => ?_) (fun cdv A outer s H vs Q E hr h => ?_)
  · obtain ⟨_, _, _, _, _, rfl, _⟩ := h; rfl
  obtain ⟨n, far, c, st, S, rfl, n0, ⟨vs, hv, hall⟩, k10, htn, q⟩ := h
  refine ⟨_, (@pss_cons _ _ _ _ _ (@ps_set _ _ (4) _ _ _ _ sc_l_loop.nd rfl (Or.inl rfl) (@pe_ix _ _ _ _ _ _ _ ix_list (@pe_lstq _ _ _ _ (@paq_cons _ _ _ _ _ pe_int (@paq_cons _ _ _ _ _ pe_int (@paq_cons _ _ _ _ _ (pv 1) paq_nil star_N) star_C) star_C)) (@pe_op _ _ _ _ _ _ _ _ op_mod (pv 0) pe_int) (fun _ _ => rfl)) (by rfl) (by first | exact .inl rfl | exact .inr rfl | assumption)) (@pss_cons _ _ _ _ _ (@ps_set _ _ (5) _ _ _ _ sc_l_loop.nd rfl (Or.inl rfl) (@pe_op _ _ _ _ _ _ _ _ op_cat (@pe_lst _ _ _ _ (@pa_cons _ _ _ _ _ (@pe_tup _ _ _ _ _ (@pa_cons _ _ _ _ _ pe_str (@pa_cons _ _ _ _ _ pe_int pa_nil (by rfl)) (by rfl))) pa_nil (by rfl))) (@pe_compB _ _ _ _ _ _ _ ["_law_one"] [none] _ _ _ _ (by rfl) (@pi_list _ _ _ _ (pv 2)) c_l_loop_0 (fun _ _ _ _ _ _ => ⟨(pg_name (i := 0) c_l_loop_0n rfl (Or.inl rfl)), @pts_nil _, (@pe_tup _ _ _ _ _ (@pa_cons _ _ _ _ _ (@pe_ix _ _ _ _ _ _ _ (show IxR _ (rIxT K) from ix_tup) (pv 0) pe_int (fun _ _ => rfl)) (@pa_cons _ _ _ _ _ (@pe_ix _ _ _ _ _ _ _ (show IxR _ (rIxT K) from ix_tup) (pv 0) pe_int (fun _ _ => rfl)) pa_nil (by rfl)) (by rfl)))⟩) (by intro _ ; rfl))) (by rfl) (by first | exact .inl rfl | exact .inr rfl | assumption)) (@pss_cons _ _ _ _ _ (@ps_set _ _ (6) _ _ _ _ sc_l_loop.nd rfl (Or.inl rfl) (@pe_ix _ _ _ _ _ _ _ ix_list (pv 5) (@pe_op _ _ _ _ _ _ _ _ op_mod (@pe_op _ _ _ _ _ _ _ _ op_fdiv (pv 0) pe_int) (@pe_callB _ _ _ _ _ _ _ _ _ call_len_seq (by rfl) T.z_len bt_len (@pa_cons _ _ _ _ _ (pv 5) pa_nil (by rfl)) (by decide) (by decide) (by rfl) (by rfl))) (fun _ _ => rfl)) (by rfl) (by first | exact .inl rfl | exact .inr rfl | assumption)) (@pss_cons _ _ _ _ _ (@ps_set _ _ (7) _ _ _ _ sc_l_loop.nd rfl (Or.inl rfl) (@pe_ix _ _ _ _ _ _ _ ix_list (pv 5) (@pe_op _ _ _ _ _ _ _ _ op_mod (@pe_op _ _ _ _ _ _ _ _ op_fdiv (pv 0) pe_int) (@pe_callB _ _ _ _ _ _ _ _ _ call_len_seq (by rfl) T.z_len bt_len (@pa_cons _ _ _ _ _ (pv 5) pa_nil (by rfl)) (by decide) (by decide) (by rfl) (by rfl))) (fun _ _ => rfl)) (by rfl) (by first | exact .inl rfl | exact .inr rfl | assumption)) (@pss_cons _ _ _ _ _ (@ps_set _ _ (8) _ _ _ _ sc_l_loop.nd rfl (Or.inl rfl) (@pe_ix _ _ _ _ _ _ _ ix_list (@pe_lstq _ _ _ _ (@paq_cons _ _ _ _ _ pe_int (@paq_cons _ _ _ _ _ pe_int (@paq_cons _ _ _ _ _ pe_int (@paq_cons _ _ _ _ _ pe_int (@paq_cons _ _ _ _ _ pe_int (@paq_cons _ _ _ _ _ pe_int (@paq_cons _ _ _ _ _ (@pe_un _ _ _ _ _ _ un_neg pe_int) (@paq_cons _ _ _ _ _ pe_int paq_nil star_C) star_U) star_C) star_C) star_C) star_C) star_C) star_C)) (@pe_op _ _ _ _ _ _ _ _ op_mod (@pe_op _ _ _ _ _ _ _ _ op_fdiv (pv 0) pe_int) pe_int) (fun _ _ => rfl)) (by rfl) (by first | exact .inl rfl | exact .inr rfl | assumption)) (@pss_cons _ _ _ _ _ (@ps_set _ _ (9) _ _ _ _ sc_l_loop.nd rfl (Or.inl rfl) (@pe_tup _ _ _ _ _ (@pa_cons _ _ _ _ _ (@pe_ix _ _ _ _ _ _ _ ix_tup (pv 6) pe_int (fun _ _ => rfl)) (@pa_cons _ _ _ _ _ (@pe_op _ _ _ _ _ _ _ _ op_add (@pe_op _ _ _ _ _ _ _ _ op_sub (pv 4) (@pe_ix _ _ _ _ _ _ _ ix_tup (pv 6) pe_int (fun _ _ => rfl))) (@pe_op _ _ _ _ _ _ _ _ op_mod (@pe_op _ _ _ _ _ _ _ _ op_fdiv (pv 0) pe_int) pe_int)) pa_nil (by rfl)) (by rfl))) (by rfl) (by first | exact .inl rfl | exact .inr rfl | assumption)) (@pss_cons _ _ _ _ _ (@ps_set _ _ (10) _ _ _ _ sc_l_loop.nd rfl (Or.inl rfl) (@pe_op _ _ _ _ _ _ _ _ op_mod (@pe_op _ _ _ _ _ _ _ _ op_fdiv (pv 0) pe_int) pe_int) (by rfl) (by first | exact .inl rfl | exact .inr rfl | assumption)) (@pss_cons _ _ _ _ _ (@ps_if _ _ _ _ _ _ _ _ (@pt_cmpR _ _ _ _ _ _ _ _ (@op_neS _ (@hu64 _ _ hr)) (pv 2) (@pe_lst _ _ _ _ pa_nil) (@nomark _ _ (by decide) (by decide))) (@pss_one _ _ _ (@ps_set _ _ (10) _ _ _ _ sc_l_loop.nd rfl (Or.inl rfl) (@pe_ix _ _ _ _ _ _ _ ix_tup (@pe_ix _ _ _ _ _ _ _ ix_list (pv 2) pe_int (fun _ _ => rfl)) pe_int (fun _ _ => rfl)) (by rfl) (by first | exact .inl rfl | exact .inr rfl | assumption))) pss_nil) (@pss_cons _ _ _ _ _ (@ps_set _ _ (11) _ _ _ _ sc_l_loop.nd rfl (Or.inl rfl) (@pe_call _ _ _ _ _ _ _ _ _ _ _ _ _ _ _ _ G_l_name (hr.mono (by decide)) (by rfl) T.m_l_name T.F_l_name.kp T.b_l_name .nil pass0 (@pa_cons _ _ _ _ _ (pv 3) (@pa_cons _ _ _ _ _ (@pe_op _ _ _ _ _ _ _ _ op_mod (@pe_op _ _ _ _ _ _ _ _ op_add (@pe_callB _ _ _ _ _ _ _ _ _ call_len_seq (by rfl) T.z_len bt_len (@pa_cons _ _ _ _ _ (pv 2) pa_nil (by rfl)) (by decide) (by decide) (by rfl) (by rfl)) (pv 10)) pe_int) pa_nil (by rfl)) (by rfl)) (by decide) (by rfl) (by rfl)) (by rfl) (by first | exact .inl rfl | exact .inr rfl | assumption)) (@pss_one _ _ _ (@ps_ret _ _ _ _ (@pe_tupq _ _ _ _ _ (@paq_cons _ _ _ _ _ (pv 11) (@paq_cons _ _ _ _ _ (pv 9) (@paq_cons _ _ _ _ _ (@pe_tup _ _ _ _ _ (@pa_cons _ _ _ _ _ (@pe_ix _ _ _ _ _ _ _ ix_tup (pv 7) pe_int (fun _ _ => rfl)) (@pa_cons _ _ _ _ _ (@pe_op _ _ _ _ _ _ _ _ op_add (@pe_op _ _ _ _ _ _ _ _ op_sub (pv 4) (@pe_ix _ _ _ _ _ _ _ ix_tup (pv 7) pe_int (fun _ _ => rfl))) (pv 8)) pa_nil (by rfl)) (by rfl))) (@paq_cons _ _ _ _ _ (pv 4) (@paq_cons _ _ _ _ _ (pv 10) paq_nil star_N) star_N) star_T) star_N) star_N))))))))))))), ?_⟩
  have hk := hall.1
  -- about
  obtain ⟨ab, _, eab⟩ := pickN (L := [0, 0, far]) (i := n % 3) 3 rfl (Int.emod_nonneg _ (by decide)) (Int.emod_lt_of_pos _ (by decide))
  refine ⟨_, rfl, szl (by show 3 ≤ 1000000; decide), fun q1 hq1 => ⟨_, rfl, _, _, rfl, rfl, (by show (0 : Int) < 3; decide), q1, _, _, _, rfl, rfl, SqL.of upd_same, eab, ?_⟩⟩
  have e1 := same_new hq1 (.lst [V.int 0, V.int 0, V.int far])
  dsimp only [gName]
  generalize upd H q1 (.lst [V.int 0, V.int 0, V.int far]) = H1 at e1
  -- bases
  refine ⟨szl (by show 2 ≤ 1000000; decide), fun t0 ht0 => ⟨szl (by show 1 ≤ 1000000; decide), fun l0 hl0 => ?_⟩⟩
  have e2 := e1.trans ((same_new ht0 (.tup [V.str "", V.int 0])).trans (same_new hl0 (.lst [V.ref t0])))
  have ht02 : (upd (upd H1 t0 (.tup [V.str "", V.int 0])) l0 (.lst [V.ref t0])) t0 = some (.tup [V.str "", V.int 0]) := same_new hl0 _ _ _ upd_same
  have hl02 : (upd (upd H1 t0 (.tup [V.str "", V.int 0])) l0 (.lst [V.ref t0])) l0 = some (.lst [V.ref t0]) := upd_same
  generalize upd (upd H1 t0 (.tup [V.str "", V.int 0])) l0 (.lst [V.ref t0]) = H2 at e2 ht02 hl02
  refine ⟨_, rfl, st, rfl, ⟨_, SqL.of (e2 _ _ hv)⟩, ?_⟩
  refine comp_list (xs := vs) (fun i ys H' => Same H2 H' ∧ ys.length = i ∧ BsAt H' S ys) ⟨Same.refl _, rfl, fun v hv => by cases hv⟩ (szl (by omega)) (fun i ys H' hi p => ⟨SqL.of (p.1 _ _ (e2 _ _ hv)), by omega⟩) (fun i x ys H' hx p => ?_) (fun ys H' p r hr' => ?_)
  · obtain ⟨e3, yl, yp⟩ := p
    obtain ⟨qq, hqq, hlq⟩ := hall.get' hx
    obtain ⟨p0, p1, p2, rfl, h0, _⟩ := hlq.over (e2.trans e3)
    refine ⟨_, rfl, p0, _, 0, _, rfl, rfl, SqT.of h0, rfl, _, rfl, p0, _, 3, _, rfl, rfl, SqT.of h0, rfl, szl (by show 2 ≤ 1000000; decide), fun t4 ht4 => ?_⟩
    have s4 := same_new ht4 (.tup [V.str qq.nm, V.int qq.ab])
    refine ⟨e3.trans s4, by rw [List.length_append, yl]; rfl, fun v hv' => ?_⟩
    rcases List.mem_append.mp hv' with h | h
    · exact (yp.over s4) v h
    · rw [List.mem_singleton] at h
      exact ⟨t4, qq.nm, qq.ab, h, upd_same, .inr ⟨qq, List.mem_of_getElem? hqq, rfl⟩⟩
  obtain ⟨e3, yl, yp⟩ := p
  have s4 := same_new hr' (.lst ys)
  refine ⟨l0, r, _, _, rfl, rfl, s4 _ _ (e3 _ _ hl02), upd_same, szl (by simp only [List.length_singleton]; omega), fun bl hbl => ?_⟩
  have s5 := same_new hbl (.lst ([V.ref t0] ++ ys))
  have e5 := (e2.trans e3).trans (s4.trans s5)
  have hB : ∃ bs, (upd (upd H' r (.lst ys)) bl (.lst ([V.ref t0] ++ ys))) bl = some (.lst bs) ∧ 0 < bs.length ∧ bs.length ≤ 100 ∧ BsAt (upd (upd H' r (.lst ys)) bl (.lst ([V.ref t0] ++ ys))) S bs := by
    refine ⟨_, upd_same, by rw [List.length_append]; show 0 < 1 + ys.length; omega, by rw [List.length_append]; show 1 + ys.length ≤ 100; omega, fun v hv' => ?_⟩
    rcases List.mem_append.mp hv' with h | h
    · rw [List.mem_singleton] at h
      exact ⟨t0, _, _, h, s5 _ _ (s4 _ _ (e3 _ _ ht02)), .inl rfl⟩
    · exact (yp.over (s4.trans s5)) v h
  dsimp only [gName]
  generalize upd (upd H' r (.lst ys)) bl (.lst ([V.ref t0] ++ ys)) = H5 at e5 hB
  clear s4 s5 e3 yp hl02 ht02
  obtain ⟨bs, hb, hb0, hb1, hbp⟩ := hB
  have hb2 : (0 : Int) < (bs.length : Int) := by omega
  -- low, high
  obtain ⟨v1, hv1, ev1⟩ := at_mem (vs := bs) (i := n / 3 % (bs.length : Int)) (Int.emod_nonneg _ (by omega)) (Int.emod_lt_of_pos _ hb2)
  obtain ⟨t1, z1, k1, rfl, ht1, bz1⟩ := hbp v1 hv1
  obtain ⟨v2, hv2, ev2⟩ := at_mem (vs := bs) (i := n / 13 % (bs.length : Int)) (Int.emod_nonneg _ (by omega)) (Int.emod_lt_of_pos _ hb2)
  obtain ⟨t2, z2, k2, rfl, ht2, bz2⟩ := hbp v2 hv2
  refine ⟨_, rfl, _, rfl, _, _, rfl, rfl, ⟨by decide, by decide⟩, _, rfl, bl, _, rfl, .inl (SqL.of hb), _, _, rfl, rfl, hb2, bl, _, _, _, rfl, rfl, SqL.of hb, ev1, ?_⟩
  refine ⟨_, rfl, _, rfl, _, _, rfl, rfl, ⟨by decide, by decide⟩, _, rfl, bl, _, rfl, .inl (SqL.of hb), _, _, rfl, rfl, hb2, bl, _, _, _, rfl, rfl, SqL.of hb, ev2, ?_⟩
  dsimp only [gName]
  -- more
  obtain ⟨mo, _, emo⟩ := pickN (L := [2, 1, 3, 0, 1, 2, -1, 1]) (i := n / 53 % 8) 8 rfl (Int.emod_nonneg _ (by decide)) (Int.emod_lt_of_pos _ (by decide))
  refine ⟨_, rfl, szl (by show 8 ≤ 1000000; decide), fun q2 hq2 => ⟨_, rfl, _, _, rfl, rfl, ⟨by decide, by decide⟩, _, _, rfl, rfl, (by show (0 : Int) < 8; decide), q2, _, _, _, rfl, rfl, SqL.of upd_same, emo, ?_⟩⟩
  have s6 := same_new hq2 (.lst [V.int 2, V.int 1, V.int 3, V.int 0, V.int 1, V.int 2, V.int (-1), V.int 1])
  dsimp only [gName]
  generalize upd H5 q2 (.lst [V.int 2, V.int 1, V.int 3, V.int 0, V.int 1, V.int 2, V.int (-1), V.int 1]) = H6 at s6
  have ht16 := s6 _ _ ht1
  have ht26 := s6 _ _ ht2
  have e6 := e5.trans s6
  -- low spot
  refine ⟨_, rfl, t1, _, 0, _, rfl, rfl, SqT.of ht16, rfl, _, rfl, _, rfl, t1, _, 1, _, rfl, rfl, SqT.of ht16, rfl, _, _, rfl, rfl, _, rfl, _, _, rfl, rfl, ⟨by decide, by decide⟩, _, _, rfl, rfl, (by show (0 : Int) < 2; decide), _, _, rfl, rfl, szl (by show 2 ≤ 1000000; decide), fun ls hls => ?_⟩
  have s7 := same_new hls (.tup [V.str z1, V.int (ab - k1 + n / 500 % 2)])
  have hls7 : (upd H6 ls (.tup [V.str z1, V.int (ab - k1 + n / 500 % 2)])) ls = some (.tup [V.str z1, V.int (ab - k1 + n / 500 % 2)]) := upd_same
  dsimp only [gName]
  generalize upd H6 ls (.tup [V.str z1, V.int (ab - k1 + n / 500 % 2)]) = H7 at s7 hls7
  have ht27 := s7 _ _ ht26
  have e7 := e6.trans s7
  refine ⟨_, rfl, _, _, rfl, rfl, ⟨by decide, by decide⟩, _, _, rfl, rfl, (by show (0 : Int) < 3; decide), ?_⟩
  have u0 := Int.emod_nonneg (n / 4000) (show (3 : Int) ≠ 0 by decide)
  have u1 := Int.emod_lt_of_pos (n / 4000) (show (0 : Int) < 3 by decide)
  dsimp only [gName]
  generalize n / 4000 % 3 = u at u0 u1 ⊢
  have hv7 := e7 _ _ hv
  obtain ⟨ts, tr, td, tl⟩ := lp_tr (K := K) (H := H7) (vs := vs) fun v hv' => by
    obtain ⟨j, hj⟩ := List.mem_iff_getElem?.mp hv'
    obtain ⟨qq, hqq, hlq⟩ := hall.get' hj
    obtain ⟨p0, p1, p2, rfl, h0, h1, h2⟩ := hlq.over e7
    have := htn qq (List.mem_of_getElem? hqq)
    exact ⟨p0, p1, p2, qq.nm, qq.lz, qq.hz, qq.ln, qq.hn, qq.ab, qq.tn, rfl, h0, h1, h2, this.1, this.2⟩
  refine seq_any (fun σ' H' => Same H7 H' ∧ ∃ u : Int, 0 ≤ u ∧ u ≤ 2 ∧ (∀ r, S.head? = some r → u = r.tn) ∧ σ' = [some (.int n), some (.int far), some (.ref st), some (.int c), some (.int ab), some (.ref bl), some (.ref t1), some (.ref t2), some (.int mo), some (.ref ls), some (.int u), none]) (fun σ' H8 pp => ?_) (fun nx => ?_)
  · obtain ⟨e8, u, u0, u1, hu, rfl⟩ := pp
    have f0 := Int.emod_nonneg ((vs.length : Int) + u) (show (3 : Int) ≠ 0 by decide)
    have f1 := Int.emod_lt_of_pos ((vs.length : Int) + u) (show (0 : Int) < 3 by decide)
    refine ⟨_, rfl, _, rfl, st, _, rfl, .inl (SqL.of (e8 _ _ hv7)), _, rfl, _, _, rfl, rfl, _, _, rfl, rfl, (by show (0 : Int) < 3; decide), c, _, rfl, f0, by omega, fun H9 e9 => ?_⟩
    dsimp only [gName]
    have e89 := e8.trans e9
    have ht29 := e89 _ _ ht27
    refine ⟨_, rfl, _, rfl, _, rfl, t2, _, 0, _, rfl, rfl, SqT.of ht29, rfl, _, rfl, _, rfl, t2, _, 1, _, rfl, rfl, SqT.of ht29, rfl, _, _, rfl, rfl, _, rfl, _, _, rfl, rfl, szl (by show 2 ≤ 1000000; decide), fun hs hhs => ⟨_, rfl, _, rfl, szl (by show 5 ≤ 1000000; decide), fun rr hrr => ?_⟩⟩
    have sA := same_new hhs (.tup [V.str z2, V.int (ab - k2 + mo)])
    have sB := same_new hrr (.tup [V.str (sOf (nmC (mixF c 11) (((vs.length : Int) + u) % 3))), V.ref ls, V.ref hs, V.int ab, V.int u])
    exact q _ _ ⟨nmF c (((vs.length : Int) + u) % 3), z1, ab - k1 + n / 500 % 2, z2, ab - k2 + mo, ab, u⟩ (e7.trans (e89.trans (sA.trans sB))) ⟨rr, ls, hs, rfl, upd_same, sB _ _ (sA _ _ (e89 _ _ hls7)), sB _ _ upd_same⟩ ⟨by rw [hk], u0, u1, hu, bz1, bz2⟩
  · refine ⟨_, rfl, szl (by show 0 ≤ 1000000; decide), fun z hz => ?_⟩
    have s8 := same_new hz (.lst [])
    refine ⟨_, _, .lst (SqL.of (s8 _ _ hv7)) (tr.over s8), .lst (SqL.of upd_same) .nil, ⟨_, rfl⟩, ⟨_, rfl⟩, (by rw [simT]; cases ts <;> rfl), (by rw [depT]; omega), _, rfl, ?_⟩
    cases ts with
    | nil =>
      refine iteE (v := false) rfl (iteF (nx _ _ ⟨s8, u, u0, by omega, fun r hr => ?_, rfl⟩))
      have : S = [] := List.eq_nil_of_length_eq_zero (by rw [← hk, ← tl]; rfl)
      rw [this] at hr
      cases hr
    | cons t0' ts' =>
      refine iteE (v := true) rfl (iteT ?_)
      have hpos : 0 < vs.length := by rw [← tl]; exact Nat.succ_pos _
      have h0 : vs[0]? = some vs[0] := List.getElem?_eq_getElem hpos
      have hS0 : S[0]? = some S[0] := List.getElem?_eq_getElem (by omega)
      obtain ⟨p0, p1, p2, ev0, g0, _⟩ := (hall.2 0 _ _ h0 hS0).over (e7.trans s8)
      have at0 : atI vs (0 : Int) = some (.ref p0) := by rw [← ev0]; exact atI_nat (j := 0) h0
      have hr0 := htn S[0] (List.getElem_mem _)
      refine ⟨_, rfl, st, _, 0, _, rfl, rfl, SqL.of (s8 _ _ hv7), at0, p0, _, 4, _, rfl, rfl, SqT.of g0, rfl, ?_⟩
      refine nx _ _ ⟨s8, _, hr0.1, hr0.2, fun r hr => ?_, rfl⟩
      rw [List.head?_eq_getElem?, hS0] at hr
      cases hr
      rfl

theorem ok_around (T : Tx K mg a) : FnOk P w K mg base CX0 1 a.f_l_around a.d_l_around ["_law_names", "_law_values"] spAround := by
  refine T.F_l_around.ok sc_l_around (fun vs H Q E h => ?_) (fun cdv A outer s H vs Q E hr h => ?_)
  · obtain ⟨_, _, _, _, rfl, _⟩ := h; rfl
  obtain ⟨nm, vt, zs, W, rfl, hn, hv, hle, hl, nd, q⟩ := h
  refine ⟨_, (@pss_cons _ _ _ _ _ (@ps_set _ _ (2) _ _ _ _ sc_l_around.nd rfl (Or.inl rfl) pe_dnewK (by rfl) (by first | exact .inl rfl | exact .inr rfl | assumption)) (@pss_cons _ _ _ _ _ (@ps_for _ _ _ _ _ _ _ _ PassesOwn.never rfl (@pi_zipT _ _ _ _ _ _ _ _ _ (by rfl) T.z_zip (@pa_cons _ _ _ _ _ (pv 0) (@pa_cons _ _ _ _ _ (pv 1) pa_nil (by rfl)) (by rfl)) (by rfl) (by rfl)) (pg_tup rfl (pgs_cons (pg_name (i := 3) sc_l_around.nd rfl (Or.inl rfl)) (pgs_cons (pg_name (i := 4) sc_l_around.nd rfl (Or.inl rfl)) pgs_nil))) (@pss_one _ _ _ (@ps_dput _ _ _ _ _ _ _ _ _ (@hu_of _ _ hr) (pv 2) (pv 3) (pv 4) rfl)) (by intro _ ; rfl)) (@pss_one _ _ _ (@ps_ret _ _ _ _ (pv 2))))), ?_⟩
  intro d hd
  have e1 := same_new hd (.dK [])
  have hd1 : (upd H d (.dK [])) d = some (.dK []) := upd_same
  dsimp only [gName]
  generalize upd H d (.dK []) = H1 at e1 hd1
  refine ⟨_, rfl, _, rfl, nm, vt, rfl, ⟨_, SqT.of (e1 _ _ hn)⟩, ⟨_, SqT.of (e1 _ _ hv)⟩, ?_⟩
  refine for_zipU (xs := zs.map V.str) (ys := W.map V.int) (by rw [List.length_map, List.length_map]; exact hle) (fun i σ' H' => Same H H' ∧ (∃ o3 o4, σ' = [some (.ref nm), some (.ref vt), some (.ref d), o3, o4]) ∧ ∃ kvs : List (Key × V), H' d = some (.dK kvs) ∧ kvs.length ≤ i ∧ ∀ (j : Nat) (z : Str), j < i → zs[j]? = some z → valV kvs (Sum.inr z : Key) = some (.int (W.getD j 0))) ⟨e1, ⟨_, _, rfl⟩, [], hd1, Nat.le_refl _, fun j z hj => by omega⟩ (fun i σ' H' _ pp => ⟨SqT.of (pp.1 _ _ hn), SqT.of (pp.1 _ _ hv)⟩) (fun i x y Tt σ' H' hx hy pp hT => ?_) (fun σ' H' pp => ?_)
  · obtain ⟨e, ⟨o3, o4, rfl⟩, kvs, hk, kl, kv⟩ := pp
    rw [List.getElem?_map] at hx hy
    obtain ⟨z, hz, rfl⟩ := Option.map_eq_some_iff.mp hx
    obtain ⟨n, hn', rfl⟩ := Option.map_eq_some_iff.mp hy
    have sT := same_new hT (.tup [V.str z, V.int n])
    have hk2 := sT _ _ hk
    have hi := (List.getElem?_eq_some_iff.mp hn').1
    refine ⟨Tt, _, rfl, SqT.of upd_same, rfl, _, _, rfl, _, _, rfl, rfl, ?_⟩
    refine ⟨_, rfl, _, rfl, _, rfl, d, _, rfl, DPut.k (k := Sum.inr z) hk2 (szlt (by omega)), ?_⟩
    refine ⟨fun a o ha => by rw [upd_ne (ne_of_none ha hd)]; exact sT _ _ (e _ _ ha), ⟨_, _, rfl⟩, _, upd_same, Nat.le_trans len_put (by omega), fun j z' hj hz' => ?_⟩
    by_cases c : j = i
    · subst c
      rw [hz] at hz'
      cases hz'
      rw [valV_put, if_pos rfl, List.getD_eq_getElem?_getD, hn']
      rfl
    · rw [valV_put, if_neg (fun w => ?_)]
      · exact kv j z' (by omega) hz'
      · have w := Sum.inr.inj w
        subst w
        obtain ⟨l1, a1⟩ := List.getElem?_eq_some_iff.mp hz'
        obtain ⟨l2, a2⟩ := List.getElem?_eq_some_iff.mp hz
        exact List.pairwise_iff_getElem.mp nd j i l1 l2 (by omega) (by rw [a1, a2])
  · obtain ⟨e, ⟨o3, o4, rfl⟩, kvs, hk, kl, kv⟩ := pp
    rw [List.length_map] at kv
    exact ⟨_, rfl, q d kvs _ e hk kv⟩

theorem ok_stand (T : Tx K mg a) : FnOk P w K mg base CX0 1 a.f_l_stand a.d_l_stand ["_law_spots", "_law_around_here"] spStand52 := by
  refine T.F_l_stand.ok sc_l_stand (fun vs H Q E h => ?_) (fun cdv A outer s H vs Q E hr h => ?_)
  · obtain ⟨_, _, _, _, _, _, _, _, _, _, _, rfl, _⟩ := h; rfl
  obtain ⟨sp, d, t1, t2, z1, z2, n1, n2, b1, b2, kvs, rfl, hs, h1, h2, hd, hb1, hb2, q⟩ := h
  refine ⟨_, (@pss_cons _ _ _ _ _ (@ps_set _ _ (2) _ _ _ _ sc_l_stand.nd rfl (Or.inl rfl) (@pe_lst _ _ _ _ pa_nil) (by rfl) (by first | exact .inl rfl | exact .inr rfl | assumption)) (@pss_cons _ _ _ _ _ (@ps_for _ _ _ _ _ _ _ _ PassesOwn.never rfl (@pi_tup _ _ _ _ (pv 0)) (pg_tup rfl (pgs_cons (pg_name (i := 3) sc_l_stand.nd rfl (Or.inl rfl)) (pgs_cons (pg_name (i := 4) sc_l_stand.nd rfl (Or.inl rfl)) pgs_nil))) (@pss_one _ _ _ (@ps_if _ _ _ _ _ _ _ _ (@pt_cmpR _ _ _ _ _ _ _ _ op_eq (pv 3) pe_str (@nomark _ _ (by decide) (by decide))) (@pss_one _ _ _ (@ps_expr _ _ _ _ (@pe_bm _ _ _ _ _ _ _ _ _ _ _ _ PySem.F.plainAttrs_list PySem.F.slot_list_append PySem.F.type_list_append mt_append (pv 2) (@pa_cons _ _ _ _ _ (pv 4) pa_nil (by rfl)) (by rfl) (by rfl) (by rfl) (by rfl) (by rfl)) (by rfl))) (@pss_one _ _ _ (@ps_expr _ _ _ _ (@pe_bm _ _ _ _ _ _ _ _ _ _ _ _ PySem.F.plainAttrs_list PySem.F.slot_list_append PySem.F.type_list_append mt_append (pv 2) (@pa_cons _ _ _ _ _ (@pe_op _ _ _ _ _ _ _ _ op_add (@pe_dget _ _ _ _ _ _ (@hu_of _ _ hr) (pv 1) (pv 3) (fun _ _ => rfl)) (pv 4)) pa_nil (by rfl)) (by rfl) (by rfl) (by rfl) (by rfl) (by rfl)) (by rfl))))) (by intro _ ; rfl)) (@pss_one _ _ _ (@ps_ret _ _ _ _ (@pe_callTy _ _ _ _ _ _ _ _ _ call_tuple_of (by rfl) T.z_tuple bt_tuple (@pa_cons _ _ _ _ _ (pv 2) pa_nil (by rfl)) (by decide) (by decide) (by rfl) (by rfl)))))), ?_⟩
  refine ⟨szl (by show 0 ≤ 1000000; decide), fun l hl => ?_⟩
  have e1 := same_new hl (.lst [])
  have hl1 : (upd H l (.lst [])) l = some (.lst []) := upd_same
  dsimp only [gName]
  generalize upd H l (.lst []) = H1 at e1 hl1
  refine ⟨_, rfl, sp, rfl, ⟨_, SqT.of (e1 _ _ hs)⟩, ?_⟩
  refine for_tup (xs := [V.ref t1, V.ref t2]) (fun i σ' H' => Same H H' ∧ (∃ o3 o4, σ' = [some (.ref sp), some (.ref d), some (.ref l), o3, o4]) ∧ H' l = some (.lst ([V.int (b1 + n1), V.int (b2 + n2)].take i))) ⟨e1, ⟨_, _, rfl⟩, hl1⟩ (fun i σ' H' _ pp => SqT.of (pp.1 _ _ hs)) (fun i x σ' H' hx pp => ?_) (fun σ' H' pp => ?_)
  · obtain ⟨e, ⟨o3, o4, rfl⟩, hl'⟩ := pp
    obtain ⟨t, z, n, b, xs, rfl, ht, hb, hl', hx2, hxs⟩ : ∃ (t : Addr) (z : Str) (n b : Int) (xs : List V), x = .ref t ∧ H t = some (.tup [.str z, .int n]) ∧ StB kvs z b ∧ H' l = some (.lst xs) ∧ xs.length ≤ 2 ∧ xs ++ [V.int (b + n)] = [V.int (b1 + n1), V.int (b2 + n2)].take (i + 1) := by
      match i, hx with
      | 0, hx => exact ⟨t1, z1, n1, b1, [], by cases hx; rfl, h1, hb1, hl', Nat.zero_le _, rfl⟩
      | 1, hx => exact ⟨t2, z2, n2, b2, [V.int (b1 + n1)], by cases hx; rfl, h2, hb2, hl', by simp, rfl⟩
      | i + 2, hx => simp at hx
    refine ⟨t, _, rfl, SqT.of (e _ _ ht), rfl, _, _, rfl, _, _, rfl, rfl, ?_⟩
    refine ⟨_, rfl, rfl, _, rfl, ?_⟩
    rcases hb with ⟨rfl, rfl⟩ | ⟨hz, hv⟩
    · refine iteE (v := true) (decide_eq_true rfl) (iteT ?_)
      refine ⟨_, rfl, .inl ⟨rfl, _, SqL.of hl'⟩, _, rfl, l, _, _, rfl, rfl, hl', szlt (by omega), ?_⟩
      rw [Int.zero_add] at hxs
      exact ⟨fun a o ha => by rw [upd_ne (ne_of_none ha hl)]; exact e _ _ ha, ⟨_, _, rfl⟩, by rw [upd_same, hxs]⟩
    · refine iteE (v := false) (dS hz) (iteF ?_)
      refine ⟨_, rfl, .inl ⟨rfl, _, SqL.of hl'⟩, _, rfl, _, rfl, d, _, rfl, (show DGet H' d (kV (Sum.inr z)) _ from hv ▸ DGet.k (e _ _ hd)), _, rfl, _, _, rfl, rfl, l, _, _, rfl, rfl, hl', szlt (by omega), ?_⟩
      exact ⟨fun a o ha => by rw [upd_ne (ne_of_none ha hl)]; exact e _ _ ha, ⟨_, _, rfl⟩, by rw [upd_same, hxs]⟩
  · obtain ⟨e, ⟨o3, o4, rfl⟩, hl'⟩ := pp
    refine ⟨_, rfl, l, _, rfl, .inl ⟨SqL.of hl', fun t ht => ?_⟩⟩
    exact q t _ (e.trans (same_new ht _)) upd_same

theorem ok_near (T : Tx K mg a) : FnOk P w K mg base CX0 2 a.f_l_near a.d_l_near ["_law_row", "_law_number"] spNear := by
  have G_l_stand := ok_stand (P := P) (w := w) (base := base) T
  have G_l_around := ok_around (P := P) (w := w) (base := base) T
  refine T.F_l_near.ok sc_l_near (fun vs H Q E h => ?_) (fun cdv A outer s H vs Q E hr h => ?_)
  · obtain ⟨_, _, _, _, _, _, _, rfl, _⟩ := h; rfl
  obtain ⟨row, n, zs, lz, hz, ln, hn, rfl, ⟨nm, lo, hh, hrow, hnm, ⟨xs, hx, xl, hxs⟩, ⟨os, ho, ol, hos⟩⟩, zl, nd, bl, bh, q⟩ := h
  refine ⟨_, (@pss_cons _ _ _ _ _ (@ps_set _ _ (2) _ _ _ _ sc_l_near.nd rfl (Or.inl rfl) (@pe_tup _ _ _ _ _ pa_nil) (by rfl) (by first | exact .inl rfl | exact .inr rfl | assumption)) (@pss_cons _ _ _ _ _ (@ps_set _ _ (3) _ _ _ _ sc_l_near.nd rfl (Or.inl rfl) pe_bl (by rfl) (by first | exact .inl rfl | exact .inr rfl | assumption)) (@pss_cons _ _ _ _ _ (@ps_for _ _ _ _ _ _ _ _ PassesOwn.never rfl (@pi_range1 _ _ _ _ _ _ (by rfl) T.z_range (@pa_cons _ _ _ _ _ (@pe_callB _ _ _ _ _ _ _ _ _ call_len_seq (by rfl) T.z_len bt_len (@pa_cons _ _ _ _ _ (@pe_ix _ _ _ _ _ _ _ ix_tup (pv 0) pe_int (fun _ _ => rfl)) pa_nil (by rfl)) (by decide) (by decide) (by rfl) (by rfl)) pa_nil (by rfl)) (by rfl)) (pg_name (i := 4) sc_l_near.nd rfl (Or.inl rfl)) (@pss_cons _ _ _ _ _ (@ps_asg _ _ _ _ _ _ (@pe_call _ _ _ _ _ _ _ _ _ _ _ _ _ _ _ _ G_l_stand (hr.mono (by decide)) (by rfl) T.m_l_stand T.F_l_stand.kp T.b_l_stand .nil pass0 (@pa_cons _ _ _ _ _ (@pe_tup _ _ _ _ _ (@pa_cons _ _ _ _ _ (@pe_ix _ _ _ _ _ _ _ ix_tup (@pe_ix _ _ _ _ _ _ _ ix_tup (pv 0) pe_int (fun _ _ => rfl)) (pv 4) (fun _ _ => rfl)) (@pa_cons _ _ _ _ _ (@pe_ix _ _ _ _ _ _ _ ix_tup (@pe_ix _ _ _ _ _ _ _ ix_tup (pv 0) pe_int (fun _ _ => rfl)) (pv 4) (fun _ _ => rfl)) pa_nil (by rfl)) (by rfl))) (@pa_cons _ _ _ _ _ (@pe_call _ _ _ _ _ _ _ _ _ _ _ _ _ _ _ _ G_l_around (hr.mono (by decide)) (by rfl) T.m_l_around T.F_l_around.kp T.b_l_around .nil pass0 (@pa_cons _ _ _ _ _ (@pe_ix _ _ _ _ _ _ _ ix_tup (pv 0) pe_int (fun _ _ => rfl)) (@pa_cons _ _ _ _ _ (pv 2) pa_nil (by rfl)) (by rfl)) (by decide) (by rfl) (by rfl)) pa_nil (by rfl)) (by rfl)) (by decide) (by rfl) (by rfl)) (pg_tup rfl (pgs_cons (pg_name (i := 5) sc_l_near.nd rfl (Or.inl rfl)) (pgs_cons (pg_name (i := 6) sc_l_near.nd rfl (Or.inl rfl)) pgs_nil))) (by rfl) (by rfl) (by rfl)) (@pss_cons _ _ _ _ _ (@ps_set _ _ (7) _ _ _ _ sc_l_near.nd rfl (Or.inl rfl) (@pe_op _ _ _ _ _ _ _ _ op_fdiv (pv 1) (@pe_ix _ _ _ _ _ _ _ ix_list (@pe_lstq _ _ _ _ (@paq_cons _ _ _ _ _ pe_int (@paq_cons _ _ _ _ _ pe_int (@paq_cons _ _ _ _ _ pe_int paq_nil star_C) star_C) star_C)) (pv 4) (fun _ _ => rfl))) (by rfl) (by first | exact .inl rfl | exact .inr rfl | assumption)) (@pss_cons _ _ _ _ _ (@ps_set _ _ (8) _ _ _ _ sc_l_near.nd rfl (Or.inl rfl) (@pe_ix _ _ _ _ _ _ _ ix_list (@pe_lstq _ _ _ _ (@paq_cons _ _ _ _ _ (pv 5) (@paq_cons _ _ _ _ _ (pv 6) (@paq_cons _ _ _ _ _ (pv 5) (@paq_cons _ _ _ _ _ (pv 6) (@paq_cons _ _ _ _ _ (pv 6) paq_nil star_N) star_N) star_N) star_N) star_N)) (@pe_op _ _ _ _ _ _ _ _ op_mod (pv 7) pe_int) (fun _ _ => rfl)) (by rfl) (by first | exact .inl rfl | exact .inr rfl | assumption)) (@pss_cons _ _ _ _ _ (@ps_if _ _ _ _ _ _ _ _ (@pt_cmpR _ _ _ _ _ _ _ _ op_eq (@pe_op _ _ _ _ _ _ _ _ op_mod (@pe_op _ _ _ _ _ _ _ _ op_fdiv (pv 7) pe_int) pe_int) pe_int (@nomark _ _ (by decide) (by decide))) (@pss_one _ _ _ (@ps_set _ _ (8) _ _ _ _ sc_l_near.nd rfl (Or.inl rfl) (@pe_op _ _ _ _ _ _ _ _ op_add (pv 8) (@pe_ix _ _ _ _ _ _ _ ix_list (@pe_lstq _ _ _ _ (@paq_cons _ _ _ _ _ (@pe_un _ _ _ _ _ _ un_neg pe_int) (@paq_cons _ _ _ _ _ pe_int (@paq_cons _ _ _ _ _ (@pe_un _ _ _ _ _ _ un_neg pe_int) (@paq_cons _ _ _ _ _ pe_int (@paq_cons _ _ _ _ _ pe_int paq_nil star_C) star_C) star_U) star_C) star_U)) (@pe_op _ _ _ _ _ _ _ _ op_mod (pv 7) pe_int) (fun _ _ => rfl))) (by rfl) (by first | exact .inl rfl | exact .inr rfl | assumption))) pss_nil) (@pss_cons _ _ _ _ _ (@ps_set _ _ (2) _ _ _ _ sc_l_near.nd rfl (Or.inl rfl) (@pe_op _ _ _ _ _ _ _ _ op_catH (pv 2) (@pe_tup _ _ _ _ _ (@pa_cons _ _ _ _ _ (pv 8) pa_nil (by rfl)))) (by rfl) (by first | exact .inl rfl | exact .inr rfl | assumption)) (@pss_one _ _ _ (@ps_set _ _ (3) _ _ _ _ sc_l_near.nd rfl (Or.inl rfl) (@pe_and _ _ _ _ _ _ _ (pv 3) (@pe_one _ _ _ _ _ (@pe_chain _ _ _ _ _ _ _ _ _ _ _ _ op_le op_le (pv 5) (pv 8) (pv 6) (by with_unfolding_all rfl)))) (by rfl) (by first | exact .inl rfl | exact .inr rfl | assumption)))))))) (by intro _ ; rfl)) (@pss_one _ _ _ (@ps_ret _ _ _ _ (@pe_tup _ _ _ _ _ (@pa_cons _ _ _ _ _ (pv 2) (@pa_cons _ _ _ _ _ (pv 3) pa_nil (by rfl)) (by rfl)))))))), ?_⟩
  refine ⟨szl (by show 0 ≤ 1000000; decide), fun v0 hv0 => ?_⟩
  have e1 := same_new hv0 (.tup [])
  have hv1 : (upd H v0 (.tup [])) v0 = some (.tup []) := upd_same
  dsimp only [gName]
  generalize upd H v0 (.tup []) = H1 at e1 hv1
  refine seq_asgC ?_
  refine ⟨_, rfl, row, _, 0, _, rfl, rfl, SqT.of (e1 _ _ hrow), rfl, nm, _, rfl, .inr (SqT.of (e1 _ _ hnm)), _, rfl, by rw [List.length_map]; omega, by rw [List.length_map]; omega, ?_⟩
  rw [List.length_map]
  refine for_range (lo := 0) (n := zs.length) (fun i σ' H' => ∃ (vt : Addr) (W : List Int) (ins : Bool) (o4 o5 o6 o7 o8 : Option V), σ' = [some (.ref row), some (.int n), some (.ref vt), some (.bl ins), o4, o5, o6, o7, o8] ∧ Same H H' ∧ H' vt = some (.tup (W.map V.int)) ∧ W.length = i ∧ (ins = true ↔ ∀ j < i, InAt zs lz hz ln hn W j)) ⟨v0, [], true, _, _, _, _, _, rfl, e1, hv1, rfl, ⟨fun _ j hj => by omega, fun _ => rfl⟩⟩ (fun i σ' H' hi pp => ?_) (fun σ' H' pp => ?_)
  rotate_left
  · obtain ⟨vt, W, ins, o4, o5, o6, o7, o8, rfl, e, hvt, wl, hin⟩ := pp
    refine ⟨_, rfl, _, rfl, szl (by show 2 ≤ 1000000; decide), fun r hr => ?_⟩
    have s1 := same_new hr (.tup [V.ref vt, V.bl ins])
    exact q r vt _ W ins (e.trans s1) upd_same (s1 _ _ hvt) wl hin
  obtain ⟨vt, W, ins, o4, o5, o6, o7, o8, rfl, e, hvt, wl, hin⟩ := pp
  have z0 : (0 + (i : Int)) = (i : Int) := by omega
  have x1 : xs[i]? = some xs[i] := List.getElem?_eq_getElem (by omega)
  have x2 : os[i]? = some os[i] := List.getElem?_eq_getElem (by omega)
  obtain ⟨t1, et1, ht1⟩ := hxs i _ x1
  obtain ⟨t2, et2, ht2⟩ := hos i _ x2
  have at1 : atI xs (0 + (i : Int)) = some (.ref t1) := by rw [z0]; exact (atI_nat x1).trans (congrArg some et1)
  have at2 : atI os (0 + (i : Int)) = some (.ref t2) := by rw [z0]; exact (atI_nat x2).trans (congrArg some et2)
  refine ⟨_, rfl, row, _, 1, _, rfl, rfl, SqT.of (e _ _ hrow), rfl, _, rfl, lo, _, _, _, rfl, rfl, SqT.of (e _ _ hx), at1, _, rfl, row, _, 2, _, rfl, rfl, SqT.of (e _ _ hrow), rfl, _, rfl, hh, _, _, _, rfl, rfl, SqT.of (e _ _ ho), at2, szl (by show 2 ≤ 1000000; decide), fun sp hsp => ?_⟩
  have s2 := same_new hsp (.tup [V.ref t1, V.ref t2])
  have hsp2 : (upd H' sp (.tup [V.ref t1, V.ref t2])) sp = some (.tup [V.ref t1, V.ref t2]) := upd_same
  generalize upd H' sp (.tup [V.ref t1, V.ref t2]) = H2 at s2 hsp2
  have e2 := e.trans s2
  refine ⟨_, rfl, row, _, 0, _, rfl, rfl, SqT.of (e2 _ _ hrow), rfl, _, rfl, nm, vt, zs, W, rfl, e2 _ _ hnm, s2 _ _ hvt, by omega, by omega, nd, fun dd kvs H3 e3 hdd har => ?_⟩
  obtain ⟨b1, sb1, bv1⟩ := st_of bl hi wl har
  obtain ⟨b2, sb2, bv2⟩ := st_of bh hi wl har
  have e23 := e2.trans e3
  refine ⟨sp, dd, t1, t2, lz i, hz i, ln i, hn i, b1, b2, kvs, rfl, e3 _ _ hsp2, e23 _ _ ht1, e23 _ _ ht2, hdd, sb1, sb2, fun r H4 e4 hr4 => ?_⟩
  refine ⟨r, _, rfl, SqT.of hr4, rfl, _, _, rfl, _, _, rfl, rfl, ?_⟩
  have e24 := e23.trans e4
  have hvt4 := (s2.trans (e3.trans e4)) _ _ hvt
  generalize hlow : b1 + ln i = low
  generalize hhigh : b2 + hn i = high
  -- the part
  obtain ⟨d, hd, ed⟩ := pickN (L := [1, 20, 400]) (i := 0 + (i : Int)) 3 rfl (by omega) (by omega)
  have hd : 0 < d ∧ d < 1073741824 := by
    simp only [List.mem_cons, List.not_mem_nil, or_false] at hd
    omega
  refine ⟨_, rfl, szl (by show 3 ≤ 1000000; decide), fun q1 hq1 => ⟨_, rfl, q1, _, _, _, rfl, rfl, SqL.of upd_same, ed, _, _, rfl, rfl, hd, ?_⟩⟩
  have s5 := same_new hq1 (.lst [V.int 1, V.int 20, V.int 400])
  dsimp only [gName]
  generalize upd H4 q1 (.lst [V.int 1, V.int 20, V.int 400]) = H5 at s5
  generalize n / d = pt
  have g0 := Int.emod_nonneg pt (show (5 : Int) ≠ 0 by decide)
  have g1 := Int.emod_lt_of_pos pt (show (0 : Int) < 5 by decide)
  obtain ⟨v, _, ev⟩ := pickN (L := [low, high, low, high, high]) (i := pt % 5) 5 rfl g0 g1
  refine ⟨_, rfl, _, rfl, _, rfl, _, rfl, _, rfl, szl (by show 5 ≤ 1000000; decide), fun q2 hq2 => ⟨_, rfl, _, _, rfl, rfl, (by show (0 : Int) < 5; decide), q2, _, _, _, rfl, rfl, SqL.of upd_same, ev, ?_⟩⟩
  have s6 := s5.trans (same_new hq2 (.lst [V.int low, V.int high, V.int low, V.int high, V.int high]))
  dsimp only [gName]
  generalize upd H5 q2 (.lst [V.int low, V.int high, V.int low, V.int high, V.int high]) = H6 at s6
  have hvt6 := s6 _ _ hvt4
  have e26 := e24.trans s6
  refine seq_any (fun σ2 H7 => Same H6 H7 ∧ ∃ v : Int, σ2 = [some (.ref row), some (.int n), some (.ref vt), some (.bl ins), some (.int (0 + (i : Int))), some (.int low), some (.int high), some (.int pt), some (.int v)]) (fun σ2 H7 pp => ?_) (fun nx => ?_)
  rotate_left
  · refine ⟨_, rfl, _, _, rfl, rfl, ⟨by decide, by decide⟩, _, _, rfl, rfl, (by show (0 : Int) < 4; decide), rfl, _, rfl, ?_⟩
    refine ite2 (fun c => ?_) (fun c => nx _ _ ⟨Same.refl _, v, rfl⟩)
    obtain ⟨ad, _, ead⟩ := pickN (L := [-1, 1, -1, 1, 9]) (i := pt % 5) 5 rfl g0 g1
    refine ⟨_, rfl, _, rfl, _, rfl, szl (by show 5 ≤ 1000000; decide), fun q3 hq3 => ⟨_, rfl, _, _, rfl, rfl, (by show (0 : Int) < 5; decide), q3, _, _, _, rfl, rfl, SqL.of upd_same, ead, _, _, rfl, rfl, ?_⟩⟩
    exact nx _ _ ⟨same_new hq3 _, v + ad, rfl⟩
  obtain ⟨e7, v, rfl⟩ := pp
  refine ⟨_, rfl, _, rfl, szl (by show 1 ≤ 1000000; decide), fun t ht => ?_⟩
  have s8 := same_new ht (.tup [V.int v])
  refine ⟨vt, t, _, [V.int v], rfl, rfl, s8 _ _ (e7 _ _ hvt6), upd_same, szl (by rw [List.length_map, List.length_singleton]; omega), fun vt2 H8 e8 hvt8 => ?_⟩
  dsimp only [gName]
  have step := in_step (v := v) nd wl bv1 bv2 hin
  rw [hlow, hhigh] at step
  have e9 := (e26.trans e7).trans (s8.trans e8)
  have hvt9 : H8 vt2 = some (.tup ((W ++ [v]).map V.int)) := by rw [List.map_append]; exact hvt8
  have wl9 : (W ++ [v]).length = i + 1 := by rw [List.length_append, wl]; rfl
  refine ⟨_, rfl, _, rfl, ?_⟩
  cases ins with
  | false => exact iteF ⟨vt2, W ++ [v], false, _, _, _, _, _, rfl, e9, hvt9, wl9, by simpa using step⟩
  | true =>
    refine iteT ⟨_, rfl, _, rfl, _, _, rfl, rfl, _, rfl, ?_⟩
    by_cases c : low ≤ v
    · rw [decide_eq_true c]
      refine iteT ⟨_, rfl, _, _, rfl, rfl, vt2, W ++ [v], decide (v ≤ high), _, _, _, _, _, rfl, e9, hvt9, wl9, ?_⟩
      rw [decide_eq_true c, Bool.true_and, Bool.true_and] at step
      exact step
    · rw [decide_eq_false c]
      refine iteF ⟨vt2, W ++ [v], false, _, _, _, _, _, rfl, e9, hvt9, wl9, ?_⟩
      rw [decide_eq_false c, Bool.false_and, Bool.and_false] at step
      exact step

theorem ok_holds (T : Tx K mg a) : FnOk P w K mg base CX0 1 a.f_l_holds a.d_l_holds ["_law_bonds", "_law_first", "_law_values"] spHolds52 := by
  refine T.F_l_holds.ok sc_l_holds (fun vs H Q E h => ?_) (fun cdv A outer s H vs Q E hr h => ?_)
  · obtain ⟨_, _, _, _, _, _, rfl, _⟩ := h; rfl
  obtain ⟨bl, vt, f, W, ys, B, rfl, hb, hB, hv, wl, f1, hk, q⟩ := h
  refine ⟨_, (@pss_cons _ _ _ _ _ (@ps_set _ _ (3) _ _ _ _ sc_l_holds.nd rfl (Or.inl rfl) (@pe_dict1 _ _ _ _ _ _ pe_int pe_int) (by rfl) (by first | exact .inl rfl | exact .inr rfl | assumption)) (@pss_cons _ _ _ _ _ (@ps_for _ _ _ _ _ _ _ _ PassesOwn.never rfl (@pi_range1 _ _ _ _ _ _ (by rfl) T.z_range (@pa_cons _ _ _ _ _ (@pe_callB _ _ _ _ _ _ _ _ _ call_len_seq (by rfl) T.z_len bt_len (@pa_cons _ _ _ _ _ (pv 2) pa_nil (by rfl)) (by decide) (by decide) (by rfl) (by rfl)) pa_nil (by rfl)) (by rfl)) (pg_name (i := 4) sc_l_holds.nd rfl (Or.inl rfl)) (@pss_one _ _ _ (@ps_dput _ _ _ _ _ _ _ _ _ (@hu_of _ _ hr) (pv 3) (@pe_op _ _ _ _ _ _ _ _ op_add (pv 1) (pv 4)) (@pe_ix _ _ _ _ _ _ _ ix_tup (pv 2) (pv 4) (fun _ _ => rfl)) rfl)) (by intro _ ; rfl)) (@pss_cons _ _ _ _ _ (@ps_for _ _ _ _ _ _ _ _ PassesOwn.never rfl (@pi_list _ _ _ _ (pv 0)) (pg_tup rfl (pgs_cons (pg_name (i := 5) sc_l_holds.nd rfl (Or.inl rfl)) (pgs_cons (pg_name (i := 6) sc_l_holds.nd rfl (Or.inl rfl)) (pgs_cons (pg_name (i := 7) sc_l_holds.nd rfl (Or.inl rfl)) pgs_nil)))) (@pss_one _ _ _ (@ps_if _ _ _ _ _ _ _ _ (@pt_cmpR _ _ _ _ _ _ _ _ op_gt (@pe_op _ _ _ _ _ _ _ _ op_sub (@pe_dget _ _ _ _ _ _ (@hu_of _ _ hr) (pv 3) (pv 5) (fun _ _ => rfl)) (@pe_dget _ _ _ _ _ _ (@hu_of _ _ hr) (pv 3) (pv 6) (fun _ _ => rfl))) (pv 7) (@nomark _ _ (by decide) (by decide))) (@pss_one _ _ _ (@ps_ret _ _ _ _ pe_bl)) pss_nil)) (by intro _ ; rfl)) (@pss_one _ _ _ (@ps_ret _ _ _ _ pe_bl))))), ?_⟩
  intro d hd
  refine ⟨Sum.inl (0 : Int), rfl, upd_same, ?_⟩
  have e1 : Same H (upd (upd H d (.dK [])) d (.dK [((Sum.inl (0 : Int) : Key), V.int 0)])) := fun a o ha => by rw [upd_ne (ne_of_none ha hd), upd_ne (ne_of_none ha hd)]; exact ha
  have hd1 : (upd (upd H d (.dK [])) d (.dK [((Sum.inl (0 : Int) : Key), V.int 0)])) d = some (.dK [((Sum.inl (0 : Int) : Key), V.int 0)]) := upd_same
  dsimp only [gName]
  generalize upd (upd H d (.dK [])) d (.dK [((Sum.inl (0 : Int) : Key), V.int 0)]) = H1 at e1 hd1
  have kv0 : valV [((Sum.inl (0 : Int) : Key), V.int 0)] (Sum.inl (0 : Int) : Key) = some (.int 0) := valV_pos rfl
  have at1 : ∀ (l : List Int) (i : Nat), i < l.length → atI (l.map V.int) (0 + (i : Int)) = some (.int (l.getD i 0)) := fun l i hi => by
    have := cell_in (ns := l) (k := 0 + (i : Int)) (by omega) (by omega)
    rwa [show (0 + (i : Int)).toNat = i by omega] at this
  refine ⟨_, rfl, vt, _, rfl, .inr (SqT.of (e1 _ _ hv)), _, rfl, by rw [List.length_map]; omega, by rw [List.length_map]; omega, ?_⟩
  rw [List.length_map]
  refine for_range (lo := 0) (n := W.length) (fun i σ' H' => Same H H' ∧ (∃ o4, σ' = [some (.ref bl), some (.int f), some (.ref vt), some (.ref d), o4, none, none, none]) ∧ ∃ kvs : List (Key × V), H' d = some (.dK kvs) ∧ kvs.length ≤ i + 1 ∧ valV kvs (Sum.inl (0 : Int) : Key) = some (.int 0) ∧ KnAt kvs f W i) ⟨e1, ⟨_, rfl⟩, _, hd1, Nat.le_refl _, kv0, fun i hi => by omega⟩ (fun i σ' H' hi p => ?_) (fun σ' H' p => ?_)
  · obtain ⟨e, ⟨o4, rfl⟩, kvs, hk, kl, k0, kf⟩ := p
    refine ⟨_, rfl, _, rfl, vt, _, _, _, rfl, rfl, SqT.of (e _ _ hv), at1 W i hi, _, rfl, _, rfl, _, rfl, _, _, rfl, rfl, d, _, rfl, DPut.k (k := Sum.inl (f + (0 + (i : Int)))) hk (szlt (by omega)), ?_⟩
    rw [show (0 + (i : Int)) = (i : Int) by omega]
    refine ⟨fun a o ha => by rw [upd_ne (ne_of_none ha hd)]; exact e _ _ ha, ⟨_, rfl⟩, _, upd_same, Nat.le_trans len_put (by omega), ?_, kf.next⟩
    rw [valV_put, if_neg (fun z => by have := Sum.inl.inj z; omega)]
    exact k0
  obtain ⟨e, ⟨o4, rfl⟩, kvs, hkd, kl, k0, kf⟩ := p
  have get : ∀ x : Int, KeyOk f W x → valV kvs (Sum.inl x : Key) = some (.int (kval f W x)) := fun x hx => by
    unfold kval
    rcases hx with rfl | ⟨j, hj, rfl⟩
    · rw [if_pos rfl]; exact k0
    · rw [if_neg (by omega), kf j hj, show (f + (j : Int) - f).toNat = j by omega]
  refine ⟨_, rfl, bl, rfl, ⟨_, SqL.of (e _ _ hb)⟩, ?_⟩
  refine for_list (xs := ys) (fun i σ' H2 => H2 = H' ∧ (∃ o4 o5 o6 o7, σ' = [some (.ref bl), some (.int f), some (.ref vt), some (.ref d), o4, o5, o6, o7]) ∧ ∀ j < i, ∀ b, B[j]? = some b → holdB f W b = true) ⟨rfl, ⟨_, _, _, _, rfl⟩, fun j hj => by omega⟩ (fun i σ' H2 _ pp => by rw [pp.1]; exact SqL.of (e _ _ hb)) (fun i x σ' H2 hx pp => ?_) (fun σ' H2 pp => ?_)
  · obtain ⟨rfl, ⟨o4, o5, o6, o7, rfl⟩, hall⟩ := pp
    have hi : i < B.length := by have := (List.getElem?_eq_some_iff.mp hx).1; have := hB.1; omega
    have Bi : B[i]? = some B[i] := List.getElem?_eq_getElem hi
    have mem := List.getElem_mem hi
    generalize B[i] = b at Bi mem
    obtain ⟨t, rfl, ht⟩ := (hB.over e).2 i x b hx Bi
    obtain ⟨k1, k2⟩ := hk b mem
    refine ⟨t, _, rfl, SqT.of ht, rfl, _, _, rfl, _, _, rfl, _, _, rfl, rfl, ?_⟩
    refine ⟨_, rfl, _, rfl, d, _, rfl, (show DGet H2 d (kV (Sum.inl b.1)) _ from get _ k1 ▸ DGet.k hkd), _, rfl, _, rfl, d, _, rfl, (show DGet H2 d (kV (Sum.inl b.2.1)) _ from get _ k2 ▸ DGet.k hkd), _, _, rfl, rfl, _, rfl, _, _, rfl, rfl, _, rfl, ?_⟩
    refine ite2 (fun c => ?_) (fun c => ?_)
    · have c := dT c
      have hf : B.all (holdB f W) = false := by
        rw [List.all_eq_false]
        exact ⟨b, mem, by unfold holdB; rw [decide_eq_false (by omega)]; decide⟩
      rw [hf] at q
      exact q _ e
    · have c := dF c
      refine ⟨rfl, ⟨_, _, _, _, rfl⟩, fun j hj b' hb' => ?_⟩
      by_cases z : j = i
      · subst z
        rw [Bi] at hb'
        cases hb'
        exact decide_eq_true (by omega)
      · exact hall j (by omega) b' hb'
  · obtain ⟨rfl, ⟨o4, o5, o6, o7, rfl⟩, hall⟩ := pp
    have ht : B.all (holdB f W) = true := by
      rw [List.all_eq_true]
      intro b hb'
      obtain ⟨j, hj⟩ := List.mem_iff_getElem?.mp hb'
      have := (List.getElem?_eq_some_iff.mp hj).1
      exact hall j (by have := hB.1; omega) b hj
    rw [ht] at q
    exact q _ e

theorem ok_pairs (T : Tx K mg a) : FnOk P w K mg base CX0 2 a.f_l_pairs a.d_l_pairs ["_law_row", "_law_first"] spPairs52 := by
  have G_l_whose := ok_whose (P := P) (w := w) (base := base) T
  refine T.F_l_pairs.ok sc_l_pairs (fun vs H Q E h => ?_) (fun cdv A outer s H vs Q E hr h => ?_)
  · obtain ⟨_, _, _, _, _, _, _, _, _, rfl, _⟩ := h; rfl
  obtain ⟨row, f, zs, lz, hz, ln, hn, u, w2, rfl, ⟨nm, lo, hh, hrow, hnm, ⟨xs, hx, xl, hxs⟩, ⟨os, ho, ol, hos⟩⟩, zl, hu, hw, q⟩ := h
  refine ⟨_, (@pss_cons _ _ _ _ _ (@ps_set _ _ (2) _ _ _ _ sc_l_pairs.nd rfl (Or.inl rfl) (@pe_lst _ _ _ _ pa_nil) (by rfl) (by first | exact .inl rfl | exact .inr rfl | assumption)) (@pss_cons _ _ _ _ _ (@ps_for _ _ _ _ _ _ _ _ PassesOwn.never rfl (@pi_range1 _ _ _ _ _ _ (by rfl) T.z_range (@pa_cons _ _ _ _ _ (@pe_callB _ _ _ _ _ _ _ _ _ call_len_seq (by rfl) T.z_len bt_len (@pa_cons _ _ _ _ _ (@pe_ix _ _ _ _ _ _ _ ix_tup (pv 0) pe_int (fun _ _ => rfl)) pa_nil (by rfl)) (by decide) (by decide) (by rfl) (by rfl)) pa_nil (by rfl)) (by rfl)) (pg_name (i := 3) sc_l_pairs.nd rfl (Or.inl rfl)) (@pss_cons _ _ _ _ _ (@ps_expr _ _ _ _ (@pe_bm _ _ _ _ _ _ _ _ _ _ _ _ PySem.F.plainAttrs_list PySem.F.slot_list_append PySem.F.type_list_append mt_append (pv 2) (@pa_cons _ _ _ _ _ (@pe_tup _ _ _ _ _ (@pa_cons _ _ _ _ _ (@pe_call _ _ _ _ _ _ _ _ _ _ _ _ _ _ _ _ G_l_whose (hr.mono (by decide)) (by rfl) T.m_l_whose T.F_l_whose.kp T.b_l_whose .nil pass0 (@pa_cons _ _ _ _ _ (@pe_ix _ _ _ _ _ _ _ ix_tup (@pe_ix _ _ _ _ _ _ _ ix_tup (@pe_ix _ _ _ _ _ _ _ ix_tup (pv 0) pe_int (fun _ _ => rfl)) (pv 3) (fun _ _ => rfl)) pe_int (fun _ _ => rfl)) (@pa_cons _ _ _ _ _ (@pe_ix _ _ _ _ _ _ _ ix_tup (pv 0) pe_int (fun _ _ => rfl)) (@pa_cons _ _ _ _ _ (pv 1) pa_nil (by rfl)) (by rfl)) (by rfl)) (by decide) (by rfl) (by rfl)) (@pa_cons _ _ _ _ _ (@pe_op _ _ _ _ _ _ _ _ op_add (pv 1) (pv 3)) pa_nil (by rfl)) (by rfl))) pa_nil (by rfl)) (by rfl) (by rfl) (by rfl) (by rfl) (by rfl)) (by rfl)) (@pss_one _ _ _ (@ps_expr _ _ _ _ (@pe_bm _ _ _ _ _ _ _ _ _ _ _ _ PySem.F.plainAttrs_list PySem.F.slot_list_append PySem.F.type_list_append mt_append (pv 2) (@pa_cons _ _ _ _ _ (@pe_tup _ _ _ _ _ (@pa_cons _ _ _ _ _ (@pe_op _ _ _ _ _ _ _ _ op_add (pv 1) (pv 3)) (@pa_cons _ _ _ _ _ (@pe_call _ _ _ _ _ _ _ _ _ _ _ _ _ _ _ _ G_l_whose (hr.mono (by decide)) (by rfl) T.m_l_whose T.F_l_whose.kp T.b_l_whose .nil pass0 (@pa_cons _ _ _ _ _ (@pe_ix _ _ _ _ _ _ _ ix_tup (@pe_ix _ _ _ _ _ _ _ ix_tup (@pe_ix _ _ _ _ _ _ _ ix_tup (pv 0) pe_int (fun _ _ => rfl)) (pv 3) (fun _ _ => rfl)) pe_int (fun _ _ => rfl)) (@pa_cons _ _ _ _ _ (@pe_ix _ _ _ _ _ _ _ ix_tup (pv 0) pe_int (fun _ _ => rfl)) (@pa_cons _ _ _ _ _ (pv 1) pa_nil (by rfl)) (by rfl)) (by rfl)) (by decide) (by rfl) (by rfl)) pa_nil (by rfl)) (by rfl))) pa_nil (by rfl)) (by rfl) (by rfl) (by rfl) (by rfl) (by rfl)) (by rfl)))) (by intro _ ; rfl)) (@pss_one _ _ _ (@ps_ret _ _ _ _ (pv 2))))), ?_⟩
  refine ⟨szl (by show 0 ≤ 1000000; decide), fun l hl => ?_⟩
  have e1 := same_new hl (.lst [])
  have hl1 : (upd H l (.lst [])) l = some (.lst []) := upd_same
  dsimp only [gName]
  generalize upd H l (.lst []) = H1 at e1 hl1
  refine ⟨_, rfl, row, _, 0, _, rfl, rfl, SqT.of (e1 _ _ hrow), rfl, nm, _, rfl, .inr (SqT.of (e1 _ _ hnm)), _, rfl, by rw [List.length_map]; omega, by rw [List.length_map]; omega, ?_⟩
  rw [List.length_map]
  refine for_range (lo := 0) (n := zs.length) (fun i σ' H' => Same H H' ∧ (∃ o3, σ' = [some (.ref row), some (.int f), some (.ref l), o3]) ∧ ∃ ys : List V, H' l = some (.lst ys) ∧ All2 (PrAt H') ys ((likeB (F52 f u ln) (G52 f w2 hn) i).map fun b => (b.1, b.2.1))) ⟨e1, ⟨_, rfl⟩, [], hl1, .nil⟩ (fun i σ' H' hi pp => ?_) (fun σ' H' pp => ?_)
  · obtain ⟨e, ⟨o3, rfl⟩, ys, hy, tr⟩ := pp
    have z0 : (0 + (i : Int)) = (i : Int) := by omega
    have x1 : xs[i]? = some xs[i] := List.getElem?_eq_getElem (by omega)
    have x2 : os[i]? = some os[i] := List.getElem?_eq_getElem (by omega)
    obtain ⟨t1, et1, ht1⟩ := hxs i _ x1
    obtain ⟨t2, et2, ht2⟩ := hos i _ x2
    have at1 : atI xs (0 + (i : Int)) = some (.ref t1) := by rw [z0]; exact (atI_nat x1).trans (congrArg some et1)
    have at2 : atI os (0 + (i : Int)) = some (.ref t2) := by rw [z0]; exact (atI_nat x2).trans (congrArg some et2)
    have yl : ys.length = 2 * i := by rw [tr.1, List.length_map, likeB_len]
    refine ⟨_, rfl, .inl ⟨rfl, _, SqL.of hy⟩, _, rfl, row, _, 1, _, rfl, rfl, SqT.of (e _ _ hrow), rfl, _, rfl, lo, _, _, _, rfl, rfl, SqT.of (e _ _ hx), at1, t1, _, 0, _, rfl, rfl, SqT.of (e _ _ ht1), rfl, _, rfl, row, _, 0, _, rfl, rfl, SqT.of (e _ _ hrow), rfl, _, rfl, nm, lz i, f, zs, u i, rfl, e _ _ hnm, hu i hi, _, rfl, _, rfl, _, _, rfl, rfl, szl (by show 2 ≤ 1000000; decide), fun b1 hb1 => ?_⟩
    rw [z0]
    have s3 := same_new hb1 (.tup [V.int (u i), V.int (f + (i : Int))])
    have nb1 : b1 ≠ l := fun z => by rw [z, hy] at hb1; cases hb1
    refine ⟨l, _, _, rfl, rfl, s3 _ _ hy, szlt (by omega), ?_⟩
    have tk3 := (Same.tk s3).trans (TK.upd (o := .lst (ys ++ [V.ref b1])) (s3 _ _ hy))
    have tr3 := (tr.mono fun x p z => z.tk tk3).snoc (x := .ref b1) (a := (u i, f + (i : Int))) ⟨b1, rfl, by rw [upd_ne nb1]; exact upd_same⟩
    have hy3 : (upd (upd H' b1 (.tup [V.int (u i), V.int (f + (i : Int))])) l (.lst (ys ++ [V.ref b1]))) l = some (.lst (ys ++ [V.ref b1])) := upd_same
    have e3 : Same H (upd (upd H' b1 (.tup [V.int (u i), V.int (f + (i : Int))])) l (.lst (ys ++ [V.ref b1]))) := fun a o ha => by rw [upd_ne (ne_of_none ha hl)]; exact s3 _ _ (e _ _ ha)
    generalize upd (upd H' b1 (.tup [V.int (u i), V.int (f + (i : Int))])) l (.lst (ys ++ [V.ref b1])) = H3 at tr3 hy3 e3
    refine ⟨_, rfl, .inl ⟨rfl, _, SqL.of hy3⟩, _, rfl, _, rfl, _, _, rfl, rfl, _, rfl, row, _, 2, _, rfl, rfl, SqT.of (e3 _ _ hrow), rfl, _, rfl, hh, _, _, _, rfl, rfl, SqT.of (e3 _ _ ho), (z0 ▸ at2), t2, _, 0, _, rfl, rfl, SqT.of (e3 _ _ ht2), rfl, _, rfl, row, _, 0, _, rfl, rfl, SqT.of (e3 _ _ hrow), rfl, _, rfl, nm, hz i, f, zs, w2 i, rfl, e3 _ _ hnm, hw i hi, szl (by show 2 ≤ 1000000; decide), fun b2 hb2 => ?_⟩
    have s4 := same_new hb2 (.tup [V.int (f + (i : Int)), V.int (w2 i)])
    have nb2 : b2 ≠ l := fun z => by rw [z, hy3] at hb2; cases hb2
    refine ⟨l, _, _, rfl, rfl, s4 _ _ hy3, szlt (by rw [List.length_append, List.length_singleton]; omega), ?_⟩
    have tk4 := (Same.tk s4).trans (TK.upd (o := .lst (ys ++ [V.ref b1] ++ [V.ref b2])) (s4 _ _ hy3))
    have tr4 := (tr3.mono fun x p z => z.tk tk4).snoc (x := .ref b2) (a := (f + (i : Int), w2 i)) ⟨b2, rfl, by rw [upd_ne nb2]; exact upd_same⟩
    refine ⟨fun a o ha => by rw [upd_ne (ne_of_none ha hl)]; exact s4 _ _ (e3 _ _ ha), ⟨_, rfl⟩, _, upd_same, ?_⟩
    rw [likeB, List.map_append, List.map_append]
    exact tr4
  · obtain ⟨e, ⟨o3, rfl⟩, ys, hy, tr⟩ := pp
    exact ⟨_, rfl, q l ys _ e hy tr⟩

theorem ok_lbonds (T : Tx K mg a) : FnOk P w K mg base CX0 2 a.f_loop_bonds a.d_loop_bonds ["deed", "first"] (spLoopBonds a.c_Deed) := by
  have G_unknown_of := ok_unknown (P := P) (w := w) (base := base) T
  refine T.F_loop_bonds.ok sc_loop_bonds (fun vs H Q E h => ?_) (fun cdv A outer s H vs Q E hr h => ?_)
  · obtain ⟨_, _, _, _, _, _, _, _, _, _, _, _, _, _, _, _, _, rfl, _⟩ := h; rfl
  obtain ⟨d, dx, nm, lo, hh, v4, v5, v6, v7, f, zs, lz, hz, ln, hn, u, w2, rfl, hd, hnm, hlo, hhi, zl, hu, hw, q⟩ := h
  refine ⟨_, (@pss_cons _ _ _ _ _ (@ps_set _ _ (2) _ _ _ _ sc_loop_bonds.nd rfl (Or.inl rfl) (@pe_lst _ _ _ _ pa_nil) (by rfl) (by first | exact .inl rfl | exact .inr rfl | assumption)) (@pss_cons _ _ _ _ _ (@ps_for _ _ _ _ _ _ _ _ PassesOwn.never rfl (@pi_range1 _ _ _ _ _ _ (by rfl) T.z_range (@pa_cons _ _ _ _ _ (@pe_callB _ _ _ _ _ _ _ _ _ call_len_seq (by rfl) T.z_len bt_len (@pa_cons _ _ _ _ _ (@pe_fld _ _ _ _ _ (pv 0) rfl) pa_nil (by rfl)) (by decide) (by decide) (by rfl) (by rfl)) pa_nil (by rfl)) (by rfl)) (pg_name (i := 3) sc_loop_bonds.nd rfl (Or.inl rfl)) (@pss_cons _ _ _ _ _ (@ps_set _ _ (4) _ _ _ _ sc_loop_bonds.nd rfl (Or.inl rfl) (@pe_ix _ _ _ _ _ _ _ ix_tup (@pe_fld _ _ _ _ _ (pv 0) rfl) (pv 3) (fun _ _ => rfl)) (by rfl) (by first | exact .inl rfl | exact .inr rfl | assumption)) (@pss_cons _ _ _ _ _ (@ps_set _ _ (5) _ _ _ _ sc_loop_bonds.nd rfl (Or.inl rfl) (@pe_ix _ _ _ _ _ _ _ ix_tup (@pe_fld _ _ _ _ _ (pv 0) rfl) (pv 3) (fun _ _ => rfl)) (by rfl) (by first | exact .inl rfl | exact .inr rfl | assumption)) (@pss_cons _ _ _ _ _ (@ps_expr _ _ _ _ (@pe_bm _ _ _ _ _ _ _ _ _ _ _ _ PySem.F.plainAttrs_list PySem.F.slot_list_append PySem.F.type_list_append mt_append (pv 2) (@pa_cons _ _ _ _ _ (@pe_tupq _ _ _ _ _ (@paq_cons _ _ _ _ _ (@pe_call _ _ _ _ _ _ _ _ _ _ _ _ _ _ _ _ G_unknown_of (hr.mono (by decide)) (by rfl) T.m_unknown_of T.F_unknown_of.kp T.b_unknown_of .nil pass0 (@pa_cons _ _ _ _ _ (pv 4) (@pa_cons _ _ _ _ _ (@pe_fld _ _ _ _ _ (pv 0) rfl) (@pa_cons _ _ _ _ _ (pv 1) pa_nil (by rfl)) (by rfl)) (by rfl)) (by decide) (by rfl) (by rfl)) (@paq_cons _ _ _ _ _ (@pe_op _ _ _ _ _ _ _ _ op_add (pv 1) (pv 3)) (@paq_cons _ _ _ _ _ (@pe_un _ _ _ _ _ _ un_neg (@pe_ix _ _ _ _ _ _ _ ix_tup (pv 4) pe_int (fun _ _ => rfl))) paq_nil star_U) star_B) star_K)) pa_nil (by rfl)) (by rfl) (by rfl) (by rfl) (by rfl) (by rfl)) (by rfl)) (@pss_one _ _ _ (@ps_expr _ _ _ _ (@pe_bm _ _ _ _ _ _ _ _ _ _ _ _ PySem.F.plainAttrs_list PySem.F.slot_list_append PySem.F.type_list_append mt_append (pv 2) (@pa_cons _ _ _ _ _ (@pe_tupq _ _ _ _ _ (@paq_cons _ _ _ _ _ (@pe_op _ _ _ _ _ _ _ _ op_add (pv 1) (pv 3)) (@paq_cons _ _ _ _ _ (@pe_call _ _ _ _ _ _ _ _ _ _ _ _ _ _ _ _ G_unknown_of (hr.mono (by decide)) (by rfl) T.m_unknown_of T.F_unknown_of.kp T.b_unknown_of .nil pass0 (@pa_cons _ _ _ _ _ (pv 5) (@pa_cons _ _ _ _ _ (@pe_fld _ _ _ _ _ (pv 0) rfl) (@pa_cons _ _ _ _ _ (pv 1) pa_nil (by rfl)) (by rfl)) (by rfl)) (by decide) (by rfl) (by rfl)) (@paq_cons _ _ _ _ _ (@pe_ix _ _ _ _ _ _ _ ix_tup (pv 5) pe_int (fun _ _ => rfl)) paq_nil star_S) star_K) star_B)) pa_nil (by rfl)) (by rfl) (by rfl) (by rfl) (by rfl) (by rfl)) (by rfl)))))) (by intro _ ; rfl)) (@pss_one _ _ _ (@ps_ret _ _ _ _ (pv 2))))), ?_⟩
  obtain ⟨xs, hx, xl, hxs⟩ := hlo
  obtain ⟨os, ho, ol, hos⟩ := hhi
  refine ⟨szl (by show 0 ≤ 1000000; decide), fun l hl => ?_⟩
  have e1 := same_new hl (.lst [])
  have hl1 : (upd H l (.lst [])) l = some (.lst []) := upd_same
  dsimp only [gName]
  generalize upd H l (.lst []) = H1 at e1 hl1
  refine ⟨_, rfl, d, _, dx, _, _, rfl, e1 _ _ hd, T.cl_Deed, T.n_Deed_names, rfl, nm, _, rfl, .inr (SqT.of (e1 _ _ hnm)), _, rfl, by rw [List.length_map]; omega, by rw [List.length_map]; omega, ?_⟩
  rw [List.length_map]
  refine for_range (lo := 0) (n := zs.length) (fun i σ' H' => Same H H' ∧ (∃ o3 o4 o5, σ' = [some (.ref d), some (.int f), some (.ref l), o3, o4, o5]) ∧ ∃ ys : List V, H' l = some (.lst ys) ∧ TrisAt H' ys (likeB (F52 f u ln) (G52 f w2 hn) i)) ⟨e1, ⟨_, _, _, rfl⟩, [], hl1, .nil⟩ (fun i σ' H' hi pp => ?_) (fun σ' H' pp => ?_)
  · obtain ⟨e, ⟨o3, o4, o5, rfl⟩, ys, hy, tr⟩ := pp
    have z0 : (0 + (i : Int)) = (i : Int) := by omega
    have x1 : xs[i]? = some xs[i] := List.getElem?_eq_getElem (by omega)
    have x2 : os[i]? = some os[i] := List.getElem?_eq_getElem (by omega)
    obtain ⟨t1, et1, ht1⟩ := hxs i _ x1
    obtain ⟨t2, et2, ht2⟩ := hos i _ x2
    have at1 : atI xs (0 + (i : Int)) = some (.ref t1) := by rw [z0]; exact (atI_nat x1).trans (congrArg some et1)
    have at2 : atI os (0 + (i : Int)) = some (.ref t2) := by rw [z0]; exact (atI_nat x2).trans (congrArg some et2)
    have yl : ys.length = 2 * i := by rw [tr.1, likeB_len]
    have g1 := e _ _ ht1
    have g2 := e _ _ ht2
    refine ⟨_, rfl, d, _, dx, _, _, rfl, e _ _ hd, T.cl_Deed, T.n_Deed_lows, rfl, _, rfl, lo, _, _, _, rfl, rfl, SqT.of (e _ _ hx), at1, ?_⟩
    dsimp only [gName]
    refine ⟨_, rfl, d, _, dx, _, _, rfl, e _ _ hd, T.cl_Deed, T.n_Deed_highs, rfl, _, rfl, hh, _, _, _, rfl, rfl, SqT.of (e _ _ ho), at2, ?_⟩
    dsimp only [gName]
    refine ⟨_, rfl, .inl ⟨rfl, _, SqL.of hy⟩, _, rfl, _, rfl, d, _, dx, _, _, rfl, e _ _ hd, T.cl_Deed, T.n_Deed_names, rfl, _, rfl, t1, nm, lz i, ln i, f, zs, u i, rfl, g1, e _ _ hnm, hu i hi, _, rfl, _, rfl, _, _, rfl, rfl, _, rfl, t1, _, 1, _, rfl, rfl, SqT.of g1, rfl, _, rfl, szl (by show 3 ≤ 1000000; decide), fun b1 hb1 => ?_⟩
    rw [z0]
    have s3 := same_new hb1 (.tup [V.int (u i), V.int (f + (i : Int)), V.int (-(ln i))])
    have nb1 : b1 ≠ l := fun z => by rw [z, hy] at hb1; cases hb1
    refine ⟨l, _, _, rfl, rfl, s3 _ _ hy, szlt (by omega), ?_⟩
    have tr3 := ((tr.over s3).upd (xs := ys ++ [V.ref b1]) (s3 _ _ hy)).snoc (t := b1) (b := F52 f u ln i) (by rw [upd_ne nb1]; exact upd_same)
    have hy3 : (upd (upd H' b1 (.tup [V.int (u i), V.int (f + (i : Int)), V.int (-(ln i))])) l (.lst (ys ++ [V.ref b1]))) l = some (.lst (ys ++ [V.ref b1])) := upd_same
    have e3 : Same H (upd (upd H' b1 (.tup [V.int (u i), V.int (f + (i : Int)), V.int (-(ln i))])) l (.lst (ys ++ [V.ref b1]))) := fun a o ha => by rw [upd_ne (ne_of_none ha hl)]; exact s3 _ _ (e _ _ ha)
    generalize upd (upd H' b1 (.tup [V.int (u i), V.int (f + (i : Int)), V.int (-(ln i))])) l (.lst (ys ++ [V.ref b1])) = H3 at tr3 hy3 e3
    have g2 := e3 _ _ ht2
    refine ⟨_, rfl, .inl ⟨rfl, _, SqL.of hy3⟩, _, rfl, _, rfl, _, _, rfl, rfl, _, rfl, _, rfl, d, _, dx, _, _, rfl, e3 _ _ hd, T.cl_Deed, T.n_Deed_names, rfl, _, rfl, t2, nm, hz i, hn i, f, zs, w2 i, rfl, g2, e3 _ _ hnm, hw i hi, _, rfl, t2, _, 1, _, rfl, rfl, SqT.of g2, rfl, szl (by show 3 ≤ 1000000; decide), fun b2 hb2 => ?_⟩
    have s4 := same_new hb2 (.tup [V.int (f + (i : Int)), V.int (w2 i), V.int (hn i)])
    have nb2 : b2 ≠ l := fun z => by rw [z, hy3] at hb2; cases hb2
    refine ⟨l, _, _, rfl, rfl, s4 _ _ hy3, szlt (by rw [List.length_append, List.length_singleton]; omega), ?_⟩
    have tr4 := ((tr3.over s4).upd (xs := ys ++ [V.ref b1] ++ [V.ref b2]) (s4 _ _ hy3)).snoc (t := b2) (b := G52 f w2 hn i) (by rw [upd_ne nb2]; exact upd_same)
    exact ⟨fun a o ha => by rw [upd_ne (ne_of_none ha hl)]; exact s4 _ _ (e3 _ _ ha), ⟨_, _, _, rfl⟩, _, upd_same, tr4⟩
  · obtain ⟨e, ⟨o3, o4, o5, rfl⟩, ys, hy, tr⟩ := pp
    exact ⟨_, rfl, q l ys _ e hy tr⟩

theorem ok_law (T : Tx K mg a) : FnOk P w K mg base CX0 5 a.f_law a.d_law ["_law_script"] (spLaw K) := by
  have G_l_cell := ok_cell (P := P) (w := w) (base := base) T
  have G_l_mixed := ok_mixed (P := P) (w := w) (base := base) T
  have G_l_loop := ok_loop (P := P) (w := w) (base := base) T
  have G_Number_init := ok_ninit (P := P) (w := w) (base := base) T
  have G_Deed_init := ok_dinit (P := P) (w := w) (base := base) T
  have G_loop_bonds := ok_lbonds (P := P) (w := w) (base := base) T
  have G_l_are_bonds := ok_are_bonds (P := P) (w := w) (base := base) T
  have G_l_pairs := ok_pairs (P := P) (w := w) (base := base) T
  have G_l_near := ok_near (P := P) (w := w) (base := base) T
  have G_l_holds := ok_holds (P := P) (w := w) (base := base) T
  refine T.F_law.ok sc_law (fun vs H Q E h => ?_) (fun cdv A outer s H vs Q E hr h => ?_)
  · obtain ⟨_, _, rfl, _⟩ := h; rfl
  obtain ⟨p, ns, rfl, hp, h63, _, q⟩ := h
  refine ⟨_, (@pss_cons _ _ _ _ _ (@ps_set _ _ (1) _ _ _ _ sc_law.nd rfl (Or.inl rfl) (@pe_call _ _ _ _ _ _ _ _ _ _ _ _ _ _ _ _ G_l_cell (hr.mono (by decide)) (by rfl) T.m_l_cell T.F_l_cell.kp T.b_l_cell .nil pass0 (@pa_cons _ _ _ _ _ (pv 0) (@pa_cons _ _ _ _ _ pe_int pa_nil (by rfl)) (by rfl)) (by decide) (by rfl) (by rfl)) (by rfl) (by first | exact .inl rfl | exact .inr rfl | assumption)) (@pss_cons _ _ _ _ _ (@ps_set _ _ (2) _ _ _ _ sc_law.nd rfl (Or.inl rfl) (@pe_op _ _ _ _ _ _ _ _ op_sub (@pe_op _ _ _ _ _ _ _ _ op_mod (pv 1) (@pe_op _ _ _ _ _ _ _ _ op_add (@pe_op _ _ _ _ _ _ _ _ op_mul pe_int (@pe_op _ _ _ _ _ _ _ _ op_pow pe_int pe_int)) pe_int)) (@pe_op _ _ _ _ _ _ _ _ op_pow pe_int pe_int)) (by rfl) (by first | exact .inl rfl | exact .inr rfl | assumption)) (@pss_cons _ _ _ _ _ (@ps_set _ _ (3) _ _ _ _ sc_law.nd rfl (Or.inl rfl) (@pe_lst _ _ _ _ pa_nil) (by rfl) (by first | exact .inl rfl | exact .inr rfl | assumption)) (@pss_cons _ _ _ _ _ (@ps_for _ _ _ _ _ _ _ _ PassesOwn.never rfl (@pi_range1 _ _ _ _ _ _ (by rfl) T.z_range (@pa_cons _ _ _ _ _ (@pe_ix _ _ _ _ _ _ _ ix_list (@pe_lstq _ _ _ _ (@paq_cons _ _ _ _ _ pe_int (@paq_cons _ _ _ _ _ pe_int (@paq_cons _ _ _ _ _ pe_int (@paq_cons _ _ _ _ _ pe_int (@paq_cons _ _ _ _ _ pe_int (@paq_cons _ _ _ _ _ pe_int paq_nil star_C) star_C) star_C) star_C) star_C) star_C)) (@pe_op _ _ _ _ _ _ _ _ op_mod (@pe_call _ _ _ _ _ _ _ _ _ _ _ _ _ _ _ _ G_l_mixed (hr.mono (by decide)) (by rfl) T.m_l_mixed T.F_l_mixed.kp T.b_l_mixed .nil pass0 (@pa_cons _ _ _ _ _ (pv 1) (@pa_cons _ _ _ _ _ pe_int pa_nil (by rfl)) (by rfl)) (by decide) (by rfl) (by rfl)) pe_int) (fun _ _ => rfl)) pa_nil (by rfl)) (by rfl)) (pg_name (i := 4) sc_law.nd rfl (Or.inl rfl)) (@pss_one _ _ _ (@ps_expr _ _ _ _ (@pe_bm _ _ _ _ _ _ _ _ _ _ _ _ PySem.F.plainAttrs_list PySem.F.slot_list_append PySem.F.type_list_append mt_append (pv 3) (@pa_cons _ _ _ _ _ (@pe_call _ _ _ _ _ _ _ _ _ _ _ _ _ _ _ _ G_l_loop (hr.mono (by decide)) (by rfl) T.m_l_loop T.F_l_loop.kp T.b_l_loop .nil pass0 (@pa_cons _ _ _ _ _ (@pe_call _ _ _ _ _ _ _ _ _ _ _ _ _ _ _ _ G_l_mixed (hr.mono (by decide)) (by rfl) T.m_l_mixed T.F_l_mixed.kp T.b_l_mixed .nil pass0 (@pa_cons _ _ _ _ _ (@pe_call _ _ _ _ _ _ _ _ _ _ _ _ _ _ _ _ G_l_cell (hr.mono (by decide)) (by rfl) T.m_l_cell T.F_l_cell.kp T.b_l_cell .nil pass0 (@pa_cons _ _ _ _ _ (pv 0) (@pa_cons _ _ _ _ _ (@pe_op _ _ _ _ _ _ _ _ op_add pe_int (pv 4)) pa_nil (by rfl)) (by rfl)) (by decide) (by rfl) (by rfl)) (@pa_cons _ _ _ _ _ pe_int pa_nil (by rfl)) (by rfl)) (by decide) (by rfl) (by rfl)) (@pa_cons _ _ _ _ _ (pv 2) (@pa_cons _ _ _ _ _ (pv 3) (@pa_cons _ _ _ _ _ (@pe_call _ _ _ _ _ _ _ _ _ _ _ _ _ _ _ _ G_l_cell (hr.mono (by decide)) (by rfl) T.m_l_cell T.F_l_cell.kp T.b_l_cell .nil pass0 (@pa_cons _ _ _ _ _ (pv 0) (@pa_cons _ _ _ _ _ pe_int pa_nil (by rfl)) (by rfl)) (by decide) (by rfl) (by rfl)) pa_nil (by rfl)) (by rfl)) (by rfl)) (by rfl)) (by decide) (by rfl) (by rfl)) pa_nil (by rfl)) (by rfl) (by rfl) (by rfl) (by rfl) (by rfl)) (by rfl))) (by intro _ ; rfl)) (@pss_cons _ _ _ _ _ (@ps_set _ _ (5) _ _ _ _ sc_law.nd rfl (Or.inl rfl) (@pe_tupq _ _ _ _ _ (@paq_cons _ _ _ _ _ (@pe_callTy _ _ _ _ _ _ _ _ _ call_tuple_of (by rfl) T.z_tuple bt_tuple (@pa_cons _ _ _ _ _ (@pe_compB _ _ _ _ _ _ _ ["_law_one"] [none] _ _ _ _ (by rfl) (@pi_list _ _ _ _ (pv 3)) c_law_2 (fun _ _ _ _ _ _ => ⟨(pg_name (i := 0) c_law_2n rfl (Or.inl rfl)), @pts_nil _, (@pe_ix _ _ _ _ _ _ _ (show IxR _ (rIxT K) from ix_tup) (pv 0) pe_int (fun _ _ => rfl))⟩) (by intro _ ; rfl)) pa_nil (by rfl)) (by decide) (by decide) (by rfl) (by rfl)) (@paq_cons _ _ _ _ _ (@pe_callTy _ _ _ _ _ _ _ _ _ call_tuple_of (by rfl) T.z_tuple bt_tuple (@pa_cons _ _ _ _ _ (@pe_compB _ _ _ _ _ _ _ ["_law_one"] [none] _ _ _ _ (by rfl) (@pi_list _ _ _ _ (pv 3)) c_law_1 (fun _ _ _ _ _ _ => ⟨(pg_name (i := 0) c_law_1n rfl (Or.inl rfl)), @pts_nil _, (@pe_ix _ _ _ _ _ _ _ (show IxR _ (rIxT K) from ix_tup) (pv 0) pe_int (fun _ _ => rfl))⟩) (by intro _ ; rfl)) pa_nil (by rfl)) (by decide) (by decide) (by rfl) (by rfl)) (@paq_cons _ _ _ _ _ (@pe_callTy _ _ _ _ _ _ _ _ _ call_tuple_of (by rfl) T.z_tuple bt_tuple (@pa_cons _ _ _ _ _ (@pe_compB _ _ _ _ _ _ _ ["_law_one"] [none] _ _ _ _ (by rfl) (@pi_list _ _ _ _ (pv 3)) c_law_0 (fun _ _ _ _ _ _ => ⟨(pg_name (i := 0) c_law_0n rfl (Or.inl rfl)), @pts_nil _, (@pe_ix _ _ _ _ _ _ _ (show IxR _ (rIxT K) from ix_tup) (pv 0) pe_int (fun _ _ => rfl))⟩) (by intro _ ; rfl)) pa_nil (by rfl)) (by decide) (by decide) (by rfl) (by rfl)) paq_nil star_K) star_K) star_K)) (by rfl) (by first | exact .inl rfl | exact .inr rfl | assumption)) (@pss_cons _ _ _ _ _ (@ps_set _ _ (6) _ _ _ _ sc_law.nd rfl (Or.inl rfl) (@pe_op _ _ _ _ _ _ _ _ op_add pe_int (@pe_op _ _ _ _ _ _ _ _ op_mod (@pe_call _ _ _ _ _ _ _ _ _ _ _ _ _ _ _ _ G_l_mixed (hr.mono (by decide)) (by rfl) T.m_l_mixed T.F_l_mixed.kp T.b_l_mixed .nil pass0 (@pa_cons _ _ _ _ _ (@pe_call _ _ _ _ _ _ _ _ _ _ _ _ _ _ _ _ G_l_cell (hr.mono (by decide)) (by rfl) T.m_l_cell T.F_l_cell.kp T.b_l_cell .nil pass0 (@pa_cons _ _ _ _ _ (pv 0) (@pa_cons _ _ _ _ _ pe_int pa_nil (by rfl)) (by rfl)) (by decide) (by rfl) (by rfl)) (@pa_cons _ _ _ _ _ pe_int pa_nil (by rfl)) (by rfl)) (by decide) (by rfl) (by rfl)) pe_int)) (by rfl) (by first | exact .inl rfl | exact .inr rfl | assumption)) (@pss_cons _ _ _ _ _ (@ps_set _ _ (7) _ _ _ _ sc_law.nd rfl (Or.inl rfl) (@pe_make _ _ _ _ _ _ _ _ _ _ _ _ _ _ _ _ _ T.mk_Deed G_Deed_init (hr.mono (by decide)) (by rfl) T.mc_Deed T.b_Deed_init .nil pass0 (@pa_cons _ _ _ _ _ (@pe_ix _ _ _ _ _ _ _ ix_tup (pv 5) pe_int (fun _ _ => rfl)) (@pa_cons _ _ _ _ _ (@pe_ix _ _ _ _ _ _ _ ix_tup (pv 5) pe_int (fun _ _ => rfl)) (@pa_cons _ _ _ _ _ (@pe_ix _ _ _ _ _ _ _ ix_tup (pv 5) pe_int (fun _ _ => rfl)) (@pa_cons _ _ _ _ _ pe_str (@pa_cons _ _ _ _ _ (@pe_tup _ _ _ _ _ (@pa_cons _ _ _ _ _ (@pe_tup _ _ _ _ _ (@pa_cons _ _ _ _ _ pe_str (@pa_cons _ _ _ _ _ pe_int pa_nil (by rfl)) (by rfl))) pa_nil (by rfl))) (@pa_cons _ _ _ _ _ (@pe_make _ _ _ _ _ _ _ _ _ _ _ _ _ _ _ _ _ T.mk_Number G_Number_init (hr.mono (by decide)) (by rfl) T.mc_Number T.b_Number_init .nil pass0 (@pa_cons _ _ _ _ _ pe_int pa_nil (by rfl)) (by decide) (by rfl) (by rfl)) (@pa_cons _ _ _ _ _ (@pe_op _ _ _ _ _ _ _ _ op_rep4 (@pe_tup _ _ _ _ _ (@pa_cons _ _ _ _ _ pe_int pa_nil (by rfl))) (@pe_op _ _ _ _ _ _ _ _ op_add (@pe_callB _ _ _ _ _ _ _ _ _ call_len_seq (by rfl) T.z_len bt_len (@pa_cons _ _ _ _ _ (pv 3) pa_nil (by rfl)) (by decide) (by decide) (by rfl) (by rfl)) pe_int)) pa_nil (by rfl)) (by rfl)) (by rfl)) (by rfl)) (by rfl)) (by rfl)) (by rfl)) (by decide) (by rfl) (by rfl)) (by rfl) (by first | exact .inl rfl | exact .inr rfl | assumption)) (@pss_cons _ _ _ _ _ (@ps_set _ _ (8) _ _ _ _ sc_law.nd rfl (Or.inl rfl) (@pe_call _ _ _ _ _ _ _ _ _ _ _ _ _ _ _ _ G_loop_bonds (hr.mono (by decide)) (by rfl) T.m_loop_bonds T.F_loop_bonds.kp T.b_loop_bonds .nil pass0 (@pa_cons _ _ _ _ _ (pv 7) (@pa_cons _ _ _ _ _ (pv 6) pa_nil (by rfl)) (by rfl)) (by decide) (by rfl) (by rfl)) (by rfl) (by first | exact .inl rfl | exact .inr rfl | assumption)) (@pss_cons _ _ _ _ _ (@ps_if _ _ _ _ _ _ _ _ ((@pw_or _ _ _ _ _ _ _ (@pt_not _ _ _ _ (@pt_val _ _ _ (@pe_call _ _ _ _ _ _ _ _ _ _ _ _ _ _ _ _ G_l_are_bonds (hr.mono (by decide)) (by rfl) T.m_l_are_bonds T.F_l_are_bonds.kp T.b_l_are_bonds .nil pass0 (@pa_cons _ _ _ _ _ (pv 8) pa_nil (by rfl)) (by decide) (by rfl) (by rfl)) (by intro _ ; rfl))) (@pw_or1 _ _ _ _ (@pt_cmpR _ _ _ _ _ _ _ _ op_ne (@pe_callB _ _ _ _ _ _ _ _ _ call_len_seq (by rfl) T.z_len bt_len (@pa_cons _ _ _ _ _ (pv 8) pa_nil (by rfl)) (by decide) (by decide) (by rfl) (by rfl)) (@pe_op _ _ _ _ _ _ _ _ op_mul pe_int (@pe_callB _ _ _ _ _ _ _ _ _ call_len_seq (by rfl) T.z_len bt_len (@pa_cons _ _ _ _ _ (pv 3) pa_nil (by rfl)) (by decide) (by decide) (by rfl) (by rfl))) (@nomark _ _ (by decide) (by decide)))))).pt (@pss_one _ _ _ (@ps_ret _ _ _ _ pe_bl)) pss_nil) (@pss_cons _ _ _ _ _ (@ps_if _ _ _ _ _ _ _ _ (@pt_cmpR _ _ _ _ _ _ _ _ (@op_neS _ (@hu64 _ _ hr)) (@pe_compB _ _ _ _ _ _ _ ["_law_bond"] [none] _ _ _ _ (by rfl) (@pi_list _ _ _ _ (pv 8)) c_law_3 (fun _ _ _ _ _ _ => ⟨(pg_name (i := 0) c_law_3n rfl (Or.inl rfl)), @pts_nil _, (@pe_slice _ _ _ _ _ _ _ _ _ _ (show SlR _ (rSlT K) from sl_tup) (pv 0) po_none (@po_some _ _ _ pe_int))⟩) (by intro _ ; rfl)) (@pe_call _ _ _ _ _ _ _ _ _ _ _ _ _ _ _ _ G_l_pairs (hr.mono (by decide)) (by rfl) T.m_l_pairs T.F_l_pairs.kp T.b_l_pairs .nil pass0 (@pa_cons _ _ _ _ _ (pv 5) (@pa_cons _ _ _ _ _ (pv 6) pa_nil (by rfl)) (by rfl)) (by decide) (by rfl) (by rfl)) (@nomark _ _ (by decide) (by decide))) (@pss_one _ _ _ (@ps_ret _ _ _ _ pe_bl)) pss_nil) (@pss_cons _ _ _ _ _ (@ps_for _ _ _ _ _ _ _ _ PassesOwn.never rfl (@pi_range1 _ _ _ _ _ _ (by rfl) T.z_range (@pa_cons _ _ _ _ _ pe_int pa_nil (by rfl)) (by rfl)) (pg_name (i := 9) sc_law.nd rfl (Or.inl rfl)) (@pss_cons _ _ _ _ _ (@ps_asg _ _ _ _ _ _ (@pe_call _ _ _ _ _ _ _ _ _ _ _ _ _ _ _ _ G_l_near (hr.mono (by decide)) (by rfl) T.m_l_near T.F_l_near.kp T.b_l_near .nil pass0 (@pa_cons _ _ _ _ _ (pv 5) (@pa_cons _ _ _ _ _ (@pe_call _ _ _ _ _ _ _ _ _ _ _ _ _ _ _ _ G_l_mixed (hr.mono (by decide)) (by rfl) T.m_l_mixed T.F_l_mixed.kp T.b_l_mixed .nil pass0 (@pa_cons _ _ _ _ _ (@pe_call _ _ _ _ _ _ _ _ _ _ _ _ _ _ _ _ G_l_cell (hr.mono (by decide)) (by rfl) T.m_l_cell T.F_l_cell.kp T.b_l_cell .nil pass0 (@pa_cons _ _ _ _ _ (pv 0) (@pa_cons _ _ _ _ _ (@pe_op _ _ _ _ _ _ _ _ op_add pe_int (pv 9)) pa_nil (by rfl)) (by rfl)) (by decide) (by rfl) (by rfl)) (@pa_cons _ _ _ _ _ (@pe_op _ _ _ _ _ _ _ _ op_add pe_int (pv 9)) pa_nil (by rfl)) (by rfl)) (by decide) (by rfl) (by rfl)) pa_nil (by rfl)) (by rfl)) (by decide) (by rfl) (by rfl)) (pg_tup rfl (pgs_cons (pg_name (i := 10) sc_law.nd rfl (Or.inl rfl)) (pgs_cons (pg_name (i := 11) sc_law.nd rfl (Or.inl rfl)) pgs_nil))) (by rfl) (by rfl) (by rfl)) (@pss_one _ _ _ (@ps_if _ _ _ _ _ _ _ _ (@pt_cmpR _ _ _ _ _ _ _ _ op_ne (@pe_call _ _ _ _ _ _ _ _ _ _ _ _ _ _ _ _ G_l_holds (hr.mono (by decide)) (by rfl) T.m_l_holds T.F_l_holds.kp T.b_l_holds .nil pass0 (@pa_cons _ _ _ _ _ (pv 8) (@pa_cons _ _ _ _ _ (pv 6) (@pa_cons _ _ _ _ _ (pv 10) pa_nil (by rfl)) (by rfl)) (by rfl)) (by decide) (by rfl) (by rfl)) (pv 11) (@nomark _ _ (by decide) (by decide))) (@pss_one _ _ _ (@ps_ret _ _ _ _ pe_bl)) pss_nil))) (by intro _ ; rfl)) (@pss_one _ _ _ (@ps_ret _ _ _ _ pe_bl))))))))))))), ?_⟩
  refine ⟨_, rfl, p, ns, 2, rfl, hp, by decide, by decide, ?_⟩
  dsimp only [gName]
  generalize cellD ns 2 = c2
  refine ⟨_, rfl, _, _, rfl, rfl, ⟨by decide, by decide, by decide⟩, _, _, rfl, rfl, .inl ⟨by decide, by decide⟩, _, _, rfl, rfl, _, _, rfl, rfl, (by show (0 : Int) < 2 * 10 ^ (17 : Int).toNat + 1; decide), _, _, rfl, rfl, ⟨by decide, by decide, by decide⟩, _, _, rfl, rfl, ?_⟩
  dsimp only [gName]
  generalize c2 % (2 * 10 ^ (17 : Int).toNat + 1) - 10 ^ (17 : Int).toNat = far
  refine ⟨szl (by show 0 ≤ 1000000; decide), fun st hst => ?_⟩
  have e1 := same_new hst (.lst [])
  have hst1 : (upd H st (.lst [])) st = some (.lst []) := upd_same
  dsimp only [gName]
  generalize upd H st (.lst []) = H1 at e1 hst1
  have m0 := Int.emod_nonneg (mixF c2 2) (show (6 : Int) ≠ 0 by decide)
  have m1 := Int.emod_lt_of_pos (mixF c2 2) (show (0 : Int) < 6 by decide)
  obtain ⟨nn, hnn, enn⟩ := pickN (L := [2, 1, 3, 0, 2, 3]) (i := mixF c2 2 % 6) 6 rfl m0 m1
  have hnn : 0 ≤ nn ∧ nn ≤ 3 := by
    simp only [List.mem_cons, List.not_mem_nil, or_false] at hnn
    omega
  obtain ⟨m, rfl⟩ : ∃ m : Nat, nn = (m : Int) := ⟨nn.toNat, by omega⟩
  refine ⟨szl (by show 6 ≤ 1000000; decide), fun l0 hl0 => ⟨_, rfl, c2, 2, rfl, _, _, rfl, rfl, (by show (0 : Int) < 6; decide), l0, _, _, _, rfl, rfl, SqL.of upd_same, enn, _, rfl, by omega, by omega, ?_⟩⟩
  have s2 := same_new hl0 (.lst [V.int 2, V.int 1, V.int 3, V.int 0, V.int 2, V.int 3])
  have hst2 := s2 _ _ hst1
  have e2 := e1.trans s2
  generalize upd H1 l0 (.lst [V.int 2, V.int 1, V.int 3, V.int 0, V.int 2, V.int 3]) = H2 at s2 hst2 e2
  refine for_range (lo := 0) (n := m) (fun i σ' H' => (∃ o4, σ' = [some (.ref p), some (.int c2), some (.int far), some (.ref st), o4, none, none, none, none, none, none, none]) ∧ Same H H' ∧ ∃ (vs : List V) (S : List Lp), H' st = some (.lst vs) ∧ All2 (LpIs H') vs S ∧ SOk S (cellD ns 1) ∧ S.length = i) ⟨⟨_, rfl⟩, e2, [], [], hst2, .nil, SOk.nil _, rfl⟩ (fun i σ' H' hi pp => ?_) (fun σ' H' pp => ?_)
  · obtain ⟨⟨o4, rfl⟩, e, vs, S, hs, hS, ok, sl⟩ := pp
    have vl := hS.1
    have htn : ∀ r ∈ S, 0 ≤ r.tn ∧ r.tn ≤ 2 := fun r hr => by
      obtain ⟨t, t0, t1, ht⟩ := ok.tn
      obtain ⟨j, hj⟩ := List.mem_iff_getElem?.mp hr
      rw [(ht j r hj).1]
      exact ⟨t0, t1⟩
    refine ⟨_, rfl, .inl ⟨rfl, _, SqL.of hs⟩, _, rfl, _, rfl, _, _, rfl, rfl, p, ns, 3 + (0 + (i : Int)), rfl, e.seq hp, by omega, by omega, _, 3, rfl, _, rfl, _, rfl, _, rfl, p, ns, 1, rfl, e.seq hp, by decide, by decide, _, far, cellD ns 1, st, S, rfl, (mix_b _ _).1, ⟨vs, hs, hS⟩, by omega, htn, fun x H3 qq e3 hx hq => ?_⟩
    refine ⟨st, _, _, rfl, rfl, e3 _ _ hs, szlt (by omega), ?_⟩
    have tk := TK.upd (o := .lst (vs ++ [x])) (e3 _ _ hs)
    exact ⟨⟨_, rfl⟩, fun a o ha => by rw [upd_ne (ne_of_none ha hst)]; exact e3 _ _ (e _ _ ha), _, S ++ [qq], upd_same, (hS.mono fun y r z => (z.over e3).tk tk).snoc (hx.tk tk), ok.snoc (by omega) hq, by rw [List.length_append, sl]; rfl⟩
  obtain ⟨⟨o4, rfl⟩, e, vs, S, hs, hS, ok, sl⟩ := pp
  have vl := hS.1
  have l3 := ok.len
  clear e1 e2 s2 hst1 hst2
  -- the names
  refine ⟨_, rfl, st, rfl, ⟨_, SqL.of hs⟩, ?_⟩
  refine comp_list (xs := vs) (fun j ys H2 => H2 = H' ∧ ys = ((S.take j).map (·.nm)).map V.str) ⟨rfl, rfl⟩ (szl (by omega)) (fun j ys H2 hj pp => ⟨by rw [pp.1]; exact SqL.of hs, by rw [pp.2, List.length_map, List.length_map, List.length_take]; omega⟩) (fun j x ys H2 hx pp => ?_) (fun ys H2 pp r1 hr1 => ?_)
  · obtain ⟨rfl, rfl⟩ := pp
    obtain ⟨qq, hqq, p0, p1, p2, rfl, h0, _⟩ := hS.get' hx
    refine ⟨_, rfl, p0, _, 0, _, rfl, rfl, SqT.of h0, rfl, rfl, ?_⟩
    rw [take_snoc hqq, List.map_append, List.map_append]
    rfl
  obtain ⟨rfl, rfl⟩ := pp
  rw [List.take_of_length_le (by omega)]
  refine ⟨r1, _, rfl, .inl ⟨SqL.of upd_same, fun nm hnm => ?_⟩⟩
  have s3 := (same_new hr1 (.lst ((S.map (·.nm)).map V.str))).trans (same_new hnm (.tup ((S.map (·.nm)).map V.str)))
  have hnm3 : (upd (upd H2 r1 (.lst ((S.map (·.nm)).map V.str))) nm (.tup ((S.map (·.nm)).map V.str))) nm = some (.tup ((nmsOf S).map V.str)) := upd_same
  generalize upd (upd H2 r1 (.lst ((S.map (·.nm)).map V.str))) nm (.tup ((S.map (·.nm)).map V.str)) = H3 at s3 hnm3
  have e3 := e.trans s3
  have hs3 := s3 _ _ hs
  have hS3 := hS.mono fun x r z => z.over s3
  -- the lows
  refine ⟨_, rfl, st, rfl, ⟨_, SqL.of hs3⟩, ?_⟩
  refine comp_list (xs := vs) (fun j ys H4 => H4 = H3 ∧ ys.length = j ∧ ∀ (i : Nat) (x : V), ys[i]? = some x → ∃ t, x = .ref t ∧ H3 t = some (.tup [.str (lzF S i), .int (lnF S i)])) ⟨rfl, rfl, fun i x hx => by simp at hx⟩ (szl (by omega)) (fun j ys H4 hj pp => ⟨by rw [pp.1]; exact SqL.of hs3, by omega⟩) (fun j x ys H4 hx pp => ?_) (fun ys H4 pp r2 hr2 => ?_)
  · obtain ⟨rfl, yl, hy⟩ := pp
    obtain ⟨qq, hqq, p0, p1, p2, rfl, h0, h1, _⟩ := hS3.get' hx
    refine ⟨_, rfl, p0, _, 1, _, rfl, rfl, SqT.of h0, rfl, rfl, by rw [List.length_append, yl]; rfl, spt_snoc yl hy ?_⟩
    unfold lzF lnF
    rw [hqq]
    exact h1
  obtain ⟨rfl, yl, hy⟩ := pp
  refine ⟨r2, _, rfl, .inl ⟨SqL.of upd_same, fun lo hlo => ?_⟩⟩
  have s4 := (same_new hr2 (.lst ys)).trans (same_new hlo (.tup ys))
  have hlo4 : SptAt (upd (upd H4 r2 (.lst ys)) lo (.tup ys)) lo S.length (lzF S) (lnF S) := ⟨ys, upd_same, by omega, fun i x hx => by obtain ⟨t, a, b⟩ := hy i x hx; exact ⟨t, a, s4 _ _ b⟩⟩
  generalize upd (upd H4 r2 (.lst ys)) lo (.tup ys) = H5 at s4 hlo4
  clear hy yl
  have e4 := e3.trans s4
  have hs4 := s4 _ _ hs3
  have hS4 := hS3.mono fun x r z => z.over s4
  have hnm4 := s4 _ _ hnm3
  -- the highs
  refine ⟨_, rfl, st, rfl, ⟨_, SqL.of hs4⟩, ?_⟩
  refine comp_list (xs := vs) (fun j ys H4 => H4 = H5 ∧ ys.length = j ∧ ∀ (i : Nat) (x : V), ys[i]? = some x → ∃ t, x = .ref t ∧ H5 t = some (.tup [.str (hzF S i), .int (hnF S i)])) ⟨rfl, rfl, fun i x hx => by simp at hx⟩ (szl (by omega)) (fun j ys H4 hj pp => ⟨by rw [pp.1]; exact SqL.of hs4, by omega⟩) (fun j x ys H4 hx pp => ?_) (fun ys H6 pp r3 hr3 => ?_)
  · obtain ⟨rfl, yl, hy⟩ := pp
    obtain ⟨qq, hqq, p0, p1, p2, rfl, h0, _, h2⟩ := hS4.get' hx
    refine ⟨_, rfl, p0, _, 2, _, rfl, rfl, SqT.of h0, rfl, rfl, by rw [List.length_append, yl]; rfl, spt_snoc yl hy ?_⟩
    unfold hzF hnF
    rw [hqq]
    exact h2
  obtain ⟨rfl, yl, hy⟩ := pp
  refine ⟨r3, _, rfl, .inl ⟨SqL.of upd_same, fun hh hhh => ?_⟩⟩
  have s5 := (same_new hr3 (.lst ys)).trans (same_new hhh (.tup ys))
  have hhi5 : SptAt (upd (upd H6 r3 (.lst ys)) hh (.tup ys)) hh S.length (hzF S) (hnF S) := ⟨ys, upd_same, by omega, fun i x hx => by obtain ⟨t, a, b⟩ := hy i x hx; exact ⟨t, a, s5 _ _ b⟩⟩
  generalize upd (upd H6 r3 (.lst ys)) hh (.tup ys) = H7 at s5 hhi5
  clear hy yl
  refine ⟨szl (by show 3 ≤ 1000000; decide), fun row hrow => ?_⟩
  have s6 := same_new hrow (.tup [V.ref nm, V.ref lo, V.ref hh])
  have hR : RowIs (upd H7 row (.tup [V.ref nm, V.ref lo, V.ref hh])) row (nmsOf S) (lzF S) (hzF S) (lnF S) (hnF S) S.length := ⟨nm, lo, hh, upd_same, s6 _ _ (s5 _ _ hnm4), (hlo4.over s5).over s6, hhi5.over s6⟩
  have hrow6 : (upd H7 row (.tup [V.ref nm, V.ref lo, V.ref hh])) row = some (.tup [V.ref nm, V.ref lo, V.ref hh]) := upd_same
  have e6 := e4.trans (s5.trans s6)
  have hs6 := (s5.trans s6) _ _ hs4
  have hnm6 := (s5.trans s6) _ _ hnm4
  have hlo6 := (hlo4.over s5).over s6
  have hhi6 := hhi5.over s6
  dsimp only [gName]
  generalize upd H7 row (.tup [V.ref nm, V.ref lo, V.ref hh]) = H8 at hR hrow6 e6 hs6 hnm6 hlo6 hhi6
  have nl : (nmsOf S).length = S.length := by unfold nmsOf; rw [List.length_map]
  rw [← nl] at hR hlo6 hhi6
  obtain ⟨bl, bh⟩ := bnds_of ok
  rw [← nl] at bl bh
  have nd := nms_nd ok
  have ne := nms_ne ok
  have zv : (nmsOf S).length = vs.length := by rw [nl]; omega
  have zl3 : (nmsOf S).length ≤ 3 := by rw [nl]; exact l3
  clear nl
  generalize nmsOf S = zs at *
  generalize lzF S = lz at *
  generalize hzF S = hz at *
  generalize lnF S = ln at *
  generalize hnF S = hn at *
  -- first
  refine ⟨_, rfl, p, ns, 0, rfl, e6.seq hp, by decide, by decide, _, 0, rfl, _, _, rfl, rfl, (by show (0 : Int) < 10; decide), _, _, rfl, rfl, ?_⟩
  dsimp only [gName]
  have k0 := Int.emod_nonneg (mixF (cellD ns 0) 0) (show (10 : Int) ≠ 0 by decide)
  generalize hfi : 1 + mixF (cellD ns 0) 0 % 10 = fi
  have f1 : 1 ≤ fi := by omega
  -- the deed
  refine ⟨_, rfl, row, _, 0, _, rfl, rfl, SqT.of hrow6, rfl, _, rfl, row, _, 1, _, rfl, rfl, SqT.of hrow6, rfl, _, rfl, row, _, 2, _, rfl, rfl, SqT.of hrow6, rfl, szl (by show 2 ≤ 1000000; decide), fun u1 hu1 => ⟨szl (by show 1 ≤ 1000000; decide), fun u2 hu2 => ?_⟩⟩
  intro x dx hx hdx hne
  refine ⟨x, dx, _, rfl, upd_same, fun H9 k9 hx9 => ⟨rfl, ?_⟩⟩
  have e9 := (same_new hu1 _).trans ((same_new hu2 _).trans (made_same hx hdx k9))
  refine ⟨szl (by show 1 ≤ 1000000; decide), fun u3 hu3 => ?_⟩
  have s10 := same_new hu3 (.tup [V.int 0])
  have e10 := e9.trans s10
  refine ⟨_, rfl, st, _, rfl, .inl (SqL.of (e10 _ _ hs6)), _, _, rfl, rfl, u3, _, _, rfl, rfl, upd_same, by omega, by omega, fun pt H11 e11 hpt => ?_⟩
  intro d dd hd hdd hne2
  refine ⟨d, dd, _, _, _, _, _, _, _, rfl, upd_same, fun H12 k12 hd12 => ⟨rfl, ?_⟩⟩
  have e12 := (e10.trans e11).trans (made_same hd hdd k12)
  obtain ⟨dx12, hd12⟩ := hd12
  dsimp only [gName]
  obtain ⟨u, hu⟩ := ub_of bl fi
  obtain ⟨w2, hw2⟩ := ub_of bh fi
  have wu : ∀ i < zs.length, Whose zs (lz i) fi (u i) := fun i hi => ub_whose nd ne (hu i hi)
  have ww : ∀ i < zs.length, Whose zs (hz i) fi (w2 i) := fun i hi => ub_whose nd ne (hw2 i hi)
  refine ⟨_, rfl, _, rfl, d, dx12, nm, lo, hh, _, _, _, _, fi, zs, lz, hz, ln, hn, u, w2, rfl, hd12, e12 _ _ hnm6, hlo6.over e12, hhi6.over e12, by omega, wu, ww, fun fl ys H13 e13 hfl tr => ?_⟩
  have yl : ys.length = 2 * zs.length := by rw [tr.1, likeB_len]
  have e613 := e12.trans e13
  dsimp only [gName]
  refine ⟨_, rfl, fl, ys, _, rfl, hfl, tr, by omega, fun H14 e14 => ⟨_, rfl, iteF ⟨_, rfl, fl, _, rfl, .inl (SqL.of (e14 _ _ hfl)), _, rfl, st, _, rfl, .inl (SqL.of ((e613.trans e14) _ _ hs6)), _, _, rfl, rfl, .inl ⟨by decide, by decide⟩, rfl, _, rfl, ?_⟩⟩⟩
  refine iteE (ndF (congrArg V.int (by omega))) (iteF ?_)
  have e614 := e613.trans e14
  have hfl := e14 _ _ hfl
  have tr := tr.over e14
  -- the pairs
  dsimp only [tNext]
  refine seq_any (fun σ' H' => Same H14 H' ∧ σ' = [some (.ref p), some (.int c2), some (.int far), some (.ref st), o4, some (.ref row), some (.int fi), some (.ref d), some (.ref fl), none, none, none]) (fun σ' H15 pp => ?_) (fun nx => ?_)
  rotate_left
  · refine ⟨_, rfl, fl, rfl, ⟨_, SqL.of hfl⟩, ?_⟩
    refine comp_list (xs := ys) (fun j kp H15 => Same H14 H15 ∧ All2 (PrAt H15) kp (((likeB (F52 fi u ln) (G52 fi w2 hn) zs.length).take j).map fun b => (b.1, b.2.1))) ⟨Same.refl _, .nil⟩ (szl (by omega)) (fun j kp H15 hj pp => ⟨SqL.of (pp.1 _ _ hfl), by rw [pp.2.1, List.length_map, List.length_take]; omega⟩) (fun j x kp H15 hx pp => ?_) (fun kp H15 pp r hr' => ?_)
    · obtain ⟨e15, ak⟩ := pp
      have hj : j < (likeB (F52 fi u ln) (G52 fi w2 hn) zs.length).length := by have := (List.getElem?_eq_some_iff.mp hx).1; have := tr.1; omega
      have Bj := List.getElem?_eq_getElem hj
      obtain ⟨t, rfl, ht⟩ := (tr.over e15).2 j x _ hx Bj
      generalize (likeB (F52 fi u ln) (G52 fi w2 hn) zs.length)[j] = b at Bj ht
      refine ⟨_, rfl, _, rfl, t, _, rfl, SqT.of ht, (by show ¬ (HT.sIx 3 0 none = 0 ∧ HT.sIx 3 3 (some 2) = 3); decide), fun c hc => ?_⟩
      have s16 := same_new hc (.tup (cutV [V.int b.1, V.int b.2.1, V.int b.2.2] none (some 2)))
      refine ⟨e15.trans s16, ?_⟩
      rw [take_snoc Bj, List.map_append]
      exact (ak.mono fun y v z => z.over s16).snoc ⟨c, rfl, (show _ = some (.tup [V.int b.1, V.int b.2.1]) from upd_same)⟩
    · obtain ⟨e15, ak⟩ := pp
      rw [tr.1, List.take_length] at ak
      have s16 := same_new hr' (.lst kp)
      have hr6 : (upd H15 r (.lst kp)) r = some (.lst kp) := upd_same
      have ak := ak.mono fun y v z => z.over s16
      generalize upd H15 r (.lst kp) = H16 at s16 hr6 ak
      have e16 := e15.trans s16
      refine ⟨_, rfl, _, rfl, row, fi, zs, lz, hz, ln, hn, u, w2, rfl, hR.over (e614.trans e16), by omega, wu, ww, fun r2 ys2 H17 e17 hr2 a2 => ?_⟩
      have t1 : TrIs K H17 (.ref r) _ := .lst (SqL.of (e17 _ _ hr6)) (prs_tr (K := K) (ak.mono fun y v z => z.over e17))
      have t2 : TrIs K H17 (.ref r2) _ := .lst (SqL.of hr2) (prs_tr (K := K) a2)
      refine ⟨_, _, t1, t2, ⟨_, rfl⟩, ⟨_, rfl⟩, simT_refl _, by rw [depT]; have := prs_dep ((likeB (F52 fi u ln) (G52 fi w2 hn) zs.length).map fun b => (b.1, b.2.1)); omega, _, rfl, ?_⟩
      refine iteE (v := false) (by rw [eqT_refl _ t1.ok]; rfl) (iteF ?_)
      exact nx _ _ ⟨e16.trans e17, rfl⟩
  obtain ⟨e15, rfl⟩ := pp
  have hfl := e15 _ _ hfl
  have tr := tr.over e15
  have e615 := e614.trans e15
  have hR := hR.over e615
  refine ⟨3, rfl, by decide, by decide, ?_⟩
  refine for_range (lo := 0) (n := 3) (fun i σ' H' => Same H15 H' ∧ ∃ (o9 o10 o11 : Option V), σ' = [some (.ref p), some (.int c2), some (.int far), some (.ref st), o4, some (.ref row), some (.int fi), some (.ref d), some (.ref fl), o9, o10, o11]) ⟨Same.refl _, _, _, _, rfl⟩ (fun i σ' H' hi pp => ?_) (fun σ' H' pp => q _)
  obtain ⟨e16, o9, o10, o11, rfl⟩ := pp
  have eH := (e6.trans e615).trans e16
  refine ⟨_, rfl, _, rfl, _, rfl, _, _, rfl, rfl, p, ns, 6 + (0 + (i : Int)), rfl, eH.seq hp, by omega, by omega, _, rfl, _, _, rfl, rfl, _, _, rfl, row, _, zs, lz, hz, ln, hn, rfl, hR.over e16, by omega, nd, bl, bh, fun r vt H17 W ins e17 hr hvt wl hin => ?_⟩
  refine ⟨r, _, rfl, SqT.of hr, rfl, _, _, rfl, _, _, rfl, rfl, ?_⟩
  have e17' := e16.trans e17
  have key : (likeB (F52 fi u ln) (G52 fi w2 hn) zs.length).all (holdB fi W) = ins := by
    rw [Bool.eq_iff_iff, hin]
    exact all_in nd f1 hu hw2
  refine ⟨_, rfl, _, rfl, _, rfl, fl, vt, fi, W, ys, _, rfl, e17' _ _ hfl, tr.over e17', hvt, by omega, f1, fun b hb => ?_, fun H18 e18 => ?_⟩
  · obtain ⟨j, hj, h | h⟩ := likeB_mem hb
    · subst h
      exact ⟨ub_key (hu j hj) (by omega), .inr ⟨j, by omega, rfl⟩⟩
    · subst h
      exact ⟨.inr ⟨j, by omega, rfl⟩, ub_key (hw2 j hj) (by omega)⟩
  rw [key]
  refine ⟨_, rfl, rfl, _, rfl, ?_⟩
  refine iteE (v := false) (by rw [decide_eq_true rfl]; rfl) (iteF ?_)
  exact ⟨e17'.trans e18, _, _, _, rfl⟩

end
theorem txt_mk {K : PySem.W.Frag} {h : Heap} {mg : Str → Option Value} {fa : Addr} (X : K.In h) (G : h.Ns mainGlobals mg) (hfa : mg "law" = some (.ref fa))
    {C_Number : Addr} {C_Deed : Addr} {f1 : Addr} {od1 an1 : Option Addr} {sl1 : Array (Option Value)} {oc1 kV1 dc1 pm1 cd1 ct1 : Value} {f2 : Addr} {od2 an2 : Option Addr} {sl2 : Array (Option Value)} {oc2 kV2 dc2 pm2 cd2 ct2 : Value} {f3 : Addr} {od3 an3 : Option Addr} {sl3 : Array (Option Value)} {oc3 kV3 dc3 pm3 cd3 ct3 : Value} {f4 : Addr} {od4 an4 : Option Addr} {sl4 : Array (Option Value)} {oc4 kV4 dc4 pm4 cd4 ct4 : Value} {f5 : Addr} {od5 an5 : Option Addr} {sl5 : Array (Option Value)} {oc5 kV5 dc5 pm5 cd5 ct5 : Value} {f6 : Addr} {od6 an6 : Option Addr} {sl6 : Array (Option Value)} {oc6 kV6 dc6 pm6 cd6 ct6 : Value} {f7 : Addr} {od7 an7 : Option Addr} {sl7 : Array (Option Value)} {oc7 kV7 dc7 pm7 cd7 ct7 : Value} {f8 : Addr} {od8 an8 : Option Addr} {sl8 : Array (Option Value)} {oc8 kV8 dc8 pm8 cd8 ct8 : Value} {f9 : Addr} {od9 an9 : Option Addr} {sl9 : Array (Option Value)} {oc9 kV9 dc9 pm9 cd9 ct9 : Value} {f10 : Addr} {od10 an10 : Option Addr} {sl10 : Array (Option Value)} {oc10 kV10 dc10 pm10 cd10 ct10 : Value} {f11 : Addr} {od11 an11 : Option Addr} {sl11 : Array (Option Value)} {oc11 kV11 dc11 pm11 cd11 ct11 : Value} {f12 : Addr} {od12 an12 : Option Addr} {sl12 : Array (Option Value)} {oc12 kV12 dc12 pm12 cd12 ct12 : Value} {f13 : Addr} {od13 an13 : Option Addr} {sl13 : Array (Option Value)} {oc13 kV13 dc13 pm13 cd13 ct13 : Value} {f14 : Addr} {od14 an14 : Option Addr} {sl14 : Array (Option Value)} {oc14 kV14 dc14 pm14 cd14 ct14 : Value} {f15 : Addr} {od15 an15 : Option Addr} {sl15 : Array (Option Value)} {oc15 kV15 dc15 pm15 cd15 ct15 : Value} {f16 : Addr} {od16 an16 : Option Addr} {sl16 : Array (Option Value)} {oc16 kV16 dc16 pm16 cd16 ct16 : Value} {f17 : Addr} {od17 an17 : Option Addr} {sl17 : Array (Option Value)} {oc17 kV17 dc17 pm17 cd17 ct17 : Value}
    (a_Number : PySem.W.nsIn K mainGlobals "Number" = some (some (.ref C_Number)))
    (a_Deed : PySem.W.nsIn K mainGlobals "Deed" = some (some (.ref C_Deed)))
    (a1 : PySem.W.nsIn K mainGlobals "loop_bonds" = some (some (.ref f1)))
    (l1 : K.lookup f1 = some ⟨oc1, od1, .func (PySem.W.fnOf "loop_bonds" "loop_bonds" (defArgs s_loop_bonds) (defBody s_loop_bonds) (defScope s_loop_bonds) .none kV1 dc1 pm1 an1 cd1 ct1), sl1⟩) (c1 : PySem.W.codeIn K cd1 "loop_bonds" = true) (k1 : PySem.W.keepIn K (.ref f1) = true)
    (a2 : PySem.W.nsIn K mainGlobals "unknown_of" = some (some (.ref f2)))
    (l2 : K.lookup f2 = some ⟨oc2, od2, .func (PySem.W.fnOf "unknown_of" "unknown_of" (defArgs s_unknown_of) (defBody s_unknown_of) (defScope s_unknown_of) .none kV2 dc2 pm2 an2 cd2 ct2), sl2⟩) (c2 : PySem.W.codeIn K cd2 "unknown_of" = true) (k2 : PySem.W.keepIn K (.ref f2) = true)
    (a3 : PySem.W.findIn K (.ref C_Number) "__init__" = some (some (.ref f3))) (i3 : PySem.W.isFn K (.ref f3) = true)
    (l3 : K.lookup f3 = some ⟨oc3, od3, .func (PySem.W.fnOf "__init__" "Number.__init__" (defArgs s_Number_init) (defBody s_Number_init) (defScope s_Number_init) .none kV3 dc3 pm3 an3 cd3 ct3), sl3⟩) (c3 : PySem.W.codeIn K cd3 "Number.__init__" = true) (k3 : PySem.W.keepIn K (.ref f3) = true)
    (a4 : PySem.W.findIn K (.ref C_Deed) "__init__" = some (some (.ref f4))) (i4 : PySem.W.isFn K (.ref f4) = true)
    (l4 : K.lookup f4 = some ⟨oc4, od4, .func (PySem.W.fnOf "__init__" "Deed.__init__" (defArgs s_Deed_init) (defBody s_Deed_init) (defScope s_Deed_init) .none kV4 dc4 pm4 an4 cd4 ct4), sl4⟩) (c4 : PySem.W.codeIn K cd4 "Deed.__init__" = true) (k4 : PySem.W.keepIn K (.ref f4) = true)
    (a5 : PySem.W.nsIn K mainGlobals "_law_cell" = some (some (.ref f5)))
    (l5 : K.lookup f5 = some ⟨oc5, od5, .func (PySem.W.fnOf "_law_cell" "_law_cell" (defArgs s_l_cell) (defBody s_l_cell) (defScope s_l_cell) .none kV5 dc5 pm5 an5 cd5 ct5), sl5⟩) (c5 : PySem.W.codeIn K cd5 "_law_cell" = true) (k5 : PySem.W.keepIn K (.ref f5) = true)
    (a6 : PySem.W.nsIn K mainGlobals "_law_whole" = some (some (.ref f6)))
    (l6 : K.lookup f6 = some ⟨oc6, od6, .func (PySem.W.fnOf "_law_whole" "_law_whole" (defArgs s_l_whole) (defBody s_l_whole) (defScope s_l_whole) .none kV6 dc6 pm6 an6 cd6 ct6), sl6⟩) (c6 : PySem.W.codeIn K cd6 "_law_whole" = true) (k6 : PySem.W.keepIn K (.ref f6) = true)
    (a7 : PySem.W.nsIn K mainGlobals "_law_mixed" = some (some (.ref f7)))
    (l7 : K.lookup f7 = some ⟨oc7, od7, .func (PySem.W.fnOf "_law_mixed" "_law_mixed" (defArgs s_l_mixed) (defBody s_l_mixed) (defScope s_l_mixed) .none kV7 dc7 pm7 an7 cd7 ct7), sl7⟩) (c7 : PySem.W.codeIn K cd7 "_law_mixed" = true) (k7 : PySem.W.keepIn K (.ref f7) = true)
    (a8 : PySem.W.nsIn K mainGlobals "_law_name" = some (some (.ref f8)))
    (l8 : K.lookup f8 = some ⟨oc8, od8, .func (PySem.W.fnOf "_law_name" "_law_name" (defArgs s_l_name) (defBody s_l_name) (defScope s_l_name) .none kV8 dc8 pm8 an8 cd8 ct8), sl8⟩) (c8 : PySem.W.codeIn K cd8 "_law_name" = true) (k8 : PySem.W.keepIn K (.ref f8) = true)
    (a9 : PySem.W.nsIn K mainGlobals "_law_loop" = some (some (.ref f9)))
    (l9 : K.lookup f9 = some ⟨oc9, od9, .func (PySem.W.fnOf "_law_loop" "_law_loop" (defArgs s_l_loop) (defBody s_l_loop) (defScope s_l_loop) .none kV9 dc9 pm9 an9 cd9 ct9), sl9⟩) (c9 : PySem.W.codeIn K cd9 "_law_loop" = true) (k9 : PySem.W.keepIn K (.ref f9) = true)
    (a10 : PySem.W.nsIn K mainGlobals "_law_around" = some (some (.ref f10)))
    (l10 : K.lookup f10 = some ⟨oc10, od10, .func (PySem.W.fnOf "_law_around" "_law_around" (defArgs s_l_around) (defBody s_l_around) (defScope s_l_around) .none kV10 dc10 pm10 an10 cd10 ct10), sl10⟩) (c10 : PySem.W.codeIn K cd10 "_law_around" = true) (k10 : PySem.W.keepIn K (.ref f10) = true)
    (a11 : PySem.W.nsIn K mainGlobals "_law_stand" = some (some (.ref f11)))
    (l11 : K.lookup f11 = some ⟨oc11, od11, .func (PySem.W.fnOf "_law_stand" "_law_stand" (defArgs s_l_stand) (defBody s_l_stand) (defScope s_l_stand) .none kV11 dc11 pm11 an11 cd11 ct11), sl11⟩) (c11 : PySem.W.codeIn K cd11 "_law_stand" = true) (k11 : PySem.W.keepIn K (.ref f11) = true)
    (a12 : PySem.W.nsIn K mainGlobals "_law_are_bonds" = some (some (.ref f12)))
    (l12 : K.lookup f12 = some ⟨oc12, od12, .func (PySem.W.fnOf "_law_are_bonds" "_law_are_bonds" (defArgs s_l_are_bonds) (defBody s_l_are_bonds) (defScope s_l_are_bonds) .none kV12 dc12 pm12 an12 cd12 ct12), sl12⟩) (c12 : PySem.W.codeIn K cd12 "_law_are_bonds" = true) (k12 : PySem.W.keepIn K (.ref f12) = true)
    (a13 : PySem.W.nsIn K mainGlobals "_law_near" = some (some (.ref f13)))
    (l13 : K.lookup f13 = some ⟨oc13, od13, .func (PySem.W.fnOf "_law_near" "_law_near" (defArgs s_l_near) (defBody s_l_near) (defScope s_l_near) .none kV13 dc13 pm13 an13 cd13 ct13), sl13⟩) (c13 : PySem.W.codeIn K cd13 "_law_near" = true) (k13 : PySem.W.keepIn K (.ref f13) = true)
    (a14 : PySem.W.nsIn K mainGlobals "_law_holds" = some (some (.ref f14)))
    (l14 : K.lookup f14 = some ⟨oc14, od14, .func (PySem.W.fnOf "_law_holds" "_law_holds" (defArgs s_l_holds) (defBody s_l_holds) (defScope s_l_holds) .none kV14 dc14 pm14 an14 cd14 ct14), sl14⟩) (c14 : PySem.W.codeIn K cd14 "_law_holds" = true) (k14 : PySem.W.keepIn K (.ref f14) = true)
    (a15 : PySem.W.nsIn K mainGlobals "_law_whose" = some (some (.ref f15)))
    (l15 : K.lookup f15 = some ⟨oc15, od15, .func (PySem.W.fnOf "_law_whose" "_law_whose" (defArgs s_l_whose) (defBody s_l_whose) (defScope s_l_whose) .none kV15 dc15 pm15 an15 cd15 ct15), sl15⟩) (c15 : PySem.W.codeIn K cd15 "_law_whose" = true) (k15 : PySem.W.keepIn K (.ref f15) = true)
    (a16 : PySem.W.nsIn K mainGlobals "_law_pairs" = some (some (.ref f16)))
    (l16 : K.lookup f16 = some ⟨oc16, od16, .func (PySem.W.fnOf "_law_pairs" "_law_pairs" (defArgs s_l_pairs) (defBody s_l_pairs) (defScope s_l_pairs) .none kV16 dc16 pm16 an16 cd16 ct16), sl16⟩) (c16 : PySem.W.codeIn K cd16 "_law_pairs" = true) (k16 : PySem.W.keepIn K (.ref f16) = true)
    (a17 : PySem.W.nsIn K mainGlobals "law" = some (some (.ref f17)))
    (l17 : K.lookup f17 = some ⟨oc17, od17, .func (PySem.W.fnOf "law" "law" (defArgs s_law) (defBody s_law) (defScope s_law) .none kV17 dc17 pm17 an17 cd17 ct17), sl17⟩) (c17 : PySem.W.codeIn K cd17 "law" = true) (k17 : PySem.W.keepIn K (.ref f17) = true)
    (pg_Number : PySem.W.plainGet K C_Number Str.empty = true) (hd_Number : PySem.W.hasDictIn K C_Number = true) (po_Number : PySem.W.plainOver K C_Number = true) (sa_Number : PySem.W.findIn K (.ref C_Number) "__setattr__" = some (some (.builtin "object.__setattr__"))) (mk_Number : PySem.W.makesIn K C_Number = true) (kc_Number : PySem.W.keepIn K (.ref C_Number) = true)
    (n_Number_n : PySem.W.findIn K (.ref C_Number) "n" = some none)
    (pg_Deed : PySem.W.plainGet K C_Deed Str.empty = true) (hd_Deed : PySem.W.hasDictIn K C_Deed = true) (po_Deed : PySem.W.plainOver K C_Deed = true) (sa_Deed : PySem.W.findIn K (.ref C_Deed) "__setattr__" = some (some (.builtin "object.__setattr__"))) (mk_Deed : PySem.W.makesIn K C_Deed = true) (kc_Deed : PySem.W.keepIn K (.ref C_Deed) = true)
    (n_Deed_names : PySem.W.findIn K (.ref C_Deed) "names" = some none)
    (n_Deed_lows : PySem.W.findIn K (.ref C_Deed) "lows" = some none)
    (n_Deed_highs : PySem.W.findIn K (.ref C_Deed) "highs" = some none)
    (n_Deed_table : PySem.W.findIn K (.ref C_Deed) "table" = some none)
    (n_Deed_spots : PySem.W.findIn K (.ref C_Deed) "spots" = some none)
    (n_Deed_term : PySem.W.findIn K (.ref C_Deed) "term" = some none)
    (n_Deed_path : PySem.W.findIn K (.ref C_Deed) "path" = some none)
    (z_bool : PySem.W.nsIn K mainGlobals "bool" = some none)
    (z_int : PySem.W.nsIn K mainGlobals "int" = some none)
    (z_isinstance : PySem.W.nsIn K mainGlobals "isinstance" = some none)
    (z_len : PySem.W.nsIn K mainGlobals "len" = some none)
    (z_list : PySem.W.nsIn K mainGlobals "list" = some none)
    (z_range : PySem.W.nsIn K mainGlobals "range" = some none)
    (z_tuple : PySem.W.nsIn K mainGlobals "tuple" = some none)
    (z_zip : PySem.W.nsIn K mainGlobals "zip" = some none) :
    ∃ a : Ad, Tx K mg a ∧ fa = a.f_law ∧ (∀ (s : Shared) (v : Value), BindsTo s a.d_law ⟨[v], []⟩ [("_law_script", v)]) := by
  have e := hfa.symm.trans (PySem.W.mg_of X G a17)
  cases e
  exact ⟨⟨f1, PySem.W.fnOf "loop_bonds" "loop_bonds" (defArgs s_loop_bonds) (defBody s_loop_bonds) (defScope s_loop_bonds) .none kV1 dc1 pm1 an1 cd1 ct1, f2, PySem.W.fnOf "unknown_of" "unknown_of" (defArgs s_unknown_of) (defBody s_unknown_of) (defScope s_unknown_of) .none kV2 dc2 pm2 an2 cd2 ct2, f3, PySem.W.fnOf "__init__" "Number.__init__" (defArgs s_Number_init) (defBody s_Number_init) (defScope s_Number_init) .none kV3 dc3 pm3 an3 cd3 ct3, f4, PySem.W.fnOf "__init__" "Deed.__init__" (defArgs s_Deed_init) (defBody s_Deed_init) (defScope s_Deed_init) .none kV4 dc4 pm4 an4 cd4 ct4, f5, PySem.W.fnOf "_law_cell" "_law_cell" (defArgs s_l_cell) (defBody s_l_cell) (defScope s_l_cell) .none kV5 dc5 pm5 an5 cd5 ct5, f6, PySem.W.fnOf "_law_whole" "_law_whole" (defArgs s_l_whole) (defBody s_l_whole) (defScope s_l_whole) .none kV6 dc6 pm6 an6 cd6 ct6, f7, PySem.W.fnOf "_law_mixed" "_law_mixed" (defArgs s_l_mixed) (defBody s_l_mixed) (defScope s_l_mixed) .none kV7 dc7 pm7 an7 cd7 ct7, f8, PySem.W.fnOf "_law_name" "_law_name" (defArgs s_l_name) (defBody s_l_name) (defScope s_l_name) .none kV8 dc8 pm8 an8 cd8 ct8, f9, PySem.W.fnOf "_law_loop" "_law_loop" (defArgs s_l_loop) (defBody s_l_loop) (defScope s_l_loop) .none kV9 dc9 pm9 an9 cd9 ct9, f10, PySem.W.fnOf "_law_around" "_law_around" (defArgs s_l_around) (defBody s_l_around) (defScope s_l_around) .none kV10 dc10 pm10 an10 cd10 ct10, f11, PySem.W.fnOf "_law_stand" "_law_stand" (defArgs s_l_stand) (defBody s_l_stand) (defScope s_l_stand) .none kV11 dc11 pm11 an11 cd11 ct11, f12, PySem.W.fnOf "_law_are_bonds" "_law_are_bonds" (defArgs s_l_are_bonds) (defBody s_l_are_bonds) (defScope s_l_are_bonds) .none kV12 dc12 pm12 an12 cd12 ct12, f13, PySem.W.fnOf "_law_near" "_law_near" (defArgs s_l_near) (defBody s_l_near) (defScope s_l_near) .none kV13 dc13 pm13 an13 cd13 ct13, f14, PySem.W.fnOf "_law_holds" "_law_holds" (defArgs s_l_holds) (defBody s_l_holds) (defScope s_l_holds) .none kV14 dc14 pm14 an14 cd14 ct14, f15, PySem.W.fnOf "_law_whose" "_law_whose" (defArgs s_l_whose) (defBody s_l_whose) (defScope s_l_whose) .none kV15 dc15 pm15 an15 cd15 ct15, f16, PySem.W.fnOf "_law_pairs" "_law_pairs" (defArgs s_l_pairs) (defBody s_l_pairs) (defScope s_l_pairs) .none kV16 dc16 pm16 an16 cd16 ct16, fa, PySem.W.fnOf "law" "law" (defArgs s_law) (defBody s_law) (defScope s_law) .none kV17 dc17 pm17 an17 cd17 ct17, C_Number, C_Deed⟩, ⟨fun_mk (st := s_loop_bonds) l1 c1 k1, 
    (fun_mk (st := s_loop_bonds) l1 c1 k1).binds (ps := ["deed", "first"]) (fun _ _ _ _ _ _ us hl => match us, hl with | [_, _], _ => rfl), 
    PySem.W.mg_of X G a1, 
    fun_mk (st := s_unknown_of) l2 c2 k2, 
    (fun_mk (st := s_unknown_of) l2 c2 k2).binds (ps := ["spot", "names", "first"]) (fun _ _ _ _ _ _ us hl => match us, hl with | [_, _, _], _ => rfl), 
    PySem.W.mg_of X G a2, 
    fun_mk (st := s_Number_init) l3 c3 k3, 
    (fun_mk (st := s_Number_init) l3 c3 k3).binds (ps := ["self", "n"]) (fun _ _ _ _ _ _ us hl => match us, hl with | [_, _], _ => rfl), 
    fun_mk (st := s_Deed_init) l4 c4 k4, 
    (fun_mk (st := s_Deed_init) l4 c4 k4).binds (ps := ["self", "names", "lows", "highs", "table", "spots", "term", "path"]) (fun _ _ _ _ _ _ us hl => match us, hl with | [_, _, _, _, _, _, _, _], _ => rfl), 
    fun_mk (st := s_l_cell) l5 c5 k5, 
    (fun_mk (st := s_l_cell) l5 c5 k5).binds (ps := ["_law_script", "_law_k"]) (fun _ _ _ _ _ _ us hl => match us, hl with | [_, _], _ => rfl), 
    PySem.W.mg_of X G a5, 
    fun_mk (st := s_l_whole) l6 c6 k6, 
    (fun_mk (st := s_l_whole) l6 c6 k6).binds (ps := ["_law_found"]) (fun _ _ _ _ _ _ us hl => match us, hl with | [_], _ => rfl), 
    PySem.W.mg_of X G a6, 
    fun_mk (st := s_l_mixed) l7 c7 k7, 
    (fun_mk (st := s_l_mixed) l7 c7 k7).binds (ps := ["_law_cell_here", "_law_k"]) (fun _ _ _ _ _ _ us hl => match us, hl with | [_, _], _ => rfl), 
    PySem.W.mg_of X G a7, 
    fun_mk (st := s_l_name) l8 c8 k8, 
    (fun_mk (st := s_l_name) l8 c8 k8).binds (ps := ["_law_cell_here", "_law_e"]) (fun _ _ _ _ _ _ us hl => match us, hl with | [_, _], _ => rfl), 
    PySem.W.mg_of X G a8, 
    fun_mk (st := s_l_loop) l9 c9 k9, 
    (fun_mk (st := s_l_loop) l9 c9 k9).binds (ps := ["_law_number", "_law_far", "_law_stack", "_law_cell_here"]) (fun _ _ _ _ _ _ us hl => match us, hl with | [_, _, _, _], _ => rfl), 
    PySem.W.mg_of X G a9, 
    fun_mk (st := s_l_around) l10 c10 k10, 
    (fun_mk (st := s_l_around) l10 c10 k10).binds (ps := ["_law_names", "_law_values"]) (fun _ _ _ _ _ _ us hl => match us, hl with | [_, _], _ => rfl), 
    PySem.W.mg_of X G a10, 
    fun_mk (st := s_l_stand) l11 c11 k11, 
    (fun_mk (st := s_l_stand) l11 c11 k11).binds (ps := ["_law_spots", "_law_around_here"]) (fun _ _ _ _ _ _ us hl => match us, hl with | [_, _], _ => rfl), 
    PySem.W.mg_of X G a11, 
    fun_mk (st := s_l_are_bonds) l12 c12 k12, 
    (fun_mk (st := s_l_are_bonds) l12 c12 k12).binds (ps := ["_law_found"]) (fun _ _ _ _ _ _ us hl => match us, hl with | [_], _ => rfl), 
    PySem.W.mg_of X G a12, 
    fun_mk (st := s_l_near) l13 c13 k13, 
    (fun_mk (st := s_l_near) l13 c13 k13).binds (ps := ["_law_row", "_law_number"]) (fun _ _ _ _ _ _ us hl => match us, hl with | [_, _], _ => rfl), 
    PySem.W.mg_of X G a13, 
    fun_mk (st := s_l_holds) l14 c14 k14, 
    (fun_mk (st := s_l_holds) l14 c14 k14).binds (ps := ["_law_bonds", "_law_first", "_law_values"]) (fun _ _ _ _ _ _ us hl => match us, hl with | [_, _, _], _ => rfl), 
    PySem.W.mg_of X G a14, 
    fun_mk (st := s_l_whose) l15 c15 k15, 
    (fun_mk (st := s_l_whose) l15 c15 k15).binds (ps := ["_law_name_here", "_law_names", "_law_first"]) (fun _ _ _ _ _ _ us hl => match us, hl with | [_, _, _], _ => rfl), 
    PySem.W.mg_of X G a15, 
    fun_mk (st := s_l_pairs) l16 c16 k16, 
    (fun_mk (st := s_l_pairs) l16 c16 k16).binds (ps := ["_law_row", "_law_first"]) (fun _ _ _ _ _ _ us hl => match us, hl with | [_, _], _ => rfl), 
    PySem.W.mg_of X G a16, 
    fun_mk (st := s_law) l17 c17 k17, 
    (fun_mk (st := s_law) l17 c17 k17).binds (ps := ["_law_script"]) (fun _ _ _ _ _ _ us hl => match us, hl with | [_], _ => rfl), 
    PySem.W.mg_of X G a17, 
    ⟨pg_Number, hd_Number, po_Number, sa_Number⟩, 
    PySem.W.mg_of X G a_Number, 
    ⟨mk_Number, a3, i3, kc_Number⟩, 
    n_Number_n, 
    ⟨pg_Deed, hd_Deed, po_Deed, sa_Deed⟩, 
    PySem.W.mg_of X G a_Deed, 
    ⟨mk_Deed, a4, i4, kc_Deed⟩, 
    n_Deed_names, 
    n_Deed_lows, 
    n_Deed_highs, 
    n_Deed_table, 
    n_Deed_spots, 
    n_Deed_term, 
    n_Deed_path, 
    PySem.W.mg_none_of X G z_bool, 
    PySem.W.mg_none_of X G z_int, 
    PySem.W.mg_none_of X G z_isinstance, 
    PySem.W.mg_none_of X G z_len, 
    PySem.W.mg_none_of X G z_list, 
    PySem.W.mg_none_of X G z_range, 
    PySem.W.mg_none_of X G z_tuple, 
    PySem.W.mg_none_of X G z_zip⟩, rfl, fun s v => .of_eq rfl⟩
end Fw
open PySem PySem.W PyProof.Rows
set_option maxRecDepth 100000 in
set_option maxHeartbeats 0 in
theorem PySem.Challenge.cw_furrow_k52_loop_bonds_holds : PySem.Challenge.rw_furrow_k52_loop_bonds.Holds := by
  w_on; o_law; k_head; (case hw => w_witness2)
  k_fill
  refine L2.law_walk (l := PySem.Challenge.rw_furrow_k52_loop_bonds) (x := "_law_script") 5 (by decide) rfl rfl (fun w h Y => PySem.W.kIn_of Y) ?F
  case F =>
    intro w mg fa h KX G hmg
    suffices hh : ∃ a : Fw.Ad, Fw.Tx _ mg a ∧ fa = a.f_law ∧ (∀ (s : Shared) (v : Value), BindsTo s a.d_law ⟨[v], []⟩ [("_law_script", v)]) by
      obtain ⟨a, T, e, b⟩ := hh
      subst e
      exact ⟨a.d_law, b, fun base _ _ => Fw.ok_law T⟩
    refine' Fw.txt_mk KX G hmg ?a_Number ?a_Deed ?a1 ?l1 ?c1 ?k1 ?a2 ?l2 ?c2 ?k2 ?a3 ?i3 ?l3 ?c3 ?k3 ?a4 ?i4 ?l4 ?c4 ?k4 ?a5 ?l5 ?c5 ?k5 ?a6 ?l6 ?c6 ?k6 ?a7 ?l7 ?c7 ?k7 ?a8 ?l8 ?c8 ?k8 ?a9 ?l9 ?c9 ?k9 ?a10 ?l10 ?c10 ?k10 ?a11 ?l11 ?c11 ?k11 ?a12 ?l12 ?c12 ?k12 ?a13 ?l13 ?c13 ?k13 ?a14 ?l14 ?c14 ?k14 ?a15 ?l15 ?c15 ?k15 ?a16 ?l16 ?c16 ?k16 ?a17 ?l17 ?c17 ?k17 ?pg_Number ?hd_Number ?po_Number ?sa_Number ?mk_Number ?kc_Number ?n_Number_n ?pg_Deed ?hd_Deed ?po_Deed ?sa_Deed ?mk_Deed ?kc_Deed ?n_Deed_names ?n_Deed_lows ?n_Deed_highs ?n_Deed_table ?n_Deed_spots ?n_Deed_term ?n_Deed_path ?z_bool ?z_int ?z_isinstance ?z_len ?z_list ?z_range ?z_tuple ?z_zip
    (case a_Number => k_is)
    (case a_Deed => k_is)
    (case a1 => k_is)
    (case l1 => k_is)
    (case c1 => k_is)
    (case k1 => k_is)
    (case a2 => k_is)
    (case l2 => k_is)
    (case c2 => k_is)
    (case k2 => k_is)
    (case a3 => k_is)
    (case i3 => k_is)
    (case l3 => k_is)
    (case c3 => k_is)
    (case k3 => k_is)
    (case a4 => k_is)
    (case i4 => k_is)
    (case l4 => k_is)
    (case c4 => k_is)
    (case k4 => k_is)
    (case a5 => k_is)
    (case l5 => k_is)
    (case c5 => k_is)
    (case k5 => k_is)
    (case a6 => k_is)
    (case l6 => k_is)
    (case c6 => k_is)
    (case k6 => k_is)
    (case a7 => k_is)
    (case l7 => k_is)
    (case c7 => k_is)
    (case k7 => k_is)
    (case a8 => k_is)
    (case l8 => k_is)
    (case c8 => k_is)
    (case k8 => k_is)
    (case a9 => k_is)
    (case l9 => k_is)
    (case c9 => k_is)
    (case k9 => k_is)
    (case a10 => k_is)
    (case l10 => k_is)
    (case c10 => k_is)
    (case k10 => k_is)
    (case a11 => k_is)
    (case l11 => k_is)
    (case c11 => k_is)
    (case k11 => k_is)
    (case a12 => k_is)
    (case l12 => k_is)
    (case c12 => k_is)
    (case k12 => k_is)
    (case a13 => k_is)
    (case l13 => k_is)
    (case c13 => k_is)
    (case k13 => k_is)
    (case a14 => k_is)
    (case l14 => k_is)
    (case c14 => k_is)
    (case k14 => k_is)
    (case a15 => k_is)
    (case l15 => k_is)
    (case c15 => k_is)
    (case k15 => k_is)
    (case a16 => k_is)
    (case l16 => k_is)
    (case c16 => k_is)
    (case k16 => k_is)
    (case a17 => k_is)
    (case l17 => k_is)
    (case c17 => k_is)
    (case k17 => k_is)
    (case pg_Number => k_is)
    (case hd_Number => k_is)
    (case po_Number => k_is)
    (case sa_Number => k_is)
    (case mk_Number => k_is)
    (case kc_Number => k_is)
    (case n_Number_n => k_is)
    (case pg_Deed => k_is)
    (case hd_Deed => k_is)
    (case po_Deed => k_is)
    (case sa_Deed => k_is)
    (case mk_Deed => k_is)
    (case kc_Deed => k_is)
    (case n_Deed_names => k_is)
    (case n_Deed_lows => k_is)
    (case n_Deed_highs => k_is)
    (case n_Deed_table => k_is)
    (case n_Deed_spots => k_is)
    (case n_Deed_term => k_is)
    (case n_Deed_path => k_is)
    (case z_bool => k_is)
    (case z_int => k_is)
    (case z_isinstance => k_is)
    (case z_len => k_is)
    (case z_list => k_is)
    (case z_range => k_is)
    (case z_tuple => k_is)
    (case z_zip => k_is)
#print axioms PySem.Challenge.cw_furrow_k52_loop_bonds_holds
